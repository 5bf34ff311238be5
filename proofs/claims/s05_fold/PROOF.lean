import PyProof.Rows.All
import KE.OsGo
import Wide.All
import OpenK.AllK
import Wide.FinOn
import PyProof.EqAt
import PyProof.EqKinds
import PyProof.TupleCall
import KE.BitLaws
import Open.SpecLaws
import KE.OsHead
import PyProof.StationsW
import PyProof.PassesOwn
import PyProof.ExcClass
import PyProof.ExcClass2
import PyProof.ExcArgs
import PyProof.ExcBaseAll.Exception
import PyProof.InstLoad
import PyProof.InstStoreFacts
import VbemacSpec
import PySem.Str
import PySem.Challenge.RW_ordersheets_s05_fold
import PyProof.RulesAs
import PyVbemac
local macro_rules|`(#[$x,*])=>`(⟨$x,*⟩)
open Option renaming some->GM,none->Id
open Bool renaming true->Ix,false->IN
open _root_ renaming rfl->IO
set_option compiler.extract_closed false
set_option hygiene false
local macro_rules
|`([00])=>`((by decide+kernel))
|`([01])=>`((by decide))
|`([02])=>`((λIB A outer s H vs Q E hr h=>?_))
|`([03])=>`((λvs H Q E h=>by cases h;subst_vars;rfl))
|`([04])=>`((λ_ _ _ _ _ _ us hl=>OS.u1 hl λ_=>[0x0]))
|`([05])=>`((hr.mono (by lia)))
|`([06])=>`((λ_ _ _ _ _ _ us hl=>OS.u2 hl λ_ _=>[0x0]))
|`([07])=>`((az (pv 0) IO))
|`([08])=>`((λ_ q=>q))
|`([09])=>`((OS.aM KX G [0x5] [04]))
set_option hygiene true
open _root_ renaming List->Gm,if_neg->GB,if_pos->GD,Option->GF,Nat->GJ,absurd->GW,decide_eq_false->Ha,of_decide_eq_true->Hn,of_decide_eq_false->Hq,congrArg->Hr,decide_eq_true->Hy,Bool->HH,decide_eq_true_iff->Ii,beq_self_eq_true->IG,UInt8->JV,Array->Ky,if_false->Ni,Unit->Nl,decide_eq_true_eq->Oq,if_true->SX,decide_not->Yw
open Bool renaming false_ne_true->Gn,eq_iff_iff->Ip,noConfusion->IP,and_eq_true->Jt,false_eq_true->J2,or_eq_false_iff->MN,or_eq_true->Ox,or_false->PB,false_or->PH,or_true->Qm,true_or->S7,and_eq_true_iff->TR,not_eq_false'->UP,not_eq_true'->Ve,eq_false_iff->Vf,false_and->WS,true_and->Yx
open List renaming length_cons->Gp,length_append->Gq,length_map->GG,length_nil->GK,mem_cons_self->GP,append_nil->GY,map_cons->GZ,mem_cons_of_mem->G8,mem_cons->Hc,append_assoc->Hf,getElem?_eq_some_iff->Hk,mem_singleton->Ht,size_toArray->Hv,getElem?_map->HF,mem_append->HG,contains_cons->HP,contains_iff_mem->HV,mem_of_getElem?->Iu,forall_mem_cons->Iv,find?_cons->Iy,map_append->IF,length_reverse->II,cons_ne_nil->IQ,reverse_cons->IT,getElem?_eq_getElem->IX,cons_append->Jk,replicate->Jr,mem_append_right->Jz,append_ne_nil_of_left_ne_nil->JL,map_map->JT,nodup_cons->JW,nil_append->JX,length_drop->J3,any_cons->J7,takeWhile_cons->Kg,take_of_length_le->Ki,lookup->Kj,length_singleton->Kp,drop_eq_getElem_cons->Kw,flatMap_append->KO,getElem?_range->KP,lookup_cons->KR,any_eq_true->KS,mem_reverse->KU,flatten_cons->Lo,getElem?_append_right->Ly,all_eq_true->LC,flatten_nil->LD,filterMap_cons->LI,getElem?_replicate->LV,drop_eq_nil_of_le->L9,length_take->Mv,take_length->Mw,eq_nil_of_length_eq_zero->MM,length->MP,mem_map->Na,nodup_nil->Nq,range->Nr,take_add_one->NM,find?_isSome->NN,filterMap_cons_some->NX,length_eq_zero_iff->Oh,getElem?_set_self->Oo,any_map->Ov,map_const'->Oy,length_replicate->OQ,length_filter_le->OR,take_append_drop->OT,mem_append_left->O4,getElem?_set_ne->O5,drop_drop->O6,map_congr_left->Pn,all_cons->PD,map_drop->PJ,length_filter_eq_length_iff->Qb,any_eq_false->Qc,nodup_append->Qg,filter_cons->QB,not_mem_nil->QC,of_mem_zip->Q2,getD_eq_getElem?_getD->Ri,take_succ->Rj,getElem?_append_left->Rm,mem_of_find?_eq_some->Rn,sum_cons->RL,getElem?_cons_succ->RZ,drop->R5,range_succ_eq_map->SD,drop_of_length_le->SE,append_eq_nil_iff->SG,all_map->SY,getElem?_eq_none->Tb,filterMap_append->Tc,getElem?_reverse->Td,length_take_le'->TU,toList_toArray->Uj,reverse_append->Ul,mem_filterMap->UL,map_inj_right->UO,find?_eq_none->UQ,map_replicate->UR,drop_sublist->Vg,drop_length->VM,mem_filter->V4,find?_some->V5,foldl_cons->V6,head?_cons->V7,forIn_nil->WT,map->W0
open Vbemac renaming text->Gr,Bytes->Gv,Toks->Gw,Exp->Gz,Known->GA,P->GH,isKey->GI,peek->GQ,expr->G9,fail->Hi,sign->Hs,isSign->Hu,Bytes->HA,fold->HI,Pos->HJ,KEYS->HQ,next->HR,Tok->HW,tokens->HY,primary->HZ,newName->Ib,SIGNS->Ic,unary->Ie,Stmts->Im,Top->Ir,behind->IH,key->IJ,deeper->IU,lit->IV,Exps->Ja,DEEP->Jb,digit->Je,isKey->Jg,Stmt->Jo,Blocks->Jp,place->JC,Toks->JH,side->JU,stmts->J4,knownBlock->Kc,known0->Kh,foldStmt->Ku,maybeName->KI,bytesOf->KJ,stmt->KZ,tops->K0,letter->Ld,params->Lf,BUILT->Lz,ifSign->LJ,isSign->Md,signOf->Me,foldStmts->Mn,mk->Mo,fuel->Mx,read->My,Sheet->MV,compare->Nc,Rest->Nz,FUNS->NA,commas->NJ,shownStmt->N3,shownStmts->N5,foldRest->N8,truth->Oi,answer->Pc,lex->Pq,arguments->Qi,blank->RP,shownTop->Tj,row->T5,blockName->UU,moreAdded->UW,moreTimes->UX,compared->Vj,anyName->VN,moreAnd->VO,builtIn->VP,shownAll->V9,moreOr->Wa,decode->Wb,ifKey->WW,added->WX,times->WY,ands->YB
open PySem.W renaming Frag->Gu,mg_of->HC,mg_none_of->IE,kitOne->Jh,findIn->Jm,kia_one->JA,fnOf->JB,emptyDict->JN,keepIn->JO,instObj->Kr,nsIn->KW,callWith_K->LM,codeIn->LW,methodCall_KW->Ma,plainGet->NO,lookIn->OA,plainGet_of->OZ,methodObj->Px,hasDictIn->Py,specialIn->Pz,isFn->PK,length_le_weightAllW->Qs,takerIn->Qw,nsMap_none_of_in->Q6,cellsFrom_some->Rr,callWith_K0->SJ,isNs_of_in->Tg,plainOver->TY,kitx_list->TZ,kitx_dict->T1,WRecords->Ur,handedIn->Us,makesIn->UY,takesIn->UZ,findCls->U1,WalkOS->Vk,typeIn->Vl,nsOkIn->Vm,mroIn->VQ
open PySem renaming Addr->Gx,Value->Gy,Shared->GC,sizeLine->GV,Str->G0,starEach->Hb,wpAny_bind->He,wpAny->Hl,Program->Hm,wpAny_loadPart_at->HK,World->HS,wpAny_pure->HU,FuncData->HX,mem_of_lookup->Ig,Heap->Ij,Around->IA,bindArgs->IS,Expr->IY,boot_len->Jc,cellsFrom->Jv,typeLookup->JD,excClassObj->JF,attributeBase->JK,wpAny_mono->JM,sysModules->JZ,compareOp->J1,backTo->J6,builtinLookup_eq_fast->J9,Obj->Kd,mainGlobals->Ke,checkBuiltinCall->Kt,compEnvC->Kx,wpAny_truthy_bool->KL,foldedSetIterable->KN,NameKind->KQ,swapsWith->Lb,wpAny_Call_Name_kw->Lm,tupleKind_room_in1->Ln,wpAny_passesOwn->Lr,typeLookup_type->Lu,keywordEach->LL,intItems->L7,bootBuiltins->Mz,codeAny->MB,plainObj_wpAny_Assign_Attribute->MR,numAt->MW,StoreFacts->MY,wpAny_standAt->M8,argBest->Nb,sizeLine_eq->Ng,sliceBounds->Nh,wpAny_execs_nil->Nv,codeAny_mono->NK,ExcBaseFacts->NL,tupleKind->NZ,pushCells->N0,binaryOp->N6,backToKw->N7,Within->Om,DictEntry->O0,getMethod->O1,letOwnedTupleGo->Pk,pushCells_keeps->Pl,codeAny_call_builtin->P0,rawInt->P2,cLine->P4,noteFrame->Qh,valueAt->Ql,assignEach->QJ,wpAny_call->QK,GenState->Q7,atKey->Q8,wpAny_lookBehind->Rp,pastItsLine_dict->Rq,PassesOwn->Rt,setFlight->Ru,BindsTo->SK,callerA->SN,getAttr->SQ,setAttr->SU,getItem->SW,notedBy->S6,wpAny_setField->Tf,callWith->Th,bindL->U2,bindC->U3,tupleKeyHash->Vc,wpAny_nsSet1->Vd,Fin->Vn,wpAny_isTrue_Compare1->VL,wpAny_loadName_local->V2,wpAny_loadName_cell->WR,Builtin->WV,wpAny_getItem_heap->Yq,builtinsNs->Yr,wpAny_Name->Ys,typeIs_str->Yu,isInstance->Yv
open PySem.Heap renaming get?_push_of_some->GN,lt_size->Hg,get?_push_size->Io,get?_update_other->IC,size_push->Jq,get?_update_self->Kq,SameBut->Ou,get?_update_ne->Uk
open Nat renaming le_refl->GU,le_trans->GX,lt_of_lt_of_le->Hh,zero_le->HB,lt_of_le_of_lt->HE,ne_of_lt->Ih,le_max_left->Iq,le_max_right->ID,max_le->Jd,lt_irrefl->Jl,add_sub_cancel_left->Jn,le_add_right->J5,succ_le_succ->LF,sub_self->Mb,le_of_lt->Mc,lt_succ_self->MA,add_comm->Nj,add_right_comm->Ny,le_of_succ_le->NY,le_of_eq->Oz,min_eq_left->OU,add_le_add_left->Pu,lt_succ_of_lt->Qu,ne_of_gt->Qv,toString_eq_ofList_toDigits->QA,le_succ->Q3,succ->Rw,add_assoc->R0,toDigits->Ti,lt_of_le_of_ne->Vb,min_eq_right->V3
open PySem.F renaming plainAttrs_list->G6,slot_list_extend->Hw,type_list_extend->Hx,slot_list_append->Ik,type_list_append->Il,store_Exception->JG,slot_dict_getitem->QZ,excBase_Exception->Q0,slot_dict_pop->RK
open Option.some renaming inj->G7
open StateT renaming bind->Hd
open PySem.Value renaming ref->Hj,none->Ju,int->Lh,bool->LS,type->Nk,builtin->NP,str->O7,isStrOf->Pp,float->Tp
open Or renaming inl->HD,inr->RQ
open PyProof.Rows renaming boot_isinstance->Iz,envOfC->Lc,boot_tuple->M9,callWith_builtin1->O3,callWith_type1->Pw,AllBare->Qk,Constant_none->Um,subscriptTail->Uo,subscriptTail_builtinR->Va,Subscript_->Yt
open True renaming intro->IK
open Option renaming map_eq_some_iff->IM,bind_eq_some_iff->JJ,isSome_map->JQ,isSome_iff_exists->LH,map_some->MO,bind_some->Qj,isSome_some->TX,getD_none->UT,none->YA
open Vbemac.Tok renaming word->IZ,sign->J8
open Sum renaming inr->Js,inl->KA
open PySem.PassesOwn renaming never->Jw,leaving->S8
open PySem.Obj renaming mapFields->JE,isFreed_of_fields->Mu,data_mapFields->P1
open False renaming elim->JS
open Array renaming getElem?_eq_some_iff->Ko,toList_replicate->Ol,replicate->Ot,length_toList->Pb,toList->R4,getElem?_toList->SH,mem_toList_iff->Te,toList_append->TV,find?_toList->Uq,toList_inj->Vh,toList_map->Vi
open UInt8 renaming toNat->Kz,ofNat->MC,toNat_inj->QL,ofNat_toNat->US,toNat_lt->V8
open Ne renaming symm->KY
open PySem.NameKind renaming free->Mf,cell->Q4
open Sum.inr renaming inj->Mq
open Int renaming ofNat->ME,toNat_natCast->Qt,zero_sub->Tn,toNat_of_nonneg->UK
open PySem.Builtin.List renaming listTooLong->MU
open PySem.Calls renaming spliced_cons->Nf,spliced_nil->NI,callWith_builtin->Oj,evalArgs_plain->OY,Name_function_global->Q5
open List.cons renaming inj->Nm
open ForInStep renaming yield->N4
open Vbemac.Known renaming taken->Ow
open PyVbemac renaming fold->O2
open PySem.Heap.Ns1 renaming of_empty->Po
open PySem.Str renaming join->Qx,mk->YC
open PySem.Paired renaming length->Rk,snoc->Yy
open PySem.EntryCells renaming newEntry->Rv
open UInt32 renaming le_iff_toNat_le->RJ
open PySem.SeqAt.EqAt renaming int_str->RM,str_int->RN
open PySem.Around renaming under->RO
open Vbemac.Call renaming fold->R6
open String renaming toList_ofList->SI
open PySem.Code renaming isFrame->SV,quiet_builtin->UM
open Vbemac.Exp renaming call->Tq
open PySem.Data renaming seq->T3
open PySem.Value.type renaming inj->T4
open PySem.Txt renaming join->Ut
open Char renaming toNat->U4
open Int.ofNat renaming inj->U5
open Nat.succ renaming inj->VR
open PySem.Bind renaming checkArgs->WU
open Sum.inl renaming inj->WZ
open PySem.Within renaming cons->Yz
open PySem.Heap.IsSliceOf renaming new->abk
set_option genSizeOf false
set_option Elab.async false
set_option linter.all false
set_option maxRecDepth 100000
set_option cleanup.letToHave false
set_option maxHeartbeats 4000000
set_option maxRecDepth 100000 in
set_option maxHeartbeats 0 in
theorem OS.abl:PySem.Challenge.rw_ordersheets_s05_fold.wellSaid=Ix:=by decide+kernel
namespace OS
open PySem PySem.W
def live (o:Kd):GF Kd:=match o with
 |⟨_,_, .freed,_⟩=>Id
 |o=>GM o
noncomputable def pick (l:Gm Kd):GJ->Gm GJ->Gm (GF Kd):=
 @Gm.rec Kd (λ_=>GJ->Gm GJ->Gm (GF Kd)) (λ_ _=>[])
  (λo _ f i as=> @Gm.rec GJ (λ_=>Gm (GF Kd)) [] (λa t _=> @HH.rec (λ_=>Gm (GF Kd)) (f (Rw i) as) (live o::f (Rw i) t) (GJ.beq a i)) as) l
theorem Aw (o:Kd) (l:Gm Kd) (i a:GJ) (t:Gm GJ):pick (o::l) i (a::t)=if a=i then live o::pick l (i+1) t else pick l (i+1) (a::t):=by
 show @HH.rec (λ_=>Gm (GF Kd)) _ _ (GJ.beq a i)=_
 cases h:GJ.beq a i
 .rw[GB (GJ.ne_of_beq_eq_false h)];rfl
 .rw[GD (GJ.eq_of_beq_eq_true h)];rfl
theorem Fy {K:Gm (GJ×Kd)}(l:Gm Kd): ∀(i:GJ),pick l i (K.map (·.1))=K.map (λp=>GM p.2)-> ∀p∈K,i<=p.1/\l[p.1-i]?.bind live=GM p.2:=by
 induction l generalizing K with
 |nil=>
  intro i h p hp;cases K with
  |nil=>cases hp
  |cons q r=>cases h
 |cons o l ih=>
  intro i h p hp;cases K with
  |nil=>cases hp
  |cons q r=>
   rw[GZ,Aw] at h;split at h
   .rename_i e
    obtain⟨h1,h2⟩:=Nm h;rcases Hc.mp hp with z|z
    .rw[z,e,Mb];exact#[GU _,h1]
    .have⟨a,b⟩:=ih (i+1) h2 p z
     refine#[by lia,?_];rw[show p.1-i=p.1-(i+1)+1 by lia];exact b
   .have⟨a,b⟩:=ih (K:=q::r) (i+1) h p hp
    refine#[by lia,?_];rw[show p.1-i=p.1-(i+1)+1 by lia];exact b
theorem wk {K:Frag}{a:GJ}{o:Kd}(e:K.lookup a=GM o):(a,o)∈K:=by
 induction K with
 |nil=>cases e
 |cons p r ih=>
  obtain⟨b,x⟩:=p;simp only[Kj] at e;split at e
  .rename_i q;cases e;rw[beq_iff_eq.mp q];exact .head _
  .exact .tail _ (ih e)
noncomputable def hook (K:Params->Frag) (as:Gm GJ) (e: ∀P,as=(K P).map (·.1)):Hook:=
 #[Gm (GF Kd),λs=>pick s.heap.objs.toList 0 as,λw=>(K w.params).map λp=>GM p.2,InK K,λw s h a o x=>by
  rw[e w.params] at h;have:=(Fy _ 0 h _ (wk x)).2;rw[SH] at this;unfold Ij.get?;cases z:s.heap.objs[a]? with
  |none=>rw[show(a,o).1-0=a from IO,z] at this;cases this
  |some y=>rw[show(a,o).1-0=a from IO,z] at this;rcases y with⟨_,_,x,_⟩;cases x<;>exact this,InK.keeps]
theorem U6 {K:Params->Frag}{as:Gm GJ}{e: ∀P,as=(K P).map (·.1)} {w:HS}{h:Ij}(Y:(hook K as e).says w h):(K w.params).In h:=Y
end OS
namespace L2
open PySem PySem.Spec PyProof.Rows
abbrev cf:=Sum Int G0
def rj:cf->Gy->HH
 | .inl k,v=>Gy.isInt k v
 | .inr x,v=>Pp x v
def ahv (w:HS):cf->Int
 | .inl k=>hashInt k
 | .inr x=>hashStr w x
theorem db: ∀ {k:cf}{v:Gy},rj k v=Ix->(∃i t,k=KA i/\v=Lh i t)\/(∃x t,k=Js x/\v=O7 x t)
 | .inl i,v,h=>by
  obtain⟨t,e⟩:=Gy.isInt_shape (k:=i) (v:=v) h;exact .inl #[i,t,IO,e]
 | .inr x,v,h=>by
  obtain⟨t,e⟩:=Gy.isStrOf_shape (x:=x) (v:=v) h;exact .inr #[x,t,IO,e]
theorem YD (a b:Int):decide ((KA a:cf)=KA b)=(a == b):=by
 by_cases e:a=b
 .subst e;simp
 .have h: ¬(KA a:cf)=KA b:=λq=>e (WZ q)
  rw[Ha h];exact(beq_eq_false_iff_ne.mpr e).symm
theorem YE (a b:G0):decide ((Js a:cf)=Js b)=decide (a=b):=by
 by_cases e:a=b
 .subst e;simp
 .have h: ¬(Js a:cf)=Js b:=λq=>e (Mq q)
  rw[Ha h,Ha e]
theorem YF (a:Int) (b:G0):decide ((KA a:cf)=Js b)=IN:=Ha (λq=>nomatch q)
theorem YG (a:G0) (b:Int):decide ((Js a:cf)=KA b)=IN:=Ha (λq=>nomatch q)
def bK (prog:Hm) (w:HS):PySem.KeyKind prog w cf where
 is:=rj
 hash:=ahv w
 inj:=λv a b ha hb=>by
  rcases db ha with⟨i,t,rfl,rfl⟩|⟨x,t,rfl,rfl⟩
  .rcases db hb with⟨j,u,rfl,e⟩|⟨y,u,rfl,e⟩
   .injection e with e1 _;rw[e1]
   .exact nomatch e
  .rcases db hb with⟨j,u,rfl,e⟩|⟨y,u,rfl,e⟩
   .exact nomatch e
   .injection e with e1 _;rw[e1]
 byValue:=λk v h=>by
  rcases db h with⟨i,t,rfl,rfl⟩|⟨x,t,rfl,rfl⟩<;>rfl
 pyHash:=λhv h=>by
  rcases db hv with⟨i,t,rfl,rfl⟩|⟨x,t,rfl,rfl⟩
  .exact wpAny_pyHash_int h
  .exact wpAny_pyHash_str h
 eqBool:=λhu hv h=>by
  rcases db hu with⟨i,t,rfl,rfl⟩|⟨x,t,rfl,rfl⟩
  .rcases db hv with⟨j,u,rfl,rfl⟩|⟨y,u,rfl,rfl⟩
   .rw[YD] at h;exact wpAny_eqBool_int h
   .rw[YF] at h;exact RM i t y u _ _ _ _ h
  .rcases db hv with⟨j,u,rfl,rfl⟩|⟨y,u,rfl,rfl⟩
   .rw[YG] at h;exact RN x t j u _ _ _ _ h
   .rw[YE] at h;exact wpAny_eqBool_str h
 «strs»:=λk x t v h=>by
  rcases db h with⟨i,u,rfl,e⟩|⟨y,u,rfl,e⟩
  .exact nomatch e
  .injection e with e1 _
   subst e1;cases v<;>rfl
inductive V where
 |Kk|bl (b:HH)|int (i:Int)|str (x:G0)|R7 (b:Ky JV)|W2 (b:UInt64)|ref (a:Gx)|ty (n:String)
 deriving DecidableEq
def bD:V->Gy->Prop
 | .Kk,u=>u=Ju
 | .bl b,u=>u=LS b
 | .int i,u=> ∃t,u=Lh i t
 | .str x,u=> ∃t,u=O7 x t
 | .R7 b,u=> ∃t,u=Gy.bytes b t
 | .W2 b,u=> ∃t,u=Tp b t
 | .ref a,u=>u=Hj a
 | .ty n,u=>u=Nk n
abbrev bH:Gm V->Gm Gy->Prop:=Paired bD
def gD:GF V->GF Gy->Prop
 |some v,some u=>bD v u
 |none,none=>True
 |_,_=>False
def KV {κ:Type} :Gm (κ×V)->Gm (κ×Gy)->Prop:=Paired λ(p:κ×V) (q:κ×Gy)=>p.1=q.1/\bD p.2 q.2
def kV:cf->V
 | .inl i=> .int i
 | .inr x=> .str x
inductive HO where
  |lst (xs:Gm V)
  |tup (xs:Gm V)
  |dK (Iw:Gm (cf×V))|dT (Iw:Gm (Gm cf×V))
  |set (S:Int->HH) (n:GJ)
  |ins (C dx:Gx) (fs:Gm (G0×V))
  |own (x:Gx)
  |xd (fs:Gm (G0×V))
  |met (f x:Gx)
  |rng (lo hi:Int)
  |QM (o:Kd) (u:HO)
  |YH (ps:Ky Gy)
  |ext (φ:Ij->Prop)
abbrev Hp:=Gx->GF HO
section
variable (P:Hm) (w:HS)
def cJ (H:Hp) (h:Ij) (a:Gx):HO->Prop
 | .lst xs=>xs.length<=GV/\ ∃(Ji:Gm Gy) (n:GJ),bH xs Ji/\h.get? a=GM { cls:= .type "list",data:= .seq Ji.toArray n }
 | .tup xs=>xs.length<=GV/\ ∃Ji:Gm Gy,bH xs Ji/\IsTup h a Ji.toArray
 | .dK Iw=>Iw.length<=GV/\(a == JZ)=IN/\ ∃vs,KV Iw vs/\h.DictOf (bK P w) a vs
 | .dT Iw=>Iw.length<=GV/\(a == JZ)=IN/\ ∃xs:Gm (Gm cf×Gx×Gy),
   Paired (λ(p:Gm cf×V) (q:Gm cf×Gx×Gy)=>p.1=q.1/\H q.2.1=GM (.tup (p.1.map kV))/\bD p.2 q.2.2) Iw xs/\
   ∃o es ep,h.get? a=GM o/\o.ExactDict/\o.data= .dict es ep/\es.toList=xs.map (entryOfKey (NZ (bK P w)))/\(xs.map (·.1)).Nodup
 | .set S n=>h.SetOf (intKind P w) a S n
 | .ins C dx fs=>H dx=GM (.own a)/\fs.length<=1000/\dx≠a/\h.get? a=GM (Kr C dx)/\
   ∃mA,h.Ns1 dx mA/\(∀f,gD (fs.lookup f) (mA f))/\Om mA (fs.map (·.1))
 | .own _=> ∃o,h.get? a=GM o
 | .xd fs=> ∃mA,h.Ns1 a mA/\ ∀f,gD (fs.lookup f) (mA f)
 | .rng lo hi=> ∃t u v,h.get? a=GM { cls:= .type "range",data:= .fields [.int lo t, .int hi u, .int 1 v].toArray }
 | .QM o u=>h.get? a=GM o/\cJ H h a u
 | .YH ps=>h.get? a=GM { cls:= .none,data:= .fields ps }
 | .met f x=>h.get? a=GM (Px (.ref f) (.ref x))
 | .ext φ=>φ h/\(∃o,h.get? a=GM o)/\ ∀h1 h2:Ij,φ h1->(∀o,h1.get? a=GM o->h2.get? a=GM o)->φ h2
def iU (H:Hp) (h:Ij):Prop:= ∀a o,H a=GM o->cJ P w H h a o
end
def Rd (H:Hp) (a:Gx) (u:HO):Prop:=H a=GM u\/ ∃o,H a=GM (.QM o u)
theorem Rd.ok {P:Hm}{w:HS}{H:Hp}{h:Ij}{a:Gx}{u:HO}(r:Rd H a u) (x:iU P w H h):cJ P w H h a u:=by
 rcases r with r|⟨o,r⟩
 .exact x a u r
 .obtain⟨_,q⟩:=x a _ r
  exact q
structure Un (fs ex:Gm Gx) (H H':Hp) (h h':Ij):Prop where
 keep: ∀b o,h.get? b=GM o->H b=Id->b∉fs->b∉ex->h'.get? b=GM o
 slot: ∀b o,h.get? b=GM o->H b=Id->b∈fs->b∉ex-> ∃sl,h'.get? b=GM { o with slots:=sl }
 free: ∀b o,h.get? b=GM o->H b=Id->b∉ex->H' b=Id
 there: ∀b o,h.get? b=GM o->b∉ex-> ∃o',h'.get? b=GM o'
 Q9: ∀b xs,H b=GM (.tup xs)->H' b=GM (.tup xs)
 QN: ∀b o u,H b=GM (.QM o u)->H' b=GM (.QM o u)
 Ra: ∀b ps,H b=GM (.YH ps)-> ∃more,H' b=GM (.YH (ps++more))
def Bh (h:Ij) (H:Hp):Gm Gx:=(Nr h.objs.size).filter λa=>(H a).isSome
def rG (h:Ij) (H:Hp):Ij:=PySem.W.hideAll h (Bh h H)
theorem AB (h:Ij) (H:Hp):(rG h H).objs.size=h.objs.size:=PySem.W.hideAll_size _ _
theorem Cj {h:Ij}{H:Hp}{b:Gx}{o:Kd}(e:h.get? b=GM o) (n:H b=Id):(rG h H).get? b=GM o:=
 PySem.W.hideAll_get _ e λhm=>by
  have q:(H b).isSome=Ix:=(V4.mp hm).2;rw[n] at q;simp at q
theorem FM {h:Ij}{H:Hp}{b:Gx}{o:Kd}(e:(rG h H).get? b=GM o):h.get? b=GM o/\H b=Id:=by
 have e':h.get? b=GM o:=PySem.W.of_hideAll (Bh h H) e;refine#[e',?_];cases q:H b with
 |none=>rfl
 |some x=>
  have hm:b∈Bh h H:=V4.mpr #[Gm.mem_range.mpr (Hg e'),by simp [q]]
  have z:(rG h H).get? b=Id:=PySem.W.hideAll_none (Bh h H) hm;rw[z] at e;cases e
structure Mod (K:Gu) (mg:G0->GF Gy) (base:Ij):Prop where
 U6:K.In base
 glob:base.Ns Ke mg
 blt: ∃mb,base.Ns Yr mb/\ ∀x:G0,x≠"__name__"->mb x=Mz x
 nolimit:base.NoLimit
def tm (l:Gm Env):Gm Gx:=l.filterMap (·.frame)
abbrev XK:=Gy->GF Gx->Hp->Prop
abbrev VK:=V->Hp->Prop
def cK (K:Gu) (H:Hp) (a:Gx) (xs:Gm V):Prop:=
 Rd H a (.lst xs)\/
  ∃(o:Kd) (Ji:Ky Gy) (n:GJ),K.lookup a=GM o/\o.cls= .type "list"/\o.dict=Id/\o.data= .seq Ji n/\Ji.size<=GV/\bH xs Ji.toList
def pV (K:Gu) (H:Hp) (a:Gx) (xs:Gm V):Prop:=
 Rd H a (.tup xs)\/
  ∃(o:Kd) (Ji:Ky Gy) (n:GJ),K.lookup a=GM o/\o.cls= .type "tuple"/\o.data= .seq Ji n/\Ji.size<=GV/\bH xs Ji.toList
section
variable {X:Cx}{pins:Gm (Gx×Kd)}{σ:St}{H:Hp}{s:GC}{a:Gx}{xs ys:Gm V}
theorem cK.of {K:Gu}(h:H a=GM (.lst xs)):cK K H a xs:= .inl (.inl h)
end
structure i8 (K:Gu) (C:Gx):Prop where
 pg:NO K C G0.empty=Ix
 hd:Py K C=Ix
 po:TY K C=Ix
 sa:Jm K (.ref C) "__setattr__"=GM (GM (.builtin "object.__setattr__"))
def aH (K:Gu) (C:Gx) (f:G0):Prop:=Jm K (.ref C) f=GM Id
structure Meth (K:Gu) (C:Gx) (m:G0) (f:Gx):Prop where
 at_:Jm K (.ref C) m=GM (GM (.ref f))
 fn:PK K (.ref f)=Ix
 kp:JO K (.ref f)=Ix
structure cy (k:GJ) (A:IA):Prop where
 hd:A.handled=Id
 dp:A.depth+2*k+5<recursionLimit
 un:A.units+16*k+200<P4
abbrev Sp:=Gm V->Hp->VK->XK->Prop
abbrev rl:=Gm Env->Hp->GC->XK->Gy->GC->Prop
structure xA (P:Hm) (w:HS) (K:Gu) (mg:G0->GF Gy) (base:Ij) (A:IA) (outer:Gm Env) (s:GC) (H:Hp):Prop where
 frames:A.frames=GM outer
 mod:Mod K mg base
 bs: ∀b o,base.get? b=GM o->s.heap.get? b=GM o/\H b=Id
 Uu:base.objs.size<=s.heap.objs.size
 funs:s.heap.FunFrames base outer
 VS: ∀b∈tm outer,H b=Id
 Jy:iU P w H s.heap
 bare:Qk s.gens
def CE (outer:Gm Env) (P:Hm) (w:HS) (H:Hp) (s:GC) (Q:VK) (u:Gy) (s':GC):Prop:=
 ∃v H',s'.os=s.os/\Qk s'.gens/\Un (tm outer) [] H H' s.heap s'.heap/\iU P w H' s'.heap/\bD v u/\Q v H'
def CR (CX:rl) (outer:Gm Env) (P:Hm) (w:HS) (H:Hp) (s:GC) (Q:VK) (E:XK) (r:Result) (s':GC):Prop:=
 match r with
 | .ok (.ret u)=>CE outer P w H s Q u s'
 | .ok _=>False
 | .error e=>CX outer H s E e s'
structure b8 (P:Hm) (w:HS) (K:Gu) (mg:G0->GF Gy) (base:Ij) (CX:rl) (k:GJ) (f:Gx) (fd:HX) (ps:Gm G0) (sp:Sp):Prop where
 len: ∀vs H Q E,sp vs H Q E->vs.length=ps.length
 run: ∀(A:IA) (outer:Gm Env) (s:GC) (H:Hp) (args:Args) (us:Gm Gy) (vs:Gm V) (Q:VK) (E:XK),cy k A->xA P w K mg base A outer s H->SK s fd args (ps.zip us)->bH vs us->sp vs H Q E->
  MB (model P w) A (.call (.ref f) args) (CR CX outer P w H s Q E) s
def iw (K:Gu) (fd:HX) (ps:Gm G0) (ds:Gm Gy):Prop:=
 ∀(s:GC) (us:Gm Gy),K.In s.heap->(us++ds).length=ps.length->SK s fd #[us,[]] (ps.zip (us++ds))
theorem iw.all {K:Gu}{fd:HX}{ps:Gm G0}(h: ∀us:Gm Gy,us.length=ps.length->IS fd #[us,[]]=Hz (ps.zip us)):iw K fd ps []:=λs us _ hl=>by
 rw[GY] at hl ⊢;exact .of_eq (h us hl)
section
variable {X:Cx}{CX:rl}{k:GJ}{f C:Gx}{fd:HX}{ps:Gm G0}{sp:Sp}{RR:Gm V}{ds:Gm Gy}{E:XK}{x m:G0}{p pos L8:Pos}{e o:IY}{es:Gm IY}{ta:TE}{t:TA}
structure CD (K:Gu) (mg:G0->GF Gy) (x:G0) (f:Gx) (fd:HX) (ps:Gm G0):Prop where
 m:mg x=GM (.ref f)
 k:JO K (.ref f)=Ix
 b:iw K fd ps []
structure MD (K:Gu) (C:Gx) (m:G0) (f:Gx) (fd:HX) (ps:Gm G0):Prop where
 m:Meth K C m f
 b:iw K fd ps []
structure Mk (K:Gu) (C f:Gx):Prop where
 makes:UY K C=Ix
 init:Jm K (.ref C) "__init__"=GM (GM (.ref f))
 fn:PK K (.ref f)=Ix
 kp:JO K (.ref C)=Ix
end
def bh (s:Stmt) (j:GJ):Stmt:=match s with
 | .ClassDef _ _ _ body _ _ _ _ _ _ _=>body.getD j (.Pass #[0,0,0,0])
 |_=> .Pass #[0,0,0,0]
def eG (s:Stmt):Arguments:=match s with
 | .FunctionDef _ a _ _ _ _ _ _ _ _=>a
 |_=> { posonlyargs:=[],args:=[],vararg:=Id,kwonlyargs:=[],kw_defaults:=[],kwarg:=Id,defaults:=[] }
def bq (s:Stmt):Gm Stmt:=match s with
 | .FunctionDef _ _ b _ _ _ _ _ _ _=>b
 |_=>[]
def ah (s:Stmt):Scope:=match s with
 | .FunctionDef _ _ _ _ _ _ sc _ _ _=>sc
 |_=> { kind:= .function,names:=[],isGenerator:=IN,isCoroutine:=IN }
abbrev nF:rl:=λ_ _ _ _ _ _=>False
structure sN (K:Gu) (x IW:G0) (st:Stmt) (f:Gx) (fd:HX):Prop where
 ex: ∃(oc:Gy) (od:GF Gx) (kV doc pm:Gy) (an:GF Gx) (IB ct:Gy) (VT:Ky (GF Gy)),
  fd=JB x IW (eG st) (bq st) (ah st) .none kV doc pm an IB ct/\K.lookup f=GM #[oc,od, .func fd,VT]/\LW K IB IW=Ix
 kp:JO K (.ref f)=Ix
section
variable {P:Hm}{w:HS}{K:Gu}{mg:G0->GF Gy}{base:Ij}
theorem sN.binds {x IW:G0}{st:Stmt}{f:Gx}{fd:HX}{ps:Gm G0}(F:sN K x IW st f fd)
  (h: ∀(kV doc pm:Gy) (an:GF Gx) (IB ct:Gy) (us:Gm Gy),us.length=ps.length->IS (JB x IW (eG st) (bq st) (ah st) .none kV doc pm an IB ct) #[us,[]]=Hz (ps.zip us)):iw K fd ps []:=by
 obtain⟨oc,od,kV,doc,pm,an,IB,ct,VT,rfl,lk,Rx⟩:=F.ex;exact .all (h kV doc pm an IB ct)
theorem mr {x IW:G0}{st:Stmt}{f:Gx}{oc:Gy}{od an:GF Gx}{VT:Ky (GF Gy)}{kV doc pm IB ct:Gy}(l:K.lookup f=GM #[oc,od, .func (JB x IW (eG st) (bq st) (ah st) .none kV doc pm an IB ct),VT])
  (c:LW K IB IW=Ix) (k:JO K (.ref f)=Ix):sN K x IW st f (JB x IW (eG st) (bq st) (ah st) .none kV doc pm an IB ct):=#[#[oc,od,kV,doc,pm,an,IB,ct,VT,IO,l,c],k]
end
end L2
section
set_option maxHeartbeats 2000000
namespace L2
open PySem PySem.Spec PyProof.Rows
open PySem.W (WData Codec OpenSpec Well WellAll ReadsW ReadsAllW)
mutual
inductive Dw (K:Gu) (H:Hp):V->WData->Prop
 |Kk:Dw K H .Kk .none
 |bl (b:HH):Dw K H (.bl b) (.bool b)
 |int (i:Int):Dw K H (.int i) (.int i)
 |str (x:G0):Dw K H (.str x) (.str x)
 |R7 (b:Ky JV):Dw K H (.R7 b) (.bytes b.toList)
 |lst {a:Gx}{xs:Gm V}{ds:Gm WData} :cK K H a xs->iW K H xs ds->Dw K H (.ref a) (.list ds)
 |tup {a:Gx}{xs:Gm V}{ds:Gm WData} :pV K H a xs->iW K H xs ds->Dw K H (.ref a) (.tuple ds)
inductive iW (K:Gu) (H:Hp):Gm V->Gm WData->Prop
 |nil:iW K H [] []
 |cons {v:V}{vs:Gm V}{d:WData}{ds:Gm WData} :Dw K H v d->iW K H vs ds->iW K H (v::vs) (d::ds)
end
theorem yS {K:Gu}{H:Hp} : ∀ns:Gm Int,iW K H (ns.map V.int) (ns.map WData.int)
 |[]=> .nil
 |n::r=> .cons (.int n) (yS r)
theorem xS {K:Gu}{H:Hp} : ∀(ns:Gm Int) (xs:Gm V),iW K H xs (ns.map WData.int)->xs=ns.map V.int
 |[],xs,h=>by
  cases h
  rfl
 |n::r,xs,h=>by
  cases h with
  |cons h1 h2=>
   cases h1;rw[xS r _ h2]<;>rfl
section
variable {P:Hm}{w:HS}{K:Gu}{H:Hp}{h:Ij}{R:Ur}{cl:G0->GF Gx}
theorem YI {a:Gx}(Jy:iU P w H h) (KX:K.In h) (q:cK K H a xs): ∃(Ji:Gm Gy) (o:Kd) (n:GJ),bH xs Ji/\h.get? a=GM o/\o.cls= .type "list"/\o.data= .seq Ji.toArray n:=by
 rcases q with q|⟨o,Ji,n,e,hc,_,hd,_,hv⟩
 .obtain⟨_,Ji,n,hv,e⟩:=(show cJ P w H h a (.lst xs) from q.ok Jy)
  exact#[Ji,_,n,hv,e,IO,IO]
 .exact#[Ji.toList,o,n,hv,KX _ _ e,hc,by simp [hd]]
theorem YJ {a:Gx}(Jy:iU P w H h) (KX:K.In h) (q:pV K H a xs): ∃(Ji:Gm Gy) (o:Kd) (n:GJ),bH xs Ji/\h.get? a=GM o/\o.cls= .type "tuple"/\o.data= .seq Ji.toArray n:=by
 rcases q with q|⟨o,Ji,n,e,hc,hd,_,hv⟩
 .obtain⟨_,Ji,hv,o,e,hc,n,hd⟩:=(show cJ P w H h a (.tup xs) from q.ok Jy)
  exact#[Ji,o,n,hv,e,hc,hd]
 .exact#[Ji.toList,o,n,hv,KX _ _ e,hc,by simp [hd]]
mutual
theorem Dw.reads (Jy:iU P w H h) (KX:K.In h): ∀(d:WData) (v:V) (u:Gy),Dw K H v d->bD v u-> ∃as,ReadsW R cl h u d as
 | .none,_,_,x,r=>by
  cases x;cases r;exact#[_,ReadsW.none]
 | .bool b,_,_,x,r=>by
  cases x;cases r;exact#[_,ReadsW.bool b]
 | .int i,_,_,x,r=>by
  cases x;obtain⟨t,rfl⟩:=r;exact#[_,ReadsW.int i t]
 | .str s,_,_,x,r=>by
  cases x;obtain⟨t,rfl⟩:=r;exact#[_,ReadsW.str s t]
 | .bytes b,_,_,x,r=>by
  cases x;obtain⟨t,rfl⟩:=r;exact#[_,ReadsW.bytes _ t]
 | .list ds,_,_,x,r=>by
  cases x with
  |lst hs ha=>
   cases r;obtain⟨Ji,o,n,rv,ho,hc,hd⟩:=YI Jy KX hs;obtain⟨as,hr⟩:=Dw.readsAll Jy KX ds _ Ji ha rv;exact#[_,ReadsW.list ho hc hd hr]
 | .tuple ds,_,_,x,r=>by
  cases x with
  |tup hs ha=>
   cases r;obtain⟨Ji,o,n,rv,ho,hc,hd⟩:=YJ Jy KX hs;obtain⟨as,hr⟩:=Dw.readsAll Jy KX ds _ Ji ha rv;exact#[_,ReadsW.tuple ho hc hd hr]
 | .float _,_,_,x,_=>by cases x
 | .dict _,_,_,x,_=>by cases x
 | .bytearray _,_,_,x,_=>by cases x
 | .set _,_,_,x,_=>by cases x
 | .frozenset _,_,_,x,_=>by cases x
 | .obj _ _,_,_,x,_=>by cases x
theorem Dw.readsAll (Jy:iU P w H h) (KX:K.In h): ∀(ds:Gm WData) (vs:Gm V) (us:Gm Gy),iW K H vs ds->bH vs us-> ∃as,ReadsAllW R cl h us ds as
 |[],_,_,x,r=>by
  cases x;cases r;exact#[_,ReadsAllW.nil]
 |d::ds,_,_,x,r=>by
  cases x with
  |cons h1 h2=>
   cases r with
   |cons r1 r2=>
    obtain⟨as,q1⟩:=Dw.reads Jy KX d _ _ h1 r1;obtain⟨bs,q2⟩:=Dw.readsAll Jy KX ds _ _ h2 r2;exact#[_,ReadsAllW.cons q1 q2]
end
end
mutual
def yG:WData->HH
 | .none=>Ix
 | .bool _=>Ix
 | .int _=>Ix
 | .str _=>Ix
 | .bytes _=>Ix
 | .list xs=>mY xs
 | .tuple xs=>mY xs
 |_=>IN
def mY:Gm WData->HH
 |[]=>Ix
 |x::r=>yG x&&mY r
end
theorem vg {α:Type}{f:α->WData}(h: ∀a,yG (f a)=Ix): ∀l:Gm α,mY (l.map f)=Ix
 |[]=>rfl
 |x::r=>by
  show(yG (f x)&&mY (r.map f))=Ix
  rw[h x,vg h r]<;>rfl
theorem jj: ∀(c:Codec) (a:c.denote),yG (c.enc a)=Ix
 | .unit,_=>rfl
 | .bool,_=>rfl
 | .int _ _,_=>rfl
 | .nat _ _,_=>rfl
 | .u8,_=>rfl
 | .bytes _ _,_=>rfl
 | .text _ _ _ _,_=>rfl
 | .list _ _ c,a=>vg (λx=>jj c x) a
 | .pair c d,a=>by
  show(yG (c.enc a.1)&&(yG (d.enc a.2)&&Ix))=Ix
  rw[jj c a.1,jj d a.2]<;>rfl
 | .triple c d e,a=>by
  show(yG (c.enc a.1)&&(yG (d.enc a.2.1)&&(yG (e.enc a.2.2)&&Ix)))=Ix
  rw[jj c a.1,jj d a.2.1,jj e a.2.2]<;>rfl
 | .option c,none=>rfl
 | .option c,some x=>jj c x
theorem qV: ∀(cs:Gm Codec) (a:Codec.denoteAll cs),mY (Codec.encAll cs a)=Ix
 |[],_=>rfl
 |c::cs,a=>by
  show(yG (c.enc a.1)&&mY (Codec.encAll cs a.2))=Ix
  rw[jj c a.1,qV cs a.2]<;>rfl
theorem ki: ∀ {xs:Gm WData}{d:WData},d∈xs->d.weight<=WData.weightAll xs
 |[],d,h=>GW h (by simp)
 |x::r,d,h=>by
  show d.weight<=x.weight+1+WData.weightAll r
  rcases Hc.mp h with e|m
  .rw[e]
   omega
  .have z:=ki m
   omega
def ug:Gy->V
 | .none=> .Kk
 | .bool b=> .bl b
 | .int i _=> .int i
 | .str x _=> .str x
 | .bytes b _=> .R7 b
 | .ref a=> .ref a
 |_=> .Kk
def A3 (A:Gm Gx):Gy->Prop
 | .none=>True
 | .bool _=>True
 | .int _ _=>True
 | .str _ _=>True
 | .bytes _ _=>True
 | .ref a=>a∈A
 |_=>False
theorem A3.mono {A B:Gm Gx}(h: ∀a∈A,a∈B): ∀ {u:Gy},A3 A u->A3 B u:=λ{u} x=>by
 cases u with
 |ref a=>exact h a x
 |none=>trivial
 |bool b=>trivial
 |int i t=>trivial
 |str s t=>trivial
 |bytes b t=>trivial
 |_=>exact JS x
theorem CK {A:Gm Gx}(x:A3 A u):bD (ug u) u:=by
 cases u with
 |ref a=>rfl
 |none=>rfl
 |bool b=>rfl
 |int i t=>exact#[t,IO]
 |str s t=>exact#[t,IO]
 |bytes b t=>exact#[t,IO]
 |_=>exact JS x
theorem iu {A:Gm Gx} : ∀ {vs:Gm Gy},(∀u∈vs,A3 A u)->bH (vs.map ug) vs
 |[],_=> .nil
 |u::r,h=> .cons (CK (h u (GP ..))) (iu λx hx=>h x (G8 _ hx))
def iQ (h:Ij) (A:Gm Gx) (a:Gx):Prop:= ∃vs:Gm Gy,vs.length<=GV/\(∀u∈vs,A3 A u)/\
 (h.get? a=GM { cls:= .type "list",data:= .seq vs.toArray } \/h.get? a=GM { cls:= .type "tuple",data:= .seq vs.toArray })
theorem iQ.mono {h:Ij}{A B:Gm Gx}{a:Gx}(k: ∀a∈A,a∈B) (x:iQ h A a):iQ h B a:=by
 obtain⟨vs,h1,h2,h3⟩:=x;exact#[vs,h1,λu hu=>(h2 u hu).mono k,h3]
theorem gJ {P:Params}{h:Ij} : ∀ {vs:Gm Gy}{ds:Gm WData},WellAll P h vs ds->vs.length=ds.length
 |_,_, .nil=>rfl
 |_,_, .cons _ b=>by
  show _+1=_+1
  rw[gJ b]
theorem qv {P:Params}{h:Ij}(x:Well P h v (.list ds)): ∃(a:Gx) (vs:Gm Gy),v= .ref a/\h.get? a=GM { cls:= .type "list",data:= .seq vs.toArray } /\WellAll P h vs ds:=by
 cases x with
 |list ho P5=>exact#[_,_,IO,ho,P5]
theorem o7 {P:Params}{h:Ij}(x:Well P h v (.tuple ds)): ∃(a:Gx) (vs:Gm Gy),v= .ref a/\h.get? a=GM { cls:= .type "tuple",data:= .seq vs.toArray } /\WellAll P h vs ds:=by
 cases x with
 |tuple ho P5=>exact#[_,_,IO,ho,P5]
theorem qJ {P:Params}{h:Ij}(x:WellAll P h us (d::ds)): ∃(v:Gy) (vs:Gm Gy),us=v::vs/\Well P h v d/\WellAll P h vs ds:=by
 cases x with
 |cons a b=>exact#[_,_,IO,a,b]
theorem xO (h:n<=1048576):n<=GV:=GX h [01]
section
variable {P:Params}{h:Ij}
mutual
theorem Dx: ∀(d:WData) (v:Gy),Well P h v d->yG d=Ix->d.weight<=1048576-> ∃A:Gm Gx,A3 A v/\ ∀a∈A,iQ h A a
 | .none,_,x,_,_=>by
  cases x;exact#[[],trivial,λa m=>GW m (by simp)]
 | .bool b,_,x,_,_=>by
  cases x;exact#[[],trivial,λa m=>GW m (by simp)]
 | .int i,_,x,_,_=>by
  cases x;exact#[[],trivial,λa m=>GW m (by simp)]
 | .str s,_,x,_,_=>by
  cases x;exact#[[],trivial,λa m=>GW m (by simp)]
 | .bytes b,_,x,_,_=>by
  cases x;exact#[[],trivial,λa m=>GW m (by simp)]
 | .list ds,_,x,p,z=>by
  obtain⟨a,vs,rfl,ho,P5⟩:=qv x;have z2:WData.weightAll ds<=1048576:=z;obtain⟨A,h1,h2⟩:=lj ds _ P5 p λd hd=>GX (ki hd) z2;have k: ∀b∈A,b∈a::A:=λb hb=>G8 _ hb
  refine#[a::A,GP ..,λb hb=>?_];rcases Hc.mp hb with e|m
  .rw[e]
   exact#[vs,xO (by rw[gJ P5];exact GX (Qs ds) z2),λu hu=>(h1 u hu).mono k, .inl ho]
  .exact(h2 b m).mono k
 | .tuple ds,_,x,p,z=>by
  obtain⟨a,vs,rfl,ho,P5⟩:=o7 x;have z2:WData.weightAll ds<=1048576:=z;obtain⟨A,h1,h2⟩:=lj ds _ P5 p λd hd=>GX (ki hd) z2;have k: ∀b∈A,b∈a::A:=λb hb=>G8 _ hb
  refine#[a::A,GP ..,λb hb=>?_];rcases Hc.mp hb with e|m
  .rw[e]
   exact#[vs,xO (by rw[gJ P5];exact GX (Qs ds) z2),λu hu=>(h1 u hu).mono k, .inr ho]
  .exact(h2 b m).mono k
 | .float _,_,_,p,_=>IP (show IN=Ix from p)
 | .dict _,_,_,p,_=>IP (show IN=Ix from p)
 | .bytearray _,_,_,p,_=>IP (show IN=Ix from p)
 | .set _,_,_,p,_=>IP (show IN=Ix from p)
 | .frozenset _,_,_,p,_=>IP (show IN=Ix from p)
 | .obj _ _,_,_,p,_=>IP (show IN=Ix from p)
theorem lj: ∀(ds:Gm WData) (vs:Gm Gy),WellAll P h vs ds->mY ds=Ix->(∀d∈ds,d.weight<=1048576)-> ∃A:Gm Gx,(∀u∈vs,A3 A u)/\ ∀a∈A,iQ h A a
 |[],_,x,_,_=>by
  cases x;exact#[[],λu m=>GW m (by simp),λa m=>GW m (by simp)]
 |d::ds,_,x,p,z=>by
  obtain⟨v,vs,rfl,x1,x2⟩:=qJ x;have q:yG d=Ix/\mY ds=Ix:=TR.mp p;obtain⟨A,a1,a2⟩:=Dx d v x1 q.1 (z d (GP ..));obtain⟨B,b1,b2⟩:=lj ds vs x2 q.2 λe he=>z e (G8 _ he);have kA: ∀b∈A,b∈A++B:=λb hb=>HG.mpr (.inl hb)
  have kB: ∀b∈B,b∈A++B:=λb hb=>HG.mpr (.inr hb)
  refine#[A++B,λu hu=>?_,λb hb=>?_]
  .rcases Hc.mp hu with e|m
   .rw[e]
    exact a1.mono kA
   .exact(b1 u m).mono kB
  .rcases HG.mp hb with m|m
   .exact(a2 b m).mono kA
   .exact(b2 b m).mono kB
end
end
def Fc (o:Kd):GF HO:=match o.data with
 | .seq vs _=>if(o.cls == Nk "list")=Ix then GM (.QM o (.lst (vs.toList.map ug))) else GM (.QM o (.tup (vs.toList.map ug)))
 |_=>Id
def iC (K:Gu) (h:Ij) (A:Gm Gx):Hp:=λb=>if b∈A then(if(K.lookup b).isNone=Ix then(h.get? b).bind Fc else Id) else Id
def vC (H:Hp):Prop:= ∀b,H b=Id\/ ∃o u,H b=GM (.QM o u)
theorem vp (vs:Gm Gy):Fc { cls:= .type "list",data:= .seq vs.toArray } =GM (.QM { cls:= .type "list",data:= .seq vs.toArray } (.lst (vs.map ug))):=by
 show(if(Nk "list" == Nk "list")=Ix then GM (HO.QM { cls:= .type "list",data:= .seq vs.toArray } (.lst (vs.toArray.toList.map ug))) else GM (HO.QM { cls:= .type "list",data:= .seq vs.toArray } (.tup (vs.toArray.toList.map ug))))=_
 rw[GD (IG _)]
theorem tR (vs:Gm Gy):Fc { cls:= .type "tuple",data:= .seq vs.toArray } =GM (.QM { cls:= .type "tuple",data:= .seq vs.toArray } (.tup (vs.map ug))):=by
 show(if(Nk "tuple" == Nk "list")=Ix then GM (HO.QM { cls:= .type "tuple",data:= .seq vs.toArray } (.lst (vs.toArray.toList.map ug))) else GM (HO.QM { cls:= .type "tuple",data:= .seq vs.toArray } (.tup (vs.toArray.toList.map ug))))=_
 rw[GB [01]]
section
variable {P:Hm}{w:HS}{K:Gu}{h:Ij}{A:Gm Gx}
theorem nE (hb:b∈A) (hk:K.lookup b=Id) (e:h.get? b=GM o):iC K h A b=Fc o:=by
 unfold iC;rw[GD hb,hk,GD (show(Id:GF Kd).isNone=Ix from IO),e]<;>rfl
theorem F7 (q:iC K h A b=GM u):b∈A/\K.lookup b=Id:=by
 unfold iC at q;by_cases hb:b∈A
 .rw[GD hb] at q
  cases hk:K.lookup b with
  |none=>exact#[hb,IO]
  |some o=>
   rw[hk,GB (by simp)] at q;cases q
 .rw[GB hb] at q
  cases q
theorem ni (ar: ∀a∈A,iQ h A a) (q:iC K h A b=GM u):K.lookup b=Id/\ ∃vs:Gm Gy,vs.length<=GV/\(∀u∈vs,A3 A u)/\
  ((h.get? b=GM { cls:= .type "list",data:= .seq vs.toArray } /\u= .QM { cls:= .type "list",data:= .seq vs.toArray } (.lst (vs.map ug)))\/
    (h.get? b=GM { cls:= .type "tuple",data:= .seq vs.toArray } /\u= .QM { cls:= .type "tuple",data:= .seq vs.toArray } (.tup (vs.map ug)))):=by
 obtain⟨hb,hk⟩:=F7 q;obtain⟨vs,h1,h2,h3⟩:=ar b hb;refine#[hk,vs,h1,h2,?_];rcases h3 with e|e
 .rw[nE hb hk e,vp] at q
  exact .inl #[e,(G7 q).symm]
 .rw[nE hb hk e,tR] at q
  exact .inr #[e,(G7 q).symm]
theorem AU (ar: ∀a∈A,iQ h A a):vC (iC K h A):=λb=>by
 cases q:iC K h A b with
 |none=>exact .inl IO
 |some u=>
  obtain⟨_,vs,_,_,⟨_,e⟩|⟨_,e⟩⟩:=ni ar q
  .exact .inr #[_,_,by rw[e]]
  .exact .inr #[_,_,by rw[e]]
theorem Fj (ar: ∀a∈A,iQ h A a):iU P w (iC K h A) h:=λb u q=>by
 obtain⟨_,vs,h1,h2,⟨e,rfl⟩|⟨e,rfl⟩⟩:=ni ar q
 .exact#[e,by rw[GG];exact h1,vs,_,iu h2,e]
 .exact#[e,by rw[GG];exact h1,vs,iu h2,_,e,IO,_,IO]
theorem nP {c c':Gy}{vs us:Gm Gy}(e:(GM { cls:=c,data:= .seq vs.toArray } :GF Kd)=GM { cls:=c',data:= .seq us.toArray }):c=c'/\vs=us:=by
 have e1:=G7 e
 have e2:c=c':=Hr Kd.cls e1
 have e3:T3 vs.toArray=T3 us.toArray:=Hr Kd.data e1;injection e3 with e4;refine#[e2,?_]
 have e5:=Hr R4 e4
 simpa using e5
theorem ahw (KX:K.In h) (ar: ∀a∈A,iQ h A a) {a:Gx}{vs:Gm Gy}(ha:a∈A) (e:h.get? a=GM { cls:= .type "list",data:= .seq vs.toArray }):(∀u∈vs,A3 A u)/\cK K (iC K h A) a (vs.map ug):=by
 obtain⟨us,h1,h2,h3⟩:=ar a ha;have hu:us=vs:=by
  rcases h3 with q|q
  .rw[e] at q
   exact(nP q).2.symm
  .rw[e] at q
   exact GW (T4 (nP q).1) [01]
 subst hu;refine#[h2,?_];cases hk:K.lookup a with
 |none=>exact .inl (.inr #[_,by rw[nE ha hk e,vp]])
 |some o=>
  have e2:=KX a o hk;rw[e] at e2;obtain rfl:=G7 e2;exact .inr #[_,us.toArray,_,hk,IO,IO,IO,by rw[Hv];exact h1,by simpa using iu h2]
theorem ahx (KX:K.In h) (ar: ∀a∈A,iQ h A a) {a:Gx}{vs:Gm Gy}(ha:a∈A) (e:h.get? a=GM { cls:= .type "tuple",data:= .seq vs.toArray }):(∀u∈vs,A3 A u)/\pV K (iC K h A) a (vs.map ug):=by
 obtain⟨us,h1,h2,h3⟩:=ar a ha;have hu:us=vs:=by
  rcases h3 with q|q
  .rw[e] at q
   exact GW (T4 (nP q).1) [01]
  .rw[e] at q
   exact(nP q).2.symm
 subst hu;refine#[h2,?_];cases hk:K.lookup a with
 |none=>exact .inl (.inr #[_,by rw[nE ha hk e,tR]])
 |some o=>
  have e2:=KX a o hk;rw[e] at e2;obtain rfl:=G7 e2;exact .inr #[_,us.toArray,_,hk,IO,IO,by rw[Hv];exact h1,by simpa using iu h2]
mutual
theorem YK {Pm:Params}(KX:K.In h) (ar: ∀a∈A,iQ h A a): ∀(d:WData) (v:Gy),Well Pm h v d->yG d=Ix->A3 A v->Dw K (iC K h A) (ug v) d
 | .none,_,x,_,_=>by
  cases x;exact .Kk
 | .bool b,_,x,_,_=>by
  cases x;exact .bl b
 | .int i,_,x,_,_=>by
  cases x;exact .int i
 | .str s,_,x,_,_=>by
  cases x;exact .str s
 | .bytes b,_,x,_,_=>by
  cases x;have z:=Dw.R7 (K:=K) (H:=iC K h A) b.toArray;exact z
 | .list ds,_,x,p,hu=>by
  obtain⟨a,vs,rfl,ho,P5⟩:=qv x;obtain⟨h2,hs⟩:=ahw KX ar hu ho;exact .lst hs (ro KX ar ds _ P5 p h2)
 | .tuple ds,_,x,p,hu=>by
  obtain⟨a,vs,rfl,ho,P5⟩:=o7 x;obtain⟨h2,hs⟩:=ahx KX ar hu ho;exact .tup hs (ro KX ar ds _ P5 p h2)
 | .float _,_,_,p,_=>IP (show IN=Ix from p)
 | .dict _,_,_,p,_=>IP (show IN=Ix from p)
 | .bytearray _,_,_,p,_=>IP (show IN=Ix from p)
 | .set _,_,_,p,_=>IP (show IN=Ix from p)
 | .frozenset _,_,_,p,_=>IP (show IN=Ix from p)
 | .obj _ _,_,_,p,_=>IP (show IN=Ix from p)
theorem ro (KX:K.In h) (ar: ∀a∈A,iQ h A a): ∀(ds:Gm WData) (vs:Gm Gy),WellAll Pm h vs ds->mY ds=Ix->(∀u∈vs,A3 A u)->iW K (iC K h A) (vs.map ug) ds
 |[],_,x,_,_=>by
  cases x;exact .nil
 |d::ds,_,x,p,hu=>by
  obtain⟨v,vs,rfl,x1,x2⟩:=qJ x;have q:yG d=Ix/\mY ds=Ix:=TR.mp p;exact .cons (YK KX ar d v x1 q.1 (hu _ (GP ..))) (ro KX ar ds vs x2 q.2 λu m=>hu u (G8 _ m))
end
end
theorem Ac {P:Hm}{w:HS}{K:Gu}{mg mb:G0->GF Gy}{CX:rl}{k:GJ}{fa:Gx}{fd:HX}{ps:Gm G0}{sp:Sp}{s₁:GC}{vals:Gm Gy}{ds:Gm WData}{R:Ur}{cl:G0->GF Gx}{d0:WData}
  (KX:K.In s₁.heap) (hns:s₁.heap.Ns Ke mg) (hb:s₁.heap.Ns Yr mb) (hbb: ∀x:G0,x≠"__name__"->mb x=Mz x) (ahy:s₁.heap.NoLimit) (hg:s₁.gens= [].toArray)
  (hwl:WellAll w.params s₁.heap vals ds) (MS:mY ds=Ix) (hwt: ∀d∈ds,d.weight<=1048576) (hr:cy k SN)
  (F: ∀base:Ij,K.In base->base.Ns Ke mg->b8 P w K mg base CX k fa fd ps sp) (abm: ∀(s:GC) (us:Gm Gy),us.length=ps.length->SK s fd #[us,[]] (ps.zip us)) (hlen:ds.length=ps.length)
  (Tr: ∀(H:Hp) (xs:Gm V),vC H->iW K H xs ds->sp xs H (λv H'=>Dw K H' v d0) λ_ _ _=>False)
  (hCX: ∀H e s',CX [] H s₁ (λ_ _ _=>False) e s'->False):
  MB (model P w) SN (.call (.ref fa) #[vals,[]]) (λr s'=> ∃u as,r= .ok (.ret u)/\ReadsW R cl s'.heap u d0 as/\OldK s₁.heap s'.heap/\s'.os=s₁.os/\Qk s'.gens) s₁:=by
 obtain⟨A,ho,ar⟩:=lj ds vals hwl MS hwt;have hO:vC (iC K s₁.heap A):=AU ar;have Jy:iU P w (iC K s₁.heap A) s₁.heap:=Fj ar;have hS:=ro KX ar ds vals hwl MS ho;have hV:=iu ho;have hK: ∀b u,iC K s₁.heap A b=GM u->K.lookup b=Id:=λb u q=>(ni ar q).1
 have noA: ∀ {b:Gx}{o:Kd}{es:Ky O0}{ep:GJ},s₁.heap.get? b=GM o->o.data= .dict es ep->iC K s₁.heap A b=Id:=λ{b o es ep} e d=>by
  cases q:iC K s₁.heap A b with
  |none=>rfl
  |some u=>
   obtain⟨_,vs,_,_,⟨e2,_⟩|⟨e2,_⟩⟩:=ni ar q
   .rw[e2] at e
    cases e;have d':T3 vs.toArray _=Data.dict es ep:=d;cases d'
   .rw[e2] at e
    cases e;have d':T3 vs.toArray _=Data.dict es ep:=d;cases d'
 generalize iC K s₁.heap A=H at hO Jy hS hK noA;have T6: ∀ {b:Gx}{o:Kd},s₁.heap.get? b=GM o->H b=Id->(rG s₁.heap H).get? b=GM o:=λe n=>Cj e n
 have U7: ∀ {b:Gx}{m:G0->GF Gy},s₁.heap.Ns b m->(rG s₁.heap H).Ns b m:=λ{b m} ⟨o,es,ep,e,d,r⟩=>#[o,es,ep,T6 e (noA e d),d,r]
 have nK: ∀b o,K.lookup b=GM o->H b=Id:=λb o e=>by
  cases q:H b with
  |none=>rfl
  |some u=>
   rw[hK b u q] at e;cases e
 have hKb:K.In (rG s₁.heap H):=λb o e=>T6 (KX b o e) (nK b o e)
 have hM:Mod K mg (rG s₁.heap H):=#[hKb,U7 hns,#[mb,U7 hb,hbb],let ⟨mc,h1,h2⟩:=ahy;#[mc,U7 h1,h2]]
 have e0:xA P w K mg (rG s₁.heap H) SN [] s₁ H:=#[IO,hM,λb o e=>FM e,Oz (AB _ _),trivial,λb hb=>GW (show b∈([]:Gm Gx) from hb) (by simp),Jy, .of_eq hg]
 have hl:vals.length=ps.length:=by rw[gJ hwl];exact hlen
 refine NK ((F _ hKb (U7 hns)).run SN [] s₁ H #[vals,[]] vals (vals.map ug) _ _ hr e0 (abm s₁ vals hl) hV (Tr H _ hO hS)) λr s' x=>?_;cases r with
 |error e=>exact(hCX H e s' x).elim
 |ok fl=>
  cases fl with
  |next=>exact JS x
  |brk=>exact JS x
  |cont=>exact JS x
  |ret u=>
   obtain⟨v,H',os,bare,un,abn,r',q⟩:=x;have kept: ∀b o,s₁.heap.get? b=GM o->s'.heap.get? b=GM o:=λb o e=>by
    cases q2:H b with
    |none=>exact un.keep b o e q2 (by intro z;exact GW (show b∈([]:Gm Gx) from z) (by simp)) (by simp)
    |some u2=>
     rcases hO b with z|⟨ob,u3,z⟩
     .rw[q2] at z
      cases z
     .have z2:=un.QN b ob _ z
      obtain⟨e1,_⟩:=Jy b _ z;obtain⟨e2,_⟩:=abn b _ z2;rw[e] at e1;cases e1;exact e2
   have KX':K.In s'.heap:=λb o e=>kept b o (KX b o e)
   obtain⟨as,hrd⟩:=Dw.reads (R:=R) (cl:=cl) abn KX' d0 v u q r';exact#[u,as,IO,hrd,OldK.of_keep kept,os,bare]
theorem o4 (h:WData.layableAll ds=Ix): ∀d∈ds,d.weight<=1048576:=λd hd=>
 (PySem.W.layableW_iff.mp (LC.mp h d hd)).2.2
theorem n9: ∀(cs:Gm Codec) (a:Codec.denoteAll cs),(Codec.encAll cs a).length=cs.length
 |[],_=>rfl
 |c::cs,a=>by
  show(Codec.encAll cs a.2).length+1=cs.length+1
  rw[n9 cs a.2]
theorem zH {XP:(G0->GF Gy)->Ij->Prop}{YP:HS->Ij->Prop}{K:Params->Gu}{CX:HS->rl}{sp:HS->Sp}
  (Vo:r.wellSaid=Ix) (hdf:d.params.defaults=[]) (hlen:r.args.length=ps.length) (hr:cy k SN)
  (hY: ∀(w:HS) (h:Ij),YP w h->(K w.params).In h)
  (F: ∀(w:HS) (mg:G0->GF Gy) (fa:Gx) (h:Ij),YP w h->(K w.params).In h->h.Ns Ke mg->mg d.name=GM (.ref fa)->
   ∃fd:HX,(∀(s:GC) (us:Gm Gy),us.length=ps.length->SK s fd #[us,[]] (ps.zip us))/\
    ∀base:Ij,(K w.params).In base->base.Ns Ke mg->b8 r.prog w (K w.params) mg base (CX w) k fa fd ps (sp w))
  (Tr: ∀(w:HS) (H:Hp) (xs:Gm V) (a:Codec.denoteAll r.args),vC H->Codec.withinAll r.args a=Ix->Codec.app r.args r.asked a=Ix->iW (K w.params) H xs (Codec.encAll r.args a)->
   sp w xs H (λv H'=>Dw (K w.params) H' v (r.ret.enc (Codec.app r.args r.f a))) λ_ _ _=>False)
  (hCX: ∀(w:HS) (H:Hp) (s:GC) (e:Gy) (s':GC),CX w [] H s (λ_ _ _=>False) e s'->False):
  Vk q loose XP YP r d [] (λf vs=>PySem.call f vs):=by
 intro w P6 s₁ mg mb G Y fa o pm cd doc dV kV ho hd Rx hD hmg hg args vals as ahz ahA hrd hwl hlo;obtain⟨a,e1,e2⟩:=PySem.W.os_pre_some ahz;obtain⟨e3,hwi⟩:=Codec.encAll_of_decAll r.args args a e1;subst e3;have KX:=hY w _ Y;obtain⟨fd,hb,hF⟩:=F w mg fa _ Y KX G.T.g hmg;refine PySem.W.enter_call (NK (Ac (R:=[]) (cl:=classAt P6.heap) (d0:=r.ret.enc (Codec.app r.args r.f a)) KX G.T.g G.T.b G.T.builtins G.T.nolimit hg hwl (qV _ _) (o4 ahA) hr hF hb (by rw[n9];exact hlen)
  (λH xs hO hS=>Tr w H xs a hO hwi e2 hS) λH e s'=>hCX w H s₁ e s') λr' s' hq=>?_)
 obtain⟨u,as',rfl,h1,h2,h3,h4⟩:=hq;exact#[.inl #[u,_,as',IO,λ_=>rfl,h1,(OpenSpec.post_iff Vo hwi _ _).mpr IO,λz=>IP (show IN=Ix from z)],h2,h3,h4]
theorem wl {XP:(G0->GF Gy)->Ij->Prop}{YP:HS->Ij->Prop}{K:Params->Gu}{CX:rl}{sp:Gu->Sp}
  (Vo:r.wellSaid=Ix) (hdf:d.params.defaults=[]) (hlen:r.args.length=ps.length) (hr:cy k SN)
  (hY: ∀(w:HS) (h:Ij),YP w h->(K w.params).In h)
  (F: ∀(w:HS) (mg:G0->GF Gy) (fa:Gx) (h:Ij),YP w h->(K w.params).In h->h.Ns Ke mg->mg d.name=GM (.ref fa)->
   ∃fd:HX,(∀(s:GC) (us:Gm Gy),us.length=ps.length->SK s fd #[us,[]] (ps.zip us))/\
    ∀base:Ij,(K w.params).In base->base.Ns Ke mg->b8 r.prog w (K w.params) mg base CX k fa fd ps (sp (K w.params)))
  (Tr: ∀(K:Gu) (H:Hp) (xs:Gm V) (a:Codec.denoteAll r.args),vC H->Codec.withinAll r.args a=Ix->Codec.app r.args r.asked a=Ix->iW K H xs (Codec.encAll r.args a)->
   sp K xs H (λv H'=>Dw K H' v (r.ret.enc (Codec.app r.args r.f a))) λ_ _ _=>False)
  (hCX: ∀(H:Hp) (s:GC) (e:Gy) (s':GC),CX [] H s (λ_ _ _=>False) e s'->False):
  Vk q loose XP YP r d [] (λf vs=>PySem.call f vs):=
 zH (K:=K) (CX:=λ_=>CX) (sp:=λw=>sp (K w.params)) Vo hdf hlen hr hY F (λw H xs a h1 h2 h3 h4=>Tr (K w.params) H xs a h1 h2 h3 h4) λ_ H s e s'=>hCX H s e s'
end L2
end
namespace OS
open PySem
abbrev dw:Gm Gy:=[.type "Exception", .type "BaseException", .type "object"]
end OS
namespace OS
open PySem PySem.Spec L2
open PyProof.Rows hiding St
def dH:Gm G0:=["__getattribute__","__getattr__","__setattr__","number","kind","line","column"]
def XO (h:Ij) (C N:Gx) (bm:Gm Gy):Prop:= ∃(nm q:G0) (bs:Gm Gy) (sn:Gm G0) (sub:Gm Gy) (ab:HH) (col:GF HH) (dd:GF Gx) (k0 k1 k2 k3 k5:GF Gy),h.get? C=GM (JF nm q C N bs bm Ix sn sub ab col dd k0 k1 k2 k3 k5 "Exception.__new__")
def XAt (h:Ij) (R C fI:Gx):Prop:= ∃(N:Gx) (mN:G0->GF Gy) (oI:Kd) (NR:Gx) (mR:G0->GF Gy),XO h C N (.ref R::dw)/\h.Ns N mN/\mN "__init__"=GM (.ref fI)/\(∀n∈dH,mN n=Id)/\h.get? fI=GM oI/\oI.cls= .type "function"/\
 XO h R NR dw/\h.Ns NR mR/\ ∀n∈dH,mR n=Id
structure ir (K:Gu) (R C fI:Gx):Prop where
 at_: ∀h:Ij,K.In h->XAt h R C fI
 kp:JO K (.ref C)=Ix
end OS
namespace OS
open Vbemac
open PySem (Str)
def sb (w:HA):G0:=#[(w.map Kz).toArray]
def lS:G0:=#[[47,114,101,115,116].toArray]
def dD (s:HA):G0:=if s=[37] then lS else sb s
end OS
namespace OS
open PySem PySem.Spec L2
open PyProof.Rows hiding St
def pU (K:Gu) (a:Gx) (xs:Gm V):Prop:= ∃(o:Kd) (Ji:Ky Gy) (n:GJ),K.lookup a=GM o/\o.cls= .type "tuple"/\o.data= .seq Ji n/\Ji.size<=GV/\bH xs Ji.toList
structure Be (P:Hm) (w:HS) (K:Gu) (a:Gx) (Iw:Gm (Gm cf×V)):Prop where
 at_: ∃xs:Gm (Gm cf×Gx×Gy),(∀h:Ij,K.In h->h.DictOfH (NZ (bK P w)) a xs)/\Paired (λ(p:Gm cf×V) (q:Gm cf×Gx×Gy)=>p.1=q.1/\bD p.2 q.2.2) Iw xs
 no:(a == JZ)=IN
structure Cl (K:Gu) (C:Gx):Prop where
 cl:i8 K C
 ha:Jm K (.ref C) "__class__"=GM (GM (.builtin "object.__class__"))
 hn:Pz K (.builtin "object.__class__") "__get__"=GM (GM (.builtin "getset_descriptor.__get__"))
 htk:UZ K (.builtin "object.__class__")=GM Ix
 hm:VQ K C (.type "object")=GM Ix
def tp (i:GJ):Stmt:=PySem.Challenge.pw_ordersheets_s05_fold.main.body.getD i (.Pass #[0,0,0,0])
abbrev abo:Stmt:=bh (tp 4) 0
abbrev abp:Stmt:=bh (tp 5) 0
abbrev abq:Stmt:=bh (tp 6) 0
abbrev abr:Stmt:=bh (tp 7) 0
abbrev abt:Stmt:=bh (tp 8) 0
abbrev abu:Stmt:=bh (tp 9) 0
abbrev abv:Stmt:=bh (tp 10) 0
abbrev abw:Stmt:=bh (tp 11) 0
abbrev abx:Stmt:=bh (tp 12) 0
abbrev aby:Stmt:=bh (tp 13) 0
abbrev abz:Stmt:=bh (tp 14) 0
abbrev abA:Stmt:=bh (tp 15) 0
abbrev abB:Stmt:=bh (tp 16) 0
abbrev abC:Stmt:=bh (tp 17) 0
abbrev abD:Stmt:=bh (tp 18) 0
abbrev abE:Stmt:=bh (tp 19) 0
abbrev s_S:Stmt:=bh (tp 21) 0
abbrev abF:Stmt:=bh (tp 22) 0
abbrev abG:Stmt:=bh (tp 23) 0
abbrev abH:Stmt:=tp 26
abbrev abI:Stmt:=tp 27
abbrev abJ:Stmt:=tp 28
abbrev abK:Stmt:=tp 29
abbrev abL:Stmt:=tp 30
abbrev abM:Stmt:=tp 31
abbrev abN:Stmt:=tp 32
abbrev s_T:Stmt:=bh (tp 46) 0
abbrev s_h:Stmt:=tp 47
abbrev s_l:Stmt:=tp 48
abbrev s_U:Stmt:=tp 49
abbrev s_V:Stmt:=tp 50
abbrev s_W:Stmt:=tp 51
abbrev s_X:Stmt:=tp 52
abbrev s_Y:Stmt:=tp 53
abbrev s_B:Stmt:=tp 54
abbrev s_C:Stmt:=tp 55
abbrev s_m:Stmt:=tp 56
abbrev abO:Stmt:=bh (tp 67) 0
abbrev s_c:Stmt:=bh (tp 67) 1
abbrev s_d:Stmt:=bh (tp 67) 2
abbrev s_s:Stmt:=bh (tp 67) 3
abbrev abP:Stmt:=bh (tp 67) 4
abbrev abQ:Stmt:=bh (tp 67) 5
abbrev abR:Stmt:=bh (tp 67) 6
abbrev abS:Stmt:=bh (tp 67) 7
abbrev s_D:Stmt:=bh (tp 67) 8
abbrev abT:Stmt:=bh (tp 67) 9
abbrev abU:Stmt:=bh (tp 67) 10
abbrev s_M:Stmt:=bh (tp 67) 11
abbrev abV:Stmt:=bh (tp 67) 12
abbrev abW:Stmt:=bh (tp 67) 13
abbrev abX:Stmt:=bh (tp 67) 14
abbrev abY:Stmt:=bh (tp 67) 15
abbrev s_g:Stmt:=tp 71
abbrev s_f:Stmt:=tp 72
abbrev abZ:Stmt:=tp 73
abbrev s_E:Stmt:=tp 74
abbrev s_n:Stmt:=tp 75
abbrev ab0:Stmt:=tp 76
abbrev ab1:Stmt:=tp 77
abbrev ab2:Stmt:=tp 78
abbrev YL:Stmt:=tp 79
abbrev ab3:Stmt:=tp 80
abbrev s_N:Stmt:=tp 85
abbrev s_t:Stmt:=tp 86
abbrev s_Z:Stmt:=tp 87
abbrev s_j:Stmt:=tp 88
abbrev s_F:Stmt:=tp 89
abbrev s_1:Stmt:=tp 90
abbrev s_2:Stmt:=tp 91
abbrev s_3:Stmt:=tp 92
abbrev s_e:Stmt:=tp 93
abbrev s_x:Stmt:=tp 94
abbrev s_a:Stmt:=tp 95
abbrev s_k:Stmt:=tp 96
abbrev ab4:Stmt:=tp 97
abbrev s_G:Stmt:=tp 98
abbrev s_O:Stmt:=tp 99
abbrev s_H:Stmt:=tp 100
abbrev s_4:Stmt:=tp 101
abbrev s_5:Stmt:=tp 103
abbrev ab5:Stmt:=tp 104
abbrev s_o:Stmt:=tp 105
abbrev s_I:Stmt:=tp 106
abbrev s_6:Stmt:=tp 107
abbrev s_7:Stmt:=tp 108
abbrev ab6:Stmt:=tp 109
abbrev s_u:Stmt:=tp 110
abbrev s_i:Stmt:=tp 111
abbrev s_P:Stmt:=tp 112
abbrev s_w:Stmt:=tp 113
abbrev s_8:Stmt:=tp 114
abbrev s_9:Stmt:=tp 115
abbrev s_p:Stmt:=tp 116
abbrev s_y:Stmt:=tp 117
abbrev ab7:Stmt:=tp 118
abbrev ab8:Stmt:=tp 119
abbrev s_J:Stmt:=tp 120
abbrev s_z:Stmt:=tp 125
abbrev ab9:Stmt:=tp 126
abbrev aca:Stmt:=tp 127
abbrev s_A:Stmt:=tp 128
abbrev acb:Stmt:=tp 129
abbrev acd:Stmt:=tp 130
abbrev ace:Stmt:=tp 131
abbrev acf:Stmt:=tp 132
abbrev s_q:Stmt:=tp 133
abbrev acg:Stmt:=tp 134
abbrev ach:Stmt:=tp 135
abbrev aci:Stmt:=tp 136
abbrev acj:Stmt:=tp 137
abbrev ack:Stmt:=tp 138
abbrev acm:Stmt:=tp 139
abbrev s_r:Stmt:=tp 140
abbrev s_Q:Stmt:=tp 141
abbrev acn:Stmt:=tp 142
abbrev aco:Stmt:=tp 143
abbrev acp:Stmt:=tp 144
abbrev acq:Stmt:=tp 145
abbrev s_K:Stmt:=tp 148
abbrev s_L:Stmt:=tp 149
abbrev s_R:Stmt:=tp 150
abbrev s_b:Stmt:=tp 151
set_option genInjectivity false in
structure bJ where
 (acr acs acu acv acw acx acy acz acA acB acC acD acE acF acG acH f_S YM YN ahB ahC ahD ahE ahF ahG ahH f_T f_h f_l f_U f_V f_W f_X f_Y f_B f_C f_m acI f_c f_d f_s ahI ahJ ahK ahL f_D ahM ahN f_M ahO ahP ahQ ahR f_g f_f ahS f_E f_n ahT ahU ahV ahW ahX f_N f_t f_Z f_j f_F f_1 f_2 f_3 f_e f_x f_a f_k ahY f_G f_O f_H f_4 f_5 acJ f_o f_I f_6 f_7 ahZ f_u f_i f_P f_w f_8 f_9 f_p f_y ah0 ah1 f_J f_z ah2 ah3 f_A ah4 ah5 ah6 ah7 f_q ah8 acK ah9 aia aib aic f_r f_Q acL acM aid aie f_K f_L f_R f_b LX OB N9 Li Kv LG OC Mr NQ Qy LN LP KC MT O8 Oa Ks LQ Jj Ka HL R8 K3 Qn HM Jx:Gx)
 (acN acO acP acQ acR acS acT acU acV acW acX acY acZ ac0 ac1 ac2 aif ac3 ac4 ac5 ac6 ac7 ac8 ac9 ada adb aih aii aij aik ail aim ain aio aip aiq air ade ais ait aiu adf adg adh adi aiv adj adk aiw adl adm adn ado aix adp adq aiy aiz ads adt adu adv adw aiA aiB aiC adx ady aiD aiE aiF adz aiG adA adB adC aiH aiI aiJ aiK aiL W3 adD adE aiM aiN adF adG aiO aiP aiQ aiR aiS aiT aiU adH adI aiV aiW adJ adK aiX adL adM adN adO aiY adP W4 adQ adR adS adT aiZ ai0 W5 W6 adU adV ai1 ai2 ai3 Vp:HX)
structure cZ (K:Gu) (mg:G0->GF Gy) (n:G0) (st:Stmt) (ps:Gm G0) (f:Gx) (fd:HX):Prop where
 F:sN K n n st f fd
 c:CD K mg n f fd ps
structure hJ (K:Gu) (C:Gx) (n q:G0) (st:Stmt) (ps:Gm G0) (f:Gx) (fd:HX):Prop where
 F:sN K n q st f fd
 c:MD K C n f fd ps
structure Txt (K:Gu) (mg:G0->GF Gy) (a:bJ):Prop where
 OV:mg "Number"=GM (.ref a.LX)
 T7:mg "Name"=GM (.ref a.OB)
 Ry:mg "Call"=GM (.ref a.N9)
 OD:mg "Unary"=GM (.ref a.Li)
 PL:mg "Chain"=GM (.ref a.Kv)
 OW:mg "Choice"=GM (.ref a.LG)
 Vq:mg "Sum"=GM (.ref a.OC)
 RA:mg "Let"=GM (.ref a.Mr)
 Ts:mg "For"=GM (.ref a.NQ)
 Vr:mg "If"=GM (.ref a.Qy)
 RB:mg "Step"=GM (.ref a.LN)
 Tt:mg "Amounts"=GM (.ref a.LP)
 Vs:mg "Block"=GM (.ref a.KC)
 QO:mg "Const"=GM (.ref a.MT)
 Tu:mg "Fun"=GM (.ref a.O8)
 Wc:mg "Desk"=GM (.ref a.Oa)
 MZ:mg "Refusal"=GM (.ref a.Ks)
 PM:mg "NotAsTold"=GM (.ref a.LQ)
 QP:mg "Fault"=GM (.ref a.Jj)
 R9:mg "Token"=GM (.ref a.Ka)
 Uv:mg "Reader"=GM (.ref a.HL)
 adW:hJ K a.LX "__init__" "Number.__init__" abo ["self","worth"] a.acr a.acN
 adX:hJ K a.OB "__init__" "Name.__init__" abp ["self","name"] a.acs a.acO
 adY:hJ K a.N9 "__init__" "Call.__init__" abq ["self","name","arguments"] a.acu a.acP
 adZ:hJ K a.Li "__init__" "Unary.__init__" abr ["self","sign","operand"] a.acv a.acQ
 ad0:hJ K a.Kv "__init__" "Chain.__init__" abt ["self","strength","operands","signs"] a.acw a.acR
 ad1:hJ K a.LG "__init__" "Choice.__init__" abu ["self","condition","chosen","otherwise"] a.acx a.acS
 ad2:hJ K a.OC "__init__" "Sum.__init__" abv ["self","name","first","last","body"] a.acy a.acT
 ad3:hJ K a.Mr "__init__" "Let.__init__" abw ["self","name","exp"] a.acz a.acU
 ad4:hJ K a.NQ "__init__" "For.__init__" abx ["self","name","first","last","statements"] a.acA a.acV
 ad5:hJ K a.Qy "__init__" "If.__init__" aby ["self","condition","statements","else_statements"] a.acB a.acW
 ad6:hJ K a.LN "__init__" "Step.__init__" abz ["self","side","zone","quarter","price","to_price","amount"] a.acC a.acX
 ad7:hJ K a.LP "__init__" "Amounts.__init__" abA ["self","name","exp"] a.acD a.acY
 ad8:hJ K a.KC "__init__" "Block.__init__" abB ["self","name","side","zone","price","amounts","under","group"] a.acE a.acZ
 ad9:hJ K a.MT "__init__" "Const.__init__" abC ["self","name","exp"] a.acF a.ac0
 aea:hJ K a.O8 "__init__" "Fun.__init__" abD ["self","name","parameters","exp"] a.acG a.ac1
 aeb:hJ K a.Oa "__init__" "Desk.__init__" abE ["self","name","statements"] a.acH a.ac2
 d_S:hJ K a.Ks "__init__" "Refusal.__init__" s_S ["self","number"] a.f_S a.aif
 YO:hJ K a.LQ "__init__" "NotAsTold.__init__" abF ["self"] a.YM a.ac3
 We:hJ K a.Jj "__init__" "Fault.__init__" abG ["self","kind","line","column"] a.YN a.ac4
 YQ:cZ K mg "has_result" abH ["sign","right"] a.ahB a.ac5
 YR:cZ K mg "sign_result" abI ["sign","left","right"] a.ahC a.ac6
 YS:cZ K mg "is_so" abJ ["sign","left","right"] a.ahD a.ac7
 YT:cZ K mg "unary_result" abK ["sign","number"] a.ahE a.ac8
 YU:cZ K mg "function_result" abL ["name","numbers"] a.ahF a.ac9
 Wf:cZ K mg "decides" abM ["strength","number"] a.ahG a.ada
 YV:cZ K mg "decided_value" abN ["strength"] a.ahH a.adb
 d_T:hJ K a.Ka "__init__" "Token.__init__" s_T ["self","kind","value","line","column"] a.f_T a.aih
 d_h:cZ K mg "is_digit" s_h ["byte"] a.f_h a.aii
 d_l:cZ K mg "is_letter" s_l ["byte"] a.f_l a.aij
 d_U:cZ K mg "comment_end" s_U ["text","at"] a.f_U a.aik
 d_V:cZ K mg "word_end" s_V ["text","at"] a.f_V a.ail
 d_W:cZ K mg "digits_end" s_W ["text","at"] a.f_W a.aim
 d_X:cZ K mg "token_end" s_X ["text","at"] a.f_X a.ain
 d_Y:cZ K mg "token_kind" s_Y ["text","at","end"] a.f_Y a.aio
 d_B:cZ K mg "decimal_worth" s_B ["part"] a.f_B a.aip
 d_C:cZ K mg "token_value" s_C ["kind","part"] a.f_C a.aiq
 d_m:cZ K mg "scan_text" s_m ["text"] a.f_m a.air
 YW:hJ K a.HL "__init__" "Reader.__init__" abO ["self","tokens"] a.acI a.ade
 Vt:hJ K a.HL "current" "Reader.current" s_c ["self"] a.f_c a.ais
 Vu:hJ K a.HL "fail" "Reader.fail" s_d ["self","kind"] a.f_d a.ait
 d_s:hJ K a.HL "sees" "Reader.sees" s_s ["self","value"] a.f_s a.aiu
 YX:hJ K a.HL "at_end" "Reader.at_end" abP ["self"] a.ahI a.adf
 YY:hJ K a.HL "at_number" "Reader.at_number" abQ ["self"] a.ahJ a.adg
 Wg:hJ K a.HL "at_name" "Reader.at_name" abR ["self"] a.ahK a.adh
 YZ:hJ K a.HL "number_follows" "Reader.number_follows" abS ["self"] a.ahL a.adi
 d_D:hJ K a.HL "take" "Reader.take" s_D ["self"] a.f_D a.aiv
 Y0:hJ K a.HL "expect" "Reader.expect" abT ["self","value"] a.ahM a.adj
 Y1:hJ K a.HL "skips" "Reader.skips" abU ["self","value"] a.ahN a.adk
 d_M:hJ K a.HL "need_name" "Reader.need_name" s_M ["self"] a.f_M a.aiw
 Y2:hJ K a.HL "take_free_name" "Reader.take_free_name" abV ["self"] a.ahO a.adl
 Y3:hJ K a.HL "take_name_not_in" "Reader.take_name_not_in" abW ["self","given"] a.ahP a.adm
 Y4:hJ K a.HL "learn" "Reader.learn" abX ["self","name"] a.ahQ a.adn
 Wh:hJ K a.HL "forget" "Reader.forget" abY ["self","name"] a.ahR a.ado
 d_g:cZ K mg "deeper" s_g ["reader","depth"] a.f_g a.aix
 Sa:cZ K mg "read_exp" s_f ["reader","depth"] a.f_f a.adp
 Wi:cZ K mg "read_choice" abZ ["reader","depth"] a.ahS a.adq
 W7:cZ K mg "read_chain" s_E ["reader","depth","strength"] a.f_E a.aiy
 VU:cZ K mg "read_unary" s_n ["reader","depth"] a.f_n a.aiz
 Wj:cZ K mg "read_primary" ab0 ["reader","depth"] a.ahT a.ads
 Wk:cZ K mg "read_brackets" ab1 ["reader","depth"] a.ahU a.adt
 Wl:cZ K mg "read_sum" ab2 ["reader","depth"] a.ahV a.adu
 Wm:cZ K mg "read_call" YL ["reader","depth"] a.ahW a.adv
 Y5:cZ K mg "refuse_here" ab3 ["reader","sign"] a.ahX a.adw
 d_N:cZ K mg "sheet_form" s_N ["tops"] a.f_N a.aiA
 d_t:cZ K mg "bytes_of" s_t ["pieces"] a.f_t a.aiB
 d_Z:cZ K mg "top_form" s_Z ["top"] a.f_Z a.aiC
 d_j:cZ K mg "braces_form" s_j ["statements","depth"] a.f_j a.adx
 d_F:cZ K mg "statement_form" s_F ["statement","depth"] a.f_F a.ady
 d_1:cZ K mg "if_form" s_1 ["statement","depth"] a.f_1 a.aiD
 d_2:cZ K mg "step_form" s_2 ["step"] a.f_2 a.aiE
 d_3:cZ K mg "block_form" s_3 ["block"] a.f_3 a.aiF
 Vv:cZ K mg "part_form" s_e ["word","exp"] a.f_e a.adz
 d_x:cZ K mg "range_form" s_x ["node"] a.f_x a.aiG
 Tv:cZ K mg "any_form" s_a ["exp"] a.f_a a.adA
 Y6:cZ K mg "placed_form" s_k ["exp","weakest"] a.f_k a.adB
 Y7:cZ K mg "strength_of" ab4 ["exp"] a.ahY a.adC
 d_G:cZ K mg "exp_form" s_G ["exp"] a.f_G a.aiH
 d_O:cZ K mg "arguments_form" s_O ["arguments"] a.f_O a.aiI
 d_H:cZ K mg "chain_form" s_H ["chain"] a.f_H a.aiJ
 d_4:cZ K mg "choice_form" s_4 ["choice"] a.f_4 a.aiK
 d_5:cZ K mg "simpler_tops" s_5 ["tops"] a.f_5 a.aiL
 Y8:cZ K mg "simpler_top" ab5 ["top"] a.acJ a.W3
 d_o:cZ K mg "simpler_statements" s_o ["statements"] a.f_o a.adD
 d_I:cZ K mg "simpler_statement" s_I ["statement"] a.f_I a.adE
 d_6:cZ K mg "simpler_step" s_6 ["step"] a.f_6 a.aiM
 d_7:cZ K mg "simpler_block" s_7 ["block"] a.f_7 a.aiN
 Wn:cZ K mg "simpler_if_there" ab6 ["exp"] a.ahZ a.adF
 Y9:cZ K mg "simpler" s_u ["exp"] a.f_u a.adG
 VV:cZ K mg "written_value" s_i ["exp"] a.f_i a.aiO
 d_P:cZ K mg "written_number" s_P ["value"] a.f_P a.aiP
 d_w:cZ K mg "simpler_call" s_w ["call"] a.f_w a.aiQ
 d_8:cZ K mg "simpler_unary" s_8 ["unary"] a.f_8 a.aiR
 d_9:cZ K mg "simpler_chain" s_9 ["chain"] a.f_9 a.aiS
 d_p:cZ K mg "simpler_deciding" s_p ["chain","operands"] a.f_p a.aiT
 d_y:cZ K mg "simpler_reckoning" s_y ["chain","operands"] a.f_y a.aiU
 Za:cZ K mg "written_result" ab7 ["sign","left","right"] a.ah0 a.adH
 Zb:cZ K mg "simpler_choice" ab8 ["choice"] a.ah1 a.adI
 d_J:cZ K mg "simpler_sum" s_J ["summed"] a.f_J a.aiV
 d_z:cZ K mg "read_sheet" s_z ["text"] a.f_z a.aiW
 Wo:cZ K mg "read_top" ab9 ["reader"] a.ah2 a.adJ
 Wq:cZ K mg "read_const" aca ["reader"] a.ah3 a.adK
 W8:cZ K mg "read_given" s_A ["reader"] a.f_A a.aiX
 Ws:cZ K mg "read_fun" acb ["reader"] a.ah4 a.adL
 Zc:cZ K mg "read_parameters" acd ["reader","function"] a.ah5 a.adM
 Zd:cZ K mg "read_parameter" ace ["reader","function"] a.ah6 a.adN
 Wt:cZ K mg "read_desk" acf ["reader"] a.ah7 a.adO
 VW:cZ K mg "read_braces" s_q ["reader","depth"] a.f_q a.aiY
 Wu:cZ K mg "read_statement" acg ["reader","depth"] a.ah8 a.adP
 Ze:cZ K mg "read_let" ach ["reader"] a.acK a.W4
 Zg:cZ K mg "deeper_braces" aci ["reader","depth"] a.ah9 a.adQ
 Wv:cZ K mg "read_for" acj ["reader","depth"] a.aia a.adR
 Ww:cZ K mg "read_if" ack ["reader","depth"] a.aib a.adS
 Zh:cZ K mg "read_side" acm ["reader"] a.aic a.adT
 Wx:cZ K mg "read_part" s_r ["reader","word"] a.f_r a.aiZ
 d_Q:cZ K mg "read_part_if_there" s_Q ["reader","word"] a.f_Q a.ai0
 Zi:cZ K mg "read_step" acn ["reader"] a.acL a.W5
 Zj:cZ K mg "read_block" aco ["reader"] a.acM a.W6
 Wy:cZ K mg "read_amounts" acp ["reader"] a.aid a.adU
 Zk:cZ K mg "read_under_name" acq ["reader"] a.aie a.adV
 d_K:cZ K mg "is_text" s_K ["text"] a.f_K a.ai1
 d_L:cZ K mg "need" s_L ["as_told"] a.f_L a.ai2
 d_R:cZ K mg "row" s_R ["numbers"] a.f_R a.ai3
 d_b:cZ K mg "fold" s_b ["text"] a.f_b a.Vp
 NS:i8 K a.LX
 Uw:Mk K a.LX a.acr
 LK:aH K a.LX "worth"
 RC:i8 K a.OB
 Wz:Mk K a.OB a.acs
 PN:aH K a.OB "name"
 Nt:i8 K a.N9
 WA:Mk K a.N9 a.acu
 LY:aH K a.N9 "name"
 LZ:aH K a.N9 "arguments"
 Lq:i8 K a.Li
 Vw:Mk K a.Li a.acv
 K8:aH K a.Li "sign"
 KG:aH K a.Li "operand"
 K4:i8 K a.Kv
 Vx:Mk K a.Kv a.acw
 Kb:aH K a.Kv "strength"
 L0:aH K a.Kv "operands"
 L1:aH K a.Kv "signs"
 K9:i8 K a.LG
 Ux:Mk K a.LG a.acx
 LB:aH K a.LG "condition"
 Lw:aH K a.LG "chosen"
 KD:aH K a.LG "otherwise"
 OE:i8 K a.OC
 Zl:Mk K a.OC a.acy
 OF:aH K a.OC "name"
 Ob:aH K a.OC "first"
 OG:aH K a.OC "last"
 OH:aH K a.OC "body"
 Pd:i8 K a.Mr
 Zm:Mk K a.Mr a.acz
 Nu:aH K a.Mr "name"
 Pf:aH K a.Mr "exp"
 OI:i8 K a.NQ
 Zn:Mk K a.NQ a.acA
 OJ:aH K a.NQ "name"
 Oc:aH K a.NQ "first"
 OK:aH K a.NQ "last"
 L3:aH K a.NQ "statements"
 PQ:i8 K a.Qy
 aec:Mk K a.Qy a.acB
 MF:aH K a.Qy "condition"
 Mg:aH K a.Qy "statements"
 Km:aH K a.Qy "else_statements"
 Lj:i8 K a.LN
 WB:Mk K a.LN a.acC
 Od:aH K a.LN "side"
 Oe:aH K a.LN "zone"
 MG:aH K a.LN "quarter"
 NC:aH K a.LN "price"
 Mh:aH K a.LN "to_price"
 M0:aH K a.LN "amount"
 M3:i8 K a.LP
 Tw:Mk K a.LP a.acD
 MH:aH K a.LP "name"
 M4:aH K a.LP "exp"
 JY:i8 K a.KC
 Vy:Mk K a.KC a.acE
 Mp:aH K a.KC "name"
 ND:aH K a.KC "side"
 NF:aH K a.KC "zone"
 M5:aH K a.KC "price"
 Mi:aH K a.KC "amounts"
 L4:aH K a.KC "under"
 M6:aH K a.KC "group"
 NT:i8 K a.MT
 Vz:Mk K a.MT a.acF
 NG:aH K a.MT "name"
 Of:aH K a.MT "exp"
 OL:i8 K a.O8
 Zo:Mk K a.O8 a.acG
 OM:aH K a.O8 "name"
 L5:aH K a.O8 "parameters"
 Pg:aH K a.O8 "exp"
 OX:i8 K a.Oa
 WC:Mk K a.Oa a.acH
 Og:aH K a.Oa "name"
 LO:aH K a.Oa "statements"
 JP:i8 K a.Ka
 Sb:Mk K a.Ka a.f_T
 La:aH K a.Ka "kind"
 Kl:aH K a.Ka "value"
 NH:aH K a.Ka "line"
 MI:aH K a.Ka "column"
 Ho:i8 K a.HL
 Uy:Mk K a.HL a.acI
 Mj:aH K a.HL "tokens"
 Lx:aH K a.HL "at"
 K5:aH K a.HL "known"
 JR:aH K a.HL "functions"
 MJ:aH K a.HL "desks"
 KH:aH K a.HL "blocks"
 VA: ∃t,mg "EITHER"=GM (.int 0 t)
 Tx: ∃t,mg "BOTH"=GM (.int 1 t)
 RD: ∃t,mg "COMPARISON"=GM (.int 2 t)
 Tz: ∃t,mg "GREATEST"=GM (.int 1000000000000000000 t)
 TC: ∃t,mg "WORD"=GM (.int 0 t)
 PR: ∃t,mg "NUMBER"=GM (.int 1 t)
 VB: ∃t,mg "SIGN"=GM (.int 2 t)
 W9: ∃t,mg "END"=GM (.int 3 t)
 PU: ∃t,mg "WRONG"=GM (.int 4 t)
 QQ: ∃t,mg "LONGEST_WORD"=GM (.int 24 t)
 P7: ∃t,mg "LONGEST_NUMBER"=GM (.int 18 t)
 Qp: ∃t,mg "LINE_FEED"=GM (.int 10 t)
 Uz: ∃t,mg "COMMENT"=GM (.int 35 t)
 VC:mg "BLANKS"=GM (.ref a.R8)
 RE:mg "SIGNS"=GM (.ref a.K3)
 TF: ∃t,mg "SPELLING"=GM (.str "0123456789:;<=>?@ABCDEFGHIJKLMNOPQRSTUVWXYZ[\\]^_`abcdefghijklmnopqrstuvwxyz" t)
 Rc: ∃t,mg "WRONG_TOKEN"=GM (.int 1 t)
 Ph: ∃t,mg "NOT_HERE"=GM (.int 2 t)
 Qq: ∃t,mg "NOT_KNOWN"=GM (.int 3 t)
 Pj: ∃t,mg "NOT_FREE"=GM (.int 4 t)
 Sd: ∃t,mg "ARGUMENTS"=GM (.int 5 t)
 QR: ∃t,mg "TOO_DEEP"=GM (.int 6 t)
 QS: ∃t,mg "TOO_MANY"=GM (.int 7 t)
 Se:mg "KEY_WORDS"=GM (.ref a.Qn)
 L6:mg "FIRST_FUNCTIONS"=GM (.ref a.HM)
 Rf: ∃t,mg "MOST_LEVELS"=GM (.int 12 t)
 O9:mg "CHAIN_SIGNS"=GM (.ref a.Jx)
 Sf: ∃t,mg "REST_BYTE"=GM (.int 37 t)
 NU: ∃t,mg "UNARY_STRENGTH"=GM (.int 5 t)
 Qz: ∃t,mg "FULL_STRENGTH"=GM (.int 6 t)
 Rg: ∃t,mg "MOST_BRACES"=GM (.int 6 t)
 P8: ∃t,mg "MOST_FUNCTIONS"=GM (.int 6 t)
 PV: ∃t,mg "MOST_PARAMETERS"=GM (.int 6 t)
 QT: ∃t,mg "LONGEST_TEXT"=GM (.int 3000 t)
 VD:pU K a.R8 [.int 9, .int 10, .int 13, .int 32]
 Sg:pU K a.Qn [.str "const", .str "fun", .str "desk", .str "let", .str "for", .str "in", .str "if", .str "then", .str "else", .str "sell", .str "buy", .str "zone", .str "quarter", .str "price", .str "to", .str "amount", .str "block", .str "under", .str "group", .str "sum"]
 Sh:mg "Exception"=Id
 Xa:mg "abs"=Id
 aed:mg "all"=Id
 aee:mg "any"=Id
 Zp:mg "dict"=Id
 HN:mg "isinstance"=Id
 LR:mg "len"=Id
 aef:mg "max"=Id
 aeg:mg "min"=Id
 aeh:mg "ord"=Id
 aei:mg "str"=Id
 RF:mg "tuple"=Id
 aej:mg "zip"=Id
variable {P:Hm}{w:HS}{K:Gu}{mg:G0->GF Gy}{base:Ij}{a:bJ}
abbrev nb (c:JV):Int:=(c.toNat:Int)
def kb (c:JV):cf:=KA (nb c)
def eN:Gm (Gm cf×V):=Ic.map λs=>(s.map kb,V.str (dD s))
structure DF (K:Gu) (R:Gx) (m:G0) (f:Gx):Prop where
 sp:Pz K (.ref R) "__getattribute__"=GM (GM (.builtin "type.__getattribute__"))
 ty:Vl K (.ref R)=GM (.type "type")
 rd:PySem.W.readsIn K R (.type "type")=Ix
 fc:U1 K (.ref R) (.type "type") m=GM (.val (.ref f))
 kp:JO K (.ref f)=Ix
structure XT (K:Gu) (a:bJ):Prop where
 fc:ir K a.Ks a.Jj a.YN
 rm:DF K a.Ks "__init__" a.f_S
structure vU (P:Hm) (w:HS) (K:Gu) (a:Gx) (Iw:Gm (cf×V)):Prop where
 at_: ∃vs:Gm (cf×Gy),(∀h:Ij,K.In h->h.DictOf (bK P w) a vs)/\KV Iw vs
 len:Iw.length<=GV
 no:(a == JZ)=IN
def cv:Gm (cf×V):=[(.inr "min", .int 2),(.inr "max", .int 2),(.inr "abs", .int 1)]
end OS
namespace OS
open PySem PySem.Spec L2
open PyProof.Rows hiding St
variable {P:Hm}{w:HS}{K:Gu}{mg:G0->GF Gy}{base:Ij}{a:bJ}
def Bb (K:Gu) (ad:Gx) (rows:Gm (Gm V)):Prop:= ∃qs:Gm Gx,pU K ad (qs.map V.ref)/\Paired (λq xs=>pU K q xs) qs rows
def dN:Gm (Gm V):=[[.str "||"],[.str "&&"],[.str "==", .str "!=", .str "<=", .str ">=", .str "<", .str ">"],[.str "+", .str "-"],[.str "*", .str "/", .str "/rest"]]
end OS
namespace OS
open Vbemac
open PySem (Str)
def kg (n:GJ):G0:=G0.ofString (toString (n:Int))
abbrev tx (s:String):G0:=G0.ofString s
def pF (w:GJ) (e:Exp) (ps:Gm G0):Gm G0:=if strength e<w then tx "("::(ps++[tx ")"]) else ps
mutual
def xF:Exp->Gm G0
 | .num n=>[kg n]
 | .name x=>[sb x]
 | .call f l=>sb f::tx "("::(aF l++[tx ")"])
 | .neg e=>tx "-"::pF 5 e (xF e)
 | .not e=>tx "!"::pF 5 e (xF e)
 | .sums e r=>pF 4 e (xF e)++rF 4 r
 | .prods e r=>pF 5 e (xF e)++rF 5 r
 | .cmp op a b=>pF 3 a (xF a)++(tx " "::dD op::tx " "::pF 3 b (xF b))
 | .both e l=>pF 2 e (xF e)++mF 2 (tx "&&") l
 | .either e l=>pF 1 e (xF e)++mF 1 (tx "||") l
 | .pick c a b=>tx "if "::(xF c++(tx " then "::(xF a++(tx " else "::xF b))))
 | .sum x lo hi e=>tx "sum("::sb x::tx " in "::(xF lo++(tx " .. "::(xF hi++(tx ": "::(xF e++[tx ")"])))))
def aF:Exps->Gm G0
 | .nil=>[]
 | .cons e .nil=>xF e
 | .cons e l=>xF e++(tx ", "::aF l)
def mF (w:GJ) (g:G0):Exps->Gm G0
 | .nil=>[]
 | .cons e l=>tx " "::g::tx " "::(pF w e (xF e)++mF w g l)
def rF (w:GJ):Rest->Gm G0
 | .nil=>[]
 | .cons op e r=>tx " "::dD op::tx " "::(pF w e (xF e)++rF w r)
def fr:Exp->GJ
 | .num n=>if n<1000000000000000000 then 4 else 1000
 | .name _=>4
 | .call _ l=>4+ke l
 | .neg e=>2+fr e
 | .not e=>2+fr e
 | .sums e r=>3+max (fr e) (pG r)
 | .prods e r=>3+max (fr e) (pG r)
 | .cmp _ a b=>3+max (fr a) (fr b)
 | .both e l=>3+max (fr e) (ke l)
 | .either e l=>3+max (fr e) (ke l)
 | .pick c a b=>4+max (fr c) (max (fr a) (fr b))
 | .sum _ lo hi e=>4+max (fr lo) (max (fr hi) (fr e))
def ke:Exps->GJ
 | .nil=>0
 | .cons e l=>max (fr e) (ke l)
def pG:Rest->GJ
 | .nil=>0
 | .cons _ e r=>max (fr e) (pG r)
end
end OS
namespace OS
open Vbemac
open PySem (Str)
section
variable {t:JH}(h:TB t)
include h
end
end OS
namespace OS
open Vbemac
open PySem (Str)
def tw (w:String) (e:Exp):Gm G0:=tx " "::tx w::tx " "::xF e
def vR (w:String):GF Exp->Gm G0
 |none=>[]
 |some e=>tw w e
section
variable {t:JH}(h:TB t)
include h
end
end OS
namespace OS
open PySem PySem.Spec L2
open PyProof.Rows hiding St
variable {P:Hm}{w:HS}{K:Gu}{mg:G0->GF Gy}{base:Ij}{a:bJ}
def tj (a:bJ):Gm Gx:=[a.LX,a.OB,a.N9,a.Li,a.Kv,a.LG,a.OC,a.Mr,a.NQ,a.Qy,a.LN,a.KC,a.MT,a.O8,a.Oa]
structure jQ (K:Gu) (a:bJ):Prop where
 ty: ∀C∈tj a,Cl K C
 Zq:((tj a).map λC=>(tj a).map λD=>Jh K (.ref C) (.ref D))=(Nr 15).map λi=>(Nr 15).map λj=>GM (decide (i=j))
end OS
namespace OS
open PySem PySem.Spec L2
open PyProof.Rows hiding St
variable {P:Hm}{w:HS}{K:Gu}{mg:G0->GF Gy}{base:Ij}{a:bJ}
section
variable {k:GJ}
theorem gv (w:String) (e:Gz):vR w (GM e)=tw w e:=rfl
end
def dX (zs:Gm Int):Gm V:=zs.map V.int
structure XS (K:Gu) (a:bJ):Prop extends XT K a where
 ON:ir K a.Ks a.LQ a.YM
def dOf:Data->Gm O0
 | .dict es _=>es.toList
 |_=>[]
theorem Zr (h:dOf d=e::r): ∃es ep,d= .dict es ep/\es.toList=e::r:=by
 cases d with
 |dict es n=>exact#[es,n,IO,h]
 |_=>cases h
noncomputable def Si (K:Gu) (a:Gx):Gm O0:=((K.lookup a).map λo=>if o.cls= .type "dict"/\o.dict=Id/\o.slots.size=0 then dOf o.data else []).getD []
theorem xY {K:Gu}{a:Gx}(h:Si K a=e::r): ∃o es ep,K.lookup a=GM o/\o.ExactDict/\o.data= .dict es ep/\es.toList=e::r:=by
 unfold Si at h;cases q:K.lookup a with
 |none=>rw[q] at h;cases h
 |some o=>
  rw[q] at h;have h:(if o.cls= .type "dict"/\o.dict=Id/\o.slots.size=0 then dOf o.data else [])=e::r:=h
  by_cases c:o.cls= .type "dict"/\o.dict=Id/\o.slots.size=0
  .rw[GD c] at h
   obtain⟨es,n,h1,h2⟩:=Zr h;exact#[o,es,n,IO,#[c.1,c.2.1,Ky.eq_empty_of_size_eq_zero c.2.2],h1,h2]
  .rw[GB c] at h
   cases h
section
variable {a:Gx}
theorem Fb {mg:G0->GF Gy}(X:K.In h) (G:h.Ns N mg) (e:KW K N n=GM (GM v)):mg n=GM v:=by
 obtain⟨o,es,ep,ho,hd,_,hf⟩:=G;unfold KW at e;split at e
 .rename_i c d es' n' sl q
  have:=X _ _ q;rw[ho] at this;cases this;cases hd;split at e
  .rename_i en he
   cases e;rw[<-hf];unfold nsFind findBy;rw[<-Uq,he]
   rfl
  .split at e<;>cases e
 .cases e
def iOf:Gy->GF Int
 | .int i _=>GM i
 |_=>Id
def xOf:Gy->GF G0
 | .str i _=>GM i
 |_=>Id
def rOf:Gy->GF Gx
 | .ref i=>GM i
 |_=>Id
theorem wo (h:iOf v=GM i): ∃t,v= .int i t:=by
 cases v with
 |int j t=>cases h;exact#[t,IO]
 |_=>cases h
theorem xz (h:xOf v=GM i): ∃t,v= .str i t:=by
 cases v with
 |str j t=>cases h;exact#[t,IO]
 |_=>cases h
theorem B0 (h:rOf v=GM i):v= .ref i:=by
 cases v with
 |ref j=>cases h;rfl
 |_=>cases h
abbrev uZ {A:Type}(f:Gy->GF A) (l:Gm Gy):GF (Gm A):=l.mapM f
abbrev oE:=uZ iOf
abbrev oP:=uZ xOf
abbrev wK:=uZ rOf
theorem jy {A B:Type}{f:Gy->GF A}{g:A->B}{R:B->Gy->Prop}(hf: ∀v x,f v=GM x->R (g x) v): ∀ {vs:Gm Gy}{l:Gm A},uZ f vs=GM l->Paired R (l.map g) vs
 |[],l,h=>by cases h;exact .nil
 |v::r,l,h=>by
  rw[uZ,Gm.mapM_cons] at h;cases e:f v with
  |none=>rw[e] at h;cases h
  |some x=>
   cases q:r.mapM f with
   |none=>rw[e,q] at h;cases h
   |some l'=>rw[e,q] at h;cases h;exact .cons (hf v x e) (jy hf q)
def qOf:Data->GF (Ky Gy)
 | .seq Ji _=>GM Ji
 |_=>Id
theorem Zs (h:qOf d=GM Ji): ∃n,d= .seq Ji n:=by
 cases d with
 |seq es n=>cases h;exact#[n,IO]
 |_=>cases h
noncomputable def M7 (K:Gu) (a:Gx):GF (Gm Gy):=(K.lookup a).bind λo=>(qOf o.data).bind λJi=>if o.cls= .type "tuple"/\Ji.size<=1000 then GM Ji.toList else Id
theorem vx (h:M7 K a=GM l): ∃o Ji n,K.lookup a=GM o/\o.cls= .type "tuple"/\o.data= .seq Ji n/\Ji.size<=GV/\Ji.toList=l:=by
 obtain⟨o,h1,h⟩:=JJ.mp h;obtain⟨Ji,h2,h⟩:=JJ.mp h;obtain⟨n,h2⟩:=Zs h2;by_cases c:o.cls= .type "tuple"/\Ji.size<=1000
 .rw[GD c] at h
  exact#[o,Ji,n,h1,c.1,h2,GX c.2 [01],G7 h]
 .rw[GB c] at h
  cases h
theorem vE (h:oE vs=GM l):bH (l.map V.int) vs:=jy (λ_ _ e=>wo e) h
theorem tH (h:oP vs=GM l):bH (l.map V.str) vs:=jy (λ_ _ e=>xz e) h
theorem va (h:wK vs=GM l):bH (l.map V.ref) vs:=jy (λ_ _ e=>B0 e) h
theorem sK (h:M7 K a=GM vs) (v:bH xs vs):pU K a xs:=by
 obtain⟨o,Ji,n,h1,h2,h3,h4,h5⟩:=vx h;exact#[o,Ji,n,h1,h2,h3,h4,by rw[h5];exact v]
theorem BH (h:(M7 K a).bind oE=GM l):pU K a (l.map V.int):=by
 cases e:M7 K a with
 |none=>rw[e] at h;cases h
 |some vs=>rw[e] at h;exact sK e (vE h)
theorem um (h:(M7 K a).bind oP=GM l):pU K a (l.map V.str):=by
 cases e:M7 K a with
 |none=>rw[e] at h;cases h
 |some vs=>rw[e] at h;exact sK e (tH h)
noncomputable def T8 (K:Gu) (e:O0):GF (Int×Gm Int×G0):=(rOf e.key).bind λp=>(xOf e.val).bind λx=>((M7 K p).bind oE).map λl=>(e.hash,l,x)
theorem Dz (z:T8 K e=GM (h,l,x)): ∃p t,e.key= .ref p/\e.val= .str x t/\e.hash=h/\(M7 K p).bind oE=GM l:=by
 obtain⟨p,h1,z⟩:=JJ.mp z;obtain⟨x',h2,z⟩:=JJ.mp z;obtain⟨l',h3,z⟩:=IM.mp z;cases z;obtain⟨t,h2⟩:=xz h2;exact#[p,t,B0 h1,h2,IO,h3]
theorem Er (h:Paired (λk v=>(bK P w).is k v=Ix) ks vs):ItemsAre (bK P w) ks vs:=by
 induction h with
 |nil=>exact .nil
 |cons h _ i=>exact .cons h i
theorem AC (h:oE vs=GM l):ItemsAre (bK P w) (l.map λi=>(KA i:cf)) vs:=
 Er (jy (f:=iOf) (g:=λi=>(KA i:cf)) (λv i e=>by
  obtain⟨t,rfl⟩:=wo e;exact IG i) h)
theorem yB: ∀ {es:Gm O0}{L:Gm (Gm Int×G0)},es.map (T8 K)=(L.map λp=>GM (Vc (bK P w) (p.1.map λi=>(KA i:cf)),p.1,p.2))->
  ∃xs:Gm (Gm cf×Gx×Gy),Paired (λ(p:Gm cf×V) (q:Gm cf×Gx×Gy)=>p.1=q.1/\bD p.2 q.2.2) (L.map λp=>(p.1.map λi=>(KA i:cf),V.str p.2)) xs/\es=xs.map (entryOfKey (NZ (bK P w)))/\(xs.map (·.1))=(L.map λp=>p.1.map λi=>(KA i:cf))/\ ∀h:Ij,K.In h-> ∀x∈xs,(NZ (bK P w)).is h x.1 x.2.1
 |[],[],_=>#[[], .nil,IO,IO,λ_ _ _ z=>nomatch z]
 |[],_::_,h=>by cases h
 |_::_,[],h=>by cases h
 |e::es,p::L,h=>by
  rw[GZ,GZ] at h;obtain⟨h1,h2⟩:=Nm h;obtain⟨xs,k1,k2,k3,k4⟩:=yB h2;obtain⟨q,t,e1,e2,e3,e4⟩:=Dz h1;refine#[(p.1.map λi=>KA i,q, .str p.2 t)::xs, .cons #[IO,#[t,IO]] k1,?_,by rw[GZ,GZ,k3],λhp hK y hy=>?_]
  .rw[GZ,<-k2]
   congr 1
   obtain⟨eh,ek,ev⟩:=e;cases e1;cases e2;cases e3
   rfl
  .rcases Hc.mp hy with rfl|hy
   .cases z:M7 K q with
    |none=>rw[z] at e4;cases e4
    |some vs=>
     rw[z] at e4;obtain⟨o,Ji,n,g1,g2,g3,g4,g5⟩:=vx z;exact#[o,Ji,n,hK _ _ g1,g2,g3,by rw[g5];exact AC e4]
   .exact k4 hp hK y hy
theorem Zu {L:Gm (Gm Int×G0)}(ne:L≠[]) (h:(Si K a).map (T8 K)=(L.map λp=>GM (Vc (bK P w) (p.1.map λi=>(KA i:cf)),p.1,p.2))) (nd:(L.map λp=>p.1.map λi=>(KA i:cf)).Nodup) (no:(a == JZ)=IN):
  Be P w K a (L.map λp=>(p.1.map λi=>(KA i:cf),V.str p.2)):=by
 obtain⟨xs,k1,k2,k3,k4⟩:=yB (P:=P) (w:=w) h;cases he:Si K a with
 |nil=>rw[he] at h;exact GW (Gm.map_eq_nil_iff.mp h.symm) ne
 |cons e r=>
  obtain⟨o,es,ep,lk,ex,od,el⟩:=xY he;refine#[#[xs,λhp hK=>#[o,es,ep,hK a o lk,ex,od,by rw[el,<-he];exact k2,k4 hp hK,by rw[k3];exact nd],k1],no]
def Xb:Gm (Gm Int×G0):=Ic.map λs=>(s.map nb,dD s)
theorem Cf:eN=Xb.map λp=>(p.1.map λi=>(KA i:cf),V.str p.2):=by decide+kernel
theorem F8 {mg:G0->GF Gy}{a:bJ}(_:Txt K mg a) (e:(Si K a.K3).map (T8 K)=(Xb.map λp=>GM (Vc (bK P w) (p.1.map λi=>(KA i:cf)),p.1,p.2))) (no:(a.K3 == JZ)=IN):Be P w K a.K3 eN:=by
 rw[Cf];exact Zu [00] e [00] no
theorem ju {A:Type}{C:Gm A->Prop}{us:Gm A}(h:us.length=n+1) (k: ∀a r,r.length=n->C (a::r)):C us:=by
 cases us with
 |nil=>cases h
 |cons a r=>exact k a r (VR h)
theorem v0 {A:Type}{C:Gm A->Prop}{us:Gm A}(h:us.length=0) (k:C []):C us:=by
 cases us with
 |nil=>exact k
 |cons a r=>cases h
theorem v1 {A:Type}{C:Gm A->Prop}{us:Gm A}(h:us.length=1) (k: ∀a,C [a]):C us:=ju h λa r h=>v0 (C:=λr=>C (a::r)) h (k a)
theorem v2 {A:Type}{C:Gm A->Prop}{us:Gm A}(h:us.length=2) (k: ∀a b,C [a,b]):C us:=ju h λa r h=>v1 (C:=λr=>C (a::r)) h (k a)
theorem v3 {A:Type}{C:Gm A->Prop}{us:Gm A}(h:us.length=3) (k: ∀a b c,C [a,b,c]):C us:=ju h λa r h=>v2 (C:=λr=>C (a::r)) h (k a)
theorem v4 {A:Type}{C:Gm A->Prop}{us:Gm A}(h:us.length=4) (k: ∀a b c d,C [a,b,c,d]):C us:=ju h λa r h=>v3 (C:=λr=>C (a::r)) h (k a)
theorem v5 {A:Type}{C:Gm A->Prop}{us:Gm A}(h:us.length=5) (k: ∀a b c d e,C [a,b,c,d,e]):C us:=ju h λa r h=>v4 (C:=λr=>C (a::r)) h (k a)
theorem v6 {A:Type}{C:Gm A->Prop}{us:Gm A}(h:us.length=6) (k: ∀a b c d e f,C [a,b,c,d,e,f]):C us:=ju h λa r h=>v5 (C:=λr=>C (a::r)) h (k a)
theorem v7 {A:Type}{C:Gm A->Prop}{us:Gm A}(h:us.length=7) (k: ∀a b c d e f g,C [a,b,c,d,e,f,g]):C us:=ju h λa r h=>v6 (C:=λr=>C (a::r)) h (k a)
theorem v8 {A:Type}{C:Gm A->Prop}{us:Gm A}(h:us.length=8) (k: ∀a b c d e f g h,C [a,b,c,d,e,f,g,h]):C us:=ju h λa r h=>v7 (C:=λr=>C (a::r)) h (k a)
theorem u0 {fd:HX}{ps:Gm G0}{us:Gm Gy}(h:us.length=0) (k:IS fd #[[],[]]=Hz (ps.zip [])):IS fd #[us,[]]=Hz (ps.zip us):=v0 (C:=λus=>IS fd #[us,[]]=Hz (ps.zip us)) h k
theorem u1 {fd:HX}{ps:Gm G0}{us:Gm Gy}(h:us.length=1) (k: ∀a,IS fd #[[a],[]]=Hz (ps.zip [a])):IS fd #[us,[]]=Hz (ps.zip us):=v1 (C:=λus=>IS fd #[us,[]]=Hz (ps.zip us)) h k
theorem u2 {fd:HX}{ps:Gm G0}{us:Gm Gy}(h:us.length=2) (k: ∀a b,IS fd #[[a,b],[]]=Hz (ps.zip [a,b])):IS fd #[us,[]]=Hz (ps.zip us):=v2 (C:=λus=>IS fd #[us,[]]=Hz (ps.zip us)) h k
theorem u3 {fd:HX}{ps:Gm G0}{us:Gm Gy}(h:us.length=3) (k: ∀a b c,IS fd #[[a,b,c],[]]=Hz (ps.zip [a,b,c])):IS fd #[us,[]]=Hz (ps.zip us):=v3 (C:=λus=>IS fd #[us,[]]=Hz (ps.zip us)) h k
theorem u4 {fd:HX}{ps:Gm G0}{us:Gm Gy}(h:us.length=4) (k: ∀a b c d,IS fd #[[a,b,c,d],[]]=Hz (ps.zip [a,b,c,d])):IS fd #[us,[]]=Hz (ps.zip us):=v4 (C:=λus=>IS fd #[us,[]]=Hz (ps.zip us)) h k
theorem u5 {fd:HX}{ps:Gm G0}{us:Gm Gy}(h:us.length=5) (k: ∀a b c d e,IS fd #[[a,b,c,d,e],[]]=Hz (ps.zip [a,b,c,d,e])):IS fd #[us,[]]=Hz (ps.zip us):=v5 (C:=λus=>IS fd #[us,[]]=Hz (ps.zip us)) h k
theorem u6 {fd:HX}{ps:Gm G0}{us:Gm Gy}(h:us.length=6) (k: ∀a b c d e f,IS fd #[[a,b,c,d,e,f],[]]=Hz (ps.zip [a,b,c,d,e,f])):IS fd #[us,[]]=Hz (ps.zip us):=v6 (C:=λus=>IS fd #[us,[]]=Hz (ps.zip us)) h k
theorem u7 {fd:HX}{ps:Gm G0}{us:Gm Gy}(h:us.length=7) (k: ∀a b c d e f g,IS fd #[[a,b,c,d,e,f,g],[]]=Hz (ps.zip [a,b,c,d,e,f,g])):IS fd #[us,[]]=Hz (ps.zip us):=v7 (C:=λus=>IS fd #[us,[]]=Hz (ps.zip us)) h k
theorem u8 {fd:HX}{ps:Gm G0}{us:Gm Gy}(h:us.length=8) (k: ∀a b c d e f g h,IS fd #[[a,b,c,d,e,f,g,h],[]]=Hz (ps.zip [a,b,c,d,e,f,g,h])):IS fd #[us,[]]=Hz (ps.zip us):=v8 (C:=λus=>IS fd #[us,[]]=Hz (ps.zip us)) h k
theorem Gc {h:Ij}{mg:G0->GF Gy}(X:K.In h) (G:h.Ns Ke mg) {x:G0}{st:Stmt}{ps:Gm G0}{f:Gx}{oc:Gy}{od an:GF Gx}{sl:Ky (GF Gy)}{kV doc pm cd ct:Gy}
  (a:KW K Ke x=GM (GM (.ref f))) (l:K.lookup f=GM #[oc,od, .func (JB x x (eG st) (bq st) (ah st) .none kV doc pm an cd ct),sl]) (c:LW K cd x=Ix) (k:JO K (.ref f)=Ix)
  (hb: ∀(kV doc pm:Gy) (an:GF Gx) (IB ct:Gy) (us:Gm Gy),us.length=ps.length->IS (JB x x (eG st) (bq st) (ah st) .none kV doc pm an IB ct) #[us,[]]=Hz (ps.zip us)):
  ∃fd,cZ K mg x st ps f fd/\ ∀(s:GC) (us:Gm Gy),us.length=ps.length->SK s fd #[us,[]] (ps.zip us):=#[_,#[mr (st:=st) l c k,HC X G a,k,(mr (st:=st) l c k).binds hb],λs us hu=> .of_eq (hb _ _ _ _ _ _ us hu)]
theorem aM {h:Ij}{mg:G0->GF Gy}(X:K.In h) (G:h.Ns Ke mg) {x:G0}{st:Stmt}{ps:Gm G0}{f:Gx}{oc:Gy}{od an:GF Gx}{sl:Ky (GF Gy)}{kV doc pm cd ct:Gy}
  (z:KW K Ke x=GM (GM (.ref f))/\K.lookup f=GM #[oc,od, .func (JB x x (eG st) (bq st) (ah st) .none kV doc pm an cd ct),sl]/\LW K cd x=Ix/\JO K (.ref f)=Ix)
  (hb: ∀(kV doc pm:Gy) (an:GF Gx) (IB ct:Gy) (us:Gm Gy),us.length=ps.length->IS (JB x x (eG st) (bq st) (ah st) .none kV doc pm an IB ct) #[us,[]]=Hz (ps.zip us)):
  cZ K mg x st ps f (JB x x (eG st) (bq st) (ah st) .none kV doc pm an cd ct):=#[mr (st:=st) z.2.1 z.2.2.1 z.2.2.2,HC X G z.1,z.2.2.2,(mr (st:=st) z.2.1 z.2.2.1 z.2.2.2).binds hb]
theorem bG {x q:G0}{st:Stmt}{ps:Gm G0}{C f:Gx}{oc:Gy}{od an:GF Gx}{sl:Ky (GF Gy)}{kV doc pm cd ct:Gy}
  (z:Jm K (.ref C) x=GM (GM (.ref f))/\PK K (.ref f)=Ix/\K.lookup f=GM #[oc,od, .func (JB x q (eG st) (bq st) (ah st) .none kV doc pm an cd ct),sl]/\LW K cd q=Ix/\JO K (.ref f)=Ix)
  (hb: ∀(kV doc pm:Gy) (an:GF Gx) (IB ct:Gy) (us:Gm Gy),us.length=ps.length->IS (JB x q (eG st) (bq st) (ah st) .none kV doc pm an IB ct) #[us,[]]=Hz (ps.zip us)):
  hJ K C x q st ps f (JB x q (eG st) (bq st) (ah st) .none kV doc pm an cd ct):=#[mr (st:=st) z.2.2.1 z.2.2.2.1 z.2.2.2.2,#[z.1,z.2.1,z.2.2.2.2],(mr (st:=st) z.2.2.1 z.2.2.2.1 z.2.2.2.2).binds hb]
end
section
variable {a:Gx}
def cOf:Data->GF ClassData
 | .cls c=>GM c
 |_=>Id
theorem Zv (h:cOf d=GM c):d= .cls c:=by
 cases d with
 |cls c=>cases h;rfl
 |_=>cases h
theorem six {A:Type}{l:Ky A}{x:A}(h:l.toList.length=6):l.toList[4]?=GM x-> ∃a b c d f,l= [a,b,c,d,x,f].toArray:=by
 obtain⟨l⟩:=l;exact v6 (C:=λl=>l[4]?=GM x-> ∃a b c d f,(#[l]:Ky A)= [a,b,c,d,x,f].toArray) h λa b c d e f z=>by cases z;exact#[a,b,c,d,f,IO]
noncomputable def Zw (K:Gu) (C:Gx) (u:Gm Gx):GF Gx:=(K.lookup C).bind λo=>(cOf o.data).bind λcd=>
 if o.cls= .type "type"/\cd.mro= .ref C::(u.map Hj++dw)/\cd.hasDict=Ix/\cd.hasDel=IN/\o.slots.toList.length=6/\o.slots.toList[4]?=GM (GM (.builtin "Exception.__new__")) then GM cd.ns else Id
theorem xL (q:Zw K C u=GM N) (X:K.In h):XO h C N (u.map Hj++dw):=by
 obtain⟨o,h1,q⟩:=JJ.mp q;obtain⟨cd,h2,q⟩:=JJ.mp q;split at q
 .rename_i g
  obtain⟨g1,g2,g3,g4,g5,g6⟩:=g;cases q;obtain⟨k0,k1,k2,k3,k5,g5⟩:=six g5 g6;have h2:=Zv h2;obtain⟨nm,bs,mro,ns,qn,hd,sn,sub,ab,col,EK⟩:=cd;obtain⟨cl,dd,da,sl⟩:=o;cases g1;cases g2;cases g3;cases g4;cases h2;cases g5;exact#[nm,qn,bs,sn,sub,ab,col,dd,k0,k1,k2,k3,k5,X _ _ h1]
 .cases q
theorem xN {mg:G0->GF Gy}(_:K.In h0) (_:mg x=GM (.ref C)) (_:mg "Refusal"=GM (.ref R)) (l:Zw K C [R]=GM N)
  (Jy:Vm K N=Ix) (hi:KW K N "__init__"=GM (GM (.ref fI))) (hq:(dH.map λn=>KW K N n)=dH.map λ_=>GM Id) (lI:((K.lookup fI).map λo=>o.cls)=GM (.type "function")) (kp:JO K (.ref C)=Ix)
  (lR:Zw K R []=GM NR) (aek:Vm K NR=Ix) (hqR:(dH.map λn=>KW K NR n)=dH.map λ_=>GM Id):ir K R C fI:=by
 obtain⟨oI,lI,cI⟩:=IM.mp lI;refine#[λh X=>?_,kp];have ns:h.Ns N (h.nsMap N):= .of_isNs (Tg X Jy);have nR:h.Ns NR (h.nsMap NR):= .of_isNs (Tg X aek);have all: ∀ {M:Gx},(dH.map λn=>KW K M n)=(dH.map λ_=>GM Id)-> ∀n∈dH,KW K M n=GM Id:=λe=>Gm.map_inj_left.mp e
 exact#[N,h.nsMap N,oI,NR,h.nsMap NR,xL l X,ns,Fb X ns hi,λn hn=>Q6 X Jy (all hq n hn),X _ _ lI,cI,xL lR X,nR,λn hn=>Q6 X aek (all hqR n hn)]
end
def yf (e:O0):GF (Int×G0×Int):=(xOf e.key).bind λx=>(iOf e.val).map λi=>(e.hash,x,i)
theorem Dn (z:yf e=GM (h,x,i)): ∃t u,e.key= .str x t/\e.val= .int i u/\e.hash=h:=by
 obtain⟨x',h1,z⟩:=JJ.mp z;obtain⟨i',h2,z⟩:=IM.mp z;cases z;obtain⟨t,h1⟩:=xz h1;obtain⟨u,h2⟩:=wo h2;exact#[t,u,h1,h2,IO]
section
variable {a:Gx}
theorem yT: ∀ {es:Gm O0}{L:Gm (G0×Int)},es.map yf=(L.map λp=>GM (hashStr w p.1,p.1,p.2))->
  ∃vs:Gm (cf×Gy),KV (L.map λp=>((Js p.1:cf),V.int p.2)) vs/\PySem.Pairs (bK P w) es vs/\(vs.map (·.1))=(L.map λp=>(Js p.1:cf))/\ ∀e∈es,∃k,(bK P w).is k e.key=Ix/\e.hash=(bK P w).hash k
 |[],[],_=>#[[], .nil, .nil,IO,λ_ z=>nomatch z]
 |[],_::_,h=>by cases h
 |_::_,[],h=>by cases h
 |e::es,p::L,h=>by
  rw[GZ,GZ] at h;obtain⟨h1,h2⟩:=Nm h;obtain⟨vs,k1,k2,k3,k4⟩:=yT h2;obtain⟨t,u,e1,e2,e3⟩:=Dn h1;have is:(bK P w).is (Js p.1) e.key=Ix:=by rw[e1];show Pp p.1 (.str p.1 t)=Ix;simp [Pp]
  refine#[(Js p.1, .int p.2 u)::vs, .cons #[IO,#[u,IO]] k1, .cons is e2 k2,by rw[GZ,GZ,k3],λy hy=>?_];rcases Hc.mp hy with rfl|hy
  .exact#[Js p.1,is,e3]
  .exact k4 y hy
theorem Zx {p:G0×Int}{L:Gm (G0×Int)}(h:(Si K a).map yf=((p::L).map λp=>GM (hashStr w p.1,p.1,p.2))) (nd:((p::L).map (·.1)).Nodup) (len:(p::L).length<=GV) (no:(a == JZ)=IN):
  vU P w K a ((p::L).map λp=>((Js p.1:cf),V.int p.2)):=by
 obtain⟨vs,k1,k2,k3,k4⟩:=yT (P:=P) h;cases he:Si K a with
 |nil=>rw[he] at h;cases h
 |cons e r=>
  obtain⟨o,es,ep,lk,ex,od,el⟩:=xY he;rw[he,<-el] at k2;rw[he] at k4;refine#[#[vs,λhp hK=>#[o,es,ep,hK a o lk,ex,od,λy hy=>k4 y (by rw[<-el];exact Te.mpr hy),k2,?_],k1],by rw[GG];exact len,no];rw[k3,GZ];rw[show(λp:G0×Int=>(Js p.1:cf))=(λx=>Js x) ∘ (λp:G0×Int=>p.1) from IO];rw[show(Js p.1:cf)::L.map ((λx=>(Js x:cf)) ∘ λp=>p.1)=((p::L).map (·.1)).map (λx=>(Js x:cf)) by rw[GZ,GZ,JT]];exact Gm.Pairwise.map (λx=>(Js x:cf)) (λ_ _ h z=>h (Mq z)) nd
theorem xG: ∀ {qs:Gm Gx}{rows:Gm (Gm G0)},(qs.map λq=>(M7 K q).bind oP)=rows.map GM->Paired (λq xs=>pU K q xs) qs (rows.map λr=>r.map V.str)
 |[],[],_=> .nil
 |[],_::_,h=>by cases h
 |_::_,[],h=>by cases h
 |q::qs,r::rows,h=>by
  rw[GZ,GZ] at h;obtain⟨h1,h2⟩:=Nm h;exact .cons (um h1) (xG h2)
theorem Zy {qs:Gm Gx}{rows:Gm (Gm G0)}(h:(M7 K a).bind wK=GM qs) (h2:(qs.map λq=>(M7 K q).bind oP)=rows.map GM):Bb K a (rows.map λr=>r.map V.str):=by
 cases e:M7 K a with
 |none=>rw[e] at h;cases h
 |some vs=>rw[e] at h;exact#[qs,sK e (va h),xG h2]
theorem E2 {mg:G0->GF Gy}{a:bJ}(_:Txt K mg a) (e:(Si K a.HM).map yf=(([("min",2),("max",2),("abs",1)]:Gm (G0×Int)).map λp=>GM (hashStr w p.1,p.1,p.2))) (no:(a.HM == JZ)=IN):vU P w K a.HM cv:=Zx (p:=("min",2)) (L:=[("max",2),("abs",1)]) e [00] [01] no
theorem Gg {mg:G0->GF Gy}{a:bJ}(_:Txt K mg a) (e:(((M7 K a.Jx).bind wK).map λqs=>qs.map λq=>(M7 K q).bind oP)=GM (([["||"],["&&"],["==","!=","<=",">=","<",">"],["+","-"],["*","/","/rest"]]:Gm (Gm G0)).map GM)):Bb K a.Jx dN:=by
 obtain⟨qs,e1,e2⟩:=IM.mp e;exact Zy e1 e2
end
inductive pH (K:Gu) (vs:Gm V) (H:Hp) (Q:VK) (_E:XK):Prop
 |mk (l:Gx) (zs:Gm Int) (_:vs=[.ref l]) (_:cK K H l (dX zs)) (_:zs.length<=4000) (_: ∀(H':Hp) (p:Gx),H' p=GM (.lst (dX (O2 zs)))->Q (.ref p) H'):pH K vs H Q _E
section
variable {k:GJ}
theorem ael {mg:G0->GF Gy}{a:bJ}(_:Txt K mg a) (c:DF K a.Ks "__init__" a.f_S) (x0:ir K a.Ks a.Jj a.YN) (x4:ir K a.Ks a.LQ a.YM):XS K a:=#[#[x0,c],x4]
def Aa (K:Gu):Gm Gx->Prop
 |[]=>True
 |C::l=>Cl K C/\Aa K l
theorem uB {C:Gx} : ∀ {l:Gm Gx},Aa K l->C∈l->Cl K C
 |D::l,h,m=>by
  rcases Hc.mp m with z|z
  .rw[z];exact h.1
  .exact uB h.2 z
theorem DC:Aa K []:=trivial
theorem cr {C:Gx}{l:Gm Gx}(h:Cl K C) (t:Aa K l):Aa K (C::l):=#[h,t]
theorem Zz {a:bJ}(t:Aa K (tj a)) (Zq:((tj a).map λC=>(tj a).map λD=>Jh K (.ref C) (.ref D))=(Nr 15).map λi=>(Nr 15).map λj=>GM (decide (i=j))):jQ K a:=#[λC h=>uB t h,Zq]
end
end OS
set_option hygiene false in
local macro_rules
|`(command|#synth [$n,*])=>do
 let t:=λc:Lean.Name=>do
  let i:=Lean.mkIdent (.str `PySem.W.Fast s!"tw{c.hash}")
  `(theorem $i:ident:True:=trivial)
 let f:=λ(k:String) (i:Nat)=>t (.str `OS.hd s!"{k}_{i}")
 let a<-(Array.range 1333).mapM (f "o")
 let b<-n.getElems.mapM λx=>match x with|`($k:ident*$i:num)=>f k.getId.toString i.getNat|x=>t x.getId
 return Lean.mkNullNode ((a++b).map (·.raw))
#synth [heap*1333,tree*1332,tree*1262,tree*1176,heap*1,tree*1096,tree*1007,tree*916,tree*750,tree*835,view*1,tree*620,PySem.Challenge.pw_ordersheets_s05_fold,tree*583,tree*522,tree*496,tree*472,tree*422,tree*400,tree*377,tree*354,tree*331,tree*308,tree*285,tree*262,tree*239,tree*216,tree*193,sts*1008,sts*917,sts*1097,sts*839,tree*170,sts*1177,sts*584,tree*147,sts*1263,sts*623,tree*124,tree*101,sts*423,tree*78,sts*526,sts*473,sts*497,tree*55,sts*286,sts*240,tree*32,sts*148,sts*194,sts*10,sts*355,sts*332,sts*217,sts*102,sts*125,sts*378,sts*263,sts*56,sts*79,sts*309,sts*171,sts*401,sts*33,heap*7,tree*8,env*2]
section
open PySem PySem.W PyProof.Rows
set_option hygiene false
local macro_rules
|`(tactic|o_headS ($_ $k $a $e))=>`(tactic|o_headS ((OS.hook $k $a $e):PySem.W.Hook))
local macro_rules
|`(?hc)=>`(OS.ap Z ?hcc)
|`([0x0])=>`((by kernel_rfl))
|`([0x1])=>`(#[_,HC KX G (by exact IO)])
|`([0x3])=>`(OS.noAttr (by kernel_rfl))
|`([0x4])=>`(#[by kernel_rfl,by kernel_rfl,by kernel_rfl,by kernel_rfl])
|`([0x5])=>`(#[by exact IO,by exact IO,by kernel_rfl,by kernel_rfl])
|`([0x6])=>`(#[by exact IO,by kernel_rfl,by exact IO,by kernel_rfl,by kernel_rfl])
|`([0x2])=>`(#[by kernel_rfl,by kernel_rfl,by kernel_rfl,by kernel_rfl,by kernel_rfl])
def OS.Zt:Prop:= ∀ {P:Hm}{w:HS}{K:Gu}{mg:G0->GF Gy}{base:Ij}{a:OS.bJ}(_:OS.Txt K mg a) (_:OS.XS K a) (_:OS.Be P w K a.K3 OS.eN) (_:OS.vU P w K a.HM OS.cv) (_:OS.Bb K a.Jx OS.dN) (_:OS.jQ K a),L2.b8 P w K mg base L2.nF 278 a.f_b a.Vp ["text"] (OS.pH K)
theorem OS.noAttr {K:Gu}{C:Gx}{f:G0}(h:Jm K (.ref C) f=GM Id):L2.aH K C f:=h
theorem OS.ap {P:Prop}(z:OS.Zt) (h:OS.Zt->P):P:=h z
set_option maxRecDepth 100000 in
set_option maxHeartbeats 0 in
theorem OS.hd (Z:OS.Zt):PySem.Challenge.rw_ordersheets_s05_fold.Holds:=by
 have W:=OS.abl
 w_on;k_headS;(case hw=>exact#[[.list []],by decide+kernel,by decide+kernel])
 k_fillS
 intro Z;refine L2.wl (r:=PySem.Challenge.rw_ordersheets_s05_fold) (k:=278) (CX:=L2.nF) (ps:=["text"]) (sp:=OS.pH) [00] IO IO #[IO,by decide,by decide] (λw h Y=>OS.U6 Y) ?F ?S (λ_ _ _ _ z=>z)
 case F=>
  intro w mg fa h Y KX G hmg;obtain⟨Vp,d_b,ai4⟩:=OS.Gc (x:="fold") (st:=OS.s_b) (ps:=["text"]) KX G (by exact IO) (by exact IO) (by exact IO) (by exact IO) [04];have T:OS.Txt _ mg ⟨_,_,_,_,_,_,_,_,_,_,_,_,_,_,_,_,_,_,_,_,_,_,_,_,_,_,_,_,_,_,_,_,_,_,_,_,_,_,_,_,_,_,_,_,_,_,_,_,_,_,_,_,_,_,_,_,_,_,_,_,_,_,_,_,_,_,_,_,_,_,_,_,_,_,_,_,_,_,_,_,_,_,_,_,_,_,_,_,_,_,_,_,_,_,_,_,_,_,_,_,_,_,_,_,_,_,_,_,_,_,_,_,_,_,_,_,_,_,_,_,_,_,_,_,_,_,_,_,_,_,_,_,_,_,_,_,_,_,_,_,_,_,_,_,_,_,_,_,_,_,_,_,_,_,_,_,_,_,_,_,_,_,_,_,_,_,_,_,_,_,_,_,_,_,_,_,_,_,_,_,_,_,_,_,_,_,_,_,_,_,_,_,_,_,_,_,_,_,_,_,_,_,_,_,_,_,_,_,_,_,_,_,_,_,_,_,_,_,_,_,_,_,_,_,_,_,_,_,_,_,_,_,_,_,_,_,_,_,_,_,_,_,_,_,_,_,_,_,_,_,_,_,_,_,_,_,_,_,_,_,_,_,_,_,_,_,_,_,_,_,_,Vp⟩:=#[(HC KX G (by exact IO)),(HC KX G (by exact IO)),(HC KX G (by exact IO)),(HC KX G (by exact IO)),(HC KX G (by exact IO)),(HC KX G (by exact IO)),(HC KX G (by exact IO)),(HC KX G (by exact IO)),(HC KX G (by exact IO)),(HC KX G (by exact IO)),(HC KX G (by exact IO)),(HC KX G (by exact IO)),(HC KX G (by exact IO)),(HC KX G (by exact IO)),(HC KX G (by exact IO)),(HC KX G (by exact IO)),(HC KX G (by exact IO)),(HC KX G (by exact IO)),(HC KX G (by exact IO)),(HC KX G (by exact IO)),(HC KX G (by exact IO)),(OS.bG [0x6] [06]),(OS.bG [0x6] [06]),(OS.bG [0x6] (λ_ _ _ _ _ _ us hl=>OS.u3 hl λ_ _ _=>[0x0])),(OS.bG [0x6] (λ_ _ _ _ _ _ us hl=>OS.u3 hl λ_ _ _=>[0x0])),(OS.bG [0x6] (λ_ _ _ _ _ _ us hl=>OS.u4 hl λ_ _ _ _=>[0x0])),(OS.bG [0x6] (λ_ _ _ _ _ _ us hl=>OS.u4 hl λ_ _ _ _=>[0x0])),(OS.bG [0x6] (λ_ _ _ _ _ _ us hl=>OS.u5 hl λ_ _ _ _ _=>[0x0])),(OS.bG [0x6] (λ_ _ _ _ _ _ us hl=>OS.u3 hl λ_ _ _=>[0x0])),(OS.bG [0x6] (λ_ _ _ _ _ _ us hl=>OS.u5 hl λ_ _ _ _ _=>[0x0])),(OS.bG [0x6] (λ_ _ _ _ _ _ us hl=>OS.u4 hl λ_ _ _ _=>[0x0])),(OS.bG [0x6] (λ_ _ _ _ _ _ us hl=>OS.u7 hl λ_ _ _ _ _ _ _=>[0x0])),(OS.bG [0x6] (λ_ _ _ _ _ _ us hl=>OS.u3 hl λ_ _ _=>[0x0])),(OS.bG [0x6] (λ_ _ _ _ _ _ us hl=>OS.u8 hl λ_ _ _ _ _ _ _ _=>[0x0])),(OS.bG [0x6] (λ_ _ _ _ _ _ us hl=>OS.u3 hl λ_ _ _=>[0x0])),(OS.bG [0x6] (λ_ _ _ _ _ _ us hl=>OS.u4 hl λ_ _ _ _=>[0x0])),(OS.bG [0x6] (λ_ _ _ _ _ _ us hl=>OS.u3 hl λ_ _ _=>[0x0])),(OS.bG [0x6] [06]),(OS.bG [0x6] [04]),(OS.bG [0x6] (λ_ _ _ _ _ _ us hl=>OS.u4 hl λ_ _ _ _=>[0x0])),(OS.aM KX G [0x5] [06]),(OS.aM KX G [0x5] (λ_ _ _ _ _ _ us hl=>OS.u3 hl λ_ _ _=>[0x0])),(OS.aM KX G [0x5] (λ_ _ _ _ _ _ us hl=>OS.u3 hl λ_ _ _=>[0x0])),(OS.aM KX G [0x5] [06]),(OS.aM KX G [0x5] [06]),(OS.aM KX G [0x5] [06]),[09],(OS.bG [0x6] (λ_ _ _ _ _ _ us hl=>OS.u5 hl λ_ _ _ _ _=>[0x0])),[09],[09],(OS.aM KX G [0x5] [06]),(OS.aM KX G [0x5] [06]),(OS.aM KX G [0x5] [06]),(OS.aM KX G [0x5] [06]),(OS.aM KX G [0x5] (λ_ _ _ _ _ _ us hl=>OS.u3 hl λ_ _ _=>[0x0])),[09],(OS.aM KX G [0x5] [06]),[09],(OS.bG [0x6] [06]),(OS.bG [0x6] [04]),(OS.bG [0x6] [06]),(OS.bG [0x6] [06]),(OS.bG [0x6] [04]),(OS.bG [0x6] [04]),(OS.bG [0x6] [04]),(OS.bG [0x6] [04]),(OS.bG [0x6] [04]),(OS.bG [0x6] [06]),(OS.bG [0x6] [06]),(OS.bG [0x6] [04]),(OS.bG [0x6] [04]),(OS.bG [0x6] [06]),(OS.bG [0x6] [06]),(OS.bG [0x6] [06]),(OS.aM KX G [0x5] [06]),(OS.aM KX G [0x5] [06]),(OS.aM KX G [0x5] [06]),(OS.aM KX G [0x5] (λ_ _ _ _ _ _ us hl=>OS.u3 hl λ_ _ _=>[0x0])),(OS.aM KX G [0x5] [06]),(OS.aM KX G [0x5] [06]),(OS.aM KX G [0x5] [06]),(OS.aM KX G [0x5] [06]),(OS.aM KX G [0x5] [06]),(OS.aM KX G [0x5] [06]),[09],[09],[09],(OS.aM KX G [0x5] [06]),(OS.aM KX G [0x5] [06]),(OS.aM KX G [0x5] [06]),[09],[09],(OS.aM KX G [0x5] [06]),[09],[09],(OS.aM KX G [0x5] [06]),[09],[09],[09],[09],[09],[09],[09],[09],[09],[09],[09],[09],[09],[09],[09],[09],[09],[09],(OS.aM KX G [0x5] [06]),(OS.aM KX G [0x5] [06]),(OS.aM KX G [0x5] (λ_ _ _ _ _ _ us hl=>OS.u3 hl λ_ _ _=>[0x0])),[09],[09],[09],[09],[09],[09],[09],(OS.aM KX G [0x5] [06]),(OS.aM KX G [0x5] [06]),[09],(OS.aM KX G [0x5] [06]),(OS.aM KX G [0x5] [06]),[09],(OS.aM KX G [0x5] [06]),(OS.aM KX G [0x5] [06]),(OS.aM KX G [0x5] [06]),[09],(OS.aM KX G [0x5] [06]),(OS.aM KX G [0x5] [06]),[09],[09],[09],[09],[09],[09],[09],d_b,[0x4],[0x4],[0x3],[0x4],[0x4],[0x3],[0x4],[0x4],[0x3],[0x3],[0x4],[0x4],[0x3],[0x3],[0x4],[0x4],[0x3],[0x3],[0x3],[0x4],[0x4],[0x3],[0x3],[0x3],[0x4],[0x4],[0x3],[0x3],[0x3],[0x3],[0x4],[0x4],[0x3],[0x3],[0x4],[0x4],[0x3],[0x3],[0x3],[0x3],[0x4],[0x4],[0x3],[0x3],[0x3],[0x4],[0x4],[0x3],[0x3],[0x3],[0x3],[0x3],[0x3],[0x4],[0x4],[0x3],[0x3],[0x4],[0x4],[0x3],[0x3],[0x3],[0x3],[0x3],[0x3],[0x3],[0x4],[0x4],[0x3],[0x3],[0x4],[0x4],[0x3],[0x3],[0x3],[0x4],[0x4],[0x3],[0x3],[0x4],[0x4],[0x3],[0x3],[0x3],[0x3],[0x4],[0x4],[0x3],[0x3],[0x3],[0x3],[0x3],[0x3],[0x1],[0x1],[0x1],[0x1],[0x1],[0x1],[0x1],[0x1],[0x1],[0x1],[0x1],[0x1],[0x1],(HC KX G (by exact IO)),(HC KX G (by exact IO)),[0x1],[0x1],[0x1],[0x1],[0x1],[0x1],[0x1],[0x1],(HC KX G (by exact IO)),(HC KX G (by exact IO)),[0x1],(HC KX G (by exact IO)),[0x1],[0x1],[0x1],[0x1],[0x1],[0x1],[0x1],(OS.BH (l:=[9,10,13,32]) [0x0]),(OS.um (l:=["const","fun","desk","let","for","in","if","then","else","sell","buy","zone","quarter","price","to","amount","block","under","group","sum"]) [0x0]),(IE KX G [0x0]),(IE KX G [0x0]),(IE KX G [0x0]),(IE KX G [0x0]),(IE KX G [0x0]),(IE KX G [0x0]),(IE KX G [0x0]),(IE KX G [0x0]),(IE KX G [0x0]),(IE KX G [0x0]),(IE KX G [0x0]),(IE KX G [0x0]),(IE KX G [0x0])]
  have kS:=OS.F8 T (P:=PySem.Challenge.rw_ordersheets_s05_fold.prog) (w:=w) [0x0] IO
  have kF:=OS.E2 T (P:=PySem.Challenge.rw_ordersheets_s05_fold.prog) (w:=w) [0x0] IO
  have KT:=OS.Gg T [0x0]
  have XC:=OS.ael T [0x2] (OS.xN KX T.QP T.MZ (by exact IO) [0x0] [0x0] [0x0] [0x0] [0x0] (by exact IO) [0x0] [0x0]) (OS.xN KX T.PM T.MZ (by exact IO) [0x0] [0x0] [0x0] [0x0] [0x0] (by exact IO) [0x0] [0x0]);cases hmg.symm.trans d_b.c.m;exact#[Vp,ai4,λbase _ _=>Z T XC kS kF KT (OS.Zz (OS.cr #[T.NS,[0x0],[0x0],[0x0],[0x0]] (OS.cr #[T.RC,[0x0],[0x0],[0x0],[0x0]] (OS.cr #[T.Nt,[0x0],[0x0],[0x0],[0x0]] (OS.cr #[T.Lq,[0x0],[0x0],[0x0],[0x0]] (OS.cr #[T.K4,[0x0],[0x0],[0x0],[0x0]] (OS.cr #[T.K9,[0x0],[0x0],[0x0],[0x0]] (OS.cr #[T.OE,[0x0],[0x0],[0x0],[0x0]] (OS.cr #[T.Pd,[0x0],[0x0],[0x0],[0x0]] (OS.cr #[T.OI,[0x0],[0x0],[0x0],[0x0]] (OS.cr #[T.PQ,[0x0],[0x0],[0x0],[0x0]] (OS.cr #[T.Lj,[0x0],[0x0],[0x0],[0x0]] (OS.cr #[T.JY,[0x0],[0x0],[0x0],[0x0]] (OS.cr #[T.NT,[0x0],[0x0],[0x0],[0x0]] (OS.cr #[T.OL,[0x0],[0x0],[0x0],[0x0]] (OS.cr #[T.OX,[0x0],[0x0],[0x0],[0x0]] OS.DC))))))))))))))) [0x0])]
 case S=>
  intro K H xs a hO hwi ak3 hx;cases hx with
  |cons h1 h2=>
   cases h2;cases h1 with
   |lst hs ha=>
    have e:=L2.xS a.1 _ ha;subst e
    have q:((Codec.inLen 0 4000 a.1&&a.1.all (Codec.inInt (-1000000000000000000) 1000000000000000000))&&Ix)=Ix:=hwi;rw[Jt,Jt] at q;exact#[_,a.1,IO,hs,(Codec.inNat_iff.mp q.1.1).2,λH' p hp=> .lst (L2.cK.of hp) (L2.yS _)]
end

namespace L2
open PySem PySem.Spec PyProof.Rows
theorem Ao (i:Int) (t:Tok):rj (.inl i) (.int i t)=Ix:=by simp [rj,Gy.isInt]
theorem AX (x:G0) (t:Tok):rj (.inr x) (.str x t)=Ix:=by simp [rj,Pp]
theorem uu (prog:Hm) (w:HS) (i:Int) (t:Tok):(bK prog w).is (.inl i) (.int i t)=Ix:=Ao i t
theorem vw (prog:Hm) (w:HS) (x:G0) (t:Tok):(bK prog w).is (.inr x) (.str x t)=Ix:=AX x t
theorem bH.length {xs:Gm V}(r:bH xs us):xs.length=us.length:=Rk r
theorem bH.get: ∀ {xs:Gm V}{us:Gm Gy}{i:GJ}{x:V},bH xs us->xs[i]?=GM x-> ∃u,us[i]?=GM u/\bD x u
 |_,_,_,_, .nil,e=>by simp at e
 |_,_,0,_, .cons r _,e=>by simp at e;subst e;exact#[_,IO,r]
 |_,_,i+1,x, .cons _ t,e=>by
  obtain⟨u,h1,h2⟩:=bH.get (i:=i) (x:=x) t (by simpa using e);exact#[u,by simpa using h1,h2]
theorem bH.append: ∀ {xs ys:Gm V}{us ws:Gm Gy},bH xs us->bH ys ws->bH (xs++ys) (us++ws)
 |_,_,_,_, .nil,s=>s
 |_,_,_,_, .cons r t,s=> .cons r (bH.append t s)
theorem bH.take: ∀ {xs:Gm V}{us:Gm Gy}(n:GJ),bH xs us->bH (xs.take n) (us.take n)
 |_,_,0,_=> .nil
 |_,_,_+1, .nil=> .nil
 |_,_,n+1, .cons r t=> .cons r (bH.take n t)
theorem bH.drop: ∀ {xs:Gm V}{us:Gm Gy}(n:GJ),bH xs us->bH (xs.drop n) (us.drop n)
 |_,_,0,r=>r
 |_,_,_+1, .nil=> .nil
 |_,_,n+1, .cons _ t=>bH.drop n t
def bf (H:Hp) (a:Gx) (o:HO):Hp:=λb=>if b=a then GM o else H b
theorem aj {H:Hp}{a:Gx}{o:HO} :bf H a o a=GM o:=by unfold bf;rw[GD IO]
theorem af {H:Hp}{a b:Gx}{o:HO}(h:b≠a):bf H a o b=H b:=by unfold bf;rw[GB h]
theorem aem {H:Hp}{a b:Gx}{o u:HO}(h:H a=GM o) (h':H b=GM u) (d:o≠u):a≠b:=by
 intro e;subst e;rw[h] at h';exact d (G7 h')
theorem aw {H:Hp}{a b:Gx}{o:HO}(h:H a=GM o) (h':H b=Id):a≠b:=by
 intro e;subst e;rw[h] at h';cases h'
section
variable {P:Hm}{w:HS}{H H':Hp}{h h':Ij}{a:Gx}{o:HO}
theorem cJ.lt (x:cJ P w H h a o):a<h.objs.size:=by
 cases o with
 |lst xs=>obtain⟨_,_,_,_,e⟩:=x;exact Hg e
 |tup xs=>obtain⟨_,_,_,p⟩:=x;exact p.lt
 |dK Iw=>obtain⟨_,_,_,_,o,_,_,e,_⟩:=x;exact Hg e
 |dT Iw=>obtain⟨_,_,_,_,o,_,_,e,_⟩:=x;exact Hg e
 |set S n=>obtain⟨o,_,_,_,e,_⟩:=x;exact Hg e
 |ins C dx fs=>obtain⟨_,_,_,e,_⟩:=x;exact Hg e
 |own y=>obtain⟨_,e⟩:=x;exact Hg e
 |xd fs=>obtain⟨_,⟨_,_,_,e,_⟩,_⟩:=x;exact Hg e
 |rng lo hi=>obtain⟨_,_,_,e⟩:=x;exact Hg e
 |QM ob u=>obtain⟨e,_⟩:=x;exact Hg e
 |YH ps=>exact Hg (show h.get? a=GM _ from x)
 |met f y=>exact Hg (show h.get? a=GM _ from x)
 |ext φ=>obtain⟨_,⟨_,e⟩,_⟩:=x;exact Hg e
theorem Paired.Np {α β:Type}{F G:α->β->Prop} : ∀ {l₁:Gm α}{l₂:Gm β},Paired F l₁ l₂->(∀a b,F a b->G a b)->Paired G l₁ l₂
 |_,_, .nil,_=> .nil
 |_,_, .cons r t,f=> .cons (f _ _ r) (Paired.Np t f)
theorem cJ.QU (x:cJ P w H h a o) (k: ∀b u,(b=a\/H b=GM (.own a))->h.get? b=GM u->h'.get? b=GM u)
  (ho: ∀b,H b=GM (.own a)->H' b=GM (.own a)) (ht: ∀b xs,H b=GM (.tup xs)->H' b=GM (.tup xs)):cJ P w H' h' a o:=by
 induction o with
 |lst xs=>obtain⟨z,Ji,n,r,e⟩:=x;exact#[z,Ji,n,r,k _ _ (.inl IO) e]
 |tup xs=>obtain⟨z,Ji,r,ob,e,c⟩:=x;exact#[z,Ji,r,ob,k _ _ (.inl IO) e,c]
 |dK Iw=>obtain⟨z,y,vs,r,ob,es,ep,e,c⟩:=x;exact#[z,y,vs,r,ob,es,ep,k _ _ (.inl IO) e,c]
 |dT Iw=>
  obtain⟨z,y,xs,r,ob,es,ep,e,c⟩:=x;exact#[z,y,xs,Paired.Np r λp q z=>#[z.1,ht _ _ z.2.1,z.2.2],ob,es,ep,k _ _ (.inl IO) e,c]
 |set S n=>obtain⟨ob,es,ep,t,e,c⟩:=x;exact#[ob,es,ep,t,k _ _ (.inl IO) e,c]
 |ins C dx fs=>
  obtain⟨d,z,ne,e,mA,⟨od,es,ep,e2,c⟩,r⟩:=x;exact#[ho _ d,z,ne,k _ _ (.inl IO) e,mA,#[od,es,ep,k _ _ (.inr d) e2,c],r]
 |own y=>obtain⟨ob,e⟩:=x;exact#[ob,k _ _ (.inl IO) e]
 |xd fs=>obtain⟨mA,⟨od,es,ep,e,c⟩,r⟩:=x;exact#[mA,#[od,es,ep,k _ _ (.inl IO) e,c],r]
 |rng lo hi=>obtain⟨t,u,v,e⟩:=x;exact#[t,u,v,k _ _ (.inl IO) e]
 |QM ob u ih=>obtain⟨e,q⟩:=x;exact#[k _ _ (.inl IO) e,ih q]
 |YH ps=>
  have e:h.get? a=GM { cls:= .none,data:= .fields ps } :=x
  show h'.get? a=GM { cls:= .none,data:= .fields ps }
  exact k a _ (.inl IO) e
 |met f y=>
  have e:h.get? a=GM (Px (.ref f) (.ref y)):=x
  show h'.get? a=GM (Px (.ref f) (.ref y))
  exact k a _ (.inl IO) e
 |ext φ=>obtain⟨p,⟨o,e⟩,st⟩:=x;exact#[st _ _ p λo q=>k _ _ (.inl IO) q,#[o,k _ _ (.inl IO) e],st]
theorem iU.lt (x:iU P w H h) (e:H a=GM o):a<h.objs.size:=(x a o e).lt
theorem iU.fresh (x:iU P w H h) (e:h.objs.size<=a):H a=Id:=by
 cases q:H a with
 |none=>rfl
 |some u=>exact GW (Hh (x.lt q) e) (Jl _)
theorem iU.kept (x:iU P w H h) (k: ∀b u,h.get? b=GM u->h'.get? b=GM u):iU P w H h':=λa o e=>
 (x a o e).QU (λb u _ q=>k b u q) [08] λ_ _ q=>q
theorem iU.laid (x:iU P w H h) (k: ∀b u,h.get? b=GM u->h'.get? b=GM u) (hp:h.objs.size<=a) (new:cJ P w (bf H a o) h' a o):iU P w (bf H a o) h':=λb u e=>by
 have hn:=x.fresh hp;by_cases hb:b=a
 .subst hb;rw[aj] at e;cases e;exact new
 .rw[af hb] at e
  exact(x b u e).QU (λc v _ q=>k c v q) (λc q=>by rw[af (aw q hn)];exact q) λc xs q=>by rw[af (aw q hn)];exact q
end
def fG:GF HO->Prop
 |some (.lst _)=>True
 |some (.dK _)=>True
 |some (.dT _)=>True
 |some (.set _ _)=>True
 |some (.ins _ _ _)=>True
 |some (.ext _)=>True
 |_=>False
section
variable {P:Hm}{w:HS}{H:Hp}{h h':Ij}{x e:Gx}{o':HO}
theorem iU.write (ok:iU P w H h) (mu:fG (H x)) (he:e=x\/H e=GM (.own x)) (k: ∀b u,b≠e->h.get? b=GM u->h'.get? b=GM u) (heo: ∃u,h'.get? e=GM u)
  (new:cJ P w (bf H x o') h' x o'):iU P w (bf H x o') h':=λb u q=>by
 have aen: ∀c y,H c=GM (.own y)->c≠x:=λc y r z=>by subst z;rw[r] at mu;exact mu
 have ai5: ∀c xs,H c=GM (.tup xs)->c≠x:=λc xs r z=>by subst z;rw[r] at mu;exact mu
 by_cases hb:b=x
 .subst hb;rw[aj] at q;cases q;exact new
 .rw[af hb] at q
  by_cases ZA:b=e
  .have q':H b=GM (.own x):=by
    rcases he with z|z
    .exact GW (ZA.trans z) hb
    .rw[ZA];exact z
   rw[q] at q';cases q';obtain⟨v,hv⟩:=heo;exact#[v,by rw[ZA];exact hv]
  .refine(ok b u q).QU (λc v hc r=>k c v ?_ r) (λc r=>by rw[af (aen c b r)];exact r) λc xs r=>by rw[af (ai5 c xs r)];exact r
   rcases hc with rfl|hc
   .exact ZA
   .rintro rfl
    rcases he with z|z
    .exact aen c b hc z
    .rw[hc] at z;cases z;exact hb IO
end
section
variable {fs fs' ex ex':Gm Gx}{H H1 H2:Hp}{h h1 h2 h':Ij}{a x e:Gx}{o:HO}
theorem Un.any (u:Un fs ex H H1 h h1) {b:Gx}(q:h.get? b=GM ob) (n:H b=Id) (hx:b∉ex): ∃sl,h1.get? b=GM { ob with slots:=sl } :=by
 by_cases hb:b∈fs
 .exact u.slot b ob q n hb hx
 .exact#[ob.slots,u.keep b ob q n hb hx]
theorem Un.kept (k: ∀b u,h.get? b=GM u->h'.get? b=GM u):Un fs ex H H h h':=
 #[λb ob q _ _ _=>k b ob q,λb ob q _ _ _=>#[ob.slots,k b ob q],λ_ _ _ n _=>n,λb ob q _=>#[ob,k b ob q],λ_ _ q=>q,λ_ _ _ q=>q,λ_ ps q=>#[[].toArray,by rw[q];simp]]
theorem Un.refl:Un fs ex H H h h:=Un.kept λ_ _ q=>q
theorem Un.laid (k: ∀b u,h.get? b=GM u->h'.get? b=GM u) (hp:h.objs.size<=a) (hn:H a=Id):Un fs ex H (bf H a o) h h' where
 keep:=λb u q _ _ _=>k b u q
 slot:=λb u q _ _ _=>#[u.slots,k b u q]
 free:=λb u q n _=>by rw[af (Ih (Hh (Hg q) hp))];exact n
 there:=λb u q _=>#[u,k b u q]
 Q9:=λb xs q=>by rw[af (aw q hn)];exact q
 QN:=λb u xs q=>by rw[af (aw q hn)];exact q
 Ra:=λb ps q=>#[[].toArray,by rw[af (aw q hn),q];simp]
theorem Un.write (mu:fG (H x)) (he:e=x\/H e=GM (.own x)) (k: ∀b u,b≠e->h.get? b=GM u->h'.get? b=GM u) (heo: ∃u,h'.get? e=GM u):Un fs ex H (bf H x o) h h':=by
 have hx: ∀b,H b=Id->b≠x:=λb n z=>by subst z;rw[n] at mu;exact mu
 have hb: ∀b,H b=Id->b≠e:=λb n z=>by
  subst z;rcases he with r|r
  .exact hx b n r
  .rw[n] at r;cases r
 have hm: ∀b u,H b=GM u-> ¬fG (GM u)->b≠x:=λb u q nm z=>by subst z;rw[q] at mu;exact nm mu
 refine#[λb u q n _ _=>k b u (hb b n) q,λb u q n _ _=>#[u.slots,k b u (hb b n) q],λb u q n _=>by rw[af (hx b n)];exact n,λb u q _=>?_,
  λb xs q=>by rw[af (hm b _ q λz=>z)];exact q,λb u xs q=>by rw[af (hm b _ q λz=>z)];exact q,λb ps q=>#[[].toArray,by rw[af (hm b _ q λz=>z),q];simp]]
 by_cases ZA:b=e
 .subst ZA;exact heo
 .exact#[u,k b u ZA q]
end
structure Cx where
 prog:Hm
 w:HS
 K:Gu
 mg:G0->GF Gy
 base:Ij
 A:IA
 N:Gm G0
 P6:GC
 H_0:Hp
 env:Env
 outer:Gm Env
 stack:Gm Env
 ex:Gm Gx
 fn:G0->HH
 calm:HH
 pn:Gm (Gx×Kd)
 xe:Gy->GC->Prop
abbrev Cx.fs (X:Cx):Gm Gx:=tm X.outer
def tq (sc:Scope) (x:G0):Prop:=sc.names.lookup x=GM .local\/sc.names.lookup x=GM .cell\/sc.names.lookup x=GM .free
def Loc (sc:Scope) (x:G0):Prop:=sc.names.lookup x=GM .local\/sc.names.lookup x=GM .cell
def Look (env:Env) (h:Ij) (m:G0->GF Gy) (x:G0) (u:Gy):Prop:=
 (env.kindOf x=GM .local/\m x=GM u)\/((env.kindOf x=GM .cell\/env.kindOf x=GM .free)/\ ∃c,env.cells.lookup x=GM c/\h.IsCell c (GM u))
structure Cx.Ok (X:Cx):Prop where
 mod:Mod X.K X.mg X.base
 kind:X.env.scope.kind= .function
 glob:X.env.globals=Ke
 blt:X.env.builtins=Yr
 above:X.P6.heap.objs.size<=X.env.locals
 inj: ∀x y c,X.env.cells.lookup x=GM c->X.env.cells.lookup y=GM c->x=y
 has: ∀x,(X.env.kindOf x=GM .cell\/X.env.kindOf x=GM .free)-> ∃c,X.env.cells.lookup x=GM c
 Xc: ∀x c,X.fn x=Ix->X.env.cells.lookup x=GM c->X.P6.heap.objs.size<=c
 hd:X.calm=Ix->X.A.handled=Id
 frames:X.A.frames=GM X.stack
 Xd:X.stack=X.outer\/(X.stack=X.env::X.outer/\X.env.frame=GM X.env.locals)
 ZC: ∀b∈X.ex,b≠X.env.locals/\ ∀x c,X.env.cells.lookup x=GM c->c≠b
 bs: ∀b o,X.base.get? b=GM o->X.P6.heap.get? b=GM o/\X.H_0 b=Id
 Uu:X.base.objs.size<=X.P6.heap.objs.size
 Sj: ∀b o,X.base.get? b=GM o->b∉X.ex
 Sk: ∀b∈X.ex,b∉X.fs
 funs:X.P6.heap.FunFrames X.base X.outer
 VS: ∀b∈X.fs,X.H_0 b=Id
structure aP (X:Cx) (pins:Gm (Gx×Kd)) (σ:Gm (GF V)) (H:Hp) (s:GC):Prop where
 ok:X.Ok
 os:s.os=X.P6.os
 bare:Qk s.gens
 base:Un X.fs X.ex X.H_0 H X.P6.heap s.heap
 loc: ∃m,s.heap.Ns X.env.locals m/\ ∀(i:GJ) (x:G0) (v:V),X.N[i]?=GM x->σ[i]?=GM (GM v)->tq X.env.scope x-> ∃u,bD v u/\Look X.env s.heap m x u
 cell: ∀x c,X.env.cells.lookup x=GM c-> ∃v,s.heap.IsCell c v
 free:H X.env.locals=Id
 MQ: ∀x c,X.env.cells.lookup x=GM c->H c=Id
 pin: ∀p∈X.pn++pins,s.heap.get? p.1=GM p.2/\H p.1=Id/\p.1≠X.env.locals/\p.1∉X.fs/\ ∀v,p.2.data≠ .cell v
 Jy:iU X.prog X.w H s.heap
 len:σ.length=X.N.length
section
variable {X:Cx}{pins:Gm (Gx×Kd)}{σ:Gm (GF V)}{H H':Hp}{s:GC}{h':Ij}
theorem Cx.Ok.ai6 (ok:X.Ok) {b:Gx}{o:Kd}(e:X.base.get? b=GM o):b∉X.fs:=λhb=>by
 have:=(ok.funs.mem hb).1;rw[e] at this;cases this
theorem aP.bs (I:aP X pins σ H s): ∀b o,X.base.get? b=GM o->s.heap.get? b=GM o/\H b=Id:=λb o e=>
 #[I.base.keep b o (I.ok.bs b o e).1 (I.ok.bs b o e).2 (I.ok.ai6 e) (I.ok.Sj b o e),I.base.free b o (I.ok.bs b o e).1 (I.ok.bs b o e).2 (I.ok.Sj b o e)]
theorem aP.bk (I:aP X pins σ H s): ∀b o,X.base.get? b=GM o->s.heap.get? b=GM o:=λb o e=>(I.bs b o e).1
theorem aP.mod (I:aP X pins σ H s):Mod X.K X.mg X.base:=I.ok.mod
theorem aP.NV (I:aP X pins σ H s):X.K.In s.heap:=I.ok.mod.U6.keeps I.bk
theorem aP.fr (I:aP X pins σ H s): ∃m,Fr X.base X.env.locals s.heap m:=
 let ⟨m,hn,_⟩:=I.loc
 #[m,hn,I.bk,GX I.ok.Uu I.ok.above]
theorem aP.lt (I:aP X pins σ H s):X.env.locals<s.heap.objs.size:=let ⟨_,hn,_⟩:=I.loc;hn.lt
theorem aP.sz (I:aP X pins σ H s):X.P6.heap.objs.size<=s.heap.objs.size:=GX I.ok.above (Mc I.lt)
theorem aP.ai7 (I:aP X pins σ H s) {a:Gx}(h:s.heap.objs.size<=a):a∉X.fs:=λhb=>by
 obtain⟨_,o,ho,_⟩:=I.ok.funs.mem hb;exact GW (Hh (Hg ho) (GX I.sz h)) (Jl _)
theorem aP.Xe (I:aP X pins σ H s): ∀x c,X.env.cells.lookup x=GM c->c≠X.env.locals:=λx c e z=>by
 obtain⟨v,o,ho,hd⟩:=I.cell x c e;obtain⟨m,⟨o',es,ep,QD,hd',_⟩,_⟩:=I.loc;rw[z,QD] at ho;cases ho;rw[hd'] at hd;cases hd
theorem aP.funs (I:aP X pins σ H s):s.heap.FunFrames X.base X.outer:=by
 have all: ∀(l:Gm Env),(∀b∈tm l,b∈X.fs)->X.P6.heap.FunFrames X.base l->s.heap.FunFrames X.base l:=by
  intro l
  induction l with
  |nil=>intro _ _;trivial
  |cons env r ih=>
   intro hs hl;obtain⟨hk,⟨L,o,hf,hn,ho,hd⟩,hr⟩:=hl;have hL:L∈X.fs:=hs L (by unfold tm;rw[LI,hf];exact GP);obtain⟨sl,e⟩:=I.base.slot L o ho (I.ok.VS L hL) hL λz=>I.ok.Sk L z hL;exact#[hk,#[L,_,hf,hn,e,hd],ih (λb hb=>hs b (by unfold tm;rw[LI,hf];exact G8 _ hb)) hr]
 exact all X.outer (λ_ hb=>hb) I.ok.funs
theorem aP.stack (I:aP X pins σ H s):s.heap.FunFrames X.base X.stack:=by
 rcases I.ok.Xd with e|⟨e,hf⟩
 .rw[e];exact I.funs
 .rw[e]
  obtain⟨m,hn,_⟩:=I.loc;refine .cons (by rw[I.ok.kind];decide) hf hn ?_ I.funs;exact Ij.get?_none_of_le (GX I.ok.Uu I.ok.above)
theorem aP.RG (I:aP X pins σ H s): ∀b∈tm X.stack,b∈X.env.locals::X.fs:=λb hb=>by
 rcases I.ok.Xd with e|⟨e,hf⟩
 .rw[e] at hb;exact G8 _ hb
 .rw[e] at hb
  unfold tm at hb;rw[LI,hf] at hb;exact hb
theorem aP.QF (I:aP X pins σ H s): ∀b∈tm X.stack,H b=Id:=λb hb=>by
 rcases Hc.mp (I.RG b hb) with e|hb
 .rw[e];exact I.free
 .obtain⟨_,o,ho,_⟩:=I.ok.funs.mem hb
  exact I.base.free b o ho (I.ok.VS b hb) λz=>I.ok.Sk b z hb
theorem aP.step {g':Ky Q7}{t':GJ}{d':Drawn}{ch:Gm Gx}(I:aP X pins σ H s)
  (TH: ∀b∈ch,(b∈X.ex\/X.P6.heap.objs.size<=b)/\b≠X.env.locals/\(∀x c,X.env.cells.lookup x=GM c->c≠b)/\ ∀p∈X.pn++pins,p.1≠b)
  (keep: ∀b o,b≠X.env.locals->b∉X.fs->b∉ch->s.heap.get? b=GM o->H b=Id->h'.get? b=GM o)
  (slot: ∀b o,b≠X.env.locals->b∈X.fs->b∉ch->s.heap.get? b=GM o->H b=Id-> ∃sl,h'.get? b=GM { o with slots:=sl }) (free: ∀b o,b∉ch->s.heap.get? b=GM o->H b=Id->H' b=Id)
  (there: ∀b o,b∉ch->s.heap.get? b=GM o-> ∃o',h'.get? b=GM o')
  (Q9: ∀b xs,H b=GM (.tup xs)->H' b=GM (.tup xs)) (QN: ∀b o u,H b=GM (.QM o u)->H' b=GM (.QM o u)) (Ra: ∀b ps,H b=GM (.YH ps)-> ∃more,H' b=GM (.YH (ps++more)))
  (ns: ∀m,s.heap.Ns X.env.locals m->h'.Ns X.env.locals m) (Jy:iU X.prog X.w H' h') (hg:Qk g'):
  aP X pins σ H' { s with heap:=h',gens:=g',drawn:=d',toks:=t' } :=by
 have neL: ∀b o,X.P6.heap.get? b=GM o->b≠X.env.locals:=λb o e=>Ih (Hh (Hg e) I.ok.above)
 have neC: ∀b o,X.P6.heap.get? b=GM o->b∉X.ex->b∉ch:=λb o e hx hb=>by
  rcases(TH b hb).1 with z|z
  .exact hx z
  .exact GW (Hh (Hg e) z) (Jl _)
 have cellK: ∀x c,X.env.cells.lookup x=GM c-> ∀v,s.heap.IsCell c v->h'.IsCell c v:=λx c e v ⟨o,ho,hd⟩=>by
  have nch:c∉ch:=λz=>(TH c z).2.2.1 x c e IO
  by_cases hc:c∈X.fs
  .obtain⟨sl,q⟩:=slot c o (I.Xe x c e) hc nch ho (I.MQ x c e)
   exact#[_,q,hd]
  .exact#[o,keep c o (I.Xe x c e) hc nch ho (I.MQ x c e),hd]
 refine#[I.ok,I.os,hg,#[λb o e n hb hx=>?_,λb o e n hb hx=>?_,λb o e n hx=>?_,λb o e hx=>?_,λb xs e=>Q9 b xs (I.base.Q9 b xs e),λb o xs e=>QN b o xs (I.base.QN b o xs e),λb ps e=>?_],?_,λx c e=>?_,?_,λx c e=>?_,λp hp=>?_,Jy,I.len]
 .exact keep b o (neL b o e) hb (neC b o e hx) (I.base.keep b o e n hb hx) (I.base.free b o e n hx)
 .obtain⟨sl,e1⟩:=I.base.slot b o e n hb hx
  obtain⟨sl',e2⟩:=slot b _ (neL b o e) hb (neC b o e hx) e1 (I.base.free b o e n hx);exact#[sl',e2]
 .obtain⟨o',e1⟩:=I.base.there b o e hx
  exact free b o' (neC b o e hx) e1 (I.base.free b o e n hx)
 .obtain⟨o',e1⟩:=I.base.there b o e hx
  exact there b o' (neC b o e hx) e1
 .obtain⟨m1,e1⟩:=I.base.Ra b ps e
  obtain⟨m2,e2⟩:=Ra b _ e1;exact#[m1++m2,by rw[e2,Ky.append_assoc]]
 .obtain⟨m,hn,hl⟩:=I.loc
  refine#[m,ns m hn,λi x v e1 e2 e3=>?_];obtain⟨u,r,l⟩:=hl i x v e1 e2 e3;refine#[u,r,?_];rcases l with l|⟨k,c,e,z⟩
  .exact .inl l
  .exact .inr #[k,c,e,cellK x c e _ z]
 .obtain⟨v,z⟩:=I.cell x c e
  exact#[v,cellK x c e v z]
 .obtain⟨m,⟨o,_,_,ho,_⟩,_⟩:=I.loc
  exact free _ o (λz=>(TH _ z).2.1 IO) ho I.free
 .obtain⟨v,o,ho,hd⟩:=I.cell x c e
  exact free c o (λz=>(TH c z).2.2.1 x c e IO) ho (I.MQ x c e)
 .obtain⟨e,n,ne,nf,d⟩:=I.pin p hp
  have nch:p.1∉ch:=λz=>(TH p.1 z).2.2.2 p hp IO
  exact#[keep p.1 p.2 ne nf nch e n,free p.1 p.2 nch e n,ne,nf,d]
theorem aP.un {t':GJ}(I:aP X pins σ H s) (u:Un X.fs [] H H' s.heap h') (Jy:iU X.prog X.w H' h'):aP X pins σ H' { s with heap:=h',toks:=t' } :=by
 obtain⟨m,⟨o,es,ep,ho,r⟩,_⟩:=id I.loc;obtain⟨sl,hL⟩:=u.any ho I.free (by simp);exact I.step (g':=s.gens) (d':=s.drawn) (ch:=[]) (λ_ z=>nomatch z) (λb o _ hb _ e n=>u.keep b o e n hb (by simp)) (λb o _ hb _ e n=>u.slot b o e n hb (by simp)) (λb o _ e n=>u.free b o e n (by simp)) (λb o _ e=>u.there b o e (by simp)) u.Q9 u.QN u.Ra (λm' hm=>by
  obtain⟨o',es',ep',QD,r'⟩:=hm;rw[ho] at QD;cases QD;exact#[_,es',ep',hL,r']) Jy I.bare
theorem aP.call {g':Ky Q7}{t':GJ}{d':Drawn}{ch:Gm Gx}(I:aP X pins σ H s) (u:Un (tm X.stack) ch H H' s.heap h') (Jy:iU X.prog X.w H' h') (hg:Qk g')
  (TH: ∀b∈ch,(b∈X.ex\/X.P6.heap.objs.size<=b)/\b≠X.env.locals/\(∀x c,X.env.cells.lookup x=GM c->c≠b)/\ ∀p∈X.pn++pins,p.1≠b):
  aP X pins σ H' { s with heap:=h',gens:=g',drawn:=d',toks:=t' } :=by
 obtain⟨m,⟨o,es,ep,ho,r⟩,_⟩:=id I.loc;obtain⟨sl,hL⟩:=u.any ho I.free λz=>(TH _ z).2.1 IO;exact I.step (ch:=ch) TH (λb o hL hb hc e n=>u.keep b o e n (λz=>(Hc.mp (I.RG b z)).elim hL hb) hc) (λb o _ _ hc e n=>u.any e n hc) (λb o hc e n=>u.free b o e n hc) (λb o hc e=>u.there b o e hc) u.Q9 u.QN u.Ra (λm' hm=>by
  obtain⟨o',es',ep',QD,r'⟩:=hm;rw[ho] at QD;cases QD;exact#[_,es',ep',hL,r']) Jy hg
theorem aP.turned {t':GJ}{it:Gx}(I:aP X pins σ H s) (k: ∀b o,b≠it->s.heap.get? b=GM o->h'.get? b=GM o) (hn:H it=Id) (hL:it≠X.env.locals)
  (h1:it∈X.ex\/X.P6.heap.objs.size<=it) (h2: ∀x c,X.env.cells.lookup x=GM c->c≠it) (h3: ∀p∈X.pn++pins,p.1≠it):aP X pins σ H { s with heap:=h',toks:=t' } :=by
 have Xf: ∀b u,H b=GM u->b≠it:=λb u e z=>by rw[z,hn] at e;cases e
 refine I.step (g':=s.gens) (d':=s.drawn) (ch:=[it]) (λb hb=>?_) (λb o _ _ hc e _=>k b o (λz=>hc (by simp [z])) e) (λb o _ _ hc e _=>#[o.slots,k b o (λz=>hc (by simp [z])) e]) (λ_ _ _ _ n=>n)
  (λb o hc e=>#[o,k b o (λz=>hc (by simp [z])) e]) (λ_ _ e=>e) (λ_ _ _ e=>e) (λb ps e=>#[[].toArray,by rw[e];simp]) (λm hm=>?_) (λb u e=>?_) I.bare
 .have e:b=it:=by simpa using hb
  subst e;exact#[h1,hL,h2,h3]
 .obtain⟨o,es,ep,ho,r⟩:=hm
  exact#[o,es,ep,k _ o (KY hL) ho,r]
 .refine(I.Jy b u e).QU (λc v hc q=>k c v ?_ q) [08] λ_ _ q=>q
  rcases hc with z|z
  .rw[z];exact Xf b u e
  .exact Xf c _ z
theorem aP.tok (I:aP X pins σ H s) (t:GJ):aP X pins σ H { s with toks:=t } :=I.un (h':=s.heap) (t':=t) Un.refl I.Jy
theorem aP.kept (I:aP X pins σ H s) (k: ∀b u,s.heap.get? b=GM u->h'.get? b=GM u):aP X pins σ H { s with heap:=h',toks:=t' } :=I.un (Un.kept k) (I.Jy.kept k)
theorem aP.laid {a:Gx}{o:HO}(I:aP X pins σ H s) (k: ∀b u,s.heap.get? b=GM u->h'.get? b=GM u) (hp:s.heap.objs.size<=a) (new:cJ X.prog X.w (bf H a o) h' a o):
  aP X pins σ (bf H a o) { s with heap:=h',toks:=t' } :=I.un (Un.laid k hp (I.Jy.fresh hp)) (I.Jy.laid k hp new)
theorem aP.write {x e:Gx}{o:HO}(I:aP X pins σ H s) (mu:fG (H x)) (he:e=x\/H e=GM (.own x)) (k: ∀b u,b≠e->s.heap.get? b=GM u->h'.get? b=GM u) (heo: ∃u,h'.get? e=GM u)
  (new:cJ X.prog X.w (bf H x o) h' x o):aP X pins σ (bf H x o) { s with heap:=h',toks:=t' } :=I.un (Un.write mu he k heo) (I.Jy.write mu he k heo new)
theorem aP.weak (I:aP X pins σ H s) (hl:σ'.length=σ.length) (w: ∀(i:GJ) v,σ'[i]?=GM (GM v)->σ[i]?=GM (GM v)):aP X pins σ' H s:=
 #[I.ok,I.os,I.bare,I.base,let ⟨m,hn,hl'⟩:=I.loc;#[m,hn,λi x v e1 e2 e3=>hl' i x v e1 (w i v e2) e3],I.cell,I.free,I.MQ,I.pin,I.Jy,hl.trans I.len]
theorem aP.T9 (I:aP X pins σ H s) (h: ∀p∈Ua,s.heap.get? p.1=GM p.2/\H p.1=Id/\p.1≠X.env.locals/\p.1∉X.fs/\ ∀v,p.2.data≠ .cell v):aP X Ua σ H s:=
 #[I.ok,I.os,I.bare,I.base,I.loc,I.cell,I.free,I.MQ,λp hp=>(HG.mp hp).elim (λz=>I.pin p (O4 _ z)) (h p),I.Jy,I.len]
theorem nS {N:Gm G0}(hN:N.Nodup) {i j:GJ}{x:G0}(a:N[i]?=GM x) (b:N[j]?=GM x):i=j:=by
 obtain⟨h1,e1⟩:=Hk.mp a;obtain⟨h2,e2⟩:=Hk.mp b;exact(Gm.getElem_inj hN).mp (e1.trans e2.symm)
theorem qz {M:Model}{A:IA}{E:Gy->GC->Prop}{i:GJ}{x:G0}{v:V}{u:Gy}{Q:Nl->GC->Prop}(I:aP X pins σ H s) (hN:X.N.Nodup) (hi:X.N[i]?=GM x) (hx:Loc X.env.scope x) (r:bD v u)
  (h: ∀s',aP X pins (σ.set i (GM v)) H s'->(∃a,Ou a s.heap s'.heap/\(a=X.env.locals\/X.env.cells.lookup x=GM a))->Q () s') (hf:X.fn x=Ix\/X.env.scope.names.lookup x=GM .local:=by first|exact .inl rfl|exact .inr rfl|assumption):Hl M A (storeName X.env x u) Q E s:=by
 obtain⟨m,hn,hl⟩:=id I.loc;have ZD:(X.env.scope.kind == .class||(X.env.scope.kind == .module&&X.env.locals !=X.env.globals))=IN:=by rw[I.ok.kind];rfl
 have hiσ:i<σ.length:=by rw[I.len];exact(Hk.mp hi).1
 have Xe:=I.Xe
 have tracked: ∀ {a:Gx}{h':Ij},(∃o,s.heap.get? a=GM o/\H a=Id)->Ou a s.heap h'->iU X.prog X.w H h':=λ{a h'} ha hs b ob e=>by
  obtain⟨_,_,Rl⟩:=ha;refine(I.Jy b ob e).QU (λc w' hc q=>(hs.2 c ?_).trans q) [08] λ_ _ q=>q;rintro rfl;rcases hc with rfl|hc
  .rw[Rl] at e;cases e
  .rw[Rl] at hc;cases hc
 rcases hx with hk|hk
 .refine wpAny_storeName_local hk hn (λh' hn' hs=>?_) ZD
  obtain⟨oL,_,_,hoL,_⟩:=id hn;refine h _ #[I.ok,I.os,I.bare,#[λb o e n hb hx=>?_,λb o e n hb hx=>?_,I.base.free,λb o e hx=>?_,I.base.Q9,I.base.QN,I.base.Ra],#[_,hn',λj y v' e1 e2 e3=>?_],λy c e=>?_,I.free,I.MQ,λp hp=>?_,tracked #[oL,hoL,I.free] hs,by simpa using I.len] #[_,hs, .inl IO]
  .exact(hs.2 b (Ih (Hh (Hg e) I.ok.above))).trans (I.base.keep b o e n hb hx)
  .obtain⟨sl,e1⟩:=I.base.slot b o e n hb hx
   exact#[sl,(hs.2 b (Ih (Hh (Hg e) I.ok.above))).trans e1]
  .obtain⟨o',e1⟩:=I.base.there b o e hx
   exact#[o',(hs.2 b (Ih (Hh (Hg e) I.ok.above))).trans e1]
  .by_cases hj:j=i
   .subst hj
    rw[hi] at e1;cases e1;rw[Oo hiσ] at e2;cases e2;exact#[u,r, .inl #[hk,by simp]]
   .rw[O5 (KY hj)] at e2
    obtain⟨u',r',q⟩:=hl j y v' e1 e2 e3;refine#[u',r',?_];rcases q with⟨k,e⟩|⟨k,c,e,z⟩
    .refine .inl #[k,?_]
     have:y≠x:=λe=>hj (nS hN e1 (e▸hi))
     simp [this,e]
    .exact .inr #[k,c,e,z.sameBut hs (Xe y c e)]
  .obtain⟨w',z⟩:=I.cell y c e
   exact#[w',z.sameBut hs (Xe y c e)]
  .obtain⟨e,n,ne,nf,d⟩:=I.pin p hp
   exact#[(hs.2 p.1 ne).trans e,n,ne,nf,d]
 .have Ub:X.fn x=Ix:=by
   rcases hf with z|z
   .exact z
   .rw[z] at hk;cases hk
  obtain⟨c,hc⟩:=I.ok.has x (.inl hk);obtain⟨w',z⟩:=I.cell x c hc;refine wpAny_storeName_cell I.ok.kind hk hc z (λh' VX hs=>?_);obtain⟨oc,hoc,ai8⟩:=id z;refine h { s with heap:=h' } #[I.ok,I.os,I.bare,#[λb o e n hb hx=>?_,λb o e n hb hx=>?_,I.base.free,λb o e hx=>?_,I.base.Q9,I.base.QN,I.base.Ra],#[m,hn.sameBut hs (KY (Xe x c hc)),λj y v' e1 e2 e3=>?_],λy c' e=>?_,I.free,I.MQ,λp hp=>?_,tracked #[oc,hoc,I.MQ x c hc] hs,by simpa using I.len] #[c,hs, .inr hc]
  .exact(hs.2 b (Ih (Hh (Hg e) (I.ok.Xc x c Ub hc)))).trans (I.base.keep b o e n hb hx)
  .obtain⟨sl,e1⟩:=I.base.slot b o e n hb hx
   exact#[sl,(hs.2 b (Ih (Hh (Hg e) (I.ok.Xc x c Ub hc)))).trans e1]
  .obtain⟨o',e1⟩:=I.base.there b o e hx
   exact#[o',(hs.2 b (Ih (Hh (Hg e) (I.ok.Xc x c Ub hc)))).trans e1]
  .by_cases hj:j=i
   .subst hj
    rw[hi] at e1;cases e1;rw[Oo hiσ] at e2;cases e2;exact#[u,r, .inr #[.inl hk,c,hc,VX]]
   .rw[O5 (KY hj)] at e2
    obtain⟨u',r',q⟩:=hl j y v' e1 e2 e3;refine#[u',r',?_];rcases q with q|⟨k,c',e,z'⟩
    .exact .inl q
    .refine .inr #[k,c',e,z'.sameBut hs ?_]
     rintro rfl;exact hj (nS hN e1 (I.ok.inj _ _ _ e hc▸hi))
  .by_cases hcc:c'=c
   .subst hcc;exact#[_,VX]
   .obtain⟨w2,z2⟩:=I.cell y c' e
    exact#[w2,z2.sameBut hs hcc]
  .obtain⟨e,n,ne,nf,d⟩:=I.pin p hp
   refine#[(hs.2 p.1 ?_).trans e,n,ne,nf,d];intro q;rw[q,hoc] at e;have q':oc=p.2:=G7 e;exact d w' (by rw[<-q'];exact ai8)
theorem kP {A:IA}{E:Gy->GC->Prop}{i:GJ}{x:G0}{v:V}{u:Gy}{Q:Nl->GC->Prop}(I:aP X pins σ H s) (hN:X.N.Nodup) (hi:X.N[i]?=GM x) (hx:Loc X.env.scope x) (r:bD v u)
  (h: ∀s',aP X pins (σ.set i (GM v)) H s'->Q () s') (hf:X.fn x=Ix\/X.env.scope.names.lookup x=GM .local:=by first|exact .inl rfl|exact .inr rfl|assumption):Hl M A (storeName X.env x u) Q E s:=
 qz I hN hi hx r (λs' I' _=>h s' I') hf
theorem aP.VE {s':GC}(I:aP X pins σ H s) (ho:s'.os=s.os) (u:Un (tm X.stack) ch H H' s.heap s'.heap) (Jy:iU X.prog X.w H' s'.heap) (hg:Qk s'.gens)
  (TH: ∀b∈ch,(b∈X.ex\/X.P6.heap.objs.size<=b)/\b≠X.env.locals/\(∀x c,X.env.cells.lookup x=GM c->c≠b)/\ ∀p∈X.pn++pins,p.1≠b):aP X pins σ H' s':=by
 obtain⟨h',g',d',t',o'⟩:=s';have e:o'=s.os:=ho;subst e;exact I.call (g':=g') (t':=t') (d':=d') u Jy hg TH
end
abbrev St:=Gm (GF V)
abbrev TE:=St->Hp->VK->Prop
abbrev TT:=St->Hp->(HH->Hp->Prop)->Prop
abbrev TA:=St->Hp->(Gm V->Hp->Prop)->Prop
structure dz where
 nx:St->Hp->Prop
 rt:VK
 bk:St->Hp->Prop:=λ_ _=>False
 ct:St->Hp->Prop:=λ_ _=>False
abbrev TS:=dz->St->Hp->Prop
inductive EP (X:Cx) (pins:Gm (Gx×Kd)) (σ:St) (Q:VK) (u:Gy) (s':GC):Prop
 |mk (v:V) (H':Hp) (_:aP X pins σ H' s') (_:bD v u) (_:Q v H'):EP X pins σ Q u s'
def TP (X:Cx) (pins:Gm (Gx×Kd)) (σ:St) (Q:HH->Hp->Prop) (b:HH) (s':GC):Prop:= ∃H',aP X pins σ H' s'/\Q b H'
inductive AP (X:Cx) (pins:Gm (Gx×Kd)) (σ:St) (Q:Gm V->Hp->Prop) (us:Gm Gy) (s':GC):Prop
 |mk (vs:Gm V) (H':Hp) (_:aP X pins σ H' s') (_:bH vs us) (_:Q vs H'):AP X pins σ Q us s'
def SP (X:Cx) (pins:Gm (Gx×Kd)) (D:dz) (f:Flow) (s':GC):Prop:=
 match f with
 | .next=> ∃σ' H',aP X pins σ' H' s'/\D.nx σ' H'
 | .brk=> ∃σ' H',aP X pins σ' H' s'/\D.bk σ' H'
 | .cont=> ∃σ' H',aP X pins σ' H' s'/\D.ct σ' H'
 | .ret u=> ∃v σ' H',aP X pins σ' H' s'/\bD v u/\D.rt v H'
def PE (X:Cx) (e:IY) (t:TE):Prop:=
 ∀(pins:Gm (Gx×Kd)) (s:GC) (σ:St) (H:Hp) (Q:VK),aP X pins σ H s->t σ H Q->Hl (model X.prog X.w) X.A (eval e X.env) (EP X pins σ Q) X.xe s
def PT (X:Cx) (e:IY) (t:TT):Prop:=
 ∀(pins:Gm (Gx×Kd)) (s:GC) (σ:St) (H:Hp) (Q:HH->Hp->Prop),aP X pins σ H s->t σ H Q->Hl (model X.prog X.w) X.A (isTrue e X.env (eval e X.env)) (TP X pins σ Q) X.xe s
def PW (X:Cx) (e:IY) (t:TT):Prop:=
 ∀(whole:Sem Gy) (pins:Gm (Gx×Kd)) (s:GC) (σ:St) (H:Hp) (Q:HH->Hp->Prop),aP X pins σ H s->t σ H Q->Hl (model X.prog X.w) X.A (isTrue e X.env whole) (TP X pins σ Q) X.xe s
theorem PW.pt {X:Cx}{e:IY}{t:TT}(h:PW X e t):PT X e t:=h _
def PA (X:Cx) (es:Gm IY) (t:TA):Prop:=
 ∀(pos:Pos) (pins:Gm (Gx×Kd)) (s:GC) (σ:St) (H:Hp) (Q:Gm V->Hp->Prop),aP X pins σ H s->t σ H Q->Hl (model X.prog X.w) X.A (spliced (J6 pos (Hb es X.env))) (AP X pins σ Q) X.xe s
def PS (X:Cx) (st:Stmt) (t:TS):Prop:=
 ∀(pins:Gm (Gx×Kd)) (s:GC) (σ:St) (H:Hp) (D:dz),aP X pins σ H s->t D σ H->Hl (model X.prog X.w) X.A (exec st X.env) (SP X pins D) X.xe s
def vV (X:Cx) (st:Gm Stmt) (t:TS):Prop:=
 ∀(pins:Gm (Gx×Kd)) (s:GC) (σ:St) (H:Hp) (D:dz),aP X pins σ H s->t D σ H->Hl (model X.prog X.w) X.A (execs st X.env) (SP X pins D) X.xe s
inductive Bd (X:Cx) (st:Gm Stmt) (D:dz) (σ:St) (H:Hp):Prop
 |mk (t:TS) (_:vV X st t) (_:t D σ H):Bd X st D σ H
theorem cG {α:Type}{t:Sem α}{Q Q':α->GC->Prop}{A:IA}{E:Gy->GC->Prop}{s:GC}(h:Hl M A t Q E s) (hQ: ∀a s,Q a s->Q' a s):Hl M A t Q' E s:=JM h hQ λ_ _ x=>x
section
variable {X:Cx}
theorem bin {a b:IY}{ta tb:TE}(ha:PE X a ta) (hb:PE X b tb) {pins:Gm (Gx×Kd)}{s:GC}{σ:St}{H:Hp}{R:V->V->Hp->Prop}(I:aP X pins σ H s) (h:ta σ H λx H1=>tb σ H1 λy H2=>R x y H2)
  {α:Type}{Q:α->GC->Prop}{f:Gy->Gy->Sem α}
  (hf: ∀v u s2 x y H2,aP X pins σ H2 s2->bD x v->bD y u->R x y H2->Hl (model X.prog X.w) X.A (f v u) Q X.xe s2):
  Hl (model X.prog X.w) X.A (eval a X.env) (λv s₁=>Hl (model X.prog X.w) X.A (eval b X.env) (λu s₂=>Hl (model X.prog X.w) X.A (f v u) Q X.xe s₂) X.xe s₁) X.xe s:=by
 refine cG (ha pins s σ H _ I h) λv s1 ⟨x,H1,I1,r1,q1⟩=>?_;refine cG (hb pins s1 σ H1 _ I1 q1) λu s2 ⟨y,H2,I2,r2,q2⟩=>?_;exact hf v u s2 x y H2 I2 r1 r2 q2
def d7:GJ->St->Hp->VK->Prop
 |0,some v::_,H,Q=>Q v H
 |i+1,_::σ,H,Q=>d7 i σ H Q
 |_,_,_,_=>False
theorem Cn {H:Hp}{Q:VK} : ∀ {i:GJ}{σ:St},d7 i σ H Q-> ∃v,σ[i]?=GM (GM v)/\Q v H
 |0,some v::_,h=>#[v,IO,h]
 |i+1,_::σ,h=>Cn (i:=i) (σ:=σ) h
theorem gY {H:Hp}{Q:VK}{v:V}(q:Q v H): ∀ {i:GJ}{σ:St},σ[i]?=GM (GM v)->d7 i σ H Q
 |0,some _::_,e=>G7 (G7 e)▸q
 |i+1,_::σ,e=>gY q (i:=i) (σ:=σ) e
def tC (v:V):TE:=λ_ H Q=>Q v H
theorem iB {i:GJ}{x:G0}{pos:Pos}(hN:X.N[i]?=GM x) (hv:tq X.env.scope x) (hd:(x == ("__debug__":G0))=IN:=by decide) (Rx:(x == ("__classdict__":G0))=IN:=by decide):PE X (.Name x pos) (d7 i):=by
 intro pins s σ H Q I h;obtain⟨v,e,h⟩:=Cn h;obtain⟨m,hn,hl⟩:=I.loc;obtain⟨u,r,l⟩:=hl i x v hN e hv;have fin:EP X pins σ Q u s:=#[v,H,I,r,h];rcases l with⟨hk,hm⟩|⟨hk,c,hc,Uc⟩
 .exact Ys (V2 I.ok.kind hk hn hm fin) hd
 .rcases hk with hk|hk
  .exact Ys (WR I.ok.kind hk hc Uc fin) hd
  .exact Ys (wpAny_loadName_free I.ok.kind hk hc Uc fin Rx) hd
theorem aG {i j pos} :PE X (.Constant (.int i) j pos) (tC (.int i)):=λ_ _ _ H _ I h=>wpAny_Constant_int #[.int i,H,I.tok _,#[_,IO],h]
theorem uW {b j pos} :PE X (.Constant (.bool b) j pos) (tC (.bl b)):=λ_ _ _ H _ I h=>Constant_bool #[.bl b,H,I,IO,h]
theorem mw {j pos} :PE X (.Constant .none j pos) (tC .Kk):=λ_ _ _ H _ I h=>Um #[.Kk,H,I,IO,h]
theorem aK {x j pos} :PE X (.Constant (.str x) j pos) (tC (.str x)):=λ_ _ _ H _ I h=>Calls.Constant_str #[.str x,H,I.tok _,#[_,IO],h]
def Gl (X:Cx) (x:G0):Prop:=X.env.kindOf x=GM .globalImplicit
theorem iM {E:Gy->GC->Prop}{pins:Gm (Gx×Kd)}{s:GC}{σ:St}{H:Hp}{x:G0}{u:Gy}{pos:Pos}{Q:Gy->GC->Prop}(I:aP X pins σ H s) (hg:Gl X x) (hm:X.mg x=GM u) (h:Q u s)
  (hd:(x == ("__debug__":G0))=IN:=by decide):Hl (model X.prog X.w) X.A (eval (.Name x pos) X.env) Q E s:=
 Q5 I.ok.kind hg (Calls.loadGlobal_global (by rw[I.ok.glob];exact I.mod.glob.keeps I.bk) hm h) hd
theorem rP {E:Gy->GC->Prop}{pins:Gm (Gx×Kd)}{s:GC}{σ:St}{H:Hp}{x:G0}{u:Gy}{pos:Pos}{Q:Gy->GC->Prop}(I:aP X pins σ H s) (hg:Gl X x) (hm:X.mg x=Id) (hv:Mz x=GM u) (h:Q u s)
  (hn:x≠"__name__":=by decide) (hd:(x == ("__debug__":G0))=IN:=by decide):Hl (model X.prog X.w) X.A (eval (.Name x pos) X.env) Q E s:=by
 obtain⟨mb,h1,h2⟩:=I.mod.blt;exact Q5 I.ok.kind hg (Calls.loadGlobal_builtin (by rw[I.ok.glob];exact I.mod.glob.keeps I.bk) hm (by rw[I.ok.blt];exact h1.keeps I.bk) ((h2 x hn).trans hv) h) hd
theorem rX {x:G0}{v:V}{u:Gy}{pos:Pos}(hg:Gl X x) (hm:X.mg x=GM u) (r:bD v u) (hd:(x == ("__debug__":G0))=IN:=by decide):PE X (.Name x pos) (tC v):=
 λ_ _ _ H _ I h=>iM I hg hm #[v,H,I,r,h] hd
variable {a b:IY}{ta tb:TE}{pos:Pos}
def PC (X:Cx) (op:CmpOp) (a b:IY) (t:TE):Prop:=
 ∀(pins:Gm (Gx×Kd)) (s:GC) (σ:St) (H:Hp) (Q:VK),aP X pins σ H s->t σ H Q->
  Hl (model X.prog X.w) X.A (eval a X.env) (λv s₁=>Hl (model X.prog X.w) X.A (eval b X.env) (λu s₂=>Hl (model X.prog X.w) X.A (J1 op v u) (EP X pins σ Q) X.xe s₂) X.xe s₁) X.xe s
theorem BS (b:IY) (h:op≠ .In) (h2:op≠ .NotIn):behindInMarks op b=IN:=by
 have e1:(op == CmpOp.In)=IN:=by cases op<;>first|rfl|exact GW IO h
 have e2:(op == CmpOp.NotIn)=IN:=by cases op<;>first|rfl|exact GW IO h2
 cases b<;>simp [behindInMarks,e1,e2]
def ai9 (ta:TE):TE:=λσ H Q=>ta σ H λx H1=>Q (.bl (decide (x= .Kk))) H1
def aeo (ta:TE):TE:=λσ H Q=>ta σ H λx H1=>Q (.bl (!decide (x= .Kk))) H1
theorem bD.Sn {x:V}{v:Gy}(r:bD x v):(v == Ju)=decide (x= .Kk):=by
 cases x with
 |Kk=>cases r;rfl
 |bl _=>cases r;rfl
 |int _=>obtain⟨t,rfl⟩:=r;rfl
 |str _=>obtain⟨t,rfl⟩:=r;rfl
 |R7 _=>obtain⟨t,rfl⟩:=r;rfl
 |W2 _=>obtain⟨t,rfl⟩:=r;rfl
 |ref _=>cases r;rfl
 |ty _=>cases r;rfl
theorem ZE {j NW} (ha:PE X a ta):PC X .Is a (.Constant .none j NW) (ai9 ta):=by
 intro pins s σ H Q I h;refine cG (ha pins s σ H _ I h) λv s1 ⟨x,H1,I1,r1,q1⟩=>?_;exact Um (is_none_gen #[.bl _,H1,I1,by rw[r1.Sn];rfl,q1])
theorem rL {j NW} (ha:PE X a ta):PC X .IsNot a (.Constant .none j NW) (aeo ta):=by
 intro pins s σ H Q I h;refine cG (ha pins s σ H _ I h) λv s1 ⟨x,H1,I1,r1,q1⟩=>?_;exact Um (isnot_none_gen #[.bl _,H1,I1,by rw[r1.Sn];rfl,q1])
inductive wP (R:HH->Hp->Prop) (x:V) (H1:Hp):Prop
 |mk (c:HH) (_:x= .bl c) (_:R c H1):wP R x H1
def tB (t:TE):TT:=λσ H Q=>t σ H (wP Q)
theorem fB {t:TE}(h:PC X op a b t) (h1:behindInMarks op b=IN:=by first|exact BS _ [01] [01]|rfl):PT X (.Compare a [op] [b] pos) (tB t):=by
 intro pins s σ H Q I hw;refine VL (cG (h pins s σ H _ I hw) λv s1 h1=>cG h1 λu s2 h2=>cG h2 λc s3 ⟨x,H1,I1,r1,q1⟩=>?_) h1;obtain⟨d,rfl,q⟩:=q1;cases r1;exact KL #[H1,I1,q]
theorem bS {e:IY}{t:TE}(h:PE X e t) (he: ∀whole,isTrue e X.env whole=(do let v<-whole;standAt e.pos;holding [v] (truthy v)):=by intro _;rfl):PT X e (tB t):=by
 intro pins s σ H Q I hw;refine isTrue_plain (cG (h pins s σ H _ I hw) λv s1 ⟨x,H1,I1,r1,q1⟩=>?_) (he _);obtain⟨d,rfl,q⟩:=q1;cases r1;exact KL #[H1,I1,q]
variable {tA tB':TT}{rest:Gm IY}
def aja (t u:TT):TT:=λσ H Q=>t σ H λc H1=>if c=Ix then u σ H1 Q else Q IN H1
def tOr (t u:TT):TT:=λσ H Q=>t σ H λc H1=>if c=Ix then Q Ix H1 else u σ H1 Q
def ajb (t:TT):TT:=λσ H Q=>t σ H λc H1=>Q (!c) H1
theorem lm (ha:PT X a tA):PW X (.BoolOp .And [a] pos) tA:=by
 intro wh pins s σ H Q I h;refine isTrue_and (cG (ha pins s σ H Q I h) λc s1 e=>?_);cases c with
 |true=>exact isTrue_and_nil e
 |false=>exact e
theorem oy (ha:PT X a tA):PW X (.BoolOp .Or [a] pos) tA:=by
 intro wh pins s σ H Q I h;refine isTrue_or (cG (ha pins s σ H Q I h) λc s1 e=>?_);cases c with
 |false=>exact isTrue_or_nil e
 |true=>exact e
theorem lZ (ha:PT X a tA) (hb:PW X (.BoolOp .And (b::rest) pos) tB'):PW X (.BoolOp .And (a::b::rest) pos) (aja tA tB'):=by
 intro wh pins s σ H Q I h;refine isTrue_and (cG (ha pins s σ H _ I h) λc s1 ⟨H1,I1,q1⟩=>?_);cases c with
 |true=>exact hb wh pins s1 σ H1 Q I1 q1
 |false=>exact#[H1,I1,q1]
theorem qK (ha:PT X a tA) (hb:PW X (.BoolOp .Or (b::rest) pos) tB'):PW X (.BoolOp .Or (a::b::rest) pos) (tOr tA tB'):=by
 intro wh pins s σ H Q I h;refine isTrue_or (cG (ha pins s σ H _ I h) λc s1 ⟨H1,I1,q1⟩=>?_);cases c with
 |true=>exact#[H1,I1,q1]
 |false=>exact hb wh pins s1 σ H1 Q I1 q1
theorem my (ha:PT X a tA):PT X (.UnaryOp .Not a pos) (ajb tA):=by
 intro pins s σ H Q I h;exact isTrue_not (ha pins s σ H (λc H1=>Q (!c) H1) I h)
def aep (ta tb:TE):TE:=λσ H Q=>ta σ H (wP (λc H1=>if c=Ix then tb σ H1 Q else Q (.bl IN) H1))
def ajc (ta tb:TE):TE:=λσ H Q=>ta σ H (wP (λc H1=>if c=Ix then Q (.bl Ix) H1 else tb σ H1 Q))
theorem nU {op} {t:TE}(h:PE X a t):PE X (.BoolOp op [a] pos) t:=λpins s σ H Q I hw=>BoolOp_one (h pins s σ H Q I hw)
theorem wg (ha:PE X a ta) (hb:PE X (.BoolOp .And (b::rest) pos) tb):PE X (.BoolOp .And (a::b::rest) pos) (aep ta tb):=by
 intro pins s σ H Q I h;refine BoolOp_and (cG (ha pins s σ H _ I h) λv s1 ⟨x,H1,I1,r1,q1⟩=>?_);obtain⟨c,rfl,q1⟩:=q1;cases r1;refine KL ?_;cases c with
 |true=>exact hb pins s1 σ H1 Q I1 q1
 |false=>exact#[.bl IN,H1,I1,IO,q1]
theorem Du (ha:PE X a ta) (hb:PE X (.BoolOp .Or (b::rest) pos) tb):PE X (.BoolOp .Or (a::b::rest) pos) (ajc ta tb):=by
 intro pins s σ H Q I h;refine BoolOp_or (cG (ha pins s σ H _ I h) λv s1 ⟨x,H1,I1,r1,q1⟩=>?_);obtain⟨c,rfl,q1⟩:=q1;cases r1;refine KL ?_;cases c with
 |false=>exact hb pins s1 σ H1 Q I1 q1
 |true=>exact#[.bl Ix,H1,I1,IO,q1]
def tIf (t:TT) (ta tb:TE):TE:=λσ H Q=>t σ H λc H1=>if c=Ix then ta σ H1 Q else tb σ H1 Q
theorem dL {c:IY}(hc:PT X c tA) (ha:PE X a ta) (hb:PE X b tb):PE X (.IfExp c a b pos) (tIf tA ta tb):=by
 intro pins s σ H Q I h;refine wpAny_IfExp (cG (hc pins s σ H _ I h) λd s1 ⟨H1,I1,q1⟩=>?_);cases d with
 |true=>exact ha pins s1 σ H1 Q I1 q1
 |false=>exact hb pins s1 σ H1 Q I1 q1
end
def ajd:Gy->GF V
 | .none=>GM .Kk
 | .bool b=>GM (.bl b)
 | .int i _=>GM (.int i)
 | .str x _=>GM (.str x)
 | .bytes b _=>GM (.R7 b)
 | .float b _=>GM (.W2 b)
 | .ref a=>GM (.ref a)
 | .type n=>GM (.ty n)
 |_=>Id
theorem bD.abs {x:V}{u:Gy}(r:bD x u):ajd u=GM x:=by
 cases x with
 |Kk=>cases r;rfl
 |bl _=>cases r;rfl
 |int _=>obtain⟨t,rfl⟩:=r;rfl
 |str _=>obtain⟨t,rfl⟩:=r;rfl
 |R7 _=>obtain⟨t,rfl⟩:=r;rfl
 |W2 _=>obtain⟨t,rfl⟩:=r;rfl
 |ref _=>cases r;rfl
 |ty _=>cases r;rfl
theorem bD.inj {x y:V}{u:Gy}(r:bD x u) (q:bD y u):x=y:=G7 (r.abs.symm.trans q.abs)
theorem bH.inj: ∀ {xs ys:Gm V}{us:Gm Gy},bH xs us->bH ys us->xs=ys
 |_,_,_, .nil, .nil=>rfl
 |_,_,_, .cons r t, .cons r' t'=>by rw[r.inj r',bH.inj t t']
section
variable {X:Cx}{pins:Gm (Gx×Kd)}{σ:St}{H:Hp}{s:GC}{a:Gx}{xs ys:Gm V}
theorem pV.of {K:Gu}(h:H a=GM (.tup xs)):pV K H a xs:= .inl (.inl h)
theorem aP.list (I:aP X pins σ H s) (h:cK X.K H a xs): ∃Ji:Gm Gy,bH xs Ji/\PlainL s.heap a Ji.toArray/\xs.length<=GV:=by
 rcases h with h|⟨o,Ji,n,hk,hc,hd,hs,hz,r⟩
 .obtain⟨z,Ji,n,r,e⟩:=h.ok I.Jy
  exact#[Ji,r,#[_,n,e,IO,IO,IO],z]
 .refine#[Ji.toList,r,#[o,n,I.NV a o hk,hc,hd,by simpa using hs],?_]
  have e:=r.length;simp only[Pb] at e;lia
theorem aP.tuple (I:aP X pins σ H s) (h:pV X.K H a xs): ∃Ji:Gm Gy,bH xs Ji/\IsTup s.heap a Ji.toArray/\xs.length<=GV:=by
 rcases h with h|⟨o,Ji,n,hk,hc,hs,hz,r⟩
 .obtain⟨z,Ji,r,p⟩:=h.ok I.Jy
  exact#[Ji,r,p,z]
 .refine#[Ji.toList,r,#[o,I.NV a o hk,hc,n,by simpa using hs],?_]
  have e:=r.length;simp only[Pb] at e;lia
theorem aP.QV (I:aP X pins σ H s) (h:cK X.K H a xs) (h':cK X.K H a ys):xs=ys:=by
 obtain⟨Ji,r,⟨o,n,e,_,_,d⟩,_⟩:=I.list h;obtain⟨its',r',⟨o',n',e',_,_,d'⟩,_⟩:=I.list h';rw[e] at e';cases e';rw[d] at d';injection d' with d1 _;have:Ji=its':=by simpa using Hr R4 d1
 subst this;exact r.inj r'
end
abbrev Cx.Rh (X:Cx) (E:Gy->GC->Prop):Cx:= { X with xe:=E }
abbrev Cx.nox (X:Cx):Cx:=X.Rh λ_ _=>False
theorem Cx.Ok.Rh {X:Cx}(ok:X.Ok) (E:Gy->GC->Prop):(X.Rh E).Ok:=
 #[ok.mod,ok.kind,ok.glob,ok.blt,ok.above,ok.inj,ok.has,ok.Xc,ok.hd,ok.frames,ok.Xd,ok.ZC,ok.bs,ok.Uu,ok.Sj,ok.Sk,ok.funs,ok.VS]
theorem Cx.Ok.OO {X:Cx}{E:Gy->GC->Prop}(ok:(X.Rh E).Ok):X.Ok:=
 #[ok.mod,ok.kind,ok.glob,ok.blt,ok.above,ok.inj,ok.has,ok.Xc,ok.hd,ok.frames,ok.Xd,ok.ZC,ok.bs,ok.Uu,ok.Sj,ok.Sk,ok.funs,ok.VS]
section
variable {X:Cx}{pins:Gm (Gx×Kd)}{σ:St}{H:Hp}{s:GC}{E:Gy->GC->Prop}
theorem aP.Rh (I:aP X pins σ H s) (E:Gy->GC->Prop):aP (X.Rh E) pins σ H s:=#[I.ok.Rh E,I.os,I.bare,I.base,I.loc,I.cell,I.free,I.MQ,I.pin,I.Jy,I.len]
theorem aP.OO (I:aP (X.Rh E) pins σ H s):aP X pins σ H s:=#[I.ok.OO,I.os,I.bare,I.base,I.loc,I.cell,I.free,I.MQ,I.pin,I.Jy,I.len]
theorem SP.OO {f:Flow}{s':GC}(h:SP (X.Rh E) pins D f s'):SP X pins D f s':=by
 cases f with
 |next=>obtain⟨σ',H',I,q⟩:=h;exact#[σ',H',I.OO,q]
 |brk=>obtain⟨σ',H',I,q⟩:=h;exact#[σ',H',I.OO,q]
 |cont=>obtain⟨σ',H',I,q⟩:=h;exact#[σ',H',I.OO,q]
 |ret u=>obtain⟨v,σ',H',I,r,q⟩:=h;exact#[v,σ',H',I.OO,r,q]
theorem vV.nox {st:Gm Stmt}{t:TS}(h:vV X.nox st t):vV X st t:=λpins s σ H D I hw=>
 JM (h pins s σ H D (I.Rh _) hw) (λ_ _ q=>q.OO) λ_ _ z=>JS z
end
section
variable {X:Cx}{st:Stmt}{rest:Gm Stmt}{t u:TS}{e:IY}{te:TE}{pos:Pos}
def Xg:TS:=λD σ H=>D.nx σ H
def tM (t u:TS):TS:=λD σ H=>t { D with nx:=u D } σ H
theorem aQ:vV X [] Xg:=λ_ _ σ H _ I h=>Nv #[σ,H,I,h]
theorem ai (h1:PS X st t) (h2:vV X rest u):vV X (st::rest) (tM t u):=by
 intro pins s σ H D I h;refine wpAny_execs_cons (cG (h1 pins s σ H { D with nx:=u D } I h) λf s1 q=>?_);cases f with
 |next=>
  obtain⟨σ',H',I',q⟩:=q;exact h2 pins s1 σ' H' D I' q
 |ret v=>exact q
 |brk=>exact q
 |cont=>exact q
theorem ak (h1:PS X st t):vV X [st] t:=by
 intro pins s σ H D I h;refine wpAny_execs_cons (cG (h1 pins s σ H D I h) λf s1 q=>?_);cases f with
 |next=>exact Nv q
 |ret v=>exact q
 |brk=>exact q
 |cont=>exact q
def ZF:TS:=λD σ H=>D.bk σ H
theorem El:PS X (.Break pos) ZF:=λ_ _ σ H _ I h=>wpAny_Break #[σ,H,I,h]
theorem aP.quiet {pins:Gm (Gx×Kd)}{σ:St}{H:Hp}{s:GC}(I:aP X pins σ H s):interactive X.env=IN:=by simp [interactive,I.ok.kind]
def ut (te:TE):TS:=λD σ H=>te σ H λ_ H1=>D.nx σ H1
theorem a6 (he:PE X e te) (hs:Lb e Id pos.line X.env=Hz IN:=by rfl):PS X (.Expr e pos) (ut te):=by
 intro pins s σ H D I h;exact wpAny_Expr_any (cG (he pins s σ H _ I h) λv s1 ⟨x,H1,I1,r1,q1⟩=>#[σ,H1,I1,q1]) I.quiet hs
def ZG (te:TE):TS:=λD σ H=>te σ H D.rt
theorem aB (he:PE X e te):PS X (.Return (GM e) pos) (ZG te):=by
 intro pins s σ H D I h;exact wpAny_Return_some (cG (he pins s σ H _ I h) λv s1 ⟨x,H1,I1,r1,q1⟩=>#[x,σ,H1,I1,r1,q1])
def ZH (c:TT) (t u:TS):TS:=λD σ H=>c σ H λb H1=>if b=Ix then t D σ H1 else u D σ H1
theorem bz {c:IY}{a b:Gm Stmt}{tc:TT}(hc:PT X c tc) (ha:vV X a t) (hb:vV X b u):PS X (.If c a b pos) (ZH tc t u):=by
 intro pins s σ H D I h;refine wpAny_If (cG (hc pins s σ H _ I h) λd s1 ⟨H1,I1,q1⟩=>?_);cases d with
 |true=>exact ha pins s1 σ H1 D I1 q1
 |false=>exact hb pins s1 σ H1 D I1 q1
end
abbrev TG:=V->St->Hp->(St->Hp->Prop)->Prop
abbrev ZI:=Gm V->St->Hp->(St->Hp->Prop)->Prop
def PG (X:Cx) (target:IY) (t:TG):Prop:=
 ∀(pins:Gm (Gx×Kd)) (s:GC) (σ:St) (H:Hp) (v:V) (u:Gy) (Q:St->Hp->Prop),aP X pins σ H s->bD v u->t v σ H Q->
  Hl (model X.prog X.w) X.A (assign target X.env u) (λ_ s'=> ∃σ' H',aP X pins σ' H' s'/\Q σ' H') X.xe s
def PGs (X:Cx) (ts:Gm IY) (t:ZI):Prop:=
 ∀(pins:Gm (Gx×Kd)) (s:GC) (σ:St) (H:Hp) (vs:Gm V) (us:Gm Gy) (Q:St->Hp->Prop),aP X pins σ H s->bH vs us->t vs σ H Q->
  Hl (model X.prog X.w) X.A (assignInOrder ((QJ ts X.env).map (·.2)) us) (λ_ s'=> ∃σ' H',aP X pins σ' H' s'/\Q σ' H') X.xe s
abbrev TIp:=V->V->Hp->VK->Prop
def PIp (X:Cx) (op:Operator) (t:TIp):Prop:=
 ∀(pins:Gm (Gx×Kd)) (s:GC) (σ:St) (H:Hp) (x y:V) (v u:Gy) (Q:VK),aP X pins σ H s->bD x v->bD y u->t x y H Q->
  Hl (model X.prog X.w) X.A (inplaceOp op v u) (EP X pins σ Q) X.xe s
section
variable {X:Cx}{pos:Pos}
def gI (i:GJ):TG:=λv σ H Q=>Q (σ.set i (GM v)) H
theorem cY {i:GJ}{x:G0}(hN:X.N.Nodup) (hi:X.N[i]?=GM x) (hx:Loc X.env.scope x) (hf:X.fn x=Ix\/X.env.scope.names.lookup x=GM .local:=by first|exact .inl rfl|exact .inr rfl|assumption):PG X (.Name x pos) (gI i):=by
 intro pins s σ H v u Q I r h;exact wpAny_assign_Name (kP I hN hi hx r (λs' I'=>#[_,H,I',h]) hf)
def aje:ZI:=λvs σ H Q=>vs=[]/\Q σ H
def aeq (t:TG) (u:ZI):ZI:=λvs σ H Q=> ∃v r,vs=v::r/\t v σ H λσ' H'=>u r σ' H' Q
theorem E5:PGs X [] aje:=by
 intro pins s σ H vs us Q I r h;obtain⟨e,h⟩:=h;subst e;cases r;exact assignInOrder_nil #[σ,H,I,h]
theorem uE {e:IY}{es:Gm IY}{t:TG}{u:ZI}(h1:PG X e t) (h2:PGs X es u)
  (hs:(QJ (e::es) X.env).map (·.2)=assign e X.env::(QJ es X.env).map (·.2):=by rfl):PGs X (e::es) (aeq t u):=by
 intro pins s σ H vs us Q I r h;obtain⟨v,vr,e1,h⟩:=h;subst e1;cases r with
 |cons r rr=>
  rw[hs];refine assignInOrder_cons (cG (h1 pins s σ H _ _ _ I r h) λ_ s1 ⟨σ1,H1,I1,q1⟩=>?_);exact h2 pins s1 σ1 H1 _ _ Q I1 rr q1
def ajf (K:Gu) (n:GJ) (t:ZI):TG:=λv σ H Q=> ∃a xs,v= .ref a/\pV K H a xs/\xs.length=n/\t xs σ H Q
theorem ZJ {es:Gm IY}{k:GJ}{t:ZI}(hc:X.calm=Ix) (h:PGs X es t)
  (hn:(QJ es X.env).length=n:=by rfl) (Ms:(QJ es X.env).findIdx? (·.1)=Id:=by rfl):PG X (.Tuple es k pos) (ajf X.K n t):=by
 intro pins s σ H v u Q I r hw;obtain⟨a,xs,e1,hq,hl,hw⟩:=hw;subst e1;cases r;obtain⟨Ji,rv,ht,hz⟩:=I.tuple hq;refine assign_Tuple_tuple (I.ok.hd hc) ht (by simp [hn,<-hl,rv.length]) Ms λh' hx=>?_;have I1:aP X pins σ H { s with heap:=h' } :=I.kept (t':=s.toks) λb o e=>hx b o (Ih (Hg e)) e
 exact h pins _ σ H xs _ Q I1 (by simpa using rv) hw
def B4 (te:TE) (g:TG):TS:=λD σ H=>te σ H λx H1=>g x σ H1 D.nx
theorem b4 {i:GJ}{x:G0}{e:IY}{te:TE}{NW:Pos}(hN:X.N.Nodup) (hi:X.N[i]?=GM x) (hx:Loc X.env.scope x) (he:PE X e te) (hs:Lb e (GM (.Name x NW)) pos.line X.env=Hz IN:=by rfl) (hf:X.fn x=Ix\/X.env.scope.names.lookup x=GM .local:=by first|exact .inl rfl|exact .inr rfl|assumption):
  PS X (.Assign [.Name x NW] e pos) (B4 te (gI i)):=by
 intro pins s σ H D I h;refine wpAny_Assign_Name (cG (he pins s σ H _ I h) λv s1 ⟨y,H1,I1,r1,q1⟩=>?_) hs;exact kP I1 hN hi hx r1 (λs2 I2=>#[_,H1,I2,q1]) hf
def ajg (i:GJ) (te:TE) (ti:TIp):TS:=λD σ H=> ∃x,σ[i]?=GM (GM x)/\te σ H λy H1=>ti x y H1 λz H2=>D.nx (σ.set i (GM z)) H2
theorem lV {i:GJ}{x:G0}{e:IY}{te:TE}{NW:Pos}(hN:X.N.Nodup) (hi:X.N[i]?=GM x) (hx:Loc X.env.scope x) (he:PE X e te) (ho:PIp X op ti) (hf:X.fn x=Ix\/X.env.scope.names.lookup x=GM .local:=by first|exact .inl rfl|exact .inr rfl|assumption):
  PS X (.AugAssign (.Name x NW) op e pos) (ajg i te ti):=by
 intro pins s σ H D I h;obtain⟨v,e1,h⟩:=h;obtain⟨m,hn,hl⟩:=I.loc;have vis:tq X.env.scope x:=by rcases hx with k|k;exact .inl k;exact .inr (.inl k)
 obtain⟨u,r,l⟩:=hl i x v hi e1 vis;refine wpAny_AugAssign_Name ?_;have go:Hl (model X.prog X.w) X.A (eval e X.env) (λw s₂=>Hl (model X.prog X.w) X.A (inplaceOp op u w) (λr s₃=>Hl (model X.prog X.w) X.A (storeName X.env x r) (λ_=>SP X pins D .next) X.xe s₃) X.xe s₂) X.xe s:=by
  refine cG (he pins s σ H _ I h) λw s1 ⟨y,H1,I1,r1,q1⟩=>?_;refine cG (ho pins s1 σ H1 v y u w _ I1 r r1 q1) λz s2 ⟨zv,H2,I2,r2,q2⟩=>?_;exact kP I2 hN hi hx r2 (λs3 I3=>#[_,H2,I3,q2]) hf
 rcases l with⟨hk,hm⟩|⟨hk,c,hc,Uc⟩
 .exact V2 I.ok.kind hk hn hm go
 .rcases hk with hk|hk
  .exact WR I.ok.kind hk hc Uc go
  .rcases hx with k|k
   .have:X.env.scope.names.lookup x=GM .free:=hk
    rw[k] at this;cases this
   .have:X.env.scope.names.lookup x=GM .free:=hk
    rw[k] at this;cases this
def ipI (f:Int->Int->Int):TIp:=λx y H Q=> ∃i j,x= .int i/\y= .int j/\Q (.int (f i j)) H
theorem lX:PIp X .Add (ipI λi j=>i+j):=by
 intro pins s σ H x y v u Q I r1 r2 h;obtain⟨i,j,e1,e2,q⟩:=h;subst e1;subst e2;obtain⟨t,rfl⟩:=r1;obtain⟨t',rfl⟩:=r2;exact iadd_int #[.int _,H,I.tok _,#[_,IO],q]
end
section
variable {X:Cx}{pos:Pos}
def ZK (c:TT) (tb:TS):TS:=λD σ H=> ∃W:GJ->St->Hp->Prop,(∃m,W m σ H)/\ ∀m σ H,W m σ H->
 c σ H λb H1=>if b=Ix then∃N:St->Hp->Prop,(∀σ' H',N σ' H'-> ∃m',m'<m/\W m' σ' H')/\tb { D with nx:=N,ct:=N,bk:=D.nx } σ H1 else D.nx σ H1
theorem jo {c:IY}{tc:TT}{tb:TS}(hp:Rt (model X.prog X.w) X.A X.env X.xe) (hc:PT X c tc) (hb:vV X body tb):PS X (.While c body [] pos) (ZK tc tb):=by
 intro pins s σ H D I h;obtain⟨W,⟨m0,w0⟩,turn⟩:=h;refine wpAny_While (codeAny_whileLoop (λn s'=> ∃σ' H',aP X pins σ' H' s'/\W n σ' H') ?_ m0 #[σ,H,I,w0]);rintro n s1 ⟨σ1,H1,I1,w1⟩;refine Lr hp (cG (hc pins s1 σ1 H1 _ I1 (turn n σ1 H1 w1)) λb s2 ⟨H2,I2,q2⟩=>?_);cases b with
 |true=>
  obtain⟨N,hN,q2⟩:=q2;rw[GD IO];refine Lr hp (cG (hb pins s2 σ1 H2 _ I2 q2) λf s3 q3=>?_);cases f with
  |next=>
   obtain⟨σ3,H3,I3,n3⟩:=q3;obtain⟨m',hm,w3⟩:=hN σ3 H3 n3;exact#[m',hm,σ3,H3,I3,w3]
  |cont=>
   obtain⟨σ3,H3,I3,n3⟩:=q3;obtain⟨m',hm,w3⟩:=hN σ3 H3 n3;exact#[m',hm,σ3,H3,I3,w3]
  |brk=>exact q3
  |ret v=>exact q3
 |false=>
  rw[GB Gn];exact Nv #[σ1,H2,I2,q2]
end
structure It where
 go:GJ->Hp->Prop
 Xh:GJ->Hp->V->Hp->Prop
 stop:GJ->Hp->Prop
def mZ (X:Cx) (pins:Gm (Gx×Kd)) (H:Hp) (b:Gx):Prop:=
 H b=Id/\b≠X.env.locals/\b∉X.fs/\(b∈X.ex\/X.P6.heap.objs.size<=b)/\(∀x c,X.env.cells.lookup x=GM c->c≠b)/\ ∀p∈X.pn++pins,p.1≠b
theorem aP.WD {X:Cx}{pins:Gm (Gx×Kd)}{σ:St}{H H':Hp}{s:GC}{b:Gx}(I:aP X pins σ H s) (hb:s.heap.objs.size<=b) (hn:H' b=Id):mZ X pins H' b:=by
 refine#[hn,Qv (Hh I.lt hb),I.ai7 hb, .inr (GX I.sz hb),λx c e z=>?_,λp hp z=>?_]
 .obtain⟨v,q⟩:=I.cell x c e
  exact GW (Hh q.lt (by rw[z];exact hb)) (Jl _)
 .exact GW (Hh (Hg (I.pin p hp).1) (by rw[z];exact hb)) (Jl _)
structure Ef (P:Hm) (w:HS) (K:Gu) (tg:IY) (J:It) (fp:Gm Gx) (it:Gx) (tn:GJ->Ij->Prop):Prop where
 mem:it∈fp
 obj: ∀i h,tn i h-> ∀b∈fp,∃o,h.get? b=GM o/\ ∀v,o.data≠ .cell v
 keep: ∀i h h',tn i h->(∀b∈fp,∀o,h.get? b=GM o->h'.get? b=GM o)->tn i h'
 item: ∀(X:Cx),X.prog=P->X.w=w->X.K=K->X.calm=Ix-> ∀(i:GJ) (pins:Gm (Gx×Kd)) (s:GC) (σ:St) (H:Hp) (E:Gy->GC->Prop),aP X pins σ H s->(∀b∈fp,mZ X pins H b)->tn i s.heap->J.go i H->
  Hl (model P w) X.A (pyNext (.ref it)) (λr s1=> ∃u,r=GM u/\
   Hl (model P w) X.A (Pk tg (.ref it) u) (λ_ s2=> ∃x H',aP X pins σ H' s2/\bD x u/\J.Xh i H x H'/\tn (i+1) s2.heap/\ ∀b∈fp,H' b=Id) E s1) E s
 done: ∀(X:Cx),X.prog=P->X.w=w->X.K=K->X.calm=Ix-> ∀(i:GJ) (pins:Gm (Gx×Kd)) (s:GC) (σ:St) (H:Hp) (E:Gy->GC->Prop),aP X pins σ H s->(∀b∈fp,mZ X pins H b)->tn i s.heap->J.stop i H->
  Hl (model P w) X.A (pyNext (.ref it)) (λr s1=>r=Id/\aP X pins σ H s1) E s
 self: ∀(A:IA) (i:GJ) (s:GC) (Q:Gy->GC->Prop) (E:Gy->GC->Prop),tn i s.heap->Q (.ref it) s->Hl (model P w) A (pyIter (.ref it)) Q E s
abbrev TI:=St->Hp->(It->Hp->Prop)->Prop
def PIE (X:Cx) (pins:Gm (Gx×Kd)) (σ:St) (tg:IY) (R:It->Hp->Prop) (itv:Gy) (s2:GC):Prop:=
 ∃(it:Gx) (fp:Gm Gx) (tn:GJ->Ij->Prop) (J:It) (H':Hp),itv= .ref it/\aP X pins σ H' s2/\Ef X.prog X.w X.K tg J fp it tn/\tn 0 s2.heap/\(∀b∈fp,mZ X pins H' b)/\R J H'
def PI (X:Cx) (tg Mt:IY) (wi:TI):Prop:=
 ∀(pins:Gm (Gx×Kd)) (s:GC) (σ:St) (H:Hp) (R:It->Hp->Prop),aP X pins σ H s->wi σ H R->
  Hl (model X.prog X.w) X.A (eval Mt X.env) (λv s1=>Hl (model X.prog X.w) X.A (pyIter v) (PIE X pins σ tg R) X.xe s1) X.xe s
theorem Xi {A:IA}{E:Gy->GC->Prop}{s:GC}{tg:IY}{it:Gx}{u:Gy}{o:Kd}{Q:Nl->GC->Prop}(ho:s.heap.get? it=GM o) (hc:o.cls= .type n) (hd:o.data= .fields vs)
  (hn:["enumerate","zip","dict_itemiterator","dict_reverseitemiterator","odict_iterator","itertools.zip_longest","itertools.pairwise"].contains n=IN) (hQ:Q () s):Hl M A (Pk tg (.ref it) u) Q E s:=by
 unfold Pk;cases tg<;>first
  |exact HU hQ
  | (cases u<;>first
    |exact HU hQ
    | (refine He (wpAny_load ho ?_)
       rw[hc,hd];show Hl M A (if(["enumerate","zip","dict_itemiterator","dict_reverseitemiterator","odict_iterator","itertools.zip_longest","itertools.pairwise"].contains n&&vs[0]? == GM (P2 _))=Ix then _ else _) Q E s
       rw[GB (by intro h;rw[hn,WS] at h;cases h)];exact HU hQ))
def Xj (K:Gu) (a:Gx):It:=
 #[λi H=> ∃xs x,cK K H a xs/\xs[i]?=GM x,λi H x H'=>H'=H/\ ∀xs,cK K H a xs->xs[i]?=GM x,λi H=> ∃xs,cK K H a xs/\xs.length<=i]
theorem Ad {P:Hm}{w:HS}{K:Gu}{tg:IY}(a it:Gx):Ef P w K tg (Xj K a) [it] it (λi h=>h.IsListIter it a i) where
 mem:=by simp
 obj:=λi h st b hb=>by
  have e:b=it:=by simpa using hb
  subst e;obtain⟨o,e,c,d⟩:=st;exact#[o,e,λv z=>by rw[d] at z;cases z]
 keep:=λi h h' st k=>st.at λo e=>k it (by simp) o e
 item:=by
  intro X hP hw hK hc i pins s σ H E I hf st hg;subst hP hw hK;obtain⟨xs,x,hq,hx⟩:=hg;obtain⟨Ji,rv,p,hz⟩:=I.list hq;obtain⟨u,hu,ru⟩:=rv.get hx;obtain⟨f0,f1,f2,f3,f4,f5⟩:=hf it (by simp);refine wpAny_pyNext_list_item st p.isList (x:=u) (by simpa using hu) λh' st' sb=>?_;have I1:aP X pins σ H { s with heap:=h' } :=I.turned (t':=s.toks) (λb o hb e=>(sb.2 b hb).trans e) f0 f1 f3 f4 f5
  obtain⟨o,e,c,d⟩:=id st';exact#[u,IO,Xi (s:= { s with heap:=h' }) e c d [01] #[x,H,I1,ru,#[IO,λys hy=>by rw[I.QV hy hq];exact hx],st',λb hb=>(hf b hb).1]]
 done:=by
  intro X hP hw hK hc i pins s σ H E I hf st hg;subst hP hw hK;obtain⟨xs,hq,hx⟩:=hg;obtain⟨Ji,rv,p,hz⟩:=I.list hq;obtain⟨f0,f1,f2,f3,f4,f5⟩:=hf it (by simp);have hl:=rv.length;exact wpAny_pyNext_list_end (I.ok.hd hc) st p.isList (by simp;lia) λh' eb=>#[IO,I.turned (t':=s.toks) (λb o hb e=>eb b o hb e) f0 f1 f3 f4 f5]
 self:=λ_ _ _ _ _ st h=>wpAny_pyIter_listiter st h
section
variable {X:Cx}{tg:IY}
inductive Xk (K:Gu) (R:It->Hp->Prop) (x:V) (H1:Hp):Prop
 |mk (a:Gx) (_:x= .ref a) (_:(∃xs,cK K H1 a xs)) (_:R (Xj K a) H1):Xk K R x H1
def qg (K:Gu) (tl:TE):TI:=λσ H R=>tl σ H (Xk K R)
theorem fL {l:IY}{tl:TE}(hl:PE X l tl):PI X tg l (qg X.K tl):=by
 intro pins s σ H R I h;refine cG (hl pins s σ H _ I h) λv s1 ⟨x,H1,I1,r1,q1⟩=>?_;obtain⟨a,e,⟨xs,hq⟩,q⟩:=q1;subst e;cases r1;obtain⟨Ji,rv,p,hz⟩:=I1.list hq;refine wpAny_pyIter_list p.isList ?_;refine#[s1.heap.objs.size,[s1.heap.objs.size],_,_,H1,IO,I1.kept (t':=s1.toks) λb o e=>GN _ e,Ad a _,#[_,Io _ IO,IO,IO],λb hb=>?_,q];have e:b=s1.heap.objs.size:=by simpa using hb
 subst e;exact I1.WD (GU _) (I1.Jy.fresh (GU _))
def aer (wi:TI) (g:TG) (tb:TS):TS:=λD σ H=>wi σ H λJ H1=> ∃W:GJ->GJ->St->Hp->Prop,(∃m,W 0 m σ H1)/\ ∀i m σ H,W i m σ H->
 (J.stop i H/\D.nx σ H)\/(J.go i H/\ ∃N:St->Hp->Prop,(∀σ' H',N σ' H'-> ∃m',m'<m/\W (i+1) m' σ' H')/\ ∀x H',J.Xh i H x H'->g x σ H' λσ2 H2=>tb { D with nx:=N,ct:=N,bk:=D.nx } σ2 H2)
def ox (fp:Gm Gx) (h:Ij):Gm (Gx×Kd):=fp.filterMap λb=>(h.get? b).map λo=>(b,o)
theorem j9 {h:Ij}{b:Gx}{o:Kd}(hb:b∈fp) (e:h.get? b=GM o):(b,o)∈ox fp h:=UL.mpr #[b,hb,by rw[e];rfl]
theorem As {h:Ij}{p:Gx×Kd}(hp:p∈ox fp h):p.1∈fp/\h.get? p.1=GM p.2:=by
 obtain⟨b,hb,e⟩:=UL.mp hp;cases q:h.get? b with
 |none=>rw[q] at e;cases e
 |some o=>
  rw[q] at e;have e':(b,o)=p:=G7 e;subst e';exact#[hb,q]
theorem aP.pinned {pins:Gm (Gx×Kd)}{σ:St}{H:Hp}{s:GC}(I:aP X pins σ H s) (hf: ∀b∈fp,mZ X pins H b) (ho: ∀b∈fp,∃o,s.heap.get? b=GM o/\ ∀v,o.data≠ .cell v):aP X (pins++ox fp s.heap) σ H s:=
 I.T9 λp hp=>(HG.mp hp).elim (λz=>I.pin p (Jz _ z)) λz=>by
  obtain⟨hb,e⟩:=As z;obtain⟨f0,f1,f2,_⟩:=hf p.1 hb;obtain⟨o,e',d⟩:=ho p.1 hb;rw[e] at e';cases e';exact#[e,f0,f1,f2,d]
theorem aP.PX {pins pl:Gm (Gx×Kd)}{σ:St}{H:Hp}{s:GC}(I:aP X (pins++pl) σ H s):aP X pins σ H s:=I.T9 λp hp=>I.pin p (Jz _ (O4 _ hp))
theorem kj {g:TG}{tb:TS}{pos:Pos}(hp:Rt (model X.prog X.w) X.A X.env X.xe) (hc:X.calm=Ix) (hi:PI X tg Mt wi) (hg:PG X tg g) (hb:vV X body tb)
  (hs: ∀x,KN Mt X.env x=Hz x:=by intro _;rfl):PS X (.For tg Mt body [] pos) (aer wi g tb):=by
 intro pins s σ H D I h;refine wpAny_For (cG (hi pins s σ H _ I h) λv s1 h1=>cG h1 λitv s2 h2=>?_) hs;obtain⟨it,fp,tn,J,H2,e,I2,T,st2,f2,W,⟨m0,w0⟩,turn⟩:=h2;subst e;have TJ: ∀ {H':Hp},(∀b∈fp,H' b=Id)-> ∀b∈fp,mZ X pins H' b:=λhn b hb=>#[hn b hb,(f2 b hb).2]
 refine codeAny_forLoop_any (λn s'=> ∃i σ' H',aP X pins σ' H' s'/\tn i s'.heap/\(∀b∈fp,H' b=Id)/\W i n σ' H') ?_ m0 #[0,σ,H2,I2,st2,λb hb=>(f2 b hb).1,w0];rintro n s3 ⟨i,σ3,H3,I3,st3,fr3,w3⟩;rcases turn i n σ3 H3 w3 with⟨stop,qn⟩|⟨go,N,hN,step⟩
 .refine Lr hp (cG (T.done X IO IO IO hc i pins s3 σ3 H3 X.xe I3 (TJ fr3) st3 stop) λr s4 ⟨hr,I4⟩=>?_)
  subst hr;exact Nv #[σ3,H3,I4,qn]
 .refine Lr hp (cG (T.item X IO IO IO hc i pins s3 σ3 H3 X.xe I3 (TJ fr3) st3 go) λr s4 ⟨u,hr,h4⟩=>?_)
  subst hr;refine Lr hp (cG h4 λ_ s5 ⟨x,H5,I5,r5,y5,st5,fr5⟩=>?_);have I5':=I5.pinned (TJ fr5) (T.obj _ _ st5);refine Lr hp (cG (hg _ s5 σ3 H5 x u _ I5' r5 (step x H5 y5)) λ_ s6 ⟨σ6,H6,I6,q6⟩=>?_);refine Lr hp (cG (hb _ s6 σ6 H6 _ I6 q6) λf s7 q7=>?_);have again: ∀ {σ7:St}{H7:Hp},aP X (pins++ox fp s5.heap) σ7 H7 s7->N σ7 H7-> ∃m,m<n/\ ∃i σ' H',aP X pins σ' H' s7/\tn i s7.heap/\(∀b∈fp,H' b=Id)/\W i m σ' H':=λ{σ7 H7} I7 n7=>by
   obtain⟨m',hm,w7⟩:=hN σ7 H7 n7;refine#[m',hm,i+1,σ7,H7,I7.PX,T.keep _ _ _ st5 λb hb o e=>(I7.pin (b,o) (Jz _ (Jz _ (j9 hb e)))).1,λb hb=>?_,w7];obtain⟨o,e,d⟩:=T.obj _ _ st5 b hb;exact(I7.pin (b,o) (Jz _ (Jz _ (j9 hb e)))).2.1
  cases f with
  |next=>obtain⟨σ7,H7,I7,n7⟩:=q7;exact again I7 n7
  |cont=>obtain⟨σ7,H7,I7,n7⟩:=q7;exact again I7 n7
  |brk=>obtain⟨σ7,H7,I7,q7⟩:=q7;exact#[σ7,H7,I7.PX,q7]
  |ret v=>obtain⟨x7,σ7,H7,I7,r7,q7⟩:=q7;exact#[x7,σ7,H7,I7.PX,r7,q7]
end
theorem ie {K:Gu}{a:Gx}{xs:Gm V}{g:TG}{tb:TS}{D:dz}{σ:St}{H:Hp}(Pv:GJ->St->Hp->Prop) (h0:Pv 0 σ H) (hl: ∀i σ H,i<=xs.length->Pv i σ H->cK K H a xs)
  (hs: ∀i x σ H,xs[i]?=GM x->Pv i σ H->g x σ H λσ2 H2=>tb { D with nx:=Pv (i+1),ct:=Pv (i+1),bk:=D.nx } σ2 H2) (hd: ∀σ H,Pv xs.length σ H->D.nx σ H):
  ∃W:GJ->GJ->St->Hp->Prop,(∃m,W 0 m σ H)/\ ∀i m σ H,W i m σ H->
   ((Xj K a).stop i H/\D.nx σ H)\/((Xj K a).go i H/\ ∃N:St->Hp->Prop,(∀σ' H',N σ' H'-> ∃m',m'<m/\W (i+1) m' σ' H')/\ ∀x H',(Xj K a).Xh i H x H'->g x σ H' λσ2 H2=>tb { D with nx:=N,ct:=N,bk:=D.nx } σ2 H2):=by
 refine#[λi m σ H=>m=xs.length-i/\i<=xs.length/\Pv i σ H,#[xs.length,by simp,HB _,h0],?_];rintro i m σ H ⟨rfl,hi,p⟩;have q:=hl i σ H hi p;by_cases RT:i<xs.length
 .refine .inr #[#[xs,xs[i],q,by simp [RT]],Pv (i+1),λσ' H' p'=>#[xs.length-(i+1),by lia,IO,RT,p'],λx H' y=>?_]
  obtain⟨e,y⟩:=y;subst e;exact hs i x σ _ (y xs q) p
 .have e:i=xs.length:=by lia
  subst e;exact .inl #[#[xs,q,GU _],hd σ H p]
abbrev R2:=V->V->Hp->VK->Prop
def mz (X:Cx) (f:Gy->Gy->Sem Gy) (r:R2):Prop:=
 ∀(pins:Gm (Gx×Kd)) (s:GC) (σ:St) (H:Hp) (x y:V) (v u:Gy) (Q:VK),aP X pins σ H s->bD x v->bD y u->r x y H Q->
  Hl (model X.prog X.w) X.A (f v u) (EP X pins σ Q) X.xe s
def UnR (X:Cx) (f:Gy->Sem Gy) (r:V->Hp->VK->Prop):Prop:=
 ∀(pins:Gm (Gx×Kd)) (s:GC) (σ:St) (H:Hp) (x:V) (v:Gy) (Q:VK),aP X pins σ H s->bD x v->r x H Q->
  Hl (model X.prog X.w) X.A (f v) (EP X pins σ Q) X.xe s
def gB (X:Cx) (f:Gy) (r:Gm V->Hp->VK->Prop):Prop:=
 ∀(pins:Gm (Gx×Kd)) (s:GC) (σ:St) (H:Hp) (xs:Gm V) (us:Gm Gy) (Q:VK),aP X pins σ H s->bH xs us->r xs H Q->
  Hl (model X.prog X.w) X.A (call f us) (EP X pins σ Q) X.xe s
def Bc (r:R2) (ta tb:TE):TE:=λσ H Q=>ta σ H λx H1=>tb σ H1 λy H2=>r x y H2 Q
def tUn (r:V->Hp->VK->Prop) (ta:TE):TE:=λσ H Q=>ta σ H λx H1=>r x H1 Q
inductive rI (C:Int->Int->Prop) (g:Int->Int->V) (x:V) (y:V) (H:Hp) (Q:VK):Prop
 |mk (i j:Int) (_:x= .int i) (_:y= .int j) (_:C i j) (_:Q (g i j) H):rI C g x y H Q
inductive vS (g:Int->Int->V) (x:V) (y:V) (H:Hp) (Q:VK):Prop
 |mk (i j:Int) (_:x= .int i) (_:y= .int j) (_:Q (g i j) H):vS g x y H Q
inductive rU (g:Int->V) (x:V) (H:Hp) (Q:VK):Prop
 |mk (i:Int) (_:x= .int i) (_:Q (g i) H):rU g x H Q
section
variable {X:Cx}{a b c:IY}{ta tb tc:TE}{pos:Pos}
theorem ZL (ha:PE X a ta) (hb:PE X b tb) {pins:Gm (Gx×Kd)}{s:GC}{σ:St}{H:Hp}{R:V->V->Hp->Prop}(I:aP X pins σ H s)
  (h:ta σ H λx H1=>tb σ H1 λy H2=>R x y H2) {Q:Gy->GC->Prop}{f:Gy->Gy->Sem Gy}
  (hf: ∀v u s2 x y H2,aP X pins σ H2 s2->bD x v->bD y u->R x y H2->Hl (model X.prog X.w) X.A (f v u) Q X.xe s2):
  Hl (model X.prog X.w) X.A (eval a X.env) (λv s₁=>Hl (model X.prog X.w) X.A (eval b X.env) (λu s₂=>Hl (model X.prog X.w) X.A (f v u) Q X.xe s₂) X.xe s₁) X.xe s:=by
 refine cG (ha pins s σ H _ I h) λv s1 ⟨x,H1,I1,r1,q1⟩=>?_;refine cG (hb pins s1 σ H1 _ I1 q1) λu s2 ⟨y,H2,I2,r2,q2⟩=>?_;exact hf v u s2 x y H2 I2 r1 r2 q2
theorem aZ {r:R2}(ho:mz X (N6 op) r) (ha:PE X a ta) (hb:PE X b tb):PE X (.BinOp a op b pos) (Bc r ta tb):=by
 intro pins s σ H Q I h;exact wpAny_BinOp (ZL ha hb I h λv u s2 x y H2 I2 rx ry q=>ho pins s2 σ H2 x y v u Q I2 rx ry q)
theorem Xl {r:V->Hp->VK->Prop}(ho:UnR X (unaryOp op) r) (ha:PE X a ta):PE X (.UnaryOp op a pos) (tUn r ta):=by
 intro pins s σ H Q I h;exact UnaryOp_ (cG (ha pins s σ H _ I h) λv s1 ⟨x,H1,I1,r1,q1⟩=>ho pins s1 σ H1 x v Q I1 r1 q1)
theorem opI {f:Gy->Gy->Sem Gy}{C:Int->Int->Prop}{g:Int->Int->Int}
  (rule: ∀(i j:Int) (t u:Tok) (s:GC) (Q:Gy->GC->Prop) (E:Gy->GC->Prop),C i j->Q (.int (g i j) s.toks) { s with toks:=s.toks+1 } ->Hl (model X.prog X.w) X.A (f (.int i t) (.int j u)) Q E s):
  mz X f (rI C λi j=> .int (g i j)):=by
 intro pins s σ H x y v u Q I rx ry h;obtain⟨i,j,rfl,rfl,hc,q⟩:=h;obtain⟨t,rfl⟩:=rx;obtain⟨t',rfl⟩:=ry;exact rule i j t t' s _ _ hc #[.int (g i j),H,I.tok _,#[_,IO],q]
theorem aes {f:Gy->Gy->Sem Gy}{g:Int->Int->Int}
  (rule: ∀(i j:Int) (t u:Tok) (s:GC) (Q:Gy->GC->Prop) (E:Gy->GC->Prop),Q (.int (g i j) s.toks) { s with toks:=s.toks+1 } ->Hl (model X.prog X.w) X.A (f (.int i t) (.int j u)) Q E s):
  mz X f (vS λi j=> .int (g i j)):=by
 intro pins s σ H x y v u Q I rx ry h;obtain⟨i,j,rfl,rfl,q⟩:=h;obtain⟨t,rfl⟩:=rx;obtain⟨t',rfl⟩:=ry;exact rule i j t t' s _ _ #[.int (g i j),H,I.tok _,#[_,IO],q]
theorem E7 {f:Gy->Gy->Sem Gy}{g:Int->Int->HH}
  (rule: ∀(i j:Int) (t u:Tok) (s:GC) (Q:Gy->GC->Prop) (E:Gy->GC->Prop),Q (.bool (g i j)) s->Hl (model X.prog X.w) X.A (f (.int i t) (.int j u)) Q E s):
  mz X f (vS λi j=> .bl (g i j)):=by
 intro pins s σ H x y v u Q I rx ry h;obtain⟨i,j,rfl,rfl,q⟩:=h;obtain⟨t,rfl⟩:=rx;obtain⟨t',rfl⟩:=ry;exact rule i j t t' s _ _ #[.bl (g i j),H,I,IO,q]
def ZM (i j:Int):Prop:=(-(2 ^ 64)<i/\i<2 ^ 64)\/(-(2 ^ 64)<j/\j<2 ^ 64)
theorem ZM.ok {i j:Int}(h:ZM i j):IntMulOk i j:=by
 rcases h with⟨h1,h2⟩|⟨h1,h2⟩
 .exact .of_left (intBits_le_64 h1 h2)
 .exact .of_right (intBits_le_64 h1 h2)
theorem d9:mz X (N6 .Add) (vS λi j=> .int (i+j)):=aes λ_ _ _ _ _ _ _ q=>add_int q
theorem eQ:mz X (N6 .Sub) (vS λi j=> .int (i-j)):=aes λ_ _ _ _ _ _ _ q=>sub_int q
theorem Bq:mz X (N6 .Mult) (rI ZM λi j=> .int (i*j)):=opI λ_ _ _ _ _ _ _ hc q=>mul_int q hc.ok
theorem Fg:mz X (N6 .Mod) (rI (λ_ j=>j≠0) λi j=> .int (i.fmod j)):=opI λ_ _ _ _ _ _ _ hc q=>mod_int' hc q
theorem unI {f:Gy->Sem Gy}{g:Int->Int}
  (rule: ∀(i:Int) (t:Tok) (s:GC) (Q:Gy->GC->Prop) (E:Gy->GC->Prop),Q (.int (g i) s.toks) { s with toks:=s.toks+1 } ->Hl (model X.prog X.w) X.A (f (.int i t)) Q E s):
  UnR X f (rU λi=> .int (g i)):=by
 intro pins s σ H x v Q I rx h;obtain⟨i,rfl,q⟩:=h;obtain⟨t,rfl⟩:=rx;exact rule i t s _ _ #[.int (g i),H,I.tok _,#[_,IO],q]
theorem CN:UnR X (unaryOp .USub) (rU λi=> .int (-i)):=unI λ_ _ _ _ _ q=>neg_int q
end
def ZN:V->V->HH
 | .Kk, .Kk=>Ix| .Kk, .int _=>Ix| .int _, .Kk=>Ix| .Kk, .bl _=>Ix| .bl _, .Kk=>Ix| .Kk, .str _=>Ix| .str _, .Kk=>Ix
 | .int _, .int _=>Ix| .bl _, .bl _=>Ix| .str _, .str _=>Ix| .R7 _, .R7 _=>Ix
 | .int _, .str _=>Ix| .str _, .int _=>Ix| .bl _, .str _=>Ix| .str _, .bl _=>Ix
 |_,_=>IN
inductive rEq (x:V) (y:V) (H:Hp) (Q:VK):Prop
 |mk (_:ZN x y=Ix) (_:Q (.bl (decide (x=y))) H):rEq x y H Q
inductive rNe (x:V) (y:V) (H:Hp) (Q:VK):Prop
 |mk (_:ZN x y=Ix) (_:Q (.bl (!decide (x=y))) H):rNe x y H Q
theorem zf {i j:Int} :decide (V.int i=V.int j)=(i == j):=by
 rw[Ip];simp
theorem BU {i j:HH} :decide (V.bl i=V.bl j)=(i == j):=by
 rw[Ip];simp
theorem yx {i j:G0} :decide (V.str i=V.str j)=(i == j):=by
 rw[Ip];simp
theorem yK {i j:Ky JV} :decide (V.R7 i=V.R7 j)=(i.toList == j.toList):=by
 rw[Ip];cases i;cases j;simp
section
variable {X:Cx}{a b c:IY}{ta tb tc:TE}{pos:Pos}
theorem bR {pins:Gm (Gx×Kd)}{σ:St}{H:Hp}{s:GC}{Q:VK}{k k':HH}(I:aP X pins σ H s) (q:Q (.bl k) H) (e:k=k'):EP X pins σ Q (.bool k') s:=by
 subst e;exact#[.bl k,H,I,IO,q]
theorem cu:mz X (J1 .Eq) rEq:=by
 intro pins s σ H x y v u Q I rx ry h;obtain⟨hs,q⟩:=h;cases x with
 |Kk=>
  cases rx;cases y with
  |Kk=>cases ry;exact PySem.EqNone.eq_none_none (bR I q (by simp))
  |bl j=>cases ry;exact PySem.EqNone.eq_none_bool (bR I q (by simp))
  |int j=>obtain⟨t',rfl⟩:=ry;exact PySem.EqNone.eq_none_int (bR I q (by simp))
  |str j=>obtain⟨t',rfl⟩:=ry;exact PySem.EqNone.eq_none_str (bR I q (by simp))
  |_=>exact GW (show IN=Ix from hs) Gn
 |bl i=>
  cases rx;cases y with
  |Kk=>cases ry;exact PySem.EqNone.eq_bool_none (bR I q (by simp))
  |bl j=>cases ry;exact eq_bool (bR I q BU)
  |str j=>obtain⟨t',rfl⟩:=ry;exact PySem.EqMixed.eq_bool_str (bR I q (by simp))
  |_=>exact GW (show IN=Ix from hs) Gn
 |int i=>
  obtain⟨t,rfl⟩:=rx;cases y with
  |Kk=>cases ry;exact PySem.EqNone.eq_int_none (bR I q (by simp))
  |int j=>obtain⟨t',rfl⟩:=ry;exact eq_int (bR I q zf)
  |str j=>obtain⟨t',rfl⟩:=ry;exact PySem.EqMixed.eq_int_str (bR I q (by simp))
  |_=>exact GW (show IN=Ix from hs) Gn
 |str i=>
  obtain⟨t,rfl⟩:=rx;cases y with
  |Kk=>cases ry;exact PySem.EqNone.eq_str_none (bR I q (by simp))
  |bl j=>cases ry;exact PySem.EqMixed.eq_str_bool (bR I q (by simp))
  |int j=>obtain⟨t',rfl⟩:=ry;exact PySem.EqMixed.eq_str_int (bR I q (by simp))
  |str j=>obtain⟨t',rfl⟩:=ry;exact eq_str (bR I q yx)
  |_=>exact GW (show IN=Ix from hs) Gn
 |R7 i=>
  obtain⟨t,rfl⟩:=rx;cases y with
  |R7 j=>obtain⟨t',rfl⟩:=ry;exact PySem.W.eq_bytes (bR I q yK)
  |_=>exact GW (show IN=Ix from hs) Gn
 |_=>cases y<;>exact GW (show IN=Ix from hs) Gn
theorem uy:mz X (J1 .NotEq) rNe:=by
 intro pins s σ H x y v u Q I rx ry h;obtain⟨hs,q⟩:=h;cases x with
 |Kk=>
  cases rx;cases y with
  |Kk=>cases ry;exact PySem.EqNone.ne_none_none (bR I q (by simp))
  |bl j=>cases ry;exact PySem.EqNone.ne_none_bool (bR I q (by simp))
  |int j=>obtain⟨t',rfl⟩:=ry;exact PySem.EqNone.ne_none_int (bR I q (by simp))
  |str j=>obtain⟨t',rfl⟩:=ry;exact PySem.EqNone.ne_none_str (bR I q (by simp))
  |_=>exact GW (show IN=Ix from hs) Gn
 |bl i=>
  cases rx;cases y with
  |Kk=>cases ry;exact PySem.EqNone.ne_bool_none (bR I q (by simp))
  |bl j=>cases ry;exact ne_bool (bR I q (Hr not BU))
  |str j=>obtain⟨t',rfl⟩:=ry;exact PySem.EqMixed.ne_bool_str (bR I q (by simp))
  |_=>exact GW (show IN=Ix from hs) Gn
 |int i=>
  obtain⟨t,rfl⟩:=rx;cases y with
  |Kk=>cases ry;exact PySem.EqNone.ne_int_none (bR I q (by simp))
  |int j=>obtain⟨t',rfl⟩:=ry;exact ne_int (bR I q (Hr not zf))
  |str j=>obtain⟨t',rfl⟩:=ry;exact PySem.EqMixed.ne_int_str (bR I q (by simp))
  |_=>exact GW (show IN=Ix from hs) Gn
 |str i=>
  obtain⟨t,rfl⟩:=rx;cases y with
  |Kk=>cases ry;exact PySem.EqNone.ne_str_none (bR I q (by simp))
  |bl j=>cases ry;exact PySem.EqMixed.ne_str_bool (bR I q (by simp))
  |int j=>obtain⟨t',rfl⟩:=ry;exact PySem.EqMixed.ne_str_int (bR I q (by simp))
  |str j=>obtain⟨t',rfl⟩:=ry;exact ne_str (bR I q (Hr not yx))
  |_=>exact GW (show IN=Ix from hs) Gn
 |R7 i=>
  obtain⟨t,rfl⟩:=rx;cases y with
  |R7 j=>obtain⟨t',rfl⟩:=ry;exact PySem.W.ne_bytes (bR I q (Hr not yK))
  |_=>exact GW (show IN=Ix from hs) Gn
 |_=>cases y<;>exact GW (show IN=Ix from hs) Gn
theorem iR:mz X (J1 .Lt) (vS λi j=> .bl (decide (i<j))):=E7 λ_ _ _ _ _ _ _ q=>lt_int q
theorem jb:mz X (J1 .LtE) (vS λi j=> .bl (decide (i<=j))):=E7 λ_ _ _ _ _ _ _ q=>le_int q
theorem qD:mz X (J1 .Gt) (vS λi j=> .bl (decide (j<i))):=E7 λ_ _ _ _ _ _ _ q=>gt_int q
theorem aet:mz X (J1 .GtE) (vS λi j=> .bl (decide (j<=i))):=E7 λ_ _ _ _ _ _ _ q=>ge_int q
theorem fW:mz X (J1 .Is) (λx y H Q=>y= .Kk/\Q (.bl (decide (x= .Kk))) H):=by
 intro pins s σ H x y v u Q I rx ry h;obtain⟨rfl,q⟩:=h;cases ry;refine is_none_gen (bR I q ?_);cases x<;>first
  | (cases rx;rfl)
  | (obtain⟨t,rfl⟩:=rx;rfl)
theorem iH:mz X (J1 .IsNot) (λx y H Q=>y= .Kk/\Q (.bl (!decide (x= .Kk))) H):=by
 intro pins s σ H x y v u Q I rx ry h;obtain⟨rfl,q⟩:=h;cases ry;refine isnot_none_gen (bR I q ?_);cases x<;>first
  | (cases rx;rfl)
  | (obtain⟨t,rfl⟩:=rx;rfl)
theorem a0 (b:IY) (h:op≠ .In:=by decide) (h2:op≠ .NotIn:=by decide):behindInMarks op b=IN:=by
 have e1:(op == CmpOp.In)=IN:=by cases op<;>first|rfl|exact GW IO h
 have e2:(op == CmpOp.NotIn)=IN:=by cases op<;>first|rfl|exact GW IO h2
 cases b<;>simp [behindInMarks,e1,e2]
theorem cH {r:R2}(ho:mz X (J1 op) r) (ha:PE X a ta) (hb:PE X b tb) (hm:behindInMarks op b=IN):PE X (.Compare a [op] [b] pos) (Bc r ta tb):=by
 intro pins s σ H Q I h;exact wpAny_Compare1 (ZL ha hb I h λv u s2 x y H2 I2 rx ry q=>ho pins s2 σ H2 x y v u Q I2 rx ry q) hm
def Xm (t:TE):TT:=λσ H Q=>t σ H (wP Q)
theorem bg {r:R2}(ho:mz X (J1 op) r) (ha:PE X a ta) (hb:PE X b tb) (hm:behindInMarks op b=IN):PT X (.Compare a [op] [b] pos) (Xm (Bc r ta tb)):=by
 intro pins s σ H Q I h;refine VL (cG (ha pins s σ H _ I h) λv s1 ⟨x,H1,I1,r1,q1⟩=>cG (hb pins s1 σ H1 _ I1 q1) λu s2 ⟨y,H2,I2,r2,q2⟩=>
  cG (ho pins s2 σ H2 x y v u _ I2 r1 r2 q2) λc s3 ⟨z,H3,I3,r3,k,e,q3⟩=>?_) hm
 subst e;cases r3;exact KL #[H3,I3,q3]
def DP (r r':R2) (ta tb tc:TE):TE:=λσ H Q=>ta σ H λx H1=>tb σ H1 λy H2=>r x y H2 λz H3=> ∃k,z= .bl k/\
 (if k=Ix then tc σ H3 λw' H4=>r' y w' H4 Q else Q (.bl IN) H3)
theorem lA {r r':R2}(ho:mz X (J1 op) r) (QD:mz X (J1 op') r') (ha:PE X a ta) (hb:PE X b tb) (hc:PE X c tc)
  (hm:lastMarks [op,op'] [b,c]=IN:=by with_unfolding_all rfl):PE X (.Compare a [op,op'] [b,c] pos) (DP r r' ta tb tc):=by
 intro pins s σ H Q I h;refine Compare_chain (cG (ha pins s σ H _ I h) λv s1 ⟨x,H1,I1,r1,q1⟩=>chain_link (cG (hb pins s1 σ H1 _ I1 q1) λu s2 ⟨y,H2,I2,r2,q2⟩=>
  cG (ho pins s2 σ H2 x y v u _ I2 r1 r2 q2) λd s3 ⟨z,H3,I3,r3,k,e,q3⟩=>?_)) hm
 subst e;cases r3;refine KL ?_;cases k with
 |false=>exact ite_ff #[.bl IN,H3,I3,IO,q3]
 |true=>exact ite_tt (chain_last (cG (hc pins s3 σ H3 _ I3 q3) λw' s4 ⟨z',H4,I4,r4,q4⟩=>QD pins s4 σ H4 y z' u w' Q I4 r2 r4 q4))
theorem rV:(GV:GJ)<2 ^ 63:=by rw[Ng];decide
theorem kD {x:V}(r:bH [x] us): ∃u,us=[u]/\bD x u:=by
 cases r with
 |cons r1 r2=>cases r2;exact#[_,IO,r1]
theorem vals2 {x y:V}(r:bH [x,y] us): ∃u w',us=[u,w']/\bD x u/\bD y w':=by
 cases r with
 |cons r1 r2=>
  cases r2 with
  |cons r3 r4=>cases r4;exact#[_,_,IO,r1,r3]
theorem uP:gB X (.builtin "abs") (λxs H Q=> ∃i,xs=[.int i]/\Q (.int (if i<0 then-i else i)) H):=by
 intro pins s σ H xs us Q I r h;obtain⟨i,rfl,q⟩:=h;obtain⟨u,rfl,t,rfl⟩:=kD r;exact call_abs_int λu tk=>#[.int (if i<0 then-i else i),H,I.tok _,#[_,IO],q]
theorem rQ:gB X (.type "str") (λxs H Q=> ∃i,xs=[.int i]/\i.natAbs.log2<1920/\Q (.str (toString i)) H):=by
 intro pins s σ H xs us Q I r h;obtain⟨i,rfl,hz,q⟩:=h;obtain⟨u,rfl,t,rfl⟩:=kD r;exact PySem.P.str_of_int hz #[.str _,H,I.tok _,#[_,IO],q]
theorem DV:gB X (.builtin "ord") (λxs H Q=> ∃x,xs=[.str x]/\x.length=1/\Q (.int (x.cps.getD 0 0:GJ)) H):=by
 intro pins s σ H xs us Q I r h;obtain⟨x,rfl,hz,q⟩:=h;obtain⟨u,rfl,t,rfl⟩:=kD r;exact ord_of_one hz #[.int _,H,I.tok _,#[_,IO],q]
end
structure wN (h:Ij) (x dx C:Gx) (mA:G0->GF Gy):Prop where
 obj:h.get? x=GM (Kr C dx)
 ns:h.Ns1 dx mA
 ne:dx≠x
theorem zM {h:Ij}{dx:Gx}{mA:G0->GF Gy}(n:h.Ns1 dx mA): ∃od,h.get? dx=GM od/\ ∀name,OA name od=GM (mA name):=by
 obtain⟨o,es,ep,ho,hd,hk,_,hm⟩:=n;refine#[o,ho,λname=>?_];have e:=hm name;unfold nsFind findBy at e;rw[<-Uq] at e;unfold OA;rw[hd];dsimp only;split
 .rename_i y q
  rw[q] at e;exact Hr GM e
 .rename_i q
  rw[q] at e;have a:es.toList.any (·.refKey)=IN:=by
   rw[Qc];intro y hy;obtain⟨z,t,ajh⟩:=hk y (Te.mp hy);simp [O0.refKey,ajh]
  have a': ¬es.toList.any (·.refKey)=Ix:=by rw[a];exact Gn
  rw[GB a'];exact Hr GM e
theorem wN.look {h:Ij}{x dx C:Gx}{mA:G0->GF Gy}(I:wN h x dx C mA): ∃od,PySem.W.InstAt h x (Kr C dx) C (GM od)/\ ∀name,OA name od=GM (mA name):=
 let ⟨od,ho,hl⟩:=zM I.ns
 #[od,#[I.obj,IO,IO,ho],hl]
section
variable {prog:Hm}{w:HS}{A:IA}{E:Gy->GC->Prop}{s:GC}{K:Gu}{x dx C f:Gx}{mA:G0->GF Gy}{name:G0}{v:Gy}
theorem EU {Q:Gy->GC->Prop}(X:K.In s.heap) (I:wN s.heap x dx C mA) (hg:NO K C name=Ix) (hh:Py K C=Ix)
  (ha:Jm K (.ref C) name=GM Id) (hv:mA name=GM v) (hv':Us v=Ix) (h:Q v { s with toks:=s.toks+1 }):
  Hl (model prog w) A (SQ (.ref x) name expr) Q E s:=by
 obtain⟨od,J,hl⟩:=I.look;exact PySem.W.get_value X J (OZ hg).1 (PySem.W.findObj_own hh ha IO (by rw[hl,hv])) hv' h
theorem Es {Q:Gy×Gm Gy->GC->Prop}(X:K.In s.heap) (I:wN s.heap x dx C mA) (hg:NO K C name=Ix)
  (hf:Jm K (.ref C) name=GM (GM (.ref f))) (ht:PK K (.ref f)=Ix) (hv:mA name=Id) (h:Q (.ref f,[.ref x]) s):
  Hl (model prog w) A (O1 (.ref x) name pl) Q E s:=by
 obtain⟨od,J,hl⟩:=I.look;exact PySem.W.method_fn X J (OZ hg).1 (OZ hg).2 hf (beq_iff_eq.mp ht) (by show(OA name od).map (·.isSome)=GM IN;rw[hl,hv];rfl) h
theorem FP {ns:Gm G0}{Q:Nl->GC->Prop}(X:K.In s.heap) (I:wN s.heap x dx C mA)
  (hs:Jm K (.ref C) "__setattr__"=GM (GM (.builtin "object.__setattr__"))) (hp:TY K C=Ix) (ht:Qw K C name=GM Id) (hh:Py K C=Ix)
  (hw:Om mA ns) (hsz:ns.length<=GV)
  (h: ∀h',wN h' x dx C (λy=>if y=name then GM v else mA y)->Ou dx s.heap h'->Q () { s with heap:=h',toks:=s.toks+2 }):
  Hl (model prog w) A (SU (.ref x) name v) Q E s:=by
 obtain⟨od,J,hl⟩:=I.look;refine PySem.W.set_plain X J hs (PySem.W.osa_open (s:= { s with toks:=s.toks+1 }) (r:=Id) X J hp ht λb=>?_);obtain⟨cd,hc,hd'⟩:=PySem.W.any_some hh;have hx:s.heap.get? x=GM ⟨.ref C,GM dx, .plain, [].toArray⟩:=I.obj;refine He (HU (He (He (wpAny_loadPart hx (He (PySem.W.Looks.here (s:= { s with toks:=s.toks+1 }) (PySem.W.looks_clsIn X hc) ?_))))));rw[hd'];refine HU (a:=GM dx) (He (HU (He ?_)));refine Vd (s:= { s with toks:=s.toks+1 }) I.ns λh' hn2 hs2=>?_;obtain⟨oD,esD,epD,hoD,hdD,hcD⟩:=hn2.count (Om.cons name v hw);refine He (Rp hoD (by rw[hdD];exact Rq (GX hcD (by rw[Gp];lia))) ?_);exact HU (h _ #[(hs2.2 _ (KY I.ne)).trans I.obj,hn2,I.ne] hs2)
theorem B7 {R:Result->GC->Prop}(X:K.In s.heap) (hm:UY K C=Ix)
  (hi:Jm K (.ref C) "__init__"=GM (GM (.ref f))) (hf:Vl K (.ref f)=GM (.type "function"))
  (h:MB (model prog w) (A.under (.builtin "type.__call__" #[.ref C::vs,kw])) (.call (.ref f) #[.ref (s.heap.objs.size+1)::vs,kw]) (PySem.W.InitBack (s.heap.objs.size+1) R)
   { s with heap:=(s.heap.push JN).push (Kr C s.heap.objs.size) }):
  MB (model prog w) A (.call (.ref C) #[vs,kw]) R s:=by
 obtain⟨hh,g,d,t,os⟩:=s;exact PySem.W.make_core (PySem.W.makes_of X hm) (PySem.W.looks_findIn X hi) (λself=>PySem.W.bind_fn X self hf) (.inl IO) h
end
def Lg (f:G0) (v:V):Gm (G0×V)->Gm (G0×V)
 |[]=>[(f,v)]
 | (g,x)::r=>if g=f then(g,v)::r else(g,x)::Lg f v r
theorem jf (f g:G0) (v:V): ∀fs:Gm (G0×V),(Lg f v fs).lookup g=if g=f then GM v else fs.lookup g
 |[]=>by
  show Kj g [(f,v)]=_
  by_cases h:g=f
  .have hb:(g == f)=Ix:=beq_iff_eq.mpr h
   simp only[Kj,hb,GD h]
  .have hb:(g == f)=IN:=beq_eq_false_iff_ne.mpr h
   simp only[Kj,hb,GB h]
 | (k,x)::r=>by
  have ih:=jf f g v r;rw[show Lg f v ((k,x)::r)=(if k=f then(k,v)::r else(k,x)::Lg f v r) from IO]
  by_cases hk:k=f
  .rw[GD hk]
   by_cases h:g=k
   .have hb:(g == k)=Ix:=beq_iff_eq.mpr h
    simp only[Kj,hb,GD (h.trans hk)]
   .have hb:(g == k)=IN:=beq_eq_false_iff_ne.mpr h
    simp only[Kj,hb,GB (λe:g=f=>h (e.trans hk.symm))]
  .rw[GB hk]
   by_cases h:g=k
   .have hb:(g == k)=Ix:=beq_iff_eq.mpr h
    simp only[Kj,hb,GB (λe:g=f=>hk (h.symm.trans e))]
   .have hb:(g == k)=IN:=beq_eq_false_iff_ne.mpr h
    simp only[Kj,hb];exact ih
theorem ib (f:G0) (v:V): ∀fs:Gm (G0×V),f∈(Lg f v fs).map (·.1)/\ ∀g,g∈fs.map (·.1)->g∈(Lg f v fs).map (·.1)
 |[]=>#[by simp [Lg],λg h=>by simp at h]
 | (k,x)::r=>by
  obtain⟨i1,i2⟩:=ib f v r;rw[show Lg f v ((k,x)::r)=(if k=f then(k,v)::r else(k,x)::Lg f v r) from IO]
  by_cases hk:k=f
  .rw[GD hk]
   subst hk;exact#[by simp,λg h=>by simpa using h]
  .rw[GB hk]
   refine#[?_,λg h=>?_]
   .rw[GZ]
    exact G8 _ i1
   .rw[GZ] at h ⊢
    rcases Hc.mp h with e|e
    .exact Hc.mpr (.inl e)
    .exact G8 _ (i2 g e)
theorem dq (f:G0) (v:V): ∀fs:Gm (G0×V),(Lg f v fs).length<=fs.length+1
 |[]=>by simp [Lg]
 | (k,x)::r=>by
  have ih:=dq f v r;rw[show Lg f v ((k,x)::r)=(if k=f then(k,v)::r else(k,x)::Lg f v r) from IO]
  by_cases hk:k=f
  .rw[GD hk,Gp,Gp];lia
  .rw[GB hk,Gp,Gp];lia
theorem gD.some_of {v:V}{o:GF Gy}(r:gD (GM v) o): ∃u,o=GM u/\bD v u:=by
 cases o with
 |none=>exact(show False from r).elim
 |some u=>exact#[u,IO,r]
theorem gD.none_of {o:GF Gy}(r:gD Id o):o=Id:=by
 cases o with
 |none=>rfl
 |some u=>exact(show False from r).elim
theorem qA {v:V}{u:Gy}(r:bD v u):Us u=Ix:=by
 cases v with
 |Kk=>cases (show u=Ju from r);rfl
 |bl b=>cases (show u=LS b from r);rfl
 |int i=>obtain⟨t,e⟩:=(show∃t,u=Lh i t from r);cases e;rfl
 |str x=>obtain⟨t,e⟩:=(show∃t,u=O7 x t from r);cases e;rfl
 |R7 b=>obtain⟨t,e⟩:=(show∃t,u=Gy.bytes b t from r);cases e;rfl
 |W2 b=>obtain⟨t,e⟩:=(show∃t,u=Tp b t from r);cases e;rfl
 |ref a=>cases (show u=Hj a from r);rfl
 |ty n=>cases (show u=Nk n from r);rfl
section
variable {P:Hm}{w:HS}{H H':Hp}{h h':Ij}{a C dx:Gx}{fs fs':Gm (G0×V)}
theorem ng (Jy:iU P w H h) (e:H a=GM (.ins C dx fs)): ∃mA,wN h a dx C mA/\(∀f,gD (fs.lookup f) (mA f))/\Om mA (fs.map (·.1))/\fs.length<=1000/\H dx=GM (.own a):=by
 obtain⟨d,z,ne,ob,mA,n,r,q⟩:=(show cJ P w H h a (.ins C dx fs) from Jy a _ e);exact#[mA,#[ob,n,ne],r,q,z,d]
end
theorem i8.get {K:Gu}{C:Gx}(c:i8 K C) (f:G0):NO K C f=Ix:=c.pg
theorem aH.aeu {K:Gu}{C:Gx}{f:G0}(n:aH K C f):Qw K C f=GM Id:=by
 unfold Qw;rw[show Jm K (.ref C) f=GM Id from n]
 rfl
section
variable {X:Cx}{pins:Gm (Gx×Kd)}{σ:St}{H:Hp}{s:GC}{a C dx:Gx}{fs:Gm (G0×V)}{f:G0}{v:V}{A:IA}{E:Gy->GC->Prop}
theorem pq {b:HH}{Q:Gy->GC->Prop}(I:aP X pins σ H s) (e:H a=GM (.ins C dx fs)) (c:i8 X.K C) (n:aH X.K C f) (l:fs.lookup f=GM v)
  (h: ∀u s',aP X pins σ H s'->bD v u->Q u s'):Hl (model X.prog X.w) A (SQ (.ref a) f b) Q E s:=by
 obtain⟨mA,O,r,_,_,_⟩:=ng I.Jy e;obtain⟨u,hu,ru⟩:=gD.some_of (v:=v) (o:=mA f) (by rw[<-l];exact r f);exact EU I.NV O (c.get f) c.hd n hu (qA ru) (h u _ (I.tok _) ru)
theorem pw {m:G0}{g:Gx}{Q:Gy×Gm Gy->GC->Prop}(I:aP X pins σ H s) (e:H a=GM (.ins C dx fs)) (c:i8 X.K C) (k:Meth X.K C m g) (l:fs.lookup m=Id)
  (h:Q (.ref g,[.ref a]) s):Hl (model X.prog X.w) A (O1 (.ref a) m pl) Q E s:=by
 obtain⟨mA,O,r,_,_,_⟩:=ng I.Jy e;have hn:mA m=Id:=gD.none_of (by rw[<-l];exact r m);exact Es I.NV O (c.get m) k.at_ k.fn hn h
theorem px {y:V}{u:Gy}{Q:Nl->GC->Prop}(I:aP X pins σ H s) (e:H a=GM (.ins C dx fs)) (c:i8 X.K C) (n:aH X.K C f) (hl:fs.length<1000) (ry:bD y u)
  (h: ∀s',aP X pins σ (bf H a (.ins C dx (Lg f y fs))) s'->Q () s'):Hl (model X.prog X.w) A (SU (.ref a) f u) Q E s:=by
 obtain⟨mA,O,r,wi,_,ho⟩:=ng I.Jy e;have hz:(fs.map (·.1)).length<=GV:=by rw[GG,Ng];lia
 refine FP I.NV O c.sa c.po n.aeu c.hd wi hz λh' O' sb=>h _ ?_;have hd: ∃o,h'.get? dx=GM o:=let ⟨o,_,_,e',_⟩:=O'.ns;#[o,e'];refine I.write (x:=a) (e:=dx) (by rw[e];exact IK) (.inr ho) (λb q hb z=>(sb.2 b hb).trans z) hd ?_;refine#[by rw[af O.ne];exact ho,?_,O.ne,O'.obj,_,O'.ns,λg=>?_,λg hg=>?_]
 .have:=dq f y fs;lia
 .show gD ((Lg f y fs).lookup g) (if g=f then GM u else mA g)
  rw[jf];by_cases q:g=f
  .rw[GD q,GD q];exact ry
  .rw[GB q,GB q];exact r g
 .by_cases q:g=f
  .rw[q];exact(ib f y fs).1
  .refine(ib f y fs).2 g (wi g λz=>hg ?_)
   show(if g=f then GM u else mA g)=Id
   rw[GB q];exact z
theorem aP.made (I:aP X pins σ H s):aP X pins σ (bf (bf H s.heap.objs.size (.own (s.heap.objs.size+1))) (s.heap.objs.size+1) (.ins C s.heap.objs.size []))
  { s with heap:=(s.heap.push JN).push (Kr C s.heap.objs.size) } :=by
 have e1:(s.heap.push JN).get? s.heap.objs.size=GM JN:=Io s.heap IO
 have e2:((s.heap.push JN).push (Kr C s.heap.objs.size)).get? (s.heap.objs.size+1)=GM (Kr C s.heap.objs.size):=by
  have:=Io (s.heap.push JN) (o:=Kr C s.heap.objs.size) IO
  rwa [Jq] at this
 have e3:(s.heap.push JN).Ns s.heap.objs.size (λ_=>Id):=#[JN, [].toArray,_,e1,IO,(λe he=>GW he (by simp)),λ_=>rfl]
 have I1:=I.laid (a:=s.heap.objs.size) (o:= .own (s.heap.objs.size+1)) (h':=s.heap.push JN) (t':=s.toks) (λb u q=>GN _ q) (GU _) #[_,e1]
 refine I1.laid (a:=s.heap.objs.size+1) (o:= .ins C s.heap.objs.size []) (t':=s.toks) (λb u q=>GN _ q) (Oz (Jq _ _)) ?_;have ne:s.heap.objs.size≠s.heap.objs.size+1:=Ih (MA _);refine#[by rw[af ne,aj],HB _,ne,e2,λ_=>Id,(Po e3).at λo q=>GN _ q,λ_=>IK,λy hy=>GW IO hy]
theorem yo {prog:Hm}{w:HS}{env:Env}{e:IY}{f:G0}{pos:Pos}{s:GC}{Q:Gy->GC->Prop}(hb:JK e f env (eval e env)=eval e env)
  (h:Hl (model prog w) A (eval e env) (λo s₁=>Hl (model prog w) A (SQ o f Ix) Q E s₁) E s):Hl (model prog w) A (eval (.Attribute e f pos) env) Q E s:=
 Attribute_any_ h (by rw[arm_eval_Attribute,hb])
end
inductive pQ (K:Gu) (f:G0) (R:V->Hp->Prop) (x:V) (H1:Hp):Prop
 |mk (a C dx:Gx) (fs:Gm (G0×V)) (v:V) (_:x= .ref a) (_:H1 a=GM (.ins C dx fs)) (_:i8 K C) (_:aH K C f) (_:fs.lookup f=GM v) (_:R v H1):pQ K f R x H1
def m6 (K:Gu) (ta:TE) (f:G0):TE:=λσ H Q=>ta σ H (pQ K f Q)
def aji (K:Gu) (ta tv:TE) (f:G0):TS:=λD σ H=>tv σ H λy H1=>ta σ H1 λx H2=> ∃a C dx fs,x= .ref a/\H2 a=GM (.ins C dx fs)/\i8 K C/\aH K C f/\fs.length<1000/\
 D.nx σ (bf H2 a (.ins C dx (Lg f y fs)))
def aev (X:Cx) (op:Operator) (rd:V->V->Hp->VK->Prop):Prop:=
 ∀(pins:Gm (Gx×Kd)) (s:GC) (σ:St) (H:Hp) (x y:V) (u v:Gy) (Q:VK),aP X pins σ H s->bD x u->bD y v->rd x y H Q->Hl (model X.prog X.w) X.A (inplaceOp op u v) (EP X pins σ Q) X.xe s
def Fn (K:Gu) (ta tv:TE) (rd:V->V->Hp->VK->Prop) (f:G0):TS:=λD σ H=>ta σ H λx H1=> ∃a C dx fs v,x= .ref a/\H1 a=GM (.ins C dx fs)/\i8 K C/\aH K C f/\fs.lookup f=GM v/\
 tv σ H1 λy H2=>rd v y H2 λz H3=> ∃dx' fs',H3 a=GM (.ins C dx' fs')/\fs'.length<1000/\D.nx σ (bf H3 a (.ins C dx' (Lg f z fs')))
section
variable {X:Cx}{o e Lk:IY}{f:G0}{pos NW UA:Pos}{ta tv:TE}
theorem az (he:PE X e ta) (hb:JK e f X.env (eval e X.env)=eval e X.env):PE X (.Attribute e f pos) (m6 X.K ta f):=by
 intro pins s σ H Q I h;refine yo hb (cG (he pins s σ H _ I h) λu s1 ⟨x,H1,I1,rx,a,C,dx,fs,v,ex,ea,c,n,l,q⟩=>?_);subst ex;obtain rfl:u=Hj a:=rx;exact pq I1 ea c n l λu' s2 I2 ru=>#[v,H1,I2,ru,q]
theorem fY (ha:PE X o ta) (hv:PE X Lk tv) (hs:Lb Lk (GM (.Attribute o f NW)) pos.line X.env=Hz IN):PS X (.Assign [.Attribute o f NW] Lk pos) (aji X.K ta tv f):=by
 intro pins s σ H D I h;refine MR (cG (hv pins s σ H _ I h) λu s1 ⟨y,H1,I1,ry,q⟩=>cG (ha pins s1 σ H1 _ I1 q) λov s2 ⟨x,H2,I2,rx,a,C,dx,fs,ex,ea,c,n,l,q2⟩=>?_) hs;subst ex;obtain rfl:ov=Hj a:=rx;exact px I2 ea c n l ry λs3 I3=>#[σ,_,I3,q2]
theorem mB {rd:V->V->Hp->VK->Prop}(ha:PE X o ta) (hv:PE X Lk tv) (Xn:aev X op rd):PS X (.AugAssign (.Attribute o f UA) op Lk pos) (Fn X.K ta tv rd f):=by
 intro pins s σ H D I h;refine wpAny_AugAssign_AttributeAny (cG (ha pins s σ H _ I h) λov s1 ⟨x,H1,I1,rx,a,C,dx,fs,v,ex,ea,c,n,l,q⟩=>?_);subst ex;obtain rfl:ov=Hj a:=rx;refine pq I1 ea c n l λu s2 I2 ru=>cG (hv pins s2 σ H1 _ I2 q) λw3 s3 ⟨y,H2,I3,ry,q3⟩=>cG (Xn pins s3 σ H2 v y u w3 _ I3 ru ry q3) λw4 s4 ⟨z,H3,I4,rz,dx',fs',ea',l',q4⟩=>?_;exact px I4 ea' c n l' rz λs5 I5=>#[σ,_,I5,q4]
def ajj:V->V->Hp->VK->Prop:=λx y H Q=> ∃i j,x= .int i/\y= .int j/\Q (.int (i+j)) H
theorem xa:aev X .Add ajj:=by
 rintro pins s σ H x y u v Q I rx ry ⟨i,j,rfl,rfl,q⟩;obtain⟨t,rfl⟩:=(show∃t,u=Lh i t from rx);obtain⟨t',rfl⟩:=(show∃t',v=Lh j t' from ry);exact PyProof.Rows.iadd_int #[.int (i+j),H,I.tok _,#[_,IO],q]
end
section
variable {X:Cx}{pins:Gm (Gx×Kd)}{σ:St}{H:Hp}{s:GC}{A:IA}{E:Gy->GC->Prop}{Q:Gy->GC->Prop}{c:Gy}{b:HH}
inductive js (K:Gu) (H:Hp):V->Gy->Prop where
 |Kk:js K H .Kk (.type "NoneType")
 |bl (x:HH):js K H (.bl x) (.type "bool")
 |int (i:Int):js K H (.int i) (.type "int")
 |str (x:G0):js K H (.str x) (.type "str")
 |W2 (x:UInt64):js K H (.W2 x) (.type "float")
 |lst {a:Gx}{xs:Gm V}(e:H a=GM (.lst xs)):js K H (.ref a) (.type "list")
 |QM {a:Gx}{o:Kd}{xs:Gm V}(e:H a=GM (.QM o (.lst xs))):js K H (.ref a) (.type "list")
 |tup {a:Gx}{xs:Gm V}(e:H a=GM (.tup xs)):js K H (.ref a) (.type "tuple")
 |dK {a:Gx}{Iw:Gm (cf×V)}(e:H a=GM (.dK Iw)):js K H (.ref a) (.type "dict")
 |dT {a:Gx}{Iw:Gm (Gm cf×V)}(e:H a=GM (.dT Iw)):js K H (.ref a) (.type "dict")
 |ins {a C dx:Gx}{fs:Gm (G0×V)}(e:H a=GM (.ins C dx fs)) (cl:i8 K C) (ha:Jm K (.ref C) "__class__"=GM (GM (.builtin "object.__class__")))
   (hn:Pz K (.builtin "object.__class__") "__get__"=GM (GM (.builtin "getset_descriptor.__get__"))) (htk:UZ K (.builtin "object.__class__")=GM Ix)
   (hm:VQ K C (.type "object")=GM Ix):js K H (.ref a) (.ref C)
theorem zT {x:V}{u t:Gy}(I:aP X pins σ H s) (rx:bD x u) (ty:js X.K H x t) (e:Jh X.K t c=GM b) (h: ∀tk,Q (.bool b) { s with toks:=tk }):
  Hl (model X.prog X.w) A (call (.builtin "isinstance") [u,c]) Q E s:=by
 cases ty with
 |Kk=>cases (show u=Ju from rx);exact JA PySem.W.kitx_none I.NV IK e (λz=>nomatch z) h
 |bl y=>cases (show u=LS y from rx);exact JA PySem.W.kitx_bool I.NV IK e (λz=>nomatch z) h
 |int i=>obtain⟨t,q⟩:=(show∃t,u=Lh i t from rx);cases q;exact JA PySem.W.kitx_int I.NV IK e (λz=>nomatch z) h
 |str y=>obtain⟨t,q⟩:=(show∃t,u=O7 y t from rx);cases q;exact JA PySem.W.kitx_str I.NV IK e (λz=>nomatch z) h
 |W2 y=>obtain⟨t,q⟩:=(show∃t,u=Tp y t from rx);cases q;exact JA PySem.W.kitx_float I.NV IK e (λz=>nomatch z) h
 | @lst a xs ea=>
  cases (show u=Hj a from rx);obtain⟨_,_,n,_,h1⟩:=(show cJ X.prog X.w H s.heap a (.lst xs) from I.Jy a _ ea);exact JA TZ I.NV #[_,h1,IO] e (λz=>nomatch z) h
 | @QM a ob xs ea=>
  cases (show u=Hj a from rx);obtain⟨_,_,_,n,_,h1⟩:=(show cJ X.prog X.w H s.heap a (.QM ob (.lst xs)) from I.Jy a _ ea);exact JA TZ I.NV #[_,h1,IO] e (λz=>nomatch z) h
 | @tup a xs ea=>
  cases (show u=Hj a from rx);obtain⟨_,_,_,p⟩:=(show cJ X.prog X.w H s.heap a (.tup xs) from I.Jy a _ ea);obtain⟨o,h1,h2,_⟩:=p;exact JA PySem.W.kitx_tuple I.NV #[o,h1,h2] e (λz=>nomatch z) h
 | @dK a Iw ea=>
  cases (show u=Hj a from rx);obtain⟨_,_,vs,_,p⟩:=(show cJ X.prog X.w H s.heap a (.dK Iw) from I.Jy a _ ea);obtain⟨o,es,ep,h1,h2,_⟩:=p;exact JA T1 I.NV #[o,h1,h2.1] e (λz=>nomatch z) h
 | @dT a Iw ea=>
  cases (show u=Hj a from rx);obtain⟨_,_,xs,_,o,es,ep,h1,h2,_⟩:=(show cJ X.prog X.w H s.heap a (.dT Iw) from I.Jy a _ ea);exact JA T1 I.NV #[o,h1,h2.1] e (λz=>nomatch z) h
 | @ins a C dx fs ea cl ha hn htk hm=>
  cases (show u=Hj a from rx);obtain⟨mA,O,_⟩:=ng I.Jy ea;obtain⟨od,J,_⟩:=O.look;exact JA (PySem.W.kitx_own (cl.get _) cl.hd ha hn htk hm) I.NV J e (λz=>nomatch z) h
end
theorem cy.mono {j k:GJ}{A:IA}(r:cy k A) (h:j<=k):cy j A:=#[r.hd,by have:=r.dp;lia,by have:=r.un;lia]
theorem cy.deeper {k:GJ}{A:IA}(r:cy (k+1) A) (env:Env):cy k (A.deeper env):=
 #[r.hd,by have:=r.dp;show A.depth+1+2*k+5<_;lia,by have:=r.un;show A.units+3+16*k+200<_;lia]
theorem wO {A:IA}{C:Gx} :(A.under (.builtin "type.__call__" #[.ref C::us,kw])).depth=A.depth+1:=by
 first|rfl|simp [RO,Code.weight,Code.isCreation,Code.isGuard,Code.isCaller,Code.frames,SV,guardIds]
theorem vZ {A:IA}{C:Gx} :(A.under (.builtin "type.__call__" #[.ref C::us,kw])).units=A.units+1:=by
 first|rfl|simp [RO,Code.cUnits,Code.frames,SV]
theorem cy.make {k:GJ}{A:IA}(r:cy (k+1) A) (C:Gx) (us:Gm Gy) (kw:Gm (G0×Gy)):cy k (A.under (.builtin "type.__call__" #[.ref C::us,kw])):=
 #[r.hd,by have:=r.dp;rw[wO];lia,by have:=r.un;rw[vZ];lia]
theorem cy.depth {k:GJ}{A:IA}(r:cy k A):A.depth<recursionLimit:=by have:=r.dp;lia
theorem cy.units {k:GJ}{A:IA}(r:cy k A):A.units+64<P4:=by have:=r.un;lia
def kq:TA:=λ_ H Q=>Q [] H
def fz (ta:TE) (tr:TA):TA:=λσ H Q=>ta σ H λx H1=>tr σ H1 λxs H2=>Q (x::xs) H2
section
variable {X:Cx}{e:IY}{es:Gm IY}{te:TE}{t:TA}{pos:Pos}
theorem ac:PA X [] kq:=λ_ _ _ _ H Q I h=>NI #[[],H,I, .nil,h]
theorem aa (ha:PE X e te) (hr:PA X es t) (hs:Hb (e::es) X.env=(IN,eval e X.env)::Hb es X.env:=by rfl):PA X (e::es) (fz te t):=by
 intro pos pins s σ H Q I h;rw[hs];show Hl _ _ (spliced ((IN,eval e X.env)::J6 pos (Hb es X.env))) _ _ s;refine Nf (cG (ha pins s σ H _ I h) λu s1 ⟨x,H1,I1,r1,q1⟩=>?_);exact cG (hr pos pins s1 σ H1 _ I1 q1) λus s2 ⟨xs,H2,I2,r2,q2⟩=>#[x::xs,H2,I2, .cons r1 r2,q2]
def ajk (t:TA):TE:=λσ H Q=>t σ H λxs H1=>xs.length<=GV/\ ∀p,H1 p=Id->Q (.ref p) (bf H1 p (.tup xs))
inductive B9 (Q:VK) (xs:Gm V) (H1:Hp):Prop
 |mk (_:xs.length<=GV) (_: ∀p,H1 p=Id->Q (.ref p) (bf H1 p (.lst xs))):B9 Q xs H1
def ZO (t:TA):TE:=λσ H Q=>t σ H (B9 Q)
theorem Db {x1} (h:PA X es t):PE X (.Tuple es x1 pos) (ajk t):=by
 intro pins s σ H Q I hq;refine wpAny_Tuple_spliced (cG (h pos pins s σ H _ I hq) λus s1 ⟨xs,H1,I1,r,z,q⟩=>#[by rw[<-r.length];exact z,?_]);have hf:H1 s1.heap.objs.size=Id:=I1.Jy.fresh (GU _);refine#[.ref s1.heap.objs.size,bf H1 s1.heap.objs.size (.tup xs),I1.laid (t':=s1.toks) (λb u e=>GN _ e) (GU _) ?_,IO,q _ hf];exact#[z,us,r,#[_,Io _ IO,IO,_,IO]]
theorem bj (h:PA X es t):PE X (.List es pos) (ZO t):=by
 intro pins s σ H Q I hq;refine wpAny_List_spliced (cG (h pos pins s σ H _ I hq) λus s1 ⟨xs,H1,I1,r,z,q⟩=>#[by rw[<-r.length];exact z,?_]);have hf:H1 s1.heap.objs.size=Id:=I1.Jy.fresh (GU _);refine#[.ref s1.heap.objs.size,bf H1 s1.heap.objs.size (.lst xs),I1.laid (t':=s1.toks) (λb u e=>GN _ e) (GU _) ?_,IO,q _ hf];exact#[z,us,0,r,Io _ IO]
end
theorem b8.mono {P:Hm}{w:HS}{K:Gu}{mg:G0->GF Gy}{base:Ij}{CX:rl}{j k:GJ}{f:Gx}{fd:HX}{ps:Gm G0}{sp:Sp}(F:b8 P w K mg base CX j f fd ps sp) (h:j<=k):
  b8 P w K mg base CX k f fd ps sp:=#[F.len,λA outer s H args us vs Q E hr=>F.run A outer s H args us vs Q E (hr.mono h)]
theorem b8.imp {P:Hm}{w:HS}{K:Gu}{mg:G0->GF Gy}{base:Ij}{CX:rl}{k:GJ}{f:Gx}{fd:HX}{ps:Gm G0}{sp sp':Sp}(F:b8 P w K mg base CX k f fd ps sp)
  (h: ∀vs H Q E,sp' vs H Q E->sp vs H Q E):b8 P w K mg base CX k f fd ps sp':=
 #[λvs H Q E q=>F.len vs H Q E (h _ _ _ _ q),λA outer s H args us vs Q E hr he hb hv hs=>F.run A outer s H args us vs Q E hr he hb hv (h _ _ _ _ hs)]
theorem xA.make {P:Hm}{w:HS}{K:Gu}{mg:G0->GF Gy}{base:Ij}{A:IA}{s:GC}{H:Hp}(e:xA P w K mg base A outer s H) (C:Gx) (us:Gm Gy) (kw:Gm (G0×Gy)):
  xA P w K mg base (A.under (.builtin "type.__call__" #[.ref C::us,kw])) outer s H:=#[by first|exact e.frames|(simpa [RO,Code.envs,SV,pushEnvs] using e.frames),e.mod,e.bs,e.Uu,e.funs,e.VS,e.Jy,e.bare]
section
variable {X:Cx}{pins:Gm (Gx×Kd)}{σ:St}{H:Hp}{s s':GC}
theorem aP.ZP (I:aP X pins σ H s):xA X.prog X.w X.K X.mg X.base X.A X.stack s H:=
 #[I.ok.frames,I.ok.mod,I.bs,GX I.ok.Uu I.sz,I.stack,I.QF,I.Jy,I.bare]
theorem aP.after {Q:VK}{u:Gy}(I:aP X pins σ H s) (h:CE X.stack X.prog X.w H s Q u s'):EP X pins σ Q u s':=by
 obtain⟨v,H',os,bare,un,Jy,r,q⟩:=h;obtain⟨hh,g,d,t,os'⟩:=s';obtain rfl:os'=s.os:=os;exact#[v,H',I.call (h':=hh) (g':=g) (d':=d) (t':=t) (ch:=[]) un Jy bare (λb z=>GW z (by simp)),r,q]
end
def iS (sp:Sp) (RR:Gm V) (E:XK) (t:TA):TE:=λσ H Q=>t σ H λvs H1=>sp (vs++RR) H1 Q E
inductive Eh (C:Gx) (m:G0) (R:V->Hp->Prop) (x:V) (H1:Hp):Prop
 |mk (a dx:Gx) (fs:Gm (G0×V)) (_:x= .ref a) (_:H1 a=GM (.ins C dx fs)) (_:fs.lookup m=Id) (_:R x H1):Eh C m R x H1
def Xo (C:Gx) (m:G0) (sp:Sp) (RR:Gm V) (E:XK) (ta:TE) (t:TA):TE:=λσ H Q=>ta σ H (Eh C m (λx H1=>t σ H1 λvs H2=>sp (x::(vs++RR)) H2 Q E))
def Xp (C:Gx) (sp:Sp) (RR:Gm V) (E:XK) (t:TA):TE:=λσ H Q=>t σ H λvs H1=> ∀x dx,H1 x=Id->H1 dx=Id->dx≠x->
 sp (.ref x::(vs++RR)) (bf (bf H1 dx (.own x)) x (.ins C dx [])) (λv H2=>v= .Kk/\Q (.ref x) H2) E
def eJ (CX:rl) (X:Cx) (E:XK):Prop:= ∀(pins:Gm (Gx×Kd)) (σ:St) (H:Hp) (s:GC) (e:Gy) (s':GC),aP X pins σ H s->CX X.stack H s E e s'->X.xe e s'
section
variable {X:Cx}{CX:rl}{k:GJ}{f C:Gx}{fd:HX}{ps:Gm G0}{sp:Sp}{RR:Gm V}{ds:Gm Gy}{E:XK}{x m:G0}{p pos L8:Pos}{e o:IY}{es:Gm IY}{ta:TE}{t:TA}
theorem sv {pins:Gm (Gx×Kd)}{σ:St}{H:Hp}{s:GC}{Q:VK}(F:b8 X.prog X.w X.K X.mg X.base CX k f fd ps sp) (hr:cy k X.A) (hb:iw X.K fd ps ds) (hd:bH RR ds) (hx:eJ CX X E)
  (I:aP X pins σ H s) (r:bH vs us) (h:sp (vs++RR) H Q E):Hl (model X.prog X.w) X.A (call (.ref f) us) (EP X pins σ Q) X.xe s:=by
 have r2:bH (vs++RR) (us++ds):=r.append hd
 have hl:(us++ds).length=ps.length:=by rw[<-r2.length];exact F.len _ _ _ _ h
 refine QK (NK (F.run X.A X.stack s H #[us,[]] (us++ds) (vs++RR) Q E hr I.ZP (hb s us I.NV hl) r2 h) λr s' hq=>?_);cases r with
 |error e=>exact hx pins σ H s e s' I hq
 |ok fl=>
  cases fl with
  |ret u=>exact I.after hq
  |next=>exact JS hq
  |brk=>exact JS hq
  |cont=>exact JS hq
theorem aq (F:b8 X.prog X.w X.K X.mg X.base CX k f fd ps sp) (hr:cy k X.A) (hg:Gl X x) (d:CD X.K X.mg x f fd ps) (hx:eJ CX X E)
  (ha:PA X (e::es) t) (So:(x == ("__debug__":G0))=IN:=by decide) (he:Hb (e::es) X.env=(IN,eval e X.env)::Hb es X.env:=by rfl) (MS:(J6 pos (Hb es X.env)).any (·.1)=IN:=by rfl):
  PE X (.Call (.Name x p) (e::es) [] pos) (iS sp [] E t):=by
 intro pins s σ H Q I h;refine Lm (iM I hg d.m ?_ So);refine LM (h₀:=X.base) I.ok.mod.U6 d.k (cG (ha pos pins s σ H _ I h) λus s1 ⟨vs,H1,I1,r,q⟩=>#[I1.NV,?_]) he MS;exact sv F hr d.b .nil hx I1 r q
theorem eX (he:PE X o ta) (c:i8 X.K C) (d:MD X.K C m f fd ps) (F:b8 X.prog X.w X.K X.mg X.base CX k f fd ps sp) (hr:cy k X.A) (hx:eJ CX X E) (ha:PA X (e::es) t)
  (Ms:Hb (e::es) X.env=(IN,eval e X.env)::Hb es X.env:=by rfl) (MS:(J6 pos (Hb es X.env)).any (·.1)=IN:=by rfl)
  (ht:eval (.Call (.Attribute o m L8) (e::es) [] pos) X.env=(do
   let ov<-eval o X.env
   standAt L8.atName
   let (f,first)<-holding [ov] (O1 ov m pl)
   Th pos f first (J6 pos (Hb (e::es) X.env)) (N7 pos (LL [] X.env))):=by rfl):
  PE X (.Call (.Attribute o m L8) (e::es) [] pos) (Xo C m sp [] E ta t):=by
 intro pins s σ H Q I h;refine Ma (pl:=pl) (cG (he pins s σ H _ I h) λu s1 ⟨x,H1,I1,rx,a,dx,fs,ex,ea,l,q⟩=>?_) ht;subst ex;obtain rfl:u=Hj a:=rx;refine pw I1 ea c d.m l ?_;refine LM (first:=[.ref a]) (h₀:=X.base) I.ok.mod.U6 d.m.kp (cG (ha pos pins s1 σ H1 _ I1 q) λus s2 ⟨vs,H2,I2,r,q2⟩=>#[I2.NV,?_]) Ms MS
 exact sv (us:= .ref a::us) (vs:= .ref a::vs) F hr d.b .nil hx I2 (.cons IO r) q2
theorem cU (he:PE X o ta) (c:i8 X.K C) (d:MD X.K C m f fd ps) (F:b8 X.prog X.w X.K X.mg X.base CX k f fd ps sp) (hr:cy k X.A) (hx:eJ CX X E)
  (ht:eval (.Call (.Attribute o m L8) [] [] pos) X.env=(do
   let ov<-eval o X.env
   standAt L8.atName
   let (f,first)<-holding [ov] (O1 ov m pl)
   Th pos f first (J6 pos (Hb [] X.env)) (N7 pos (LL [] X.env))):=by rfl):
  PE X (.Call (.Attribute o m L8) [] [] pos) (Xo C m sp [] E ta kq):=by
 intro pins s σ H Q I h;refine Ma (pl:=pl) (cG (he pins s σ H _ I h) λu s1 ⟨x,H1,I1,rx,a,dx,fs,ex,ea,l,q⟩=>?_) ht;subst ex;obtain rfl:u=Hj a:=rx;refine pw I1 ea c d.m l ?_;exact SJ (first:=[.ref a]) I1.NV d.m.kp (sv (us:=[.ref a]) (vs:=[.ref a]) F hr d.b .nil hx I1 (.cons IO .nil) q)
theorem CJ {pins:Gm (Gx×Kd)}{σ:St}{H:Hp}{s:GC}{Q:VK}(M:Mk X.K C f) (F:b8 X.prog X.w X.K X.mg X.base CX k f fd ps sp) (hr:cy (k+1) X.A) (hb:iw X.K fd ps ds) (hd:bH RR ds)
  (hx:eJ CX X E) (I:aP X pins σ H s) (r:bH vs us)
  (h: ∀x dx,H x=Id->H dx=Id->dx≠x->sp (.ref x::(vs++RR)) (bf (bf H dx (.own x)) x (.ins C dx [])) (λv H2=>v= .Kk/\Q (.ref x) H2) E):
  Hl (model X.prog X.w) X.A (call (.ref C) us) (EP X pins σ Q) X.xe s:=by
 have hq:=h (s.heap.objs.size+1) s.heap.objs.size (I.Jy.fresh (Q3 _)) (I.Jy.fresh (GU _)) (Ih (MA _))
 have I2:=aP.made (C:=C) I
 have r2:bH (V.ref (s.heap.objs.size+1)::(vs++RR)) (Hj (s.heap.objs.size+1)::(us++ds)):= .cons IO (r.append hd)
 have hl:(Hj (s.heap.objs.size+1)::us++ds).length=ps.length:=by
  have e:=r2.length;rw[F.len _ _ _ _ hq] at e;exact e.symm
 refine QK (B7 (f:=f) I.NV M.makes M.init (beq_iff_eq.mp M.fn) (NK (F.run _ X.stack _ _ #[Hj (s.heap.objs.size+1)::us,[]] (Hj (s.heap.objs.size+1)::(us++ds)) _ _ E (hr.make C us [])
  (I2.ZP.make C us []) (hb _ (Hj (s.heap.objs.size+1)::us) I2.NV hl) r2 hq) λr s' S9=>?_))
 cases r with
 |error e=>exact hx pins σ _ _ e s' I2 S9
 |ok fl=>
  cases fl with
  |ret u=>
   obtain⟨v,H',I3,rv,ev,q3⟩:=I2.after S9;subst ev;exact#[rv,#[V.ref (s.heap.objs.size+1),H',I3,IO,q3]]
  |next=>exact JS S9
  |brk=>exact JS S9
  |cont=>exact JS S9
theorem kK (M:Mk X.K C f) (F:b8 X.prog X.w X.K X.mg X.base CX k f fd ps sp) (hr:cy (k+1) X.A) (hg:Gl X x) (hm:X.mg x=GM (.ref C)) (hb:iw X.K fd ps ds) (hd:bH RR ds) (hx:eJ CX X E)
  (ha:PA X (e::es) t) (So:(x == ("__debug__":G0))=IN:=by decide) (he:Hb (e::es) X.env=(IN,eval e X.env)::Hb es X.env:=by rfl) (MS:(J6 pos (Hb es X.env)).any (·.1)=IN:=by rfl):
  PE X (.Call (.Name x p) (e::es) [] pos) (Xp C sp RR E t):=by
 intro pins s σ H Q I h;refine Lm (iM I hg hm ?_ So);refine LM (h₀:=X.base) I.ok.mod.U6 M.kp (cG (ha pos pins s σ H _ I h) λus s1 ⟨vs,H1,I1,r,q⟩=>#[I1.NV,?_]) he MS;exact CJ M F hr hb hd hx I1 r q
end
structure ax (N P:Gm G0) (sc:Scope):Prop where
 kind:sc.kind= .function
 co:sc.isCoroutine=IN
 gen:sc.isGenerator=IN
 nd:N.Nodup
 pre:N.take P.length=P
 par: ∀x∈P,sc.names.lookup x=GM .local\/sc.names.lookup x=GM .cell
 ZQ: ∀y∈sc.names,y.2≠ .free
theorem qL {kindOf:G0->GF KQ}{x:G0} : ∀ {binds:Gm (G0×Gy)}{m:G0->GF Gy},(∀v,(x,v)∉binds)->U2 kindOf binds m x=m x
 |[],_,_=>rfl
 | (n,v)::r,m,h=>by
  unfold U2;rw[qL λw hw=>h w (G8 _ hw)];split
  .have:x≠n:=by rintro rfl;exact h v GP
   simp [this]
  .rfl
theorem qf {kindOf:G0->GF KQ}{x:G0} : ∀ {binds:Gm (G0×Gy)}{m:G0->GF Gy},(∀v,(x,v)∉binds)->U3 kindOf binds m x=m x
 |[],_,_=>rfl
 | (n,v)::r,m,h=>by
  unfold U3;rw[qf λw hw=>h w (G8 _ hw)];split
  .rfl
  .have:x≠n:=by rintro rfl;exact h v GP
   simp [this]
theorem qY {kindOf:G0->GF KQ}{x:G0}{v:Gy} : ∀ {P:Gm G0}{vs:Gm Gy}{i:GJ}{m:G0->GF Gy},P.Nodup->P[i]?=GM x->vs[i]?=GM v->kindOf x=GM .local->
  U2 kindOf (P.zip vs) m x=GM v
 |[],_,_,_,_,h,_,_=>by simp at h
 |_::_,[],_,_,_,_,h,_=>by simp at h
 |p::P,w::vs,0,m,nd,h1,h2,hk=>by
  simp at h1 h2;subst h1;subst h2;show U2 kindOf ((p,w)::P.zip vs) m p=_;unfold U2;rw[qL λv hv=>(JW.mp nd).1 (Q2 hv).1,GD hk];simp
 |p::P,w::vs,i+1,m,nd,h1,h2,hk=>by
  show U2 kindOf ((p,w)::P.zip vs) m x=_
  unfold U2;exact qY (i:=i) (JW.mp nd).2 (by simpa using h1) (by simpa using h2) hk
theorem qm {kindOf:G0->GF KQ}{x:G0}{v:Gy} : ∀ {P:Gm G0}{vs:Gm Gy}{i:GJ}{m:G0->GF Gy},P.Nodup->P[i]?=GM x->vs[i]?=GM v->kindOf x≠GM .local->
  U3 kindOf (P.zip vs) m x=GM v
 |[],_,_,_,_,h,_,_=>by simp at h
 |_::_,[],_,_,_,_,h,_=>by simp at h
 |p::P,w::vs,0,m,nd,h1,h2,hk=>by
  simp at h1 h2;subst h1;subst h2;show U3 kindOf ((p,w)::P.zip vs) m p=_;unfold U3;rw[qf λv hv=>(JW.mp nd).1 (Q2 hv).1,GB hk];simp
 |p::P,w::vs,i+1,m,nd,h1,h2,hk=>by
  show U3 kindOf ((p,w)::P.zip vs) m x=_
  unfold U3;exact qm (i:=i) (JW.mp nd).2 (by simpa using h1) (by simpa using h2) hk
def start (N:Gm G0) (vs:Gm V):St:=vs.map GM++Jr (N.length-vs.length) Id
def gW (CX:rl) (P:Hm) (w:HS) (K:Gu) (mg:G0->GF Gy) (base:Ij) (N:Gm G0) (IW:G0) (scope:Scope) (f:Gx) (cd:Gy) (A:IA) (outer:Gm Env) (s:GC) (H:Hp) (E:XK):Cx where
 prog:=P
 w:=w
 K:=K
 mg:=mg
 base:=base
 A:=A.deeper (Lc IW scope s.heap.objs.size f cd)
 N:=N
 P6:=s
 H_0:=H
 env:=Lc IW scope s.heap.objs.size f cd
 outer:=outer
 stack:=Lc IW scope s.heap.objs.size f cd::outer
 ex:=[]
 calm:=Ix
 fn:=λ_=>Ix
 pn:=[]
 xe:=λe s'=>Hl (model P w) (A.deeper (Lc IW scope s.heap.objs.size f cd)) (leaving (Lc IW scope s.heap.objs.size f cd) e) (λ_ s''=>CX outer H s E e s'') (λe' s''=>CX outer H s E e' s'') s'
theorem uz {sc:Scope}{n:GJ}{x:G0}(h:sc.names.lookup x=GM .cell): ∃c,(Jv n sc.names []).lookup x=GM c:=by
 have q:=Rr sc.names n [] (.inl h);exact LH.mp q
theorem zK {CX:rl}{P:Hm}{w:HS}{K:Gu}{mg:G0->GF Gy}{base:Ij}{N ps:Gm G0}{IW:G0}{scope:Scope}{f:Gx}{cd:Gy}{A:IA}{outer:Gm Env}{s s1:GC}{H:Hp}{E:XK}{us:Gm Gy}{vs:Gm V}
  (S:ax N ps scope) (hd:A.handled=Id) (e0:xA P w K mg base A outer s H) (hl:vs.length=ps.length) (r:bH vs us)
  (x:InCallC s s.heap.objs.size (U2 (Lc IW scope s.heap.objs.size f cd).kindOf (ps.zip us) λ_=>Id) (Jv (s.heap.objs.size+1) scope.names []) (U3 (Lc IW scope s.heap.objs.size f cd).kindOf (ps.zip us) λ_=>Id) s1):
  aP (gW CX P w K mg base N IW scope f cd A outer s H E) [] (start N vs) H s1:=by
 have MS:ps.length<=N.length:=by have:=Hr MP S.pre;rw[Mv] at this;lia
 obtain⟨h1,tk,rfl,hk⟩:=x.done;have noA: ∀b:Gx,b∉(gW CX P w K mg base N IW scope f cd A outer s H E).ex:=λb z=>GW (show b∈([]:Gm Gx) from z) (by simp)
 refine#[#[e0.mod,S.kind,IO,IO,GU _,λy z c h1 h2=>?_,λy hy=>?_,λy c _ h=>?_,λ_=>hd,IA.frames_deeper e0.frames, .inr #[IO,IO],λb z=>GW z (noA b),e0.bs,e0.Uu,λb _ _=>noA b,λb z=>GW z (noA b),e0.funs,e0.VS],
  rfl,e0.bare,Un.kept hk,#[_,x.toInCall.ns,λi y v h1 h2 h3=>?_],λy c h=>#[_,x.cell y c h],e0.Jy.fresh (GU _),λy c h=>?_,λp hp=>GW (show p∈([]:Gm (Gx×Kd)) from hp) (by simp),e0.Jy.kept hk,?_]
 .exact name_of_addr x.apart (Ig h1) (Ig h2)
 .have hy:scope.names.lookup y=GM .cell\/scope.names.lookup y=GM .free:=hy
  rcases hy with hy|hy
  .exact uz hy
  .exact GW IO (S.ZQ _ (Ig hy))
 .exact Mc (x.above y c (Ig h))
 .have hi:i<vs.length:=by
   unfold start at h2;by_cases hi:i<vs.length
   .exact hi
   .rw[Ly (by simpa using hi)] at h2
    rw[LV] at h2;split at h2<;>cases h2
  have ha:vs[i]?=GM v:=by
   unfold start at h2;rw[Rm (by simpa using hi),HF] at h2;cases e:vs[i]? with
   |none=>rw[e] at h2;cases h2
   |some a=>rw[e] at h2;cases h2;rfl
  obtain⟨u,hu,rv⟩:=r.get ha;have hp:ps[i]?=GM y:=by
   rw[<-S.pre,Gm.getElem?_take_of_lt (by lia)];exact h1
  have ndP:ps.Nodup:=by rw[<-S.pre];exact S.nd.sublist (Gm.take_sublist _ _)
  refine#[u,rv,?_];rcases S.par y (Iu hp) with k|k
  .exact .inl #[k,qY ndP hp hu k]
  .obtain⟨c,e⟩:=uz (n:=s.heap.objs.size+1) k
   refine .inr #[.inl k,c,e,?_];have q:=x.cell y c e;rw[qm ndP hp hu (by show scope.names.lookup y≠_;rw[k];decide)] at q;exact q
 .exact e0.Jy.fresh (Mc (x.above y c (Ig h)))
 .unfold start
  show _=N.length
  rw[Gq,GG,OQ];lia
theorem Xq {CX:rl}{P:Hm}{w:HS}{K:Gu}{mg:G0->GF Gy}{base:Ij}{k:GJ}{f:Gx}{name IW:G0}{params:Arguments}{body:Gm Stmt}{scope:Scope}{dV kV doc pm IB ct oc:Gy}{an od:GF Gx}
  {VT:Ky (GF Gy)}{N ps:Gm G0}{sp:Sp}(lk:K.lookup f=GM #[oc,od, .func (JB name IW params body scope dV kV doc pm an IB ct),VT]) (Rx:LW K IB IW=Ix) (S:ax N ps scope)
  (len: ∀vs H Q E,sp vs H Q E->vs.length=ps.length)
  (K6: ∀(A:IA) (outer:Gm Env) (s:GC) (H:Hp) (vs:Gm V) (Q:VK) (E:XK),cy k (A.deeper (Lc IW scope s.heap.objs.size f IB))->sp vs H Q E->
   Bd (gW CX P w K mg base N IW scope f IB A outer s H E) body { nx:=λ_ H'=>Q .Kk H',rt:=Q } (start N vs) H):
  b8 P w K mg base CX (k+1) f (JB name IW params body scope dV kV doc pm an IB ct) ps sp:=by
 refine#[len,λA outer s H args us vs Q E hr e0 hb r Tr=>?_];have hl:=len _ _ _ _ Tr;have KX:K.In s.heap:=e0.mod.U6.keeps λb o e=>(e0.bs b o e).1
 have lim:s.heap.NoLimit:=e0.mod.nolimit.keeps λb o e=>(e0.bs b o e).1
 have aew: ∀y∈ps.zip us,scope.names.lookup y.1=GM .local\/(scope.names.lookup y.1=GM .cell/\((Jv (s.heap.objs.size+1) scope.names []).lookup y.1).isSome=Ix):=λ⟨n,v⟩ hy=>by
  rcases S.par n (Q2 hy).1 with q|q
  .exact .inl q
  .exact .inr #[q,Rr _ _ _ (.inl q)]
 refine codeAny_call_function hr.depth (KX _ _ lk) IO S.co S.gen IO (PySem.W.codeRec_of KX Rx) (hb _ _ _ _ ?_);refine wpAny_newFunctionEnv_cells S.kind aew λenv he s1 x=>?_;subst he;refine#[lim.keeps x.toInCall.keep,codeAny_func ?_];obtain⟨t,ht,hq⟩:=K6 A outer s H vs Q E (hr.deeper _) Tr;have I:aP (gW CX P w K mg base N IW scope f IB A outer s H E) [] (start N vs) H s1:=zK S hr.hd e0 hl r x;refine JM (ht [] s1 (start N vs) H _ I hq) (λfl s' hs=>?_) λe s' hs=>hs;have fin: ∀ {σ':St}{H':Hp}{v:V}{u:Gy},aP (gW CX P w K mg base N IW scope f IB A outer s H E) [] σ' H' s'->bD v u->Q v H'->CE outer P w H s Q u s':=
  λ{σ' H' v u} J rv q=>#[v,H',J.os,J.bare,J.base,J.Jy,rv,q]
 cases fl with
 |ret u=>
  obtain⟨v,σ',H',J,rv,q⟩:=hs;exact fin J rv q
 |next=>
  obtain⟨σ',H',J,q⟩:=hs;exact fin (v:=V.Kk) (u:=Ju) J IO q
 |brk=>
  obtain⟨_,_,_,q⟩:=hs;exact JS q
 |cont=>
  obtain⟨_,_,_,q⟩:=hs;exact JS q
section
variable {X:Cx}{x:G0}{p pos:Pos}{e:IY}{es:Gm IY}{t:TA}{id T:String}{r:Gm V->Hp->VK->Prop}
def tCB (r:Gm V->Hp->VK->Prop) (t:TA):TE:=λσ H Q=>t σ H λvs H1=>r vs H1 Q
theorem aR (hc:gB X (.builtin id) r) (hg:Gl X x) (hm:X.mg x=Id) (hv:Mz x=GM (.builtin id)) (ha:PA X (e::es) t) (hn:x≠"__name__":=by decide) (So:(x == ("__debug__":G0))=IN:=by decide)
  (he:Hb (e::es) X.env=(IN,eval e X.env)::Hb es X.env:=by rfl) (MS:(J6 pos (Hb es X.env)).any (·.1)=IN:=by rfl):PE X (.Call (.Name x p) (e::es) [] pos) (tCB r t):=by
 intro pins s σ H Q I h;refine Lm (rP I hg hm hv ?_ hn So);exact O3 (cG (ha pos pins s σ H _ I h) λus s1 ⟨vs,H1,I1,r1,q1⟩=>hc pins s1 σ H1 vs us Q I1 r1 q1) he MS
theorem ii (hc:gB X (.type T) r) (hg:Gl X x) (hm:X.mg x=Id) (hv:Mz x=GM (.type T)) (ha:PA X (e::es) t) (hn:x≠"__name__":=by decide) (So:(x == ("__debug__":G0))=IN:=by decide)
  (he:Hb (e::es) X.env=(IN,eval e X.env)::Hb es X.env:=by rfl) (MS:(J6 pos (Hb es X.env)).any (·.1)=IN:=by rfl):PE X (.Call (.Name x p) (e::es) [] pos) (tCB r t):=by
 intro pins s σ H Q I h;refine Lm (rP I hg hm hv ?_ hn So);exact Pw (cG (ha pos pins s σ H _ I h) λus s1 ⟨vs,H1,I1,r1,q1⟩=>hc pins s1 σ H1 vs us Q I1 r1 q1) he MS
end
end L2
namespace HT
open PySem PyProof.Rows
section
variable {prog:Hm}{w:HS}{A:IA}{E:Gy->GC->Prop}{s:GC}
def RU (n d:GJ):GF Int->GJ
 |none=>d
 |some v=>if v<0 then(v+(n:Int)).toNat else min v.toNat n
theorem Sq (n d:GJ):RU n d Id=d:=rfl
theorem QG (n d k:GJ):RU n d (GM (k:Int))=min k n:=by
 show(if(k:Int)<0 then((k:Int)+(n:Int)).toNat else min (k:Int).toNat n)=min k n
 rw[GB (by lia),Qt]
end
end HT
namespace L2
open PySem PySem.Spec PyProof.Rows
abbrev TO:=St->Hp->(GF Int->Hp->Prop)->Prop
def PO (X:Cx) (e:GF IY) (t:TO):Prop:=
 ∀(pins:Gm (Gx×Kd)) (s:GC) (σ:St) (H:Hp) (Q:GF Int->Hp->Prop),aP X pins σ H s->t σ H Q->
  Hl (model X.prog X.w) X.A (evalPart e X.env) (λu s'=> ∃o H',aP X pins σ H' s'/\IsPart u o/\Q o H') X.xe s
def Ga:TO:=λ_ H Q=>Q Id H
def aex (t:TE):TO:=λσ H Q=>t σ H λx H1=> ∃i,x= .int i/\Q (GM i) H1
section
variable {X:Cx}{e:IY}{te:TE}{lo hi:GF IY}{tl th:TO}{pos p2:Pos}
theorem rn:PO X Id Ga:=by
 intro pins s σ H Q I h;rw[evalPart_none];exact HU #[Id,H,I, .none,h]
theorem gj (h:PE X e te):PO X (GM e) (aex te):=by
 intro pins s σ H Q I hw;rw[evalPart_some];refine cG (h pins s σ H _ I hw) λu s1 ⟨x,H1,I1,r1,q1⟩=>?_;obtain⟨i,rfl,q⟩:=q1;obtain⟨t,rfl⟩:=r1;exact#[GM i,H1,I1, .int i t,q]
def SlR (X:Cx) (r:V->GF Int->GF Int->Hp->VK->Prop):Prop:=
 ∀(pins:Gm (Gx×Kd)) (s:GC) (σ:St) (H:Hp) (x:V) (v vl vu:Gy) (lo hi:GF Int) (sl:Gx) (Q:VK),aP X pins σ H s->bD x v->s.heap.IsSliceOf sl vl vu .none->IsPart vl lo->IsPart vu hi->r x lo hi H Q->
  ∃T id,JD (.type T) "__getitem__"=Hz (GM (.builtin id))/\s.TypeIs v T/\Hl (model X.prog X.w) X.A (SW v (.ref sl)) (EP X pins σ Q) X.xe s
def tSl (r:V->GF Int->GF Int->Hp->VK->Prop) (te:TE) (tl th:TO):TE:=λσ H Q=>te σ H λx H1=>tl σ H1 λl H2=>th σ H2 λu H3=>r x l u H3 Q
theorem ip {r:V->GF Int->GF Int->Hp->VK->Prop}(hr:SlR X r) (he:PE X e te) (hl:PO X lo tl) (hu:PO X hi th):PE X (.Subscript e (.Slice lo hi Id p2) pos) (tSl r te tl th):=by
 intro pins s σ H Q I h;refine Yt (cG (he pins s σ H _ I h) λv s1 ⟨x,H1,I1,r1,q1⟩=>?_);refine wpAny_Slice (cG (hl pins s1 σ H1 _ I1 q1) λvl s2 ⟨l,H2,I2,pl,q2⟩=>cG (hu pins s2 σ H2 _ I2 q2) λvu s3 ⟨u,H3,I3,pu,q3⟩=>?_);rw[evalPart_none];refine HU ?_;have I4:aP X pins σ H3 { s3 with heap:=s3.heap.push { cls:= .type "slice",data:= .fields [vl,vu, .none].toArray } } :=I3.kept (t':=s3.toks) λb ob q=>GN _ q
 obtain⟨T,id,hT,ht,hg⟩:=hr pins { s3 with heap:=s3.heap.push { cls:= .type "slice",data:= .fields [vl,vu, .none].toArray } } σ H3 x v vl vu l u s3.heap.objs.size Q I4 r1 (abk ..) pl pu q3;show Hl (model X.prog X.w) X.A (Uo e (.Slice lo hi Id p2) v (.ref s3.heap.objs.size)) (EP X pins σ Q) X.xe { s3 with heap:=s3.heap.push { cls:= .type "slice",data:= .fields [vl,vu, .none].toArray } };exact tail_any (ops:=[.ref s3.heap.objs.size,v]) ht hT hg (by with_unfolding_all rfl)
def kQ (xs:Gm V) (lo hi:GF Int):Gm V:=(xs.drop (HT.RU xs.length 0 lo)).take (HT.RU xs.length xs.length hi-HT.RU xs.length 0 lo)
theorem tF (xs:Gm V) (lo hi:GF Int):(kQ xs lo hi).length<=xs.length:=by
 unfold kQ;rw[Mv,J3];lia
end
def ixN (n:GJ) (i:Int):GF GJ:=if 0<=i then(if i<n then GM i.toNat else Id) else if-(n:Int)<=i then GM (i+n).toNat else Id
def Cy {α:Type}(xs:Gm α) (i:Int):GF α:=(ixN xs.length i).bind λj=>xs[j]?
theorem FW {i:Int}(h:ixN n i=GM j):seqIndex? i n=GM j/\j<n/\ -(n:Int)<=i/\i<n:=by
 unfold ixN at h;by_cases h0:0<=i
 .rw[GD h0] at h
  by_cases h1:i<n
  .rw[GD h1] at h
   have e:i.toNat=j:=G7 h;exact#[by rw[seqIndex_of h0 h1,e],by lia,by lia,h1]
  .rw[GB h1] at h;cases h
 .rw[GB h0] at h
  by_cases h1: -(n:Int)<=i
  .rw[GD h1] at h
   have e:(i+n).toNat=j:=G7 h;exact#[by rw[seqIndex_neg (by lia) h1,e],by lia,h1,by lia]
  .rw[GB h1] at h;cases h
theorem sW {α:Type}{xs:Gm α}{i:Int}{v:α}(h:Cy xs i=GM v): ∃j,seqIndex? i xs.length=GM j/\xs[j]?=GM v/\j<xs.length/\ -(xs.length:Int)<=i/\i<xs.length:=by
 unfold Cy at h;cases e:ixN xs.length i with
 |none=>rw[e] at h;cases h
 |some j=>
  rw[e] at h;obtain⟨h1,h2,h3,h4⟩:=FW e;exact#[j,h1,h,h2,h3,h4]
theorem ci {α:Type}{xs:Gm α}{j:GJ}{v:α}(h:xs[j]?=GM v):Cy xs (j:Int)=GM v:=by
 have hj:j<xs.length:=(Hk.mp h).1
 have e:ixN xs.length (j:Int)=GM j:=by
  unfold ixN;rw[GD (by lia),GD (by lia)];simp
 unfold Cy;rw[e];exact h
def rH (b:IY):Prop:= ∀o i,subscripted b IN o i=operate [o,i] (SW o i)
def IxR (X:Cx) (r:R2):Prop:=
 ∀(Lk slice:IY) (pins:Gm (Gx×Kd)) (s:GC) (σ:St) (H:Hp) (x y:V) (v u:Gy) (Q:VK),aP X pins σ H s->bD x v->bD y u->r x y H Q->
  subscripted slice IN v u=operate [v,u] (SW v u)->Hl (model X.prog X.w) X.A (Uo Lk slice v u) (EP X pins σ Q) X.xe s
def MtR (X:Cx) (id:String) (r:V->Gm V->Hp->VK->Prop):Prop:=
 ∀(pins:Gm (Gx×Kd)) (s:GC) (σ:St) (H:Hp) (x:V) (xs:Gm V) (v:Gy) (us:Gm Gy) (Q:VK),aP X pins σ H s->bD x v->bH xs us->r x xs H Q->
  Hl (model X.prog X.w) X.A (call (.builtin id) (v::us)) (EP X pins σ Q) X.xe s
section
variable {X:Cx}{a b:IY}{ta tb:TE}{pos:Pos}
theorem eS {r:R2}(hr:IxR X r) (ha:PE X a ta) (hb:PE X b tb) (hs:rH b):PE X (.Subscript a b pos) (Bc r ta tb):=by
 intro pins s σ H Q I h;exact Yt (ZL ha hb I h λv u s2 x y H2 I2 rx ry q=>hr a b pins s2 σ H2 x y v u Q I2 rx ry q (hs _ _))
inductive ZR (K:Gu) (x:V) (y:V) (H:Hp) (Q:VK):Prop
 |mk (p:Gx) (xs:Gm V) (i:Int) (v:V) (_:x= .ref p) (_:y= .int i) (_:cK K H p xs) (_:Cy xs i=GM v) (_:Q v H):ZR K x y H Q
inductive aey (K:Gu) (x:V) (y:V) (H:Hp) (Q:VK):Prop
 |mk (p:Gx) (xs:Gm V) (i:Int) (v:V) (_:x= .ref p) (_:y= .int i) (_:pV K H p xs) (_:Cy xs i=GM v) (_:Q v H):aey K x y H Q
inductive aez (x:V) (y:V) (H:Hp) (Q:VK):Prop
 |mk (z:G0) (i:Int) (c:GJ) (_:x= .str z) (_:y= .int i) (_:z.length<=GV) (_:Cy z.cps.toList i=GM c) (_:Q (.str ⟨[c].toArray⟩) H):aez x y H Q
theorem cX:IxR X (ZR X.K):=by
 intro Lk slice pins s σ H x y v u Q I rx ry h hs;obtain⟨p,xs,i,z,rfl,rfl,hq,he,q⟩:=h;cases rx;obtain⟨t,rfl⟩:=ry;obtain⟨Ji,r,pl,hz⟩:=I.list hq;obtain⟨j,h1,h2,h3,h4,h5⟩:=sW he;obtain⟨w,ew,TK⟩:=r.get h2;have hl:=r.length;have hn:=rV;have fin:EP X pins σ Q w s:=#[z,H,I,TK,q];by_cases h0:0<=i
 .have hj:i.toNat=j:=by
   rw[seqIndex_of h0 h5] at h1;exact G7 h1
  exact item_listR pl.isList h0 (by lia) (by rw[hj];simpa using ew) fin hs
 .have hj:(i+(Ji.toArray.size:Int)).toNat=j:=by
   rw[seqIndex_neg (by lia) h4] at h1;rw[Hv,<-hl];exact G7 h1
  exact Va (x:=w) pl.isList.typeIs slot_list_getitem.lookup
   (wpAny_getItem_list_neg (Q:=λr s'=>r=w/\EP X pins σ Q r s') pl.isList (by lia) (by rw[Hv]<;>lia) (by lia) (by rw[hj];simpa using ew) #[IO,fin]) hs
theorem ZS:IxR X (aey X.K):=by
 intro Lk slice pins s σ H x y v u Q I rx ry h hs;obtain⟨p,xs,i,z,rfl,rfl,hq,he,q⟩:=h;cases rx;obtain⟨t,rfl⟩:=ry;obtain⟨Ji,r,pl,hz⟩:=I.tuple hq;obtain⟨j,h1,h2,h3,h4,h5⟩:=sW he;obtain⟨w,ew,TK⟩:=r.get h2;have hl:=r.length;have hn:=rV;have fin:EP X pins σ Q w s:=#[z,H,I,TK,q];exact Va (x:=w) pl.typeIs slot_tuple_getitem.lookup
  (getItem_tuple (j:=j) (Q:=λr s'=>r=w/\EP X pins σ Q r s') pl (by lia) (by lia) (by rw[Hv,<-hl];exact h1) (by simpa using ew) #[IO,fin]) hs
theorem ZT:IxR X aez:=by
 intro Lk slice pins s σ H x y v u Q I rx ry h hs;obtain⟨z,i,c,rfl,rfl,hz,he,q⟩:=h;obtain⟨t,rfl⟩:=rx;obtain⟨t',rfl⟩:=ry;obtain⟨j,h1,h2,h3,h4,h5⟩:=sW he;have hl:z.cps.toList.length=z.length:=by simp [G0.length]
 rw[hl] at h1 h4 h5;have hn:=rV;exact tail_any (Yu s z t) slot_str_getitem.lookup (getItem_str (c:=c) (by
  have e1:decide (i< -(2 ^ 63:Int))=IN:=Ha (by lia)
  have e2:decide (i ≥ 2 ^ 63)=IN:=Ha (by lia);rw[e1,e2,PB]) (by rw[h1];simpa using h2) #[.str #[[c].toArray],H,I.tok _,#[_,IO],q]) hs
theorem rS (lo hi:GF Int) (n:GJ):(Nh lo hi Id n).1=((HT.RU n 0 lo:GJ):Int)/\(Nh lo hi Id n).2.1=((HT.RU n n hi:GJ):Int)/\(Nh lo hi Id n).2.2=1:=by
 refine#[?_,?_,IO]
 .cases lo with
  |none=>simp [Nh,HT.RU]
  |some i=>
   simp only[Nh,HT.RU,UT,show(1:Int)>0 by decide,SX];by_cases h:i<0
   .simp only[h,SX]<;>lia
   .simp only[h,Ni]<;>lia
 .cases hi with
  |none=>simp [Nh,HT.RU]
  |some i=>
   simp only[Nh,HT.RU,UT,show(1:Int)>0 by decide,SX];by_cases h:i<0
   .simp only[h,SX]<;>lia
   .simp only[h,Ni]<;>lia
theorem qd (Ji:Gm Gy) (lo hi:GF Int):slicePick Ji.toArray lo hi Id=((Ji.drop (HT.RU Ji.length 0 lo)).take (HT.RU Ji.length Ji.length hi-HT.RU Ji.length 0 lo)).toArray:=by
 obtain⟨h1,h2,h3⟩:=rS lo hi Ji.toArray.size;unfold slicePick;rw[h1,h2,h3];simp only[sliceRange_one,pick_run,Hv]<;>rfl
def ajl (K:Gu):V->GF Int->GF Int->Hp->VK->Prop:=λx lo hi H Q=> ∃a xs,x= .ref a/\cK K H a xs/\ ∀p,H p=Id->Q (.ref p) (bf H p (.lst (kQ xs lo hi)))
theorem jH:SlR X (ajl X.K):=by
 intro pins s σ H x v vl vu lo hi sl Q I rx hs pl pu h;obtain⟨a,xs,rfl,hx,q⟩:=h;cases rx;obtain⟨Ji,r,ht,hz⟩:=I.list hx;have hlen:=r.length;refine#["list",_,slot_list_getitem.lookup,ht.isList.typeIs,?_];refine wpAny_getItem_list_slice ht.isList hs pl pu .none (by simp) ?_ (by rw[Hv]<;>lia);rw[qd,<-hlen];refine#[.ref s.heap.objs.size,_,I.laid (t':=s.toks) (o:= .lst (kQ xs lo hi)) (λb ob q=>GN _ q) (GU _) ?_,IO,q _ (I.Jy.fresh (GU _))];exact#[GX (tF xs lo hi) hz,_,0,(r.drop (HT.RU xs.length 0 lo)).take (HT.RU xs.length xs.length hi-HT.RU xs.length 0 lo),Io _ IO]
def je:V->HH
 | .Kk=>Ix
 | .bl _=>Ix
 | .int _=>Ix
 | .str _=>Ix
 |_=>IN
def E1:V->V->HH
 | .Kk, .Kk=>Ix
 | .bl a, .bl b=>a == b
 | .bl a, .int b=>(if a then 1 else 0) == b
 | .int a, .bl b=>a == (if b then 1 else 0)
 | .int a, .int b=>a == b
 | .str a, .str b=>a == b
 |_,_=>IN
theorem ZU {A:IA}{s:GC}{y x:V}{u v:Gy}(ry:bD y u) (rx:bD x v) (fy:je y=Ix) (fx:je x=Ix):SeqAt.EqAt A s u v (E1 y x):=by
 cases y with
 |Kk=>
  cases ry;cases x with
  |Kk=>cases rx;exact SeqAt.EqAt.same _
  |bl b=>cases rx;exact SeqAt.EqAt.none_bool b
  |int b=>obtain⟨t,rfl⟩:=rx;exact SeqAt.EqAt.none_int b t
  |str b=>obtain⟨t,rfl⟩:=rx;exact SeqAt.EqAt.none_str b t
  |_=>exact GW (show IN=Ix from fx) Gn
 |bl a=>
  cases ry;cases x with
  |Kk=>cases rx;exact SeqAt.EqAt.bool_none a
  |bl b=>cases rx;exact SeqAt.EqAt.bool_bool a b
  |int b=>obtain⟨t,rfl⟩:=rx;exact SeqAt.EqAt.bool_int a b t
  |str b=>obtain⟨t,rfl⟩:=rx;exact SeqAt.EqAt.bool_str a b t
  |_=>exact GW (show IN=Ix from fx) Gn
 |int a=>
  obtain⟨t',rfl⟩:=ry;cases x with
  |Kk=>cases rx;exact SeqAt.EqAt.int_none a t'
  |bl b=>cases rx;exact SeqAt.EqAt.int_bool a t' b
  |int b=>obtain⟨t,rfl⟩:=rx;exact SeqAt.EqAt.int_int a t' b t
  |str b=>obtain⟨t,rfl⟩:=rx;exact RM a t' b t
  |_=>exact GW (show IN=Ix from fx) Gn
 |str a=>
  obtain⟨t',rfl⟩:=ry;cases x with
  |Kk=>cases rx;exact SeqAt.EqAt.str_none a t'
  |bl b=>cases rx;exact SeqAt.EqAt.str_bool a t' b
  |int b=>obtain⟨t,rfl⟩:=rx;exact RN a t' b t
  |str b=>obtain⟨t,rfl⟩:=rx;exact SeqAt.EqAt.str_str a t' b t
  |_=>exact GW (show IN=Ix from fx) Gn
 |_=>exact GW (show IN=Ix from fy) Gn
def wF (x:V) (u:Gy):HH:=match u with
 | .none=>E1 .Kk x
 | .bool b=>E1 (.bl b) x
 | .int i _=>E1 (.int i) x
 | .str z _=>E1 (.str z) x
 |_=>IN
theorem EC {x y:V}{u:Gy}(r:bD y u) (f:je y=Ix):wF x u=E1 y x:=by
 cases y with
 |Kk=>cases r;rfl
 |bl b=>cases r;rfl
 |int i=>obtain⟨t,rfl⟩:=r;rfl
 |str z=>obtain⟨t,rfl⟩:=r;rfl
 |_=>exact GW (show IN=Ix from f) Gn
theorem kC {x:V} : ∀ {xs:Gm V}{us:Gm Gy},bH xs us->xs.all je=Ix->us.any (wF x)=xs.any λy=>E1 y x
 |_,_, .nil,_=>rfl
 |y::xs,u::us, .cons r t,f=>by
  rw[PD,Jt] at f;rw[J7,J7,EC r f.1,kC t f.2]
theorem jq {A:IA}{s:GC}{x:V}{v:Gy}(rx:bD x v) (fx:je x=Ix): ∀ {xs:Gm V}{us:Gm Gy},bH xs us->xs.all je=Ix-> ∀u∈us,SeqAt.EqAt A s u v (wF x u)
 |_,_, .nil,_=>λu hu=>by cases hu
 |y::xs,u::us, .cons r t,f=>λu' hu=>by
  rw[PD,Jt] at f;rcases Hc.mp hu with rfl|hu
  .rw[EC r f.1];exact ZU r rx f.1 fx
  .exact jq rx fx t f.2 u' hu
def uD (x:V) (xs:Gm V):HH:=xs.any λy=>E1 y x
inductive rIn (K:Gu) (neg:HH) (x:V) (y:V) (H:Hp) (Q:VK):Prop
 |mk (p:Gx) (xs:Gm V) (_:y= .ref p) (_:(cK K H p xs\/pV K H p xs)) (_:je x=Ix) (_:xs.all je=Ix) (_:Q (.bl (if neg then !uD x xs else uD x xs)) H):rIn K neg x y H Q
theorem jE:mz X (J1 .In) (rIn X.K IN):=by
 intro pins s σ H x y v u Q I rx ry h;obtain⟨p,xs,rfl,hq,fx,fs,q⟩:=h;cases ry;rcases hq with hq|hq
 .obtain⟨Ji,r,pl,hz⟩:=I.list hq
  refine SeqAt.in_listAt (wF x) pl.isList (λw hw=>jq rx fx r fs w (by simpa using hw)) #[.bl _,H,I,IO,?_];rw[show Ji.toArray.any (wF x)=Ji.any (wF x) by simp,kC r fs];exact q
 .obtain⟨Ji,r,pl,hz⟩:=I.tuple hq
  refine SeqAt.in_tupleAt (wF x) pl (λw hw=>jq rx fx r fs w (by simpa using hw)) #[.bl _,H,I,IO,?_];rw[show Ji.toArray.any (wF x)=Ji.any (wF x) by simp,kC r fs];exact q
theorem iz:mz X (J1 .NotIn) (rIn X.K Ix):=by
 intro pins s σ H x y v u Q I rx ry h;obtain⟨p,xs,rfl,hq,fx,fs,q⟩:=h;cases ry;rcases hq with hq|hq
 .obtain⟨Ji,r,pl,hz⟩:=I.list hq
  refine SeqAt.notIn_listAt (wF x) pl.isList (λw hw=>jq rx fx r fs w (by simpa using hw)) #[.bl _,H,I,IO,?_];rw[show Ji.toArray.any (wF x)=Ji.any (wF x) by simp,kC r fs];exact q
 .obtain⟨Ji,r,pl,hz⟩:=I.tuple hq
  refine SeqAt.notIn_tupleAt (wF x) pl (λw hw=>jq rx fx r fs w (by simpa using hw)) #[.bl _,H,I,IO,?_];rw[show Ji.toArray.any (wF x)=Ji.any (wF x) by simp,kC r fs];exact q
inductive aeA (K:Gu) (xs:Gm V) (H:Hp) (Q:VK):Prop
 |mk (p:Gx) (ys:Gm V) (_:xs=[.ref p]) (_:(cK K H p ys\/pV K H p ys)) (_:Q (.int ys.length) H):aeA K xs H Q
theorem bL:gB X (.builtin "len") (aeA X.K):=by
 intro pins s σ H xs us Q I r h;obtain⟨p,ys,rfl,hq,q⟩:=h;obtain⟨u,rfl,rx⟩:=kD r;cases rx;have hn:=rV;rcases hq with hq|hq
 .obtain⟨Ji,r',pl,hz⟩:=I.list hq
  have hlen:=r'.length;exact Calls.call_len_list pl.isList (by simp only[Hv]<;>lia) #[.int ys.length,H,I.tok _,#[s.toks+1,by rw[Hv,hlen]],q]
 .obtain⟨Ji,r',pl,hz⟩:=I.tuple hq
  have hlen:=r'.length;exact len_tuple pl (by simp only[Hv]<;>lia) #[.int ys.length,H,I.tok _,#[s.toks+1,by rw[Hv,hlen]],q]
theorem gU:gB X (.type "tuple") (λxs H Q=> ∃p ys,xs=[.ref p]/\((cK X.K H p ys/\ ∀l,H l=Id->Q (.ref l) (bf H l (.tup ys)))\/(pV X.K H p ys/\Q (.ref p) H))):=by
 intro pins s σ H xs us Q I r h;obtain⟨p,ys,rfl,h⟩:=h;obtain⟨u,rfl,rx⟩:=kD r;cases rx;rcases h with⟨hq,q⟩|⟨hq,q⟩
 .obtain⟨Ji,r',pl,hz⟩:=I.list hq
  have hlen:=r'.length;refine call_tuple_list pl.isList (λh' kp=>?_) (by simp only[Hv]<;>lia)
  have I1:aP X pins σ H { s with heap:=h' } :=I.kept (t':=s.toks) kp
  have I2:aP X pins σ (bf H h'.objs.size (.tup ys)) { s with heap:=h'.push { cls:= .type "tuple",data:= .seq Ji.toArray } } :=
   I1.laid (t':=s.toks) (λb o e=>GN _ e) (GU _) (show cJ X.prog X.w _ _ _ (.tup ys) from#[hz,Ji,r',IsTup.new _ _])
  exact#[.ref h'.objs.size,_,I2,IO,q _ (I1.Jy.fresh (GU _))]
 .obtain⟨Ji,r',pl,hz⟩:=I.tuple hq
  exact call_tuple_same pl #[.ref p,H,I,IO,q]
def tyV (K:Gu) (T:String) (x:V) (H:Hp):Prop:=match x with
 | .str _=>T="str"
 | .int _=>T="int"
 | .ref p=>(T="list"/\ ∃xs,cK K H p xs)\/(T="tuple"/\ ∃o,K.lookup p=GM o/\o.cls= .type "tuple"/\o.dict=Id)\/
   (T="dict"/\((∃Iw,H p=GM (.dK Iw))\/ ∃Iw,H p=GM (.dT Iw)))\/(T="set"/\ ∃S n,H p=GM (.set S n))
 |_=>False
theorem ZV {pins:Gm (Gx×Kd)}{σ:St}{H:Hp}{s:GC}{T:String}{x:V}{v:Gy}(I:aP X pins σ H s) (r:bD x v) (ty:tyV X.K T x H):
  s.TypeIs v T/\ ∀a,v= .ref a-> ∃ob,s.heap.get? a=GM ob/\ob.dict=Id:=by
 cases x with
 |str z=>
  obtain⟨t,rfl⟩:=r;cases (show T="str" from ty);exact#[Yu s z t,λ_ e=>nomatch e]
 |int i=>
  obtain⟨t,rfl⟩:=r;cases (show T="int" from ty);exact#[typeIs_int s i t,λ_ e=>nomatch e]
 |ref p=>
  cases r;rcases ty with⟨rfl,xs,hq⟩|⟨rfl,o,hk,hc,hd⟩|⟨rfl,hk⟩|⟨rfl,S,n,hk⟩
  .obtain⟨Ji,_,pl,_⟩:=I.list hq
   refine#[pl.isList.typeIs,λa e=>?_];cases e;obtain⟨o,n,e,c,hd,_⟩:=pl;exact#[o,e,hd]
  .refine#[#[o,I.NV p o hk,hc],λa e=>?_]
   cases e;exact#[o,I.NV _ o hk,hd]
  .have z: ∃o,s.heap.get? p=GM o/\o.ExactDict:=by
    rcases hk with⟨Iw,hk⟩|⟨Iw,hk⟩
    .obtain⟨_,_,_,_,o,_,_,e,ex,_⟩:=I.Jy p _ hk
     exact#[o,e,ex]
    .obtain⟨_,_,_,_,o,_,_,e,ex,_⟩:=I.Jy p _ hk
     exact#[o,e,ex]
   obtain⟨o,e,ex⟩:=z;refine#[#[o,e,ex.1],λa e2=>?_];cases e2;exact#[o,e,ex.2.1]
  .obtain⟨o,_,_,_,e,ex,_⟩:=I.Jy p _ hk
   refine#[#[o,e,ex.1],λa e2=>?_];cases e2;exact#[o,e,ex.2.1]
 |_=>exact JS ty
inductive aeB (K:Gu) (T:String) (R:V->Hp->Prop) (x:V) (H1:Hp):Prop
 |mk (_:tyV K T x H1) (_:R x H1):aeB K T R x H1
def tBM (K:Gu) (T:String) (r:V->Gm V->Hp->VK->Prop) (to:TE) (t:TA):TE:=λσ H Q=>to σ H (aeB K T (λx H1=>t σ H1 λxs H2=>r x xs H2 Q))
variable {o e:IY}{es:Gm IY}{to:TE}{t:TA}{name:G0}{L8 ML:Pos}{T id:String}{r:V->Gm V->Hp->VK->Prop}
theorem df (pa:PlainAttrs T) (slot:Slot T name id) (hty:typeOf (.builtin id)=Hz (.type "method_descriptor")) (hm:MtR X id r) (ho:PE X o to) (ha:PA X (e::es) t)
  (Sr:JK o name X.env (eval o X.env)=eval o X.env:=by rfl)
  (ajm:((J6 ML (Hb (e::es) X.env)).all (λx=>!x.1)&&(N7 ML (LL [] X.env)).all (λx=>x.1.isSome)
   &&decide ((e::es).length+([]:Gm Keyword).length+(if([]:Gm Keyword).isEmpty then 0 else 1)<30))=Ix:=by rfl)
  (Ss:(L8.endLine == ML.line)=Ix:=by rfl) (hs:Hb (e::es) X.env=(IN,eval e X.env)::Hb es X.env:=by rfl) (ZW:(J6 ML (Hb es X.env)).any (·.1)=IN:=by rfl):
  PE X (.Call (.Attribute o name L8) (e::es) [] ML) (tBM X.K T r to t):=by
 intro pins s σ H Q I h;refine wpAny_Call_method_late Sr ajm Ss IO (cG (ho pins s σ H _ I h) λv s1 ⟨x,H1,I1,r1,ty,q1⟩=>?_);obtain⟨h1,h2⟩:=ZV I1 r1 ty;refine#[T,id,pa,slot,hty,h1,h2,?_];have hA:=ha ML pins s1 σ H1 _ I1 q1;rw[hs] at hA ⊢;refine Oj (by show(IN||(J6 ML (Hb es X.env)).any (·.1))=IN;rw[ZW]<;>rfl) (OY ?_)
 exact cG hA λus s2 ⟨vs,H2,I2,r2,q2⟩=>hm pins s2 σ H2 x vs v us Q I2 r1 r2 q2
end
def MtM (X:Cx) (id:String) (r:V->Gm V->Hp->VK->Prop):Prop:=
 ∀(pins:Gm (Gx×Kd)) (s:GC) (σ:St) (H:Hp) (x:V) (xs:Gm V) (v:Gy) (us:Gm Gy) (Q:VK),aP X pins σ H s->bD x v->bH xs us->r x xs H Q->
  Hl (model X.prog X.w) X.A (call (.builtin id) (v::us)) (EP X pins σ Q) X.xe s
theorem bH.one: ∀ {x:V}{us:Gm Gy},bH [x] us-> ∃u,us=[u]/\bD x u
 |_,_, .cons r .nil=>#[_,IO,r]
section
variable {X:Cx}{pins:Gm (Gx×Kd)}{σ:St}{H:Hp}{s:GC}{l b:Gx}{xs ys zs:Gm V}
theorem aP.aeC {Ji its':Gm Gy}{f:Ky Gy->Ky Gy}(I:aP X pins σ H s) (hH:H l=GM (.lst xs))
  (e:s.heap.get? l=GM { cls:= .type "list",data:= .seq Ji.toArray n }) (hf:f Ji.toArray=its'.toArray) (hv:bH ys its') (hz:ys.length<=GV):
  aP X pins σ (bf H l (.lst ys)) { s with heap:=s.heap.update l (Kd.mapSeq f),toks:=t' } :=by
 have q:=PySem.IsL.update e f;rw[hf] at q;refine I.write (x:=l) (e:=l) (by rw[hH];exact trivial) (.inl IO) (λb' u hb hu=>(IC s.heap (Kd.mapSeq f) (KY hb)).trans hu) #[_,q] ?_
 exact#[hz,its',_,hv,q]
theorem aP.ajn {Ji:Gm Gy}(I:aP X pins σ H s) (hv:bH ys Ji) (hz:ys.length<=GV):
  aP X pins σ (bf H s.heap.objs.size (.lst ys)) { s with heap:=s.heap.push { cls:= .type "list",data:= .seq Ji.toArray },toks:=t' } :=
 I.laid (λ_ _ q=>GN _ q) (GU _) #[hz,Ji,0,hv,Io _ IO]
theorem aP.fresh (I:aP X pins σ H s):H s.heap.objs.size=Id:=I.Jy.fresh (GU _)
theorem aP.UC (I:aP X pins σ H s) (hH:H l=GM (.lst xs)):xs.length<=GV/\ ∃(Ji:Gm Gy) (n:GJ),bH xs Ji/\xs.length=Ji.length/\s.heap.get? l=GM { cls:= .type "list",data:= .seq Ji.toArray n } :=by
 obtain⟨z,Ji,n,r,e⟩:=I.Jy l _ hH;exact#[z,Ji,n,r,r.length,e]
theorem Cv (h:n<=GV):MU n=IN:=by
 unfold MU;exact Ha (by lia)
end
section
variable {X:Cx}
inductive nH (x:V) (vs:Gm V) (H:Hp) (Q:VK):Prop
 |mk (l:Gx) (xs:Gm V) (y:V) (_:x= .ref l) (_:vs=[y]) (_:H l=GM (.lst xs)) (_:xs.length<GV) (_:Q .Kk (bf H l (.lst (xs++[y])))):nH x vs H Q
theorem di:MtM X "list.append" nH:=by
 intro pins s σ H x vs v us Q I rx rv h;obtain⟨l,xs,y,rfl,rfl,hH,hz,q⟩:=h;cases rx;obtain⟨u,rfl,ru⟩:=rv.one;obtain⟨z,Ji,n,r,hl,e⟩:=I.UC hH;refine call_meets F.slot_list_append #[_,e,IO] F.entry_list_append (F.args_list_append_2 _ _) (PySem.list_append l Ji.toArray n u (by rw[Hv];lia)) #[e,?_];refine#[.Kk,_,I.aeC (its':=Ji++[u]) hH e (by simp) (r.append (.cons ru .nil)) ?_,IO,q];rw[Gq,Kp];lia
inductive nO (x:V) (vs:Gm V) (H:Hp) (Q:VK):Prop
 |mk (l b:Gx) (xs zs:Gm V) (_:x= .ref l) (_:vs=[.ref b]) (_:H l=GM (.lst xs)) (_:H b=GM (.lst zs)) (_:xs.length+zs.length<=GV) (_:Q .Kk (bf H l (.lst (xs++zs)))):nO x vs H Q
theorem bX:MtM X "list.extend" nO:=by
 intro pins s σ H x vs v us Q I rx rv h;obtain⟨l,b,xs,zs,rfl,rfl,hH,hB,hz,q⟩:=h;cases rx;obtain⟨u,rfl,ru⟩:=rv.one;cases ru;obtain⟨z,Ji,n,r,hl,e⟩:=I.UC hH;obtain⟨z2,QW,n2,r2,VY,e2⟩:=I.UC hB;have hsz:Ji.toArray.size+QW.toArray.size<=GV:=by rw[Hv,Hv];lia
 have aeD: ¬(! Ji.toArray.isEmpty&&MU (Ji.toArray.size+QW.toArray.size))=Ix:=by
  rw[Cv hsz,HH.and_false];exact Gn
 refine call_meets F.slot_list_extend #[_,e,IO] F.entry_list_extend (F.args_list_extend_2 _ _)
  (AutoSeq1.list_extend_list_list_0 l Ji.toArray n b QW.toArray n2 aeD (by rw[Hv];lia) (by lia)) #[e,e2,?_]
 refine#[.Kk,_,I.aeC (its':=Ji++QW) hH e (by simp) (r.append r2) ?_,IO,q];rw[Gq];lia
inductive FN (x:V) (y:V) (H:Hp) (Q:VK):Prop
 |mk (l b:Gx) (xs zs:Gm V) (_:x= .ref l) (_:y= .ref b) (_:H l=GM (.lst xs)) (_:H b=GM (.lst zs)) (_:xs.length+zs.length<=GV) (_: ∀p,H p=Id->Q (.ref p) (bf H p (.lst (xs++zs)))):FN x y H Q
theorem bC:mz X (N6 .Add) FN:=by
 intro pins s σ H x y v u Q I rx ry h;obtain⟨l,b,xs,zs,rfl,rfl,hH,hB,hz,q⟩:=h;cases rx;cases ry;obtain⟨z,Ji,n,r,hl,e⟩:=I.UC hH;obtain⟨z2,QW,n2,r2,VY,e2⟩:=I.UC hB;refine PySem.P.add_list e e2 ?_ (by rw[Hv,Hv];lia);have ea:Ji.toArray++QW.toArray=(Ji++QW).toArray:=by simp
 rw[ea];exact#[.ref _,_,I.ajn (t':=s.toks) (r.append r2) (by rw[Gq];lia),IO,q _ I.fresh]
end
section
variable {prog:Hm}{w:HS}{A:IA}{E:Gy->GC->Prop}{s:GC}
set_option maxRecDepth 100000 in
end
theorem bH.bls: ∀ {bs:Gm HH}{us:Gm Gy},bH (bs.map V.bl) us->us=bs.map LS
 |[],us,h=>by
  rw[Gm.map_nil] at h;cases h
  rfl
 |b::bs,us,h=>by
  rw[GZ] at h;cases h with
  |cons r t=>
   cases r;rw[bH.bls t,GZ]
theorem bH.aeE {a:Gx}(r:bH [V.ref a] us):us=[Hj a]:=by
 cases r with
 |cons r t=>
  cases t;cases r
  rfl
theorem uH {prog:Hm}{w:HS}{A:IA}{E:Gy->GC->Prop}{s:GC}{l:Gx}{Q:Gy->GC->Prop}(hl:s.heap.IsList l items)
  (h: ∀s₂:GC,s₂= { s with heap:=s.heap.push { cls:= .type "list_iterator",data:= .fields [.ref l, .int 0 0].toArray } } ->
   (s₂.heap.IsListIter s.heap.objs.size l 0/\s₂.heap.IsList l items)->l≠s.heap.objs.size->Q (.ref s.heap.objs.size) s₂):Hl (model prog w) A (pyIter (.ref l)) Q E s:=by
 have RT:l<s.heap.objs.size:=by obtain⟨_,e,_⟩:=hl;exact Hg e
 exact wpAny_pyIter_list hl (h _ IO #[#[_,Io _ IO,IO,IO],hl.push _] (Ih RT))
theorem mI {prog:Hm}{w:HS}{A:IA}{bs:Gm HH}{Ji:Gm Gy}(e:Ji=bs.map LS):
  TruthOf prog w A (λi v=>Ji.toArray[i]?=GM v) (λi=>bs.getD i IN):=λi v s Q E hv hq=>by
 have hv':Ji[i]?=GM v:=by simpa using hv
 rw[e,HF] at hv';obtain⟨b,hb,rfl⟩:=IM.mp hv';have hg:bs.getD i IN=b:=by rw[Ri,hb]<;>rfl
 have S9:Q (bs.getD i IN) s:=hq;rw[hg] at S9;exact KL S9
theorem qX: ∀bs:Gm HH,(Nr bs.length).any (λi=>bs.getD i IN)=bs.any id
 |[]=>rfl
 |b::bs=>by
  rw[Gp,SD,J7,Ov,J7,<-qX bs]
  all_goals rfl
theorem qM: ∀bs:Gm HH,(Nr bs.length).all (λi=>bs.getD i IN)=bs.all id
 |[]=>rfl
 |b::bs=>by
  rw[Gp,SD,PD,SY,PD,<-qM bs]
  all_goals rfl
section
variable {X:Cx}
def ajo (K:Gu):Gm V->Hp->VK->Prop:=λvs H Q=> ∃(a:Gx) (bs:Gm HH),vs=[V.ref a]/\cK K H a (bs.map V.bl)/\Q (.bl (bs.any id)) H
def ajp (K:Gu):Gm V->Hp->VK->Prop:=λvs H Q=> ∃(a:Gx) (bs:Gm HH),vs=[V.ref a]/\cK K H a (bs.map V.bl)/\Q (.bl (bs.all id)) H
theorem ZX (hc:X.calm=Ix):gB X (.builtin "any") (ajo X.K):=by
 intro pins s σ H vs us Q I r h;obtain⟨a,bs,rfl,hs,q⟩:=h;obtain⟨Ji,rv,hl,_⟩:=I.list hs;rw[bH.aeE r];have hb:=rv.bls;refine call_any_walk (uH hl.isList λs₂ e2 st hne=>?_);subst e2;refine#[_,_,_,_,_,_,_,IO,Walks.list (A:=X.A.in1) (I.ok.hd hc) _ a hne Ji.toArray,st,mI hb,λh' tk hk=>?_];refine#[.bl _,H,I.kept λb o eo=>hk b o (λTM=>?_) (GN _ eo),?_,q]
 .rcases Hc.mp TM with e1|TM
  .exact GW (e1▸Hg eo) (Jl _)
  .cases TM
 .show LS _=LS _
  rw[<-qX,hb,Hv,GG]
theorem ZY (hc:X.calm=Ix):gB X (.builtin "all") (ajp X.K):=by
 intro pins s σ H vs us Q I r h;obtain⟨a,bs,rfl,hs,q⟩:=h;obtain⟨Ji,rv,hl,_⟩:=I.list hs;rw[bH.aeE r];have hb:=rv.bls;refine call_all_walk (uH hl.isList λs₂ e2 st hne=>?_);subst e2;refine#[_,_,_,_,_,_,_,IO,Walks.list (A:=X.A.in1) (I.ok.hd hc) _ a hne Ji.toArray,st,mI hb,λh' tk hk=>?_];refine#[.bl _,H,I.kept λb o eo=>hk b o (λTM=>?_) (GN _ eo),?_,q]
 .rcases Hc.mp TM with e1|TM
  .exact GW (e1▸Hg eo) (Jl _)
  .cases TM
 .show LS _=LS _
  rw[<-qM,hb,Hv,GG]
end
abbrev DO (h:Ij) (c:Gx) (v:GF Gy):Prop:=h.IsCell c v
def ajq (scope sc:Scope):Scope:=
 { scope with names:=scope.names.map λ(n,k)=>if(k == .free&&sc.kind == .function&&sc.names.lookup n == GM .cell) then(n, .cell) else(n,k) }
def cw (cells:Gm (G0×Gx)):Gm (G0×KQ)->Gm (G0×Gx)->Gm (G0×Gx)
 |[],acc=>acc
 | (n,k)::r,acc=>if k == .free then cw cells r ((n,(cells.lookup n).getD 0)::acc) else cw cells r acc
theorem kH (env:Env) (f:G0×KQ->Gm (G0×Gx)->Sem (ForInStep (Gm (G0×Gx))))
  (hf: ∀n k c,f (n,k) c=if k == .free then(do let a<-cellOf env n;Hz (.yield ((n,a)::c))) else Hz (.yield c)):
  ∀(names:Gm (G0×KQ)) (acc:Gm (G0×Gx)),(∀y∈names,y.2= .free-> ∃c,env.cells.lookup y.1=GM c)->forIn names acc f=Hz (cw env.cells names acc)
 |[],acc,_=>by rw[WT];rfl
 | (n,k)::r,acc,h=>by
  rw[Gm.forIn_cons,hf];have ih:=λacc=>kH env f hf r acc λy hy=>h y (G8 _ hy)
  unfold cw;by_cases hk:(k == Mf)=Ix
  .rw[GD hk,GD hk]
   obtain⟨c,hc⟩:=h (n,k) GP (by simpa using hk);have e:cellOf env n=Hz c:=by unfold cellOf;rw[hc]
   rw[e];have e2:(env.cells.lookup n).getD 0=c:=by rw[hc];rfl
   rw[e2];exact ih _
  .rw[GB hk,GB hk]
   exact ih _
theorem xw {scope:Scope}{env:Env}(h: ∀y∈scope.names,y.2= .free-> ∃c,env.cells.lookup y.1=GM c):closureFor scope env=Hz (cw env.cells scope.names []):=by
 simp only[closureFor];rw[kH env _ (λn k c=>rfl) scope.names [] h]
 rfl
theorem kl {α:Type} : ∀ {l:Gm (G0×α)}{n:G0}{c:α},(n,c)∈l-> ∃c',l.lookup n=GM c'
 | (k,v)::r,n,c,h=>by
  rw[KR];cases hb:n == k with
  |true=>exact#[_,IO]
  |false=>
   rcases Hc.mp h with e|h
   .cases e;simp at hb
   .exact kl h
theorem gH {cells:Gm (G0×Gx)} : ∀ {names:Gm (G0×KQ)}{acc:Gm (G0×Gx)}{n:G0}{c:Gx},(n,c)∈cw cells names acc->(n,c)∈acc\/((n, .free)∈names/\c=(cells.lookup n).getD 0)
 |[],_,_,_,h=> .inl h
 | (m,k)::r,acc,n,c,h=>by
  unfold cw at h;split at h
  .rename_i hk
   have hk:k= .free:=by simpa using hk
   rcases gH h with h|⟨h1,h2⟩
   .rcases Hc.mp h with e|h
    .cases e;exact .inr #[hk▸GP,IO]
    .exact .inl h
   .exact .inr #[G8 _ h1,h2]
  .rcases gH h with h|⟨h1,h2⟩
   .exact .inl h
   .exact .inr #[G8 _ h1,h2]
theorem jz {cells:Gm (G0×Gx)} : ∀ {names:Gm (G0×KQ)}{acc:Gm (G0×Gx)}{p:G0×Gx},p∈acc->p∈cw cells names acc
 |[],_,_,h=>h
 | (m,k)::r,acc,p,h=>by
  unfold cw;split
  .exact jz (G8 _ h)
  .exact jz h
theorem jg {cells:Gm (G0×Gx)} : ∀ {names:Gm (G0×KQ)}{acc:Gm (G0×Gx)}{n:G0},(n, .free)∈names->(n,(cells.lookup n).getD 0)∈cw cells names acc
 | (m,k)::r,acc,n,h=>by
  unfold cw;rcases Hc.mp h with e|h
  .cases e
   exact jz GP
  .split
   .exact jg h
   .exact jg h
theorem ic: ∀ {names:Gm (G0×KQ)}{h:Ij}{acc:Gm (G0×Gx)}{x:G0}{c:Gx},(x,c)∈Jv h.objs.size names acc->
  (x,c)∈acc\/((x, .cell)∈names/\h.objs.size<=c/\DO (N0 h names) c Id)
 |[],_,_,_,_,h=> .inl h
 | (n,k)::r,h,acc,x,c,hm=>by
  unfold Jv at hm;unfold N0;split at hm
  .rename_i hk
   rw[GD hk];have hk:k= .cell:=by simpa using hk
   rw[<-Jq h { cls:= .type "cell",data:= .cell Id }] at hm;rcases ic hm with hm|⟨h1,h2,h3⟩
   .rcases Hc.mp hm with e|hm
    .cases e
     exact .inr #[hk▸GP,GU _,_,Pl r _ _ _ (Io _ IO),IO]
    .exact .inl hm
   .rw[Jq] at h2
    exact .inr #[G8 _ h1,NY h2,h3]
  .rename_i hk
   rw[GB hk];rcases ic hm with hm|⟨h1,h2,h3⟩
   .exact .inl hm
   .exact .inr #[G8 _ h1,h2,h3]
theorem jK: ∀ {names:Gm (G0×KQ)}{n:GJ}{acc:Gm (G0×Gx)}{p:G0×Gx},p∈acc->p∈Jv n names acc
 |[],_,_,_,h=>h
 | (m,k)::r,n,acc,p,h=>by
  unfold Jv;split
  .exact jK (G8 _ h)
  .exact jK h
theorem mx: ∀ {names:Gm (G0×KQ)}{n:GJ}{acc:Gm (G0×Gx)}{x:G0},(x, .cell)∈names-> ∃c,(x,c)∈Jv n names acc
 | (m,k)::r,n,acc,x,h=>by
  unfold Jv;rcases Hc.mp h with e|h
  .cases e
   exact#[n,jK GP]
  .split
   .exact mx h
   .exact mx h
theorem mj: ∀ {names:Gm (G0×KQ)}{h:Ij}{acc:Gm (G0×Gx)}{x y:G0}{c:Gx},(∀p∈acc,p.2<h.objs.size)->(∀x y c,(x,c)∈acc->(y,c)∈acc->x=y)->
  (x,c)∈Jv h.objs.size names acc->(y,c)∈Jv h.objs.size names acc->x=y
 |[],_,_,_,_,_,_,hi,h1,h2=>hi _ _ _ h1 h2
 | (n,k)::r,h,acc,x,y,c,hl,hi,h1,h2=>by
  unfold Jv at h1 h2;split at h1
  .rename_i hk
   rw[GD hk] at h2;rw[<-Jq h { cls:= .type "cell",data:= .cell Id }] at h1 h2;refine mj (h:=h.push _) (λp hp=>?_) (λx y c a b=>?_) h1 h2
   .rw[Jq]
    rcases Hc.mp hp with rfl|hp
    .exact MA _
    .exact Qu (hl p hp)
   .rcases Hc.mp a with e|a<;>rcases Hc.mp b with e'|b
    .cases e;cases e';rfl
    .cases e;exact GW (hl _ b) (Jl _)
    .cases e';exact GW (hl _ a) (Jl _)
    .exact hi _ _ _ a b
  .rename_i hk
   rw[GB hk] at h2;exact mj hl hi h1 h2
theorem uv {M:Model}{A:IA}{E:Gy->GC->Prop}{s:GC}{scope:Scope}{globals:Gx}{closure:Gm (G0×Gx)}{IW:G0}{func:GF Gx}{code:Gy}{around:Env}{builtins:Gx}{Q:Env->GC->Prop}
  (h:Q (newEnv scope s.heap.objs.size globals (Jv (s.heap.objs.size+1) scope.names closure) IW func code (GM around) builtins)
   { s with heap:=N0 (s.heap.push { cls:= .type "dict",data:= .dict [].toArray }) scope.names }):
  Hl M A (newFunctionEnv scope globals closure [] IW func code (GM around) builtins) Q E s:=by
 simp only[newFunctionEnv,TX,SX];refine He (wpAny_alloc ?_);refine He (wpAny_layCells _ (λn k c=>rfl) scope.names closure _ _ ?_);rw[show({ s with heap:=s.heap.push { cls:= .type "dict",data:= .dict [].toArray } } :GC).heap.objs.size=s.heap.objs.size+1 from Jq ..];rw[WT];exact He (HU (HU h))
theorem i9 {sc:Scope} : ∀ {names:Gm (G0×KQ)}{x:G0}{k:KQ},
  (names.map λ(n,k)=>if(k == Mf&&sc.kind == .function&&sc.names.lookup n == GM .cell) then(n,Q4) else(n,k)).lookup x=GM k->
  ∃k',names.lookup x=GM k'/\(k=k'\/(k'= .free/\k= .cell))
 |[],_,_,h=>by simp at h
 | (n,k₀)::r,x,k,h=>by
  have ih:= @i9 sc r x k
  have h':Kj x ((if(k₀ == Mf&&sc.kind == .function&&sc.names.lookup n == GM .cell)=Ix then(n,Q4) else(n,k₀))::(r.map _))=GM k:=h
  cases hx:x == n with
  |true=>
   simp only[KR,hx];by_cases hc:(k₀ == Mf&&sc.kind == .function&&sc.names.lookup n == GM .cell)=Ix
   .rw[GD hc] at h'
    simp only[KR,hx] at h';cases h';simp only[Jt,beq_iff_eq] at hc;exact#[k₀,IO, .inr #[hc.1.1,IO]]
   .rw[GB hc] at h'
    simp only[KR,hx] at h';cases h';exact#[_,IO, .inl IO]
  |false=>
   simp only[KR,hx];by_cases hc:(k₀ == Mf&&sc.kind == .function&&sc.names.lookup n == GM .cell)=Ix
   .rw[GD hc] at h'
    simp only[KR,hx] at h';exact ih h'
   .rw[GB hc] at h'
    simp only[KR,hx] at h';exact ih h'
structure pE (N:Gm G0) (sc scope:Scope) (own:Gm (G0×GJ)):Prop where
 kind:scope.kind= .function
 uniq: ∀y∈scope.names,scope.names.lookup y.1=GM y.2
 ix: ∀p∈own,N[p.2]?=GM p.1
 free: ∀y∈scope.names,y.2= .free->sc.names.lookup y.1=GM .cell\/sc.names.lookup y.1=GM .free
 own: ∀y∈scope.names,y.2= .local\/y.2= .cell->y.1∈own.map (·.1)\/y.1∉N
def dM (σ:St):Gm GJ->St
 |[]=>σ
 |v::vs=>(dM σ vs).set v Id
theorem jB (σ:St): ∀vs:Gm GJ,(dM σ vs).length=σ.length
 |[]=>rfl
 |v::vs=>by unfold dM;rw[Gm.length_set,jB σ vs]
theorem ma {σ:St}{i:GJ}{x:V} : ∀ {vs:Gm GJ},(dM σ vs)[i]?=GM (GM x)->σ[i]?=GM (GM x)/\i∉vs
 |[],h=>#[h,by simp]
 |v::vs,h=>by
  unfold dM at h;by_cases hi:v=i
  .subst hi
   by_cases hv:v<(dM σ vs).length
   .rw[Oo hv] at h;cases h
   .rw[Tb (by simpa using hv)] at h;cases h
  .rw[O5 hi] at h
   obtain⟨h1,h2⟩:=ma h;exact#[h1,by simp only[Hc,not_or];exact#[λe=>hi e.symm,h2]]
abbrev Cx.QX (X:Cx) (s:GC) (H:Hp) (scope:Scope) (LU:Env) (fp:Gm Gx):Cx:= { X with P6:=s,H_0:=H,env:=LU,outer:=X.stack,ex:=fp,fn:=λx=>scope.names.lookup x == GM .cell,pn:=[],xe:=λ_ _=>False }
section
variable {X:Cx}{pins:Gm (Gx×Kd)}{σ:St}{H:Hp}{s:GC}
theorem uC {scope:Scope}{own:Gm (G0×GJ)}{fp:Gm Gx}(I:aP X pins σ H s) (ok:pE X.N X.env.scope scope own) (hN:X.N.Nodup) (hfp: ∀b∈fp,mZ X pins H b/\b<s.heap.objs.size):
  aP (X.QX s H scope (Kx scope (Jv (s.heap.objs.size+1) scope.names (cw X.env.cells scope.names [])) s.heap.objs.size X.env) fp) [] (dM σ (own.map (·.2))) H { s with heap:=N0 (s.heap.push { cls:= .type "dict",data:= .dict [].toArray }) scope.names } :=by
 have Rl: ∀y∈scope.names,y.2= .free-> ∃c,X.env.cells.lookup y.1=GM c:=λy hy e=>by
  rcases ok.free y hy e with k|k
  .exact I.ok.has _ (.inl k)
  .exact I.ok.has _ (.inr k)
 generalize Sv:Kx scope (Jv (s.heap.objs.size+1) scope.names (cw X.env.cells scope.names [])) s.heap.objs.size X.env=LU;have kp: ∀b o,s.heap.get? b=GM o->(N0 (s.heap.push { cls:= .type "dict",data:= .dict [].toArray }) scope.names).get? b=GM o:=λb o e=>Pl _ _ _ _ (GN _ e)
 have hL:LU.locals=s.heap.objs.size:=by rw[<-Sv];rfl
 have ZZ:LU.cells=Jv (s.heap.objs.size+1) scope.names (cw X.env.cells scope.names []):=by rw[<-Sv];rfl
 have hsc:LU.scope=ajq scope X.env.scope:=by rw[<-Sv];rfl
 rw[<-Jq s.heap { cls:= .type "dict",data:= .dict [].toArray }] at ZZ;have cm: ∀ {y c},(y,c)∈cw X.env.cells scope.names []->X.env.cells.lookup y=GM c/\c<s.heap.objs.size:=λ{y c} hm=>by
  rcases gH hm with hm|⟨h1,rfl⟩
  .cases hm
  .obtain⟨c,hc⟩:=Rl _ h1 IO
   rw[hc];obtain⟨w,z⟩:=I.cell _ _ hc;exact#[IO,z.lt]
 have mem: ∀ {y c},LU.cells.lookup y=GM c->(X.env.cells.lookup y=GM c/\c<s.heap.objs.size)\/(s.heap.objs.size+1<=c/\DO (N0 (s.heap.push { cls:= .type "dict",data:= .dict [].toArray }) scope.names) c Id):=λ{y c} e=>by
  rw[ZZ] at e;rcases ic (Ig e) with hm|⟨_,h2,h3⟩
  .exact .inl (cm hm)
  .rw[Jq] at h2;exact .inr #[h2,h3]
 have look: ∀ {y},scope.names.lookup y=GM .free-> ∃c,LU.cells.lookup y=GM c/\X.env.cells.lookup y=GM c:=λ{y} hl=>by
  have hy:(y,Mf)∈scope.names:=Ig hl;obtain⟨c',e'⟩:=kl (jK (names:=scope.names) (n:=(s.heap.push { cls:= .type "dict",data:= .dict [].toArray }).objs.size) (jg (cells:=X.env.cells) (acc:=[]) hy));rw[<-ZZ] at e';refine#[c',e',?_];rw[ZZ] at e';rcases ic (Ig e') with hm|⟨h1,_,_⟩
  .exact(cm hm).1
  .have:=ok.uniq _ h1
   rw[hl] at this;cases this
 have okB:(X.QX s H scope LU fp).Ok:=by
  refine#[I.ok.mod,by show LU.scope.kind=_;rw[hsc];exact ok.kind,by show LU.globals=_;rw[<-Sv];exact I.ok.glob,by show LU.builtins=_;rw[<-Sv];exact I.ok.blt,by show s.heap.objs.size<=LU.locals;rw[hL];exact GU _,
   λy z c e1 e2=>?_,λy hy=>?_,λy c z e=>?_,I.ok.hd,I.ok.frames, .inl IO,λb hb=>#[?_,λy c e z=>?_],I.bs,GX I.ok.Uu I.sz,λb o e hb=>?_,λb hb z=>?_,I.stack,I.QF]
  .have e1:LU.cells.lookup y=GM c:=e1
   have e2:LU.cells.lookup z=GM c:=e2;rw[ZZ] at e1 e2;refine mj (λp hp=>?_) (λy z c a b=>I.ok.inj y z c (cm a).1 (cm b).1) (Ig e1) (Ig e2)
   rw[Jq];exact Qu (cm (y:=p.1) (c:=p.2) hp).2
  .show∃c,LU.cells.lookup y=GM c
   have key: ∀k,LU.kindOf y=GM k->(k= .cell\/k= .free)-> ∃c,LU.cells.lookup y=GM c:=λk hk WE=>by
    unfold Env.kindOf at hk;rw[hsc] at hk;obtain⟨k',e,r⟩:=i9 hk;have:k'= .cell\/k'= .free:=by
     rcases r with rfl|⟨rfl,_⟩
     .exact WE
     .exact .inr IO
    rcases this with rfl|rfl
    .obtain⟨c,hm⟩:=mx (n:=(s.heap.push { cls:= .type "dict",data:= .dict [].toArray }).objs.size) (acc:=cw X.env.cells scope.names []) (Ig e)
     obtain⟨c',e'⟩:=kl hm;exact#[c',by rw[ZZ];exact e']
    .obtain⟨c,h1,_⟩:=look e
     exact#[c,h1]
   rcases hy with hy|hy
   .exact key _ hy (.inl IO)
   .exact key _ hy (.inr IO)
  .have z:(scope.names.lookup y == GM Q4)=Ix:=z
   have z:scope.names.lookup y=GM .cell:=by simpa using z
   have e:LU.cells.lookup y=GM c:=e;rw[ZZ] at e;rcases ic (Ig e) with hm|⟨_,h2,_⟩
   .rcases gH hm with hm|⟨h1,_⟩
    .cases hm
    .have q:=ok.uniq _ h1
     rw[z] at q;cases q
   .rw[Jq] at h2
    exact NY h2
  .show b≠LU.locals
   rw[hL];exact Ih (hfp b hb).2
  .have e:LU.cells.lookup y=GM c:=e
   rcases mem e with⟨h1,_⟩|⟨h1,_⟩
   .exact(hfp b hb).1.2.2.2.2.1 y c h1 z
   .have h2:s.heap.objs.size+1<=b:=by rw[<-z];exact h1
    exact GW (Hh (hfp b hb).2 (NY h2)) (Jl _)
  .rcases(hfp b hb).1.2.2.2.1 with z|z
   .exact I.ok.Sj b o e z
   .exact GW (Hh (Hg e) (GX I.ok.Uu z)) (Jl _)
  .rcases Hc.mp (I.RG b z) with z|z
   .exact(hfp b hb).1.2.1 z
   .exact(hfp b hb).1.2.2.1 z
 refine#[okB,IO,I.bare,Un.kept kp,#[λ_=>Id,?_,λi y av e1 e2 e3=>?_],λy c e=>?_,?_,λy c e=>?_,λp hp=>?_,I.Jy.kept kp,by rw[jB];exact I.len]
 .show Ij.Ns _ LU.locals _
  rw[hL];exact Ij.Ns.keeps (Ij.Ns.new ..) λb o e=>Pl _ _ _ _ e
 .obtain⟨e2,hne⟩:=ma e2
  have RV:scope.names.lookup y=GM .free/\(LU.kindOf y=GM .cell\/LU.kindOf y=GM .free):=by
   have key: ∀k,LU.scope.names.lookup y=GM k->k= .local\/k= .cell\/k= .free->scope.names.lookup y=GM .free/\(LU.kindOf y=GM .cell\/LU.kindOf y=GM .free):=λk hk WE=>by
    have hk0:=hk;rw[hsc] at hk;obtain⟨k',e,r⟩:=i9 hk
    have no: ¬(k'= .local\/k'= .cell):=λhh=>by
     rcases ok.own _ (Ig e) hh with e'|e'
     .obtain⟨p,hp,hpy⟩:=Na.mp e'
      have e3:=ok.ix p hp
      have:p.1=y:=hpy;rw[this] at e3;exact hne (Na.mpr #[p,hp,nS hN e3 e1])
     .exact e' (Iu e1)
    rcases r with rfl|⟨rfl,rfl⟩
    .rcases WE with rfl|rfl|rfl
     .exact GW (.inl IO) no
     .exact GW (.inr IO) no
     .exact#[e, .inr hk0]
    .exact#[e, .inl hk0]
   have e3:tq LU.scope y:=e3;rcases e3 with e3|e3|e3
   .exact key _ e3 (.inl IO)
   .exact key _ e3 (.inr (.inl IO))
   .exact key _ e3 (.inr (.inr IO))
  obtain⟨m,hn,hl⟩:=I.loc;have ajr:tq X.env.scope y:=(ok.free _ (Ig RV.1) IO).elim (λk=> .inr (.inl k)) (λk=> .inr (.inr k))
  obtain⟨w,r,q⟩:=hl i y av e1 e2 ajr;refine#[w,r, .inr #[RV.2,?_]];obtain⟨c,h1,h2⟩:=look RV.1;rcases q with⟨k,_⟩|⟨_,c',e',z⟩
  .have k:X.env.scope.names.lookup y=GM .local:=k
   rcases ok.free _ (Ig RV.1) IO with k'|k'<;>rw[show X.env.scope.names.lookup y=_ from k'] at k<;>cases k
  .rw[h2] at e';cases e'
   exact#[c,h1,z.keeps kp]
 .have e:LU.cells.lookup y=GM c:=e
  rcases mem e with⟨h1,_⟩|⟨_,z⟩
  .obtain⟨w,z⟩:=I.cell y c h1
   exact#[w,z.keeps kp]
  .exact#[_,z]
 .show H LU.locals=Id
  rw[hL];exact I.Jy.fresh (GU _)
 .have e:LU.cells.lookup y=GM c:=e
  rcases mem e with⟨h1,_⟩|⟨h1,_⟩
  .exact I.MQ y c h1
  .exact I.Jy.fresh (NY h1)
 .exact GW (show p∈([]:Gm (Gx×Kd))++[] from hp) (by simp)
theorem Z0 {E:Gy->GC->Prop}{xs:Gm V}{y:V}{v:Gy}{Q:Gy->GC->Prop}(I:aP X pins σ H s) (hD:H D=GM (.lst xs)) (hz:xs.length<GV) (r:bD y v)
  (h: ∀s',aP X pins σ (bf H D (.lst (xs++[y]))) s'->Q .none s'):Hl (model X.prog X.w) X.A (call (.builtin "list.append") [.ref D,v]) Q E s:=by
 obtain⟨hz',Ji,n,ri,e⟩:=I.Jy D _ hD;have hl:=ri.length;refine append_at (hsz:=by rw[Hv];lia) e λh' sb QD=>?_;refine h { s with heap:=h' } (I.write (t':=s.toks) (by rw[hD];trivial) (.inl IO) (λb u hb q=>(sb.2 b hb).trans q) #[_,QD] #[by rw[Gq];exact hz,Ji++[v],n+1,ri.append (.cons r .nil),?_]);rw[QD];simp
def PTs (X:Cx) (ifs:Gm IY) (t:TT):Prop:=
 ∀(pins:Gm (Gx×Kd)) (s:GC) (σ:St) (H:Hp) (Q:HH->Hp->Prop),aP X pins σ H s->t σ H Q->
  Hl (model X.prog X.w) X.A (forIn ifs Ix λc r=>if r=Ix then do let ok<-isTrue c X.env (eval c X.env);Hz (N4 ok) else Hz (N4 r)) (TP X pins σ Q) X.xe s
def qc:TT:=λ_ H Q=>Q Ix H
theorem kT:PTs X [] qc:=λ_ _ _ H _ I h=>wpAny_tests_nil #[H,I,h]
end
theorem zR {α:Type}{t:Sem α}{Q Q':α->GC->Prop}{A:IA}{E:Gy->GC->Prop}{s:GC}(h:Hl M A t Q (λ_ _=>False) s) (hQ: ∀a s,Q a s->Q' a s):Hl M A t Q' E s:=JM h hQ λ_ _ z=>JS z
theorem sV {prog:Hm}{w:HS}{A:IA}{R:Result->GC->Prop}{s:GC}{elt target Mt:IY}{scope:Scope}{pos:Pos}{it acc:Gy}{env:Env}(I:GJ->GC->Prop)
  (turn: ∀n s,I n s->Hl (model prog w) A (pyNext it) (λr s₁=>match r with
   |none=>R (.ok .next) s₁
   |some v=>Hl (model prog w) A (Pk target it v) (λ_ s₁'=>Hl (model prog w) A (assign target env v) (λ_ s₂=>
     Hl (model prog w) A (forIn ifs Ix λc r=>if r=Ix then do let ok<-isTrue c env (eval c env);Hz (N4 ok) else Hz (N4 r)) (λok s₃=>
      if ok=Ix then Hl (model prog w) A (eval elt env) (λx s₄=>
       Hl (model prog w) A (call (.builtin "list.append") [acc,x]) (λ_ s₅=> ∃m,m<n/\I m s₅) (S6 (model prog w) A env λe s'=>R (.error e) s') s₄) (S6 (model prog w) A env λe s'=>R (.error e) s') s₃
      else∃m,m<n/\I m s₃) (S6 (model prog w) A env λe s'=>R (.error e) s') s₂) (S6 (model prog w) A env λe s'=>R (.error e) s') s₁') (S6 (model prog w) A env λe s'=>R (.error e) s') s₁) (S6 (model prog w) A env λe s'=>R (.error e) s') s)
  (n:GJ) (h:I n s):
  MB (model prog w) A (.compLoop (.ListComp elt [#[target,Mt,ifs,0]] scope pos) 0 it acc env) R s:=by
 refine codeAny_loop IO I (λn s hI=>?_) n h;show Hl _ A ((compTurn (.ListComp elt [#[target,Mt,ifs,0]] scope pos) 0 it acc env).onRaise (λx=>do Qh x env;theTreesLotGoes x)) _ _ s;refine wpAny_noted ?_;rw[compTurn_list];refine He (M8 (He (JM (turn n s hI) (λr s₁ h₁=>?_) λ_ _ h'=>h')));cases r with
 |none=>exact HU h₁
 |some v=>
  refine He (JM h₁ (λ_ s₁' h₁'=>?_) λ_ _ h'=>h');refine He (JM h₁' (λ_ s₂ h₂=>He (JM h₂ (λok s₃ h₃=>?_) λ_ _ h'=>h')) λ_ _ h'=>h');cases ok with
  |false=>exact HU #[IO,h₃]
  |true=>
   exact He (He (JM h₃ (λx s₄ h₄=>He (JM h₄ (λ_ s₅ h₅=>HU (HU #[IO,h₅])) λ_ _ h'=>h')) λ_ _ h'=>h'))
section
variable {X:Cx}
def FY (wi:TI) (g:TG) (tt:TT) (te:TE) (vs:Gm GJ):TE:=λσ H Q=>wi σ H λJ H1=> ∀D,H1 D=Id-> ∃W:GJ->GJ->Hp->Prop,(∃m,W 0 m (bf H1 D (.lst [])))/\ ∀i m H,W i m H->
 (J.stop i H/\Q (.ref D) H)\/(J.go i H/\ ∃Nx:Hp->Prop,(∀H',Nx H'-> ∃m',m'<m/\W (i+1) m' H')/\ ∀x H',J.Xh i H x H'->g x (dM σ vs) H' λσ2 H2=>dM σ2 vs=dM σ vs/\tt σ2 H2 λb H3=>
  if b=Ix then te σ2 H3 λy H4=> ∃acc,H4 D=GM (.lst acc)/\acc.length<GV/\Nx (bf H4 D (.lst (acc++[y]))) else Nx H3)
theorem xJ {pins:Gm (Gx×Kd)}{s:GC}{σ:St}{H:Hp}{Q:VK}{elt tg Mt:IY}{ifs:Gm IY}{scope:Scope}{own:Gm (G0×GJ)}{pos NW:Pos}{wi:TI}{g:TG}{tt:TT}{te:TE}{use:GF (Gy->Sem Nl)}{Qf:Gy->GC->Prop}
  (hc:X.calm=Ix) (hN:X.N.Nodup) (I:aP X pins σ H s) (hi:PI X tg Mt wi) (ok:pE X.N X.env.scope scope own)
  (hg: ∀(s:GC) (H:Hp) (C:Gx) (cl:Gm (G0×Gx)) (fp:Gm Gx),PG (X.QX s H scope (Kx scope cl C X.env) fp) tg g) (ht: ∀(s:GC) (H:Hp) (C:Gx) (cl:Gm (G0×Gx)) (fp:Gm Gx),PTs (X.QX s H scope (Kx scope cl C X.env) fp) ifs tt)
  (he: ∀(s:GC) (H:Hp) (C:Gx) (cl:Gm (G0×Gx)) (fp:Gm Gx),PE (X.QX s H scope (Kx scope cl C X.env) fp) elt te) (hs: ∀x,KN Mt X.env x=Hz x)
  (h:FY wi g tt te (own.map (·.2)) σ H Q)
  (hRR: ∀D C s' m H',aP X pins σ H' s'->Q (.ref D) H'->s'.heap.Ns C m->mZ X pins H' C->compPost (model X.prog X.w) X.A X.xe use Qf (.ref D) C (.ok .next) s'):
  Hl (model X.prog X.w) X.A (comprehension (.ListComp elt [#[tg,Mt,ifs,0]] scope pos) scope X.env NW (newList []) IN (eval Mt X.env) use) Qf X.xe s:=by
 have Rl: ∀y∈scope.names,y.2= .free-> ∃c,X.env.cells.lookup y.1=GM c:=λy hy e=>by
  rcases ok.free y hy e with k|k
  .exact I.ok.has _ (.inl k)
  .exact I.ok.has _ (.inr k)
 refine wpAny_comprehension_free (use:=use) IO hs (xw Rl) ok.kind (λy hy e=>by rw[ok.uniq y hy,e])
  (cG (hi pins s σ H _ I h) λxv s1 hx=>cG hx λitv s2 h2=>?_)
 obtain⟨it,fp,tn,J,H2,e,I2,T,st2,f2,q⟩:=h2;subst e;refine wpAny_newObj_type (uv ?_) (by show 0<=GV;decide);generalize hD:s2.heap.objs.size=D;have hDn:H2 D=Id:=I2.Jy.fresh (Oz hD);obtain⟨W,⟨m0,w0⟩,turn⟩:=q D hDn;generalize hs3:({ s2 with heap:=s2.heap.push { cls:= .type "list",data:= .seq ([]:Gm Gy).toArray } } :GC)=s3;have I3:aP X pins σ (bf H2 D (.lst [])) s3:=by
  rw[<-hs3];refine I2.laid (t':=s2.toks) (λb o e=>GN _ e) (Oz hD) #[HB _,[],0, .nil,?_];rw[<-hD];exact Io _ IO
 have h3:s3.heap=s2.heap.push { cls:= .type "list",data:= .seq ([]:Gm Gy).toArray } :=by rw[<-hs3]
 have sz: ∀b∈fp,b<s2.heap.objs.size:=λb hb=>by
  obtain⟨o,e,_⟩:=T.obj _ _ st2 b hb;exact Hg e
 have f3: ∀b∈fp,mZ X pins (bf H2 D (.lst [])) b/\b<s3.heap.objs.size:=λb hb=>by
  have RT:=sz b hb;refine#[#[?_,(f2 b hb).2],by rw[h3,Jq];exact Qu RT];rw[af (by rw[<-hD];exact Ih RT)];exact(f2 b hb).1
 have st3:tn 0 s3.heap:=T.keep _ _ _ st2 λb _ o e=>by rw[h3];exact GN _ e
 have I4:=uC I3 ok hN f3
 have pg:=hg s3 (bf H2 D (.lst [])) s3.heap.objs.size (Jv (s3.heap.objs.size+1) scope.names (cw X.env.cells scope.names [])) fp
 have pt:=ht s3 (bf H2 D (.lst [])) s3.heap.objs.size (Jv (s3.heap.objs.size+1) scope.names (cw X.env.cells scope.names [])) fp
 have pe:=he s3 (bf H2 D (.lst [])) s3.heap.objs.size (Jv (s3.heap.objs.size+1) scope.names (cw X.env.cells scope.names [])) fp
 show MB _ _ (.compStart (.ListComp elt [#[tg,Mt,ifs,0]] scope pos) 0 (.ref it) (.ref D) (Kx scope (Jv (s3.heap.objs.size+1) scope.names (cw X.env.cells scope.names [])) s3.heap.objs.size X.env)) (compPost (model X.prog X.w) X.A X.xe use Qf (.ref D) s3.heap.objs.size) { s3 with heap:=N0 (s3.heap.push { cls:= .type "dict",data:= .dict [].toArray }) scope.names }
 have nfp: ∀b∈fp,(bf H2 D (.lst [])) b=Id:=λb hb=>(f3 b hb).1.1
 generalize hce:Kx scope (Jv (s3.heap.objs.size+1) scope.names (cw X.env.cells scope.names [])) s3.heap.objs.size X.env=ce at I4 pg pt pe ⊢;have cL:ce.locals=s3.heap.objs.size:=by subst hce;rfl
 generalize hH3:bf H2 D (.lst [])=H3 at I3 I4 pg pt pe w0 nfp f3;generalize hs4:({ s3 with heap:=N0 (s3.heap.push { cls:= .type "dict",data:= .dict [].toArray }) scope.names } :GC)=s4 at I4 ⊢;have st4:tn 0 s4.heap:=T.keep _ _ _ st3 λb _ o e=>by rw[<-hs4];exact Pl _ _ _ _ (GN _ e)
 have TJ: ∀ {σ':St}{H':Hp}{s':GC},aP (X.QX s3 H3 scope ce fp) [] σ' H' s'->(∀b∈fp,H' b=Id)-> ∀b∈fp,mZ (X.QX s3 H3 scope ce fp) [] H' b:=λ{σ' H' s'} I' hn b hb=>
  #[hn b hb,(I'.ok.ZC b hb).1,I'.ok.Sk b hb, .inl hb,λx c e=>(I'.ok.ZC b hb).2 x c e,λp hp=>GW (show p∈([]:Gm (Gx×Kd))++[] from hp) (by simp)]
 have loop:MB (model X.prog X.w) X.A (.compLoop (.ListComp elt [⟨tg,Mt,ifs,0⟩] scope pos) 0 (.ref it) (.ref D) ce) (compPost (model X.prog X.w) X.A X.xe use Qf (.ref D) s3.heap.objs.size) s4:=by
  refine sV (λn s'=> ∃i H',aP (X.QX s3 H3 scope ce fp) [] (dM σ (own.map (·.2))) H' s'/\tn i s'.heap/\(∀b∈fp,H' b=Id)/\W i n H') ?_ m0 #[0,H3,I4,st4,nfp,w0];rintro n s5 ⟨i,H5,I5,st5,n5,w5⟩;rcases turn i n H5 w5 with⟨stop,qq⟩|⟨go,Nx,hNx,step⟩
  .have td:=T.done (X.QX s3 H3 scope ce fp) IO IO IO hc i [] s5 _ H5 (λ_ _=>False) I5 (TJ I5 n5) st5 stop
   refine zR td λr s6 ⟨hr,I6⟩=>?_;subst hr;have I7:aP X pins σ H5 s6:=I3.VE (ch:=fp) I6.os I6.base I6.Jy I6.bare λb hb=>#[(f3 b hb).1.2.2.2.1,(f3 b hb).1.2.1,(f3 b hb).1.2.2.2.2.1,(f3 b hb).1.2.2.2.2.2]
   have nC:H5 s3.heap.objs.size=Id:=by
    have z:H5 ce.locals=Id:=I6.free;rw[cL] at z;exact z
   obtain⟨m,hn,_⟩:=I6.loc;have hn:s6.heap.Ns ce.locals m:=hn;rw[cL] at hn;exact hRR D s3.heap.objs.size s6 m H5 I7 qq hn (I3.WD (GU _) nC)
  .have ti:=T.item (X.QX s3 H3 scope ce fp) IO IO IO hc i [] s5 _ H5 (λ_ _=>False) I5 (TJ I5 n5) st5 go
   refine zR ti λr s6 ⟨u,hr,h6⟩=>?_;subst hr;refine zR h6 λ_ s7 ⟨x,H7,I7,r7,y7,st7,n7⟩=>?_;have I7':=I7.pinned (TJ I7 n7) (T.obj _ _ st7);refine zR (pg _ s7 _ H7 x u _ I7' r7 (step x H7 y7)) λ_ s8 ⟨σ8,H8,I8,hw8,q8⟩=>?_;refine zR (pt _ s8 σ8 H8 _ I8 q8) λb s9 ⟨H9,I9,q9⟩=>?_;have fin: ∀ {s':GC}{H':Hp},aP (X.QX s3 H3 scope ce fp) ([]++ox fp s7.heap) σ8 H' s'->Nx H'-> ∃m,m<n/\ ∃i H',aP (X.QX s3 H3 scope ce fp) [] (dM σ (own.map (·.2))) H' s'/\tn i s'.heap/\(∀b∈fp,H' b=Id)/\W i m H':=λ{s' H'} I' nx=>by
    obtain⟨m',hm,w'⟩:=hNx H' nx;have aeF: ∀b∈fp,∀o,s7.heap.get? b=GM o->s'.heap.get? b=GM o/\H' b=Id:=λb hb o e=>
     let z:=I'.pin (b,o) (Jz _ (Jz _ (j9 hb e)))
     #[z.1,z.2.1]
    have hl:(dM σ (own.map (·.2))).length=σ8.length:=by rw[<-hw8,jB]
    refine#[m',hm,i+1,H',(I'.PX (pins:=[])).weak hl (λj v e=>?_),T.keep _ _ _ st7 λb hb o e=>(aeF b hb o e).1,λb hb=>?_,w']
    .rw[<-hw8] at e
     exact(ma e).1
    .obtain⟨o,e,_⟩:=T.obj _ _ st7 b hb
     exact(aeF b hb o e).2
   cases b with
   |false=>
    simp only[J2,Ni] at q9 ⊢;exact fin I9 q9
   |true=>
    simp only[SX] at q9 ⊢;refine zR (pe _ s9 σ8 H9 _ I9 q9) λz s10 ⟨yv,H10,I10,r10,acc,ajs,ajt,nx⟩=>?_;exact Z0 (X:=X.QX s3 H3 scope ce fp) I10 ajs ajt r10 λs11 I11=>fin I11 nx
 exact codeAny_compStart_list loop (T.self X.A 0 _ _ _ st4 loop)
theorem zw {elt tg Mt:IY}{scope:Scope}{pos:Pos}{g:TG}{tt:TT}{te:TE}(hc:X.calm=Ix) (hN:X.N.Nodup) (hi:PI X tg Mt wi) (ok:pE X.N X.env.scope scope own)
  (hg: ∀(s:GC) (H:Hp) (C:Gx) (cl:Gm (G0×Gx)) (fp:Gm Gx),PG (X.QX s H scope (Kx scope cl C X.env) fp) tg g) (ht: ∀(s:GC) (H:Hp) (C:Gx) (cl:Gm (G0×Gx)) (fp:Gm Gx),PTs (X.QX s H scope (Kx scope cl C X.env) fp) ifs tt)
  (he: ∀(s:GC) (H:Hp) (C:Gx) (cl:Gm (G0×Gx)) (fp:Gm Gx),PE (X.QX s H scope (Kx scope cl C X.env) fp) elt te) (hs: ∀x,KN Mt X.env x=Hz x:=by intro _;rfl):
  PE X (.ListComp elt [#[tg,Mt,ifs,0]] scope pos) (FY wi g tt te (own.map (·.2))):=by
 intro pins s σ H Q I h;rw[eval_ListComp];refine xJ hc hN I hi ok hg ht he hs h λD C s' m H' I' q hn f=>#[m,hn,λh'' sb=>?_];obtain⟨f0,f1,f2,f3,f4,f5⟩:=f;exact#[.ref D,H',I'.turned (t':=s'.toks) (λb o hb e=>(sb.2 b hb).trans e) f0 f1 f3 f4 f5,IO,q]
theorem Ej {i:GJ}{y:G0}{elt tg Mt:IY}{scope:Scope}{pos aeG:Pos}{g:TG}{tt:TT}{te:TE}(hc:X.calm=Ix) (hN:X.N.Nodup) (hy:X.N[i]?=GM y) (hyl:X.env.scope.names.lookup y=GM .local)
  (hsw:Lb (.ListComp elt [#[tg,Mt,ifs,0]] scope pos) (GM (.Name y py)) aeG.line X.env=Hz Ix) (hi:PI X tg Mt wi) (ok:pE X.N X.env.scope scope own)
  (hg: ∀(s:GC) (H:Hp) (C:Gx) (cl:Gm (G0×Gx)) (fp:Gm Gx),PG (X.QX s H scope (Kx scope cl C X.env) fp) tg g) (ht: ∀(s:GC) (H:Hp) (C:Gx) (cl:Gm (G0×Gx)) (fp:Gm Gx),PTs (X.QX s H scope (Kx scope cl C X.env) fp) ifs tt)
  (he: ∀(s:GC) (H:Hp) (C:Gx) (cl:Gm (G0×Gx)) (fp:Gm Gx),PE (X.QX s H scope (Kx scope cl C X.env) fp) elt te) (hs: ∀x,KN Mt X.env x=Hz x:=by intro _;rfl):
  PS X (.Assign [.Name y py] (.ListComp elt [#[tg,Mt,ifs,0]] scope pos) aeG) (B4 (FY wi g tt te (own.map (·.2))) (gI i)):=by
 intro pins s σ H D I h;rw[exec_Assign_Name_used _ _ _ _ hsw];refine He (M8 (He ?_));show Hl _ X.A (do let _<-comprehension (.ListComp elt [#[tg,Mt,ifs,0]] scope pos) scope X.env (firstIterPos [#[tg,Mt,ifs,0]] pos) (newList []) IN (eval Mt X.env) (GM (assign (.Name y py) X.env))) _ _ s;have h:FY wi g tt te (own.map (·.2)) σ H (λx H1=>gI i x σ H1 D.nx):=h
 refine He (cG (xJ (Qf:=λ_ s'=>SP X pins D .next s') hc hN I hi ok hg ht he hs h λL C s' m H' I' q hn f=>?_) λ_ s' hq=>HU (HU hq));show Hl _ _ (assign (.Name y py) X.env (.ref L)) _ _ _;refine wpAny_assign_Name (qz (v:=V.ref L) I' hN hy (.inl hyl) IO (λs2 I2 ⟨a,sb,ha⟩=>?_) (.inr hyl));obtain⟨f0,f1,f2,f3,f4,f5⟩:=f;have haC:C≠a:=by
  rcases ha with z|z
  .rw[z];exact f1
  .exact λe=>f4 y a z e.symm
 refine#[m,hn.sameBut sb haC,λh3 sb3=>?_];exact#[_,H',I2.turned (t':=s2.toks) (λb o hb e=>(sb3.2 b hb).trans e) f0 f1 f3 f4 f5,q]
theorem nI {elt:IY}{scope:Scope}{pos py:Pos}{y:G0}{l:GJ}{env:Env}(hk:env.scope.kind= .function) (hy:env.scope.names.lookup y=GM .local) (hl:(py.line == pos.line)=Ix)
  (ha:(scope.names.any λ(n,k)=>n == y&&(k == .local||k == .cell))=IN):Lb (.ListComp elt gs scope pos) (GM (.Name y py)) l env=Hz Ix:=by
 have ky:env.kindOf y=GM .local:=hy
 have hb:env.blockKind= .function:=by unfold Env.blockKind;rw[hk];rfl
 unfold Lb;simp only[hb,ky,ha,IY.pos,hl]
 rfl
end
theorem si {K:Gu}{a:Gx}{xs:Gm V}{g:TG}{tt:TT}{te:TE}{σ:St}{H1:Hp}{Qd:Hp->Prop}(Pv:GJ->Hp->Prop) (h0:Pv 0 (bf H1 D (.lst []))) (hl: ∀i H,i<=xs.length->Pv i H->cK K H a xs)
  (hs: ∀i x H,xs[i]?=GM x->Pv i H->g x (dM σ vs) H λσ2 H2=>dM σ2 vs=dM σ vs/\tt σ2 H2 λb H3=>
   if b=Ix then te σ2 H3 λy H4=> ∃acc,H4 D=GM (.lst acc)/\acc.length<GV/\Pv (i+1) (bf H4 D (.lst (acc++[y]))) else Pv (i+1) H3) (hd: ∀H,Pv xs.length H->Qd H):
  ∃W:GJ->GJ->Hp->Prop,(∃m,W 0 m (bf H1 D (.lst [])))/\ ∀i m H,W i m H->
   ((Xj K a).stop i H/\Qd H)\/((Xj K a).go i H/\ ∃Nx:Hp->Prop,(∀H',Nx H'-> ∃m',m'<m/\W (i+1) m' H')/\ ∀x H',(Xj K a).Xh i H x H'->g x (dM σ vs) H' λσ2 H2=>dM σ2 vs=dM σ vs/\tt σ2 H2 λb H3=>
    if b=Ix then te σ2 H3 λy H4=> ∃acc,H4 D=GM (.lst acc)/\acc.length<GV/\Nx (bf H4 D (.lst (acc++[y]))) else Nx H3):=by
 refine#[λi m H=>m=xs.length-i/\i<=xs.length/\Pv i H,#[xs.length,by simp,HB _,h0],?_];rintro i m H ⟨rfl,hi,p⟩;have q:=hl i H hi p;by_cases RT:i<xs.length
 .refine .inr #[#[xs,xs[i],q,by simp [RT]],Pv (i+1),λH' p'=>#[xs.length-(i+1),by lia,IO,RT,p'],λx H' y=>?_]
  obtain⟨e,y⟩:=y;subst e;exact hs i x _ (y xs q) p
 .have e:i=xs.length:=by lia
  subst e;exact .inl #[#[xs,q,GU _],hd H p]
def mX (N:Gm G0) (sc scope:Scope) (own:Gm (G0×GJ)):HH:=
 (match scope.kind with| .function=>Ix|_=>IN)&&(scope.names.all λy=>decide (scope.names.lookup y.1=GM y.2))&&(own.all λp=>decide (N[p.2]?=GM p.1))&&
  (scope.names.all λy=>match y.2 with
   | .free=>(match sc.names.lookup y.1 with|some .cell=>Ix|some .free=>Ix|_=>IN)
   | .local=>decide (y.1∈own.map (·.1))||decide (y.1∉N)
   | .cell=>decide (y.1∈own.map (·.1))||decide (y.1∉N)
   |_=>Ix)
theorem eB {sc scope:Scope}(h:mX N sc scope own=Ix):pE N sc scope own:=by
 unfold mX at h;simp only[Jt,LC,Oq] at h;obtain⟨⟨⟨h1,h2⟩,h3⟩,h4⟩:=h;refine#[?_,h2,h3,λy hy e=>?_,λy hy e=>?_]
 .split at h1
  .assumption
  .cases h1
 .have q:=h4 y hy
  simp only[e] at q;split at q<;>first|exact .inl (by assumption)|exact .inr (by assumption)|cases q
 .have q:=h4 y hy
  rcases e with e|e<;>(simp only[e,Ox,Oq] at q;exact q)
section
variable {κ:Type} [DecidableEq κ]
def cW (Iw:Gm (κ×V)) (k:κ):GF V:=(Iw.find? λkv=>decide (kv.1=k)).map (·.2)
def fX (Iw:Gm (κ×V)) (k:κ) (v:V):Gm (κ×V):=
 if(Iw.any λkv=>decide (kv.1=k))=Ix then Iw.map (λkv=>if kv.1=k then(kv.1,v) else kv) else Iw++[(k,v)]
def f7 (Iw:Gm (κ×V)) (k:κ):Gm (κ×V):=Iw.filter λkv=>decide (kv.1≠k)
theorem cT {p:κ×V}{r:Gm (κ×V)}{k:κ}(e:p.1=k):cW (p::r) k=GM p.2:=by simp [cW,Iy,e]
theorem cF {p:κ×V}{r:Gm (κ×V)}{k:κ}(e: ¬p.1=k):cW (p::r) k=cW r k:=by simp [cW,Iy,e]
theorem lH (k:κ): ∀Iw:Gm (κ×V),(Iw.any λkv=>decide (kv.1=k))=(cW Iw k).isSome
 |[]=>rfl
 |p::r=>by
  rw[J7];by_cases e:p.1=k
  .simp only[cT e,Hy e,S7,TX]
  .rw[cF e,Ha e,PH];exact lH k r
theorem uX (k j:κ) (y:V): ∀Iw:Gm (κ×V),cW (Iw.map λkv=>if kv.1=k then(kv.1,y) else kv) j=(cW Iw j).map λx=>if j=k then y else x
 |[]=>rfl
 |p::r=>by
  have ih:=uX k j y r;rw[GZ];by_cases h:p.1=k
  .rw[GD h]
   by_cases e:p.1=j
   .rw[cT (p:=(p.1,y)) e,cT e,MO,GD (e.symm.trans h)]
   .rw[cF (p:=(p.1,y)) e,cF e,ih]
  .rw[GB h]
   by_cases e:p.1=j
   .rw[cT (p:=p) e,cT e,MO,GB (λz=>h (e.trans z))]
   .rw[cF (p:=p) e,cF e,ih]
theorem re (k j:κ) (y:V): ∀Iw:Gm (κ×V),cW Iw k=Id->cW (Iw++[(k,y)]) j=if j=k then GM y else cW Iw j
 |[],_=>by
  by_cases e:k=j
  .rw[GD e.symm];exact cT (p:=(k,y)) e
  .rw[GB (λz=>e z.symm)];exact cF (p:=(k,y)) e
 |p::r,hn=>by
  rw[Jk];have hk: ¬p.1=k:=λz=>by rw[cT z] at hn;cases hn
  rw[cF hk] at hn;have ih:=re k j y r hn;by_cases e:p.1=j
  .rw[cT e,cT e,GB (λz=>hk (e.trans z))]
  .rw[cF e,cF e,ih]
theorem vJ (Iw:Gm (κ×V)) (k j:κ) (y:V):cW (fX Iw k y) j=if j=k then GM y else cW Iw j:=by
 unfold fX;by_cases a:(Iw.any λkv=>decide (kv.1=k))=Ix
 .rw[GD a,uX]
  rw[lH] at a;by_cases e:j=k
  .obtain⟨x,hx⟩:=LH.mp a
   rw[GD e,e,hx,MO,GD IO]
  .rw[GB e]
   cases cW Iw j with
   |none=>rfl
   |some x=>rw[MO,GB e]
 .rw[GB a]
  refine re k j y Iw ?_;rw[lH] at a;cases q:cW Iw k with
  |none=>rfl
  |some x=>rw[q] at a;exact(a IO).elim
theorem fT (Iw:Gm (κ×V)) (k:κ) (v:V):(fX Iw k v).length<=Iw.length+1:=by
 unfold fX;split
 .rw[GG];lia
 .rw[Gq,Gp,GK];lia
theorem gD.Ml {o:GF V}{u:GF Gy}(r:gD o u):o.isSome=u.isSome:=by
 cases o with
 |none=>cases u with
  |none=>rfl
  |some _=>exact(show False from r).elim
 |some _=>cases u with
  |none=>exact(show False from r).elim
  |some _=>rfl
theorem KV.val {Iw:Gm (κ×V)}(r:KV Iw vs) (k:κ):gD (cW Iw k) (Ql vs k):=by
 unfold KV at r
 induction r with
 |nil=>exact IK
 | @cons p q ps qs h t ih=>
  obtain⟨h1,h2⟩:=h;by_cases e:p.1=k
  .have e':q.1=k:=h1.symm.trans e
   have b:Ql (q::qs) k=GM q.2:=by simp [Ql,Iy,e']
   rw[cT e,b];exact h2
  .have e': ¬q.1=k:=λz=>e (h1.trans z)
   have b:Ql (q::qs) k=Ql qs k:=by simp [Ql,Iy,e']
   rw[cF e,b];exact ih
theorem KV.any {Iw:Gm (κ×V)}(r:KV Iw vs) (k:κ):(Iw.any λkv=>decide (kv.1=k))=vs.any λkv=>decide (kv.1=k):=by
 unfold KV at r
 induction r with
 |nil=>rfl
 |cons h t ih=>rw[J7,J7,ih,h.1]
theorem KV.Z1 {Iw:Gm (κ×V)}(r:KV Iw vs) (k:κ) {y:V}{u:Gy}(ry:bD y u):
  KV (Iw.map λkv=>if kv.1=k then(kv.1,y) else kv) (vs.map λkv=>if kv.1=k then(kv.1,u) else kv):=by
 unfold KV at r ⊢
 induction r with
 |nil=>exact .nil
 | @cons p q ps qs h t ih=>
  rw[GZ,GZ];refine .cons ?_ ih;obtain⟨h1,h2⟩:=h;by_cases e:p.1=k
  .rw[GD e,GD (h1.symm.trans e)];exact#[h1,ry]
  .rw[GB e,GB (λz=>e (h1.trans z))];exact#[h1,h2]
theorem KV.put {Iw:Gm (κ×V)}(r:KV Iw vs) (k:κ) {y:V}{u:Gy}(ry:bD y u):KV (fX Iw k y) (stored vs k u):=by
 unfold fX stored;rw[r.any k];by_cases e:(vs.any λkv=>decide (kv.1=k))=Ix
 .rw[GD e,GD e];exact r.Z1 k ry
 .rw[GB e,GB e];exact Yy r #[IO,ry]
theorem KV.drop {Iw:Gm (κ×V)}(r:KV Iw vs) (k:κ):KV (f7 Iw k) (without vs k):=by
 unfold KV at r ⊢;unfold f7 without
 induction r with
 |nil=>exact .nil
 | @cons p q ps qs h t ih=>
  obtain⟨h1,h2⟩:=h;rw[QB,QB];by_cases e:p.1=k
  .have a: ¬decide (p.1≠k)=Ix:=by simp [e]
   have b: ¬decide (q.1≠k)=Ix:=by simp [h1.symm.trans e]
   rw[GB a,GB b];exact ih
  .have e': ¬q.1=k:=λz=>e (h1.trans z)
   have a:decide (p.1≠k)=Ix:=by simp [e]
   have b:decide (q.1≠k)=Ix:=by simp [e']
   rw[GD a,GD b];exact .cons #[h1,h2] ih
theorem KV.length {Iw:Gm (κ×V)}(r:KV Iw vs):Iw.length=vs.length:=Rk r
theorem EH (Iw:Gm (κ×V)) (k:κ):(f7 Iw k).length<=Iw.length:=OR _ _
end
theorem pz {P:Hm}{w:HS}{k:cf}{u:Gy}(r:bD (kV k) u):(bK P w).is k u=Ix:=by
 cases k with
 |inl i=>obtain⟨t,e⟩:=(show∃t,u=Lh i t from r);subst e;exact uu P w i t
 |inr x=>obtain⟨t,e⟩:=(show∃t,u=O7 x t from r);subst e;exact vw P w x t
theorem qk {P:Hm}{w:HS} : ∀ {ks:Gm cf}{us:Gm Gy},bH (ks.map kV) us->ItemsAre (bK P w) ks us
 |[],_,r=>by rw[Gm.map_nil] at r;cases r;exact .nil
 |k::ks,_,r=>by
  rw[GZ] at r;cases r with
  |cons h t=>exact .cons (pz h) (qk t)
abbrev KT (H:Hp):Gm (Gm cf×V)->Gm (Gm cf×Gx×Gy)->Prop:=Paired λp q=>p.1=q.1/\H q.2.1=GM (.tup (p.1.map kV))/\bD p.2 q.2.2
theorem KT.val {H:Hp}{Iw:Gm (Gm cf×V)}{xs:Gm (Gm cf×Gx×Gy)}(r:KT H Iw xs) (k:Gm cf):gD (cW Iw k) ((Q8 xs k).map (·.2)):=by
 induction r with
 |nil=>exact IK
 | @cons p q ps qs h t ih=>
  obtain⟨h1,_,h2⟩:=h;by_cases e:p.1=k
  .have e':q.1=k:=h1.symm.trans e
   have b:Q8 (q::qs) k=GM q.2:=by simp [Q8,Iy,e']
   rw[cT e,b];exact h2
  .have e': ¬q.1=k:=λz=>e (h1.trans z)
   have b:Q8 (q::qs) k=Q8 qs k:=by simp [Q8,Iy,e']
   rw[cF e,b];exact ih
theorem KT.Z1 {H:Hp}{Iw:Gm (Gm cf×V)}{xs:Gm (Gm cf×Gx×Gy)}(r:KT H Iw xs) (k:Gm cf) {y:V}{u:Gy}(ry:bD y u):
  KT H (Iw.map λkv=>if kv.1=k then(kv.1,y) else kv) (xs.map (putAt k u)):=by
 induction r with
 |nil=>exact .nil
 | @cons p q ps qs h t ih=>
  rw[GZ,GZ];refine .cons ?_ ih;obtain⟨h1,h2,h3⟩:=h;unfold putAt;by_cases e:p.1=k
  .rw[GD e,GD (h1.symm.trans e)];exact#[h1,h2,ry]
  .rw[GB e,GB (λz=>e (h1.trans z))];exact#[h1,h2,h3]
theorem KT.put {H:Hp}{Iw:Gm (Gm cf×V)}{xs:Gm (Gm cf×Gx×Gy)}(r:KT H Iw xs) (k:Gm cf) {b:Gx}{y:V}{u:Gy}(hb:H b=GM (.tup (k.map kV))) (ry:bD y u):
  KT H (fX Iw k y) (storedH xs k b u):=by
 have e:(Iw.any λkv=>decide (kv.1=k))=(Q8 xs k).isSome:=by
  rw[lH,(r.val k).Ml,JQ]
 unfold fX storedH;rw[e];by_cases q:(Q8 xs k).isSome=Ix
 .rw[GD q,GD q];exact r.Z1 k ry
 .rw[GB q,GB q];exact Yy r #[IO,hb,ry]
theorem KT.keeps {H H':Hp}{Iw:Gm (Gm cf×V)}{xs:Gm (Gm cf×Gx×Gy)}(r:KT H Iw xs) (ht: ∀b ys,H b=GM (.tup ys)->H' b=GM (.tup ys)):KT H' Iw xs:=
 Paired.Np r λ_ _ z=>#[z.1,ht _ _ z.2.1,z.2.2]
section
variable {P:Hm}{w:HS}{H:Hp}{h:Ij}{a:Gx}
theorem Xr {u:HO}(ok:iU P w H h) (e:Rd H a u):cJ P w H h a u:=e.ok ok
theorem pL {Iw:Gm (cf×V)}(ok:iU P w H h) (e:Rd H a (.dK Iw)):Iw.length<=GV/\(a == JZ)=IN/\ ∃vs,KV Iw vs/\h.DictOf (bK P w) a vs:=
 show cJ P w H h a (.dK Iw) from Xr ok e
theorem Xs {Iw:Gm (cf×V)}(ok:iU P w H h) (e:H a=GM (.dK Iw)):Iw.length<=GV/\(a == JZ)=IN/\ ∃vs,KV Iw vs/\h.DictOf (bK P w) a vs:=pL ok (.inl e)
theorem j0 {ks:Gm cf}(ok:iU P w H h) (e:H a=GM (.tup (ks.map kV))):(NZ (bK P w)).is h ks a:=by
 obtain⟨_,Ji,r,o,h1,h2,n,h3⟩:=(show cJ P w H h a (.tup (ks.map kV)) from ok a _ e);exact#[o,Ji.toArray,n,h1,h2,h3,by simpa using qk r]
theorem qi {Iw:Gm (Gm cf×V)}(ok:iU P w H h) (e:Rd H a (.dT Iw)):Iw.length<=GV/\(a == JZ)=IN/\
  ∃xs,KT H Iw xs/\h.DictOfH (NZ (bK P w)) a xs:=by
 obtain⟨z,y,xs,r,o,es,ep,h1,h2,h3,h4,h5⟩:=(show cJ P w H h a (.dT Iw) from Xr ok e);refine#[z,y,xs,r,o,es,ep,h1,h2,h3,h4,λx hx=>?_,h5];have all: ∀ {l:Gm (Gm cf×V)}{m:Gm (Gm cf×Gx×Gy)},KT H l m-> ∀x∈m,(NZ (bK P w)).is h x.1 x.2.1:=by
  intro l m q
  induction q with
  |nil=>intro x hx;exact nomatch hx
  | @cons p q ps qs hq t ih=>
   intro x hx;rcases Hc.mp hx with e|hx
   .subst e
    exact j0 ok (by rw[<-hq.1];exact hq.2.1)
   .exact ih x hx
 exact all r x hx
theorem aeH {Iw:Gm (Gm cf×V)}(ok:iU P w H h) (e:H a=GM (.dT Iw)):Iw.length<=GV/\(a == JZ)=IN/\
  ∃xs,KT H Iw xs/\h.DictOfH (NZ (bK P w)) a xs:=qi ok (.inl e)
end
def kG (H:Hp) (a:Gx) (y:V) (r:GF V):Prop:=
 (∃Iw k,Rd H a (.dK Iw)/\y=kV k/\r=cW Iw k)\/ ∃Iw k b,Rd H a (.dT Iw)/\y= .ref b/\H b=GM (.tup (k.map kV))/\r=cW Iw k
def Dk (H:Hp) (a:Gx) (y v:V) (H':Hp):Prop:=
 (∃Iw k,H a=GM (.dK Iw)/\y=kV k/\Iw.length<GV/\H'=bf H a (.dK (fX Iw k v)))\/
 ∃Iw k b,H a=GM (.dT Iw)/\y= .ref b/\H b=GM (.tup (k.map kV))/\Iw.length<GV/\H'=bf H a (.dT (fX Iw k v))
theorem kG.k {H:Hp}{a:Gx}{Iw:Gm (cf×V)}{k:cf}(e:H a=GM (.dK Iw)):kG H a (kV k) (cW Iw k):= .inl #[Iw,k, .inl e,IO,IO]
theorem Dk.k {H:Hp}{a:Gx}{Iw:Gm (cf×V)}{k:cf}{v:V}(e:H a=GM (.dK Iw)) (hl:Iw.length<GV):Dk H a (kV k) v (bf H a (.dK (fX Iw k v))):= .inl #[Iw,k,e,IO,hl,IO]
section
variable {X:Cx}{pins:Gm (Gx×Kd)}{σ:St}{H:Hp}{s:GC}{a:Gx}{y v:V}{u r:Gy}{o:GF V}{A:IA}{E:Gy->GC->Prop}
theorem aP.big (I:aP X pins σ H s):JZ<s.heap.objs.size:=by
 have h:Ke<s.heap.objs.size:=(I.mod.glob.keeps I.bk).lt;exact GJ.lt_trans [01] h
theorem zJ {Q:Gy->GC->Prop}(hu:A.units+1<P4) (I:aP X pins σ H s) (g:kG H a y (GM v)) (ry:bD y u) (h: ∀w' s',aP X pins σ H s'->bD v w'->Q w' s'):
  Hl (model X.prog X.w) A (SW (.ref a) u) Q E s:=by
 rcases g with⟨Iw,k,e,ey,l⟩|⟨Iw,k,b,e,ey,eb,l⟩
 .subst ey
  obtain⟨z,hd,vs,rel,dd⟩:=pL I.Jy e;obtain⟨w',hw,TK⟩:=gD.some_of (v:=v) (o:=Ql vs k) (by rw[l];exact rel.val k);exact wpAny_getItem_of (pz ry) dd.mapOf hw (h w' _ (I.tok _) TK)
 .subst ey
  cases (show u=Hj b from ry);obtain⟨z,hd,xs,rel,dd⟩:=qi I.Jy e;obtain⟨w',hw,TK⟩:=gD.some_of (v:=v) (o:=(Q8 xs k).map (·.2)) (by rw[l];exact rel.val k);obtain⟨p,hp,hp2⟩:=IM.mp hw;refine Yq (Ln hu) (j0 I.Jy eb) dd hp ?_;rw[hp2];exact h w' _ (I.tok _) TK
theorem aju {Q:Gy->GC->Prop}(hu:A.units+1<P4) (I:aP X pins σ H s) (g:kG H a y o) (ry:bD y u) (h: ∀s',aP X pins σ H s'->Q (.bool o.isSome) s'):
  Hl (model X.prog X.w) A (J1 .In u (.ref a)) Q E s:=by
 rcases g with⟨Iw,k,e,ey,l⟩|⟨Iw,k,b,e,ey,eb,l⟩
 .subst ey
  obtain⟨z,hd,vs,rel,dd⟩:=pL I.Jy e;refine wpAny_in_of (pz ry) hd dd.mapOf ?_;rw[<-(rel.val k).Ml,<-l];exact h _ (I.tok _)
 .subst ey
  cases (show u=Hj b from ry);obtain⟨z,hd,xs,rel,dd⟩:=qi I.Jy e;refine wpAny_in_heap (Ln hu) (j0 I.Jy eb) hd dd ?_;have q:=(rel.val k).Ml;rw[JQ] at q;rw[<-q,<-l];exact h _ (I.tok _)
theorem Fh {Q:Gy->GC->Prop}(hu:A.units+1<P4) (I:aP X pins σ H s) (g:kG H a y o) (ry:bD y u) (h: ∀s',aP X pins σ H s'->Q (.bool (!o.isSome)) s'):
  Hl (model X.prog X.w) A (J1 .NotIn u (.ref a)) Q E s:=by
 rcases g with⟨Iw,k,e,ey,l⟩|⟨Iw,k,b,e,ey,eb,l⟩
 .subst ey
  obtain⟨z,hd,vs,rel,dd⟩:=pL I.Jy e;refine wpAny_notIn_of (pz ry) hd dd.mapOf ?_;rw[<-(rel.val k).Ml,<-l];exact h _ (I.tok _)
 .subst ey
  cases (show u=Hj b from ry);obtain⟨z,hd,xs,rel,dd⟩:=qi I.Jy e;refine wpAny_notIn_heap (Ln hu) (j0 I.Jy eb) hd dd ?_;have q:=(rel.val k).Ml;rw[JQ] at q;rw[<-q,<-l];exact h _ (I.tok _)
theorem sU {h':Ij}(I:aP X pins σ H s) (mu:fG (H a)) (hs:Ou a s.heap h') (he: ∃q,h'.get? a=GM q) (new:cJ X.prog X.w (bf H a ob) h' a ob):
  aP X pins σ (bf H a ob) { s with heap:=h',toks:=t' } :=
 I.write (x:=a) (e:=a) mu (.inl IO) (λb q hb z=>(hs.2 b hb).trans z) he new
theorem wQ {P:Hm}{w:HS}{H':Hp}{h':Ij}{Iw:Gm (cf×V)}(z:Iw.length<=GV) (hd:(a == JZ)=IN) (rel:KV Iw vs) (dd:h'.DictOf (bK P w) a vs):
  cJ P w H' h' a (.dK Iw):=#[z,hd,vs,rel,dd]
theorem AQ {H':Hp}{Q:Nl->GC->Prop}(hu:A.units+1<P4) (I:aP X pins σ H s) (g:Dk H a y v H') (ry:bD y u) (rv:bD v r) (h: ∀s',aP X pins σ H' s'->Q () s'):
  Hl (model X.prog X.w) A (setItem (.ref a) u r) Q E s:=by
 rcases g with⟨Iw,k,e,ey,l,eH⟩|⟨Iw,k,b,e,ey,eb,l,eH⟩
 .subst ey eH
  obtain⟨z,hd,vs,rel,dd⟩:=Xs I.Jy e;have hz:vs.length<=GV:=by rw[<-rel.length];exact z
  have hl:(fX Iw k v).length<=GV:=by have:=fT Iw k v;lia
  refine wpAny_setItem_pairs (hsz:=hz) (pz ry) dd λh' VZ hs=>h _ ?_;have he: ∃q,h'.get? a=GM q:=let ⟨q,_,_,hq,_⟩:=VZ;#[q,hq];exact sU I (by rw[e];exact IK) hs he (wQ hl hd (rel.put k rv) VZ)
 .subst ey eH
  cases (show u=Hj b from ry);obtain⟨z,hd,xs,rel,dd⟩:=aeH I.Jy e;have hz:xs.length<=GV:=by rw[<-Rk rel];exact z
  have hl:(fX Iw k v).length<=GV:=by have:=fT Iw k v;lia
  refine wpAny_setItem_heap (hsz:=hz) (Ln hu) (j0 I.Jy eb) dd λh' VZ hs=>h _ ?_;obtain⟨q,es,ep,hq,h2,h3,h4,_,h5⟩:=VZ;refine sU I (by rw[e];exact IK) hs #[q,hq] #[hl,hd,_,(rel.put k eb rv).keeps λc ys ec=>?_,q,es,ep,hq,h2,h3,h4,h5];rw[af (aem ec e (λz=>nomatch z))]
  exact ec
end
section
variable {X:Cx}{pins:Gm (Gx×Kd)}{σ:St}{H:Hp}{s:GC}{a:Gx}{Iw:Gm (cf×V)}{k:cf}{u:Gy}{A:IA}{E:Gy->GC->Prop}
theorem aeI {v:V}{Q:Gy->GC->Prop}(I:aP X pins σ H s) (e:H a=GM (.dK Iw)) (ry:bD (kV k) u) (l:cW Iw k=GM v) (hm:more=[]\/ ∃x,more=[x])
  (h: ∀w' s',aP X pins σ (bf H a (.dK (f7 Iw k))) s'->bD v w'->Q w' s'):Hl (model X.prog X.w) A (call (.builtin "dict.pop") (.ref a::u::more)) Q E s:=by
 obtain⟨z,hd,vs,rel,dd⟩:=Xs I.Jy e;obtain⟨w',hw,TK⟩:=gD.some_of (v:=v) (o:=Ql vs k) (by rw[<-l];exact rel.val k);have hp:(keyPart u).isSome=Ix:=by
  cases k with
  |inl i=>obtain⟨t,q⟩:=(show∃t,u=Lh i t from ry);subst q;rfl
  |inr x=>obtain⟨t,q⟩:=(show∃t,u=O7 x t from ry);subst q;rfl
 have ha:argsOk "dict.pop" ⟨.ref a::u::more,[]⟩:=by
  rcases hm with q|⟨x,q⟩
  .subst q;exact PySem.F.args_dict_pop_2 _ _
  .subst q;exact PySem.F.args_dict_pop_3 _ _ _
 refine call_meetsIn RK dd.typeIs PySem.F.entry_dict_pop ha (meets_dict_pop_there (bK X.prog X.w) a (pz ry) more hm hp)
  #[vs,w',dd,by rw[<-rel.length];exact z,hw,λh' VZ hs=>h w' _ ?_ TK]
 have he: ∃q,h'.get? a=GM q:=let ⟨q,_,_,hq,_⟩:=VZ;#[q,hq];exact sU I (by rw[e];exact IK) hs he (wQ (GX (EH Iw k) z) hd (rel.drop k) VZ)
theorem aeJ {Q:Gy->GC->Prop}(I:aP X pins σ H s) (e:Rd H a (.dK Iw)) (h: ∀t s',aP X pins σ H s'->Q (.int Iw.length t) s'):Hl (model X.prog X.w) A (call (.builtin "len") [.ref a]) Q E s:=by
 obtain⟨z,hd,vs,rel,dd⟩:=pL I.Jy e;refine call_len_dict hd dd (by rw[<-rel.length];rw[Ng] at z;lia) ?_;rw[<-rel.length];exact h _ _ (I.tok _)
end
def FU (i:IY):Prop:= ∀ov iv,subscripted i IN ov iv=operate [ov,iv] (SW ov iv)
theorem yt {prog:Hm}{w:HS}{A:IA}{E:Gy->GC->Prop}{s:GC}{env:Env}{Lk slice:IY}{pos:Pos}{T id:String}{Q:Gy->GC->Prop}
  (hl:JD (.type T) "__getitem__"=Hz (GM (.builtin id))) (hs:FU slice)
  (h:Hl (model prog w) A (eval Lk env) (λo s₁=>Hl (model prog w) A (eval slice env) (λi s₂=>s₂.TypeIs o T/\Hl (model prog w) A (SW o i) Q E s₂) E s₁) E s):
  Hl (model prog w) A (eval (.Subscript Lk slice pos) env) Q E s:=by
 refine Yt (JM h (λo s₁ h₁=>JM h₁ (λi s₂ h₂=>?_) λ_ _ x=>x) λ_ _ x=>x);obtain⟨hT,h₂⟩:=h₂;unfold Uo;refine He ?_;rw[getitemInPython_of_ne hT.not_modules];refine He (wpAny_specialOf hT hl ?_);have fin:Hl (model prog w) A (subscripted slice IN o i) (λr s₃=>Hl (model prog w) A (letTemporaryGo Lk o r>>=λ_=>Hz r) Q E s₃) E s₂:=by
  rw[hs o i];exact wpAny_operating (JM h₂ (λr s₃ h₃=>He (wpAny_letTemporaryGo (HU h₃))) λ_ _ x=>x)
 first
  |exact HU (He fin)
  |exact He (HU (He fin))
  |exact He fin
theorem tL {X:Cx}{pins:Gm (Gx×Kd)}{σ:St}{H:Hp}{s:GC}{a:Gx}{y:V}{o:GF V}(I:aP X pins σ H s) (g:kG H a y o):s.TypeIs (.ref a) "dict":=by
 rcases g with⟨Iw,k,e,_,_⟩|⟨Iw,k,b,e,_,_,_⟩
 .obtain⟨_,_,vs,_,dd⟩:=pL I.Jy e
  exact dd.typeIs
 .obtain⟨_,_,xs,_,dd⟩:=qi I.Jy e
  exact dd.typeIs
def aeK (td ty:TE):TE:=λσ H Q=>td σ H λx H1=>ty σ H1 λy H2=> ∃a v,x= .ref a/\kG H2 a y (GM v)/\Q v H2
inductive D7 (y:V) (R:GF V->Hp->Prop) (x:V) (H2:Hp):Prop
 |mk (a:Gx) (o:GF V) (_:x= .ref a) (_:kG H2 a y o) (_:R o H2):D7 y R x H2
def ajv (ty td:TE):TE:=λσ H Q=>ty σ H λy H1=>td σ H1 (D7 y (λo H2=>Q (.bl o.isSome) H2))
def FA (ty td:TE):TE:=λσ H Q=>ty σ H λy H1=>td σ H1 (D7 y (λo H2=>Q (.bl (!o.isSome)) H2))
def aeL (td ty tv:TE):TS:=λD σ H=>tv σ H λv H1=>td σ H1 λx H2=>ty σ H2 λy H3=> ∃a H4,x= .ref a/\Dk H3 a y v H4/\D.nx σ H4
section
variable {X:Cx}{o i e Lk:IY}{pos NW UA:Pos}{td ty tv:TE}
theorem EX (hu:X.A.units+1<P4) (ho:PE X o td) (hi:PE X i ty) (hs:FU i):PE X (.Subscript o i pos) (aeK td ty):=by
 intro pins s σ H Q I h;refine yt QZ.lookup hs (cG (ho pins s σ H _ I h) λu s1 ⟨x,H1,I1,rx,q1⟩=>cG (hi pins s1 σ H1 _ I1 q1) λiv s2 ⟨y,H2,I2,ry,a,v,ex,g,q2⟩=>?_);subst ex;obtain rfl:u=Hj a:=rx;exact#[tL I2 g,zJ hu I2 g ry λw' s3 I3 TK=>#[v,H2,I3,TK,q2]]
theorem rM (hu:X.A.units+1<P4) (hi:PE X i ty) (ho:PE X o td):PC X .In i o (ajv ty td):=by
 intro pins s σ H Q I h;refine cG (hi pins s σ H _ I h) λiv s1 ⟨y,H1,I1,ry,q1⟩=>cG (ho pins s1 σ H1 _ I1 q1) λu s2 ⟨x,H2,I2,rx,a,ov,ex,g,q2⟩=>?_;subst ex;obtain rfl:u=Hj a:=rx;exact aju hu I2 g ry λs3 I3=>#[.bl ov.isSome,H2,I3,IO,q2]
theorem rc (hu:X.A.units+1<P4) (hi:PE X i ty) (ho:PE X o td):PC X .NotIn i o (FA ty td):=by
 intro pins s σ H Q I h;refine cG (hi pins s σ H _ I h) λiv s1 ⟨y,H1,I1,ry,q1⟩=>cG (ho pins s1 σ H1 _ I1 q1) λu s2 ⟨x,H2,I2,rx,a,ov,ex,g,q2⟩=>?_;subst ex;obtain rfl:u=Hj a:=rx;exact Fh hu I2 g ry λs3 I3=>#[.bl (!ov.isSome),H2,I3,IO,q2]
theorem nQ (hu:X.A.units+1<P4) (ho:PE X o td) (hi:PE X i ty) (hv:PE X Lk tv) (hs:Lb Lk (GM (.Subscript o i NW)) pos.line X.env=Hz IN):
  PS X (.Assign [.Subscript o i NW] Lk pos) (aeL td ty tv):=by
 intro pins s σ H D I h;refine wpAny_Assign_Subscript (cG (hv pins s σ H _ I h) λr s1 ⟨v,H1,I1,rv,q1⟩=>cG (ho pins s1 σ H1 _ I1 q1) λu s2 ⟨x,H2,I2,rx,q2⟩=>cG (hi pins s2 σ H2 _ I2 q2) λiv s3 ⟨y,H3,I3,ry,a,H4,ex,g,q3⟩=>?_) hs;subst ex;obtain rfl:u=Hj a:=rx;exact AQ hu I3 g ry rv λs4 I4=>#[σ,H4,I4,q3]
end
theorem Bw {P:Hm}{w:HS}{H:Hp}(h:Ij) (hb:JZ<h.objs.size):cJ P w H (h.push { cls:= .type "dict",data:= .dict [].toArray }) h.objs.size (.dK []):=
 #[HB _,beq_eq_false_iff_ne.mpr (KY (Ih hb)),[], .nil,Ij.DictOf.new h]
def Z2:TE:=λ_ H Q=> ∀p,H p=Id->Q (.ref p) (bf H p (.dK []))
section
variable {X:Cx}{pos:Pos}
theorem lz:PE X (.Dict [] [] pos) Z2:=λpins s σ H Q I h=>
 wpAny_Dict_empty #[.ref s.heap.objs.size,_,I.laid (a:=s.heap.objs.size) (o:= .dK []) (t':=s.toks) (λ_ _ q=>GN _ q) (GU _) (Bw s.heap I.big),IO,h _ (I.Jy.fresh (GU _))]
end
structure M1 (X:Cx) (o:IY) (m:G0) (L8:Pos) (e:IY) (ML:Pos):Prop where
 base:JK o m X.env (eval o X.env)=eval o X.env
 few:((J6 ML (Hb [e] X.env)).all (λx=>!x.1)&&(N7 ML (LL [] X.env)).all (λx=>x.1.isSome)
  &&decide (([e]:Gm IY).length+([]:Gm Keyword).length+(if([]:Gm Keyword).isEmpty then 0 else 1)<30))=Ix
 line:(L8.endLine == ML.line)=Ix
 trees:J6 ML (Hb [e] X.env)=[(IN,eval e X.env)]
def IsD (H:Hp) (a:Gx):Prop:=(∃Iw,Rd H a (.dK Iw))\/ ∃Iw,Rd H a (.dT Iw)
theorem Z3 {X:Cx}{pins:Gm (Gx×Kd)}{σ:St}{H:Hp}{s:GC}{a:Gx}(I:aP X pins σ H s) (d:IsD H a):
  s.TypeIs (.ref a) "dict"/\(∀b,Hj a= .ref b-> ∃ob,s.heap.get? b=GM ob/\ob.dict=Id)/\(a == JZ)=IN:=by
 rcases d with⟨Iw,e⟩|⟨Iw,e⟩
 .obtain⟨_,hd,vs,_,dd⟩:=pL I.Jy e
  refine#[dd.typeIs,λb q=>?_,hd];cases q;obtain⟨ob,_,_,h1,h2,_⟩:=dd;exact#[ob,h1,h2.2.1]
 .obtain⟨_,hd,xs,_,dd⟩:=qi I.Jy e
  refine#[dd.typeIs,λb q=>?_,hd];cases q;obtain⟨ob,_,_,h1,h2,_⟩:=dd;exact#[ob,h1,h2.2.1]
def Z4 (td ty:TE):TE:=λσ H Q=>td σ H λx H1=> ∃a,x= .ref a/\IsD H1 a/\ty σ H1 λy H2=> ∃Iw k v,H2 a=GM (.dK Iw)/\y=kV k/\cW Iw k=GM v/\Q v (bf H2 a (.dK (f7 Iw k)))
section
variable {X:Cx}{o e f:IY}{L8 ML:Pos}{td ty tx:TE}
theorem DU (ho:PE X o td) (he:PE X e ty) (m:M1 X o "pop" L8 e ML):PE X (.Call (.Attribute o "pop" L8) [e] [] ML) (Z4 td ty):=by
 intro pins s σ H Q I h;refine wpAny_Call_method m.base m.few m.line PySem.F.plainAttrs_dict RK PySem.F.type_dict_pop (cG (ho pins s σ H _ I h) λu s1 ⟨x,H1,I1,rx,a,ex,d,q1⟩=>?_);subst ex;obtain rfl:u=Hj a:=rx;obtain⟨t1,t2,_⟩:=Z3 I1 d;refine#[t1,t2,?_];rw[m.trees];refine Oj IO (OY (Nf (cG (he pins s1 σ H1 _ I1 q1) λiv s2 ⟨y,H2,I2,ry,Iw,k,v,ea,ey,l,q2⟩=>NI ?_)));subst ey;exact aeI I2 ea ry l (.inl IO) λw' s3 I3 TK=>#[v,_,I3,TK,q2]
end
section
variable {X:Cx}{pins:Gm (Gx×Kd)}{σ:St}{H:Hp}{s:GC}{h':Ij}
theorem aP.WG {t':GJ}{ch:Gm Gx}(I:aP X pins σ H s) (k: ∀b o,b∉ch->s.heap.get? b=GM o->h'.get? b=GM o) (hf: ∀b∈ch,mZ X pins H b):aP X pins σ H { s with heap:=h',toks:=t' } :=by
 have Xf: ∀b u,H b=GM u->b∉ch:=λb u e z=>by
  have q:=(hf b z).1;rw[q] at e;cases e
 refine I.step (g':=s.gens) (d':=s.drawn) (ch:=ch) (λb hb=>#[(hf b hb).2.2.2.1,(hf b hb).2.1,(hf b hb).2.2.2.2.1,(hf b hb).2.2.2.2.2]) (λb o _ _ hc e _=>k b o hc e) (λb o _ _ hc e _=>#[o.slots,k b o hc e])
  (λ_ _ _ _ n=>n) (λb o hc e=>#[o,k b o hc e]) (λ_ _ e=>e) (λ_ _ _ e=>e) (λb ps e=>#[[].toArray,by rw[e];simp]) (λm hm=>?_) (λb u e=>?_) I.bare
 .obtain⟨o,es,ep,ho,r⟩:=hm
  exact#[o,es,ep,k _ o (λz=>(hf _ z).2.1 IO) ho,r]
 .refine(I.Jy b u e).QU (λc v hc q=>k c v ?_ q) [08] λ_ _ q=>q
  rcases hc with z|z
  .rw[z];exact Xf b u e
  .exact Xf c _ z
theorem aP.UD {t':GJ}{ch:Gm Gx}{T:Gx}{ob:HO}(I:aP X pins σ H s) (k: ∀b o,b∉ch->s.heap.get? b=GM o->h'.get? b=GM o) (hf: ∀b∈ch,mZ X pins H b) (hT:s.heap.objs.size<=T)
  (new:cJ X.prog X.w (bf H T ob) h' T ob):aP X pins σ (bf H T ob) { s with heap:=h',toks:=t' } :=by
 have hn:H T=Id:=I.Jy.fresh hT
 have Xf: ∀b u,H b=GM u->b∉ch:=λb u e z=>by
  have q:=(hf b z).1;rw[q] at e;cases e
 refine I.step (g':=s.gens) (d':=s.drawn) (ch:=ch) (λb hb=>#[(hf b hb).2.2.2.1,(hf b hb).2.1,(hf b hb).2.2.2.2.1,(hf b hb).2.2.2.2.2]) (λb o _ _ hc e _=>k b o hc e) (λb o _ _ hc e _=>#[o.slots,k b o hc e])
  (λb o _ e n=>?_) (λb o hc e=>#[o,k b o hc e]) (λb xs e=>?_) (λb o u e=>?_) (λb ps e=>#[[].toArray,?_]) (λm hm=>?_) (λb u e=>?_) I.bare
 .rw[af (Ih (Hh (Hg e) hT))];exact n
 .rw[af (aw e hn)];exact e
 .rw[af (aw e hn)];exact e
 .rw[af (aw e hn),e];simp
 .obtain⟨o,es,ep,ho,r⟩:=hm
  exact#[o,es,ep,k _ o (λz=>(hf _ z).2.1 IO) ho,r]
 .by_cases hb:b=T
  .subst hb
   rw[aj] at e;cases e;exact new
  .rw[af hb] at e
   refine(I.Jy b u e).QU (λc v hc q=>k c v ?_ q) (λc q=>by rw[af (aw q hn)];exact q) λc xs q=>by rw[af (aw q hn)];exact q
   rcases hc with z|z
   .rw[z];exact Xf b u e
   .exact Xf c _ z
end
section
variable {X:Cx}
theorem DX {tg:IY}{pins:Gm (Gx×Kd)}{σ:St}{H:Hp}{s:GC}{R:It->Hp->Prop}{tn:GJ->Ij->Prop}{tk:GJ}(I:aP X pins σ H s) (o:Kd)
  (T:Ef X.prog X.w X.K tg J [s.heap.objs.size] s.heap.objs.size tn) (st:tn 0 (s.heap.push o)) (q:R J H):PIE X pins σ tg R (.ref s.heap.objs.size) { s with heap:=s.heap.push o,toks:=tk } :=by
 refine#[s.heap.objs.size,[s.heap.objs.size],tn,J,H,IO,I.kept λb ob e=>GN _ e,T,st,λb hb=>?_,q];have e:b=s.heap.objs.size:=by simpa using hb
 subst e;exact I.WD (GU _) (I.Jy.fresh (GU _))
end
def Its (x:G0):It:=#[λi _=>i<x.cps.size,λi H v H'=>H'=H/\ ∃c,x.cps[i]?=GM c/\v= .str #[[c].toArray],λi _=>x.cps.size<=i]
theorem vo {P:Hm}{w:HS}{K:Gu}{tg:IY}(it:Gx) (x:G0) (t:Tok) (ty:String) (hty:ty="str_ascii_iterator"\/ty="str_iterator"):
  Ef P w K tg (Its x) [it] it (λi h=>h.IsStrIter it ty x t i) where
 mem:=by simp
 obj:=λi h st b hb=>by
  have e:b=it:=by simpa using hb
  subst e;obtain⟨o,e,c,d⟩:=st;exact#[o,e,λv z=>by rw[d] at z;cases z]
 keep:=λi h h' st k=>let ⟨o,ho,r⟩:=st;#[o,k it (by simp) o ho,r]
 item:=by
  intro X hP hw hK hc i pins s σ H E I hf st hg;subst hP hw hK;obtain⟨f0,f1,f2,f3,f4,f5⟩:=hf it (by simp);have W:Walks X.prog X.w X.A it [it] [it] x.cps.size (SignAt x) (λi h=>h.IsStrIter it ty x t i):=by
   rcases hty with e|e
   .rw[e];exact Walks.strAscii (I.ok.hd hc) it x t
   .rw[e];exact Walks.strWide (I.ok.hd hc) it x t
  have hno:["enumerate","zip","dict_itemiterator","dict_reverseitemiterator","odict_iterator","itertools.zip_longest","itertools.pairwise"].contains ty=IN:=by
   rcases hty with e|e
   .rw[e];decide
   .rw[e];decide
  refine W.item i s _ _ hg st λv h' tk hv st' kk=>?_;obtain⟨c,u,hcx,rfl⟩:=hv;have I1:aP X pins σ H { s with heap:=h',toks:=tk } :=I.turned (λb o hb e=>kk b o (by simpa using hb) e) f0 f1 f3 f4 f5
  obtain⟨oi,e,cc,dd⟩:=id st';exact#[_,IO,Xi (s:= { s with heap:=h',toks:=tk }) e cc dd hno #[.str #[[c].toArray],H,I1,#[u,IO],#[IO,c,hcx,IO],st',λb hb=>(hf b hb).1]]
 done:=by
  intro X hP hw hK hc i pins s σ H E I hf st hg;subst hP hw hK;obtain⟨f0,f1,f2,f3,f4,f5⟩:=hf it (by simp);have hx:x.cps[i]?=Id:=Ky.getElem?_eq_none hg;rcases hty with e|e
  .rw[e] at st
   exact wpAny_pyNext_ascii_end (I.ok.hd hc) st hx λh' eb=>#[IO,I.turned (t':=s.toks) (λb o hb e=>eb b o hb e) f0 f1 f3 f4 f5]
  .rw[e] at st
   exact wpAny_pyNext_wide_end (I.ok.hd hc) st hx λh' eb=>#[IO,I.turned (t':=s.toks) (λb o hb e=>eb b o hb e) f0 f1 f3 f4 f5]
 self:=λA i s Q E st h=>by
  rcases hty with e|e
  .rw[e] at st;exact wpAny_pyIter_striter_ascii st h
  .rw[e] at st;exact wpAny_pyIter_striter_wide st h
def ajw (te:TE):TI:=λσ H R=>te σ H λv H1=> ∃x,v= .str x/\R (Its x) H1
theorem Z5 {X:Cx}{tg e:IY}{te:TE}(he:PE X e te):PI X tg e (ajw te):=by
 intro pins s σ H R I h;refine cG (he pins s σ H _ I h) λv s1 ⟨y,H1,I1,r1,x,ex,q⟩=>?_;subst ex;obtain⟨t,rfl⟩:=r1;cases ha:x.cps.all (· <128)
 .exact wpAny_pyIter_wide ha (DX (tk:=s1.toks) I1 _ (vo _ x t "str_iterator" (.inr IO)) #[_,Io _ IO,IO,IO] q)
 .exact wpAny_pyIter_ascii ha (DX (tk:=s1.toks) I1 _ (vo _ x t "str_ascii_iterator" (.inl IO)) #[_,Io _ IO,IO,IO] q)
theorem iE {α β:Type}{G:α->β->Prop}{l₁:Gm α}{l₂:Gm β}(h:Paired G l₁ l₂): ∀ {i:GJ}{a:α},l₁[i]?=GM a-> ∃b,l₂[i]?=GM b/\G a b:=by
 induction h with
 |nil=>intro i a e;simp at e
 | @cons a b l₁ l₂ r t ih=>
  intro i a' e;cases i with
  |zero=>
   simp only[Gm.getElem?_cons_zero,GF.some.injEq] at e;subst e;exact#[b,IO,r]
  |succ j=>
   simp only[RZ] at e ⊢;exact ih e
theorem Ar:Mz "zip"=GM (.type "zip"):=by decide+kernel
def Xt (K:Gu) (a b:Gx):It:=
 #[λi H=> ∃(xs ys:Gm V) (x y:V),cK K H a xs/\cK K H b ys/\xs[i]?=GM x/\ys[i]?=GM y,
  λi H v H'=> ∃T x y,v= .ref T/\H T=Id/\H'=bf H T (.tup [x,y])/\(∀xs,cK K H a xs->xs[i]?=GM x)/\ ∀ys,cK K H b ys->ys[i]?=GM y,
  λi H=> ∃xs ys:Gm V,cK K H a xs/\cK K H b ys/\(xs.length<=i\/ys.length<=i)]
theorem Dd {P:Hm}{w:HS}{K:Gu}{elts:Gm IY}{kk:GJ}{UA:Pos}{a b z TI TO i1 i2:Gx}(D:ZipApart z TI TO i1 i2 a b):
  Ef P w K (.Tuple elts kk UA) (Xt K a b) [z,TI,TO,i1,i2] z (λi h=>IsZip h z TI TO .none/\IsPair h TI (.ref i1) (.ref i2)/\(∃x y,IsPair h TO x y)/\h.IsListIter i1 a i/\h.IsListIter i2 b i) where
 mem:=by simp
 obj:=λi h st c hc=>by
  obtain⟨hz,VF,⟨x,y,V0⟩,⟨o1,e1,_,d1⟩,⟨o2,e2,_,d2⟩⟩:=st;have e':c=z\/c=TI\/c=TO\/c=i1\/c=i2:=by simpa using hc
  rcases e' with q|q|q|q|q
  .rw[q];exact#[_,hz,λv q=>nomatch q]
  .rw[q];exact#[_,VF,λv q=>nomatch q]
  .rw[q];exact#[_,V0,λv q=>nomatch q]
  .rw[q];exact#[o1,e1,λv q=>by rw[d1] at q;cases q]
  .rw[q];exact#[o2,e2,λv q=>by rw[d2] at q;cases q]
 keep:=λi h h' st k=>by
  obtain⟨hz,VF,⟨x,y,V0⟩,h1,h2⟩:=st;exact#[k z (by simp) _ hz,k TI (by simp) _ VF,#[x,y,k TO (by simp) _ V0],h1.at λo q=>k i1 (by simp) o q,h2.at λo q=>k i2 (by simp) o q]
 item:=by
  intro X hP hw hK hc i pins s σ H E I hf st hg;subst hP hw hK;obtain⟨hz,VF,⟨x0,y0,V0⟩,h1,h2⟩:=st;obtain⟨xs,ys,x,y,hqx,hqy,hx,hy⟩:=hg;obtain⟨Ji,rv,p,_⟩:=I.list hqx;obtain⟨QW,rv2,p2,_⟩:=I.list hqy;obtain⟨u,hu,ru⟩:=rv.get hx;obtain⟨u2,hu2,ru2⟩:=rv2.get hy;have hzl:z<s.heap.objs.size:=Hg hz;refine wpAny_pyNext_zip_item D hz VF V0 h1 h2 p.isList p2.isList (x:=u) (y:=u2) (by simpa using hu) (by simpa using hu2) λh' z' TO' h1' h2' hT hsz hk=>?_;refine#[_,IO,wpAny_letOwnedTupleGo_zip (s:= { s with heap:=h' }) z' λh'' z'' sb=>?_];have hT2:h''.get? s.heap.objs.size=GM { cls:= .type "tuple",data:= .seq [u,u2].toArray } :=(sb.2 _ (Qv hzl)).trans hT;have new:cJ X.prog X.w (bf H s.heap.objs.size (.tup [x,y])) h'' s.heap.objs.size (.tup [x,y]):=
   #[by show 2<=GV;decide,[u,u2], .cons ru (.cons ru2 .nil),#[_,hT2,IO,_,IO]]
  have I1:aP X pins σ (bf H s.heap.objs.size (.tup [x,y])) { s with heap:=h'' } :=
   I.UD (t':=s.toks) (ch:=[z,TI,TO,i1,i2]) (λc o hb q=>(sb.2 c (λq'=>hb (by simp [q']))).trans (hk c o (λq'=>hb (by simp [q'])) (λq'=>hb (by simp [q'])) (λq'=>hb (by simp [q'])) (λq'=>hb (by simp [q'])) q)) hf (GU _) new
  refine#[.ref s.heap.objs.size,_,I1,IO,#[_,x,y,IO,I.Jy.fresh (GU _),IO,λl hl=>by rw[I.QV hl hqx];exact hx,λl hl=>by rw[I.QV hl hqy];exact hy],#[z'',?_,#[u,u2,?_],?_,?_],λc hcm=>?_]
  .exact(sb.2 _ D.TIz).trans (hk _ _ D.TIz D.TITO D.TIi1 D.TIi2 VF)
  .exact(sb.2 _ D.TOz).trans TO'
  .exact h1'.at λo q=>(sb.2 _ D.i1z).trans q
  .exact h2'.at λo q=>(sb.2 _ D.i2z).trans q
  .have RT:c<s.heap.objs.size:=by
    have e':c=z\/c=TI\/c=TO\/c=i1\/c=i2:=by simpa using hcm
    rcases e' with q|q|q|q|q
    .rw[q];exact hzl
    .rw[q];exact Hg VF
    .rw[q];exact Hg V0
    .rw[q];obtain⟨_,e1,_⟩:=h1;exact Hg e1
    .rw[q];obtain⟨_,e2,_⟩:=h2;exact Hg e2
   rw[af (Ih RT)];exact(hf c hcm).1
 done:=by
  intro X hP hw hK hc i pins s σ H E I hf st hg;subst hP hw hK;obtain⟨hz,VF,⟨x0,y0,V0⟩,h1,h2⟩:=st;obtain⟨xs,ys,hqx,hqy,ajx⟩:=hg;obtain⟨Ji,rv,p,_⟩:=I.list hqx;obtain⟨QW,rv2,p2,_⟩:=I.list hqy;have l1:=rv.length;have l2:=rv2.length;have he:Ji.toArray[i]?=Id\/QW.toArray[i]?=Id:=by
   rcases ajx with q|q
   .exact .inl (by simp;lia)
   .exact .inr (by simp;lia)
  exact wpAny_pyNext_zip_end (I.ok.hd hc) D hz VF V0 h1 h2 p.isList p2.isList he λh' hk=>#[IO,I.WG (t':=s.toks) (ch:=[z,TI,TO,i1,i2]) (λc o hb q=>
   hk c o (λq'=>hb (by simp [q'])) (λq'=>hb (by simp [q'])) (λq'=>hb (by simp [q'])) (λq'=>hb (by simp [q'])) q) hf]
 self:=λA i s Q E st h=>wpAny_pyIter_zip st.1 h
def aeM (K:Gu) (ta:TA):TI:=λσ H R=>ta σ H λvs H1=> ∃a b xs ys,vs=[.ref a, .ref b]/\cK K H1 a xs/\cK K H1 b ys/\R (Xt K a b) H1
theorem Z6 {X:Cx}{e e2:IY}{ta:TA}{p pos UA:Pos}(hg:Gl X "zip") (hm:X.mg "zip"=Id) (ha:PA X [e,e2] ta)
  (hs:Hb [e,e2] X.env=(IN,eval e X.env)::Hb [e2] X.env:=by rfl) (MS:(J6 pos (Hb [e2] X.env)).any (·.1)=IN:=by rfl):
  PI X (.Tuple elts kk UA) (.Call (.Name "zip" p) [e,e2] [] pos) (aeM X.K ta):=by
 intro pins s σ H R I h;refine Call_ (rP I hg hm Ar (Pw (cG (ha pos pins s σ H _ I h) λus s1 ⟨vs,H1,I1,r1,q1⟩=>?_) hs MS));obtain⟨a,b,xs,ys,ex,hqx,hqy,q⟩:=q1;subst ex;cases r1 with
 |cons r rr=>
  cases rr with
  |cons r' rr=>
   cases rr;cases r;cases r';obtain⟨Ji,rv,p1,_⟩:=I1.list hqx;obtain⟨QW,rv2,p2,_⟩:=I1.list hqy;have la:a<s1.heap.objs.size:=p1.lt;have lb:b<s1.heap.objs.size:=p2.lt;refine call_zip_2 p1.isList p2.isList λh' hz VF V0 h1 h2 hsz hk=>wpAny_pyIter_zip hz ?_;have I2:aP X pins σ H1 { s1 with heap:=h' } :=I1.kept (t':=s1.toks) hk;refine#[s1.heap.objs.size+4,[s1.heap.objs.size+4,s1.heap.objs.size+2,s1.heap.objs.size+3,s1.heap.objs.size,s1.heap.objs.size+1],_,_,H1,IO,I2,Dd (PySem.W.ktu_apart s1.heap.objs.size a b la lb),#[hz,VF,#[_,_,V0],h1,h2],λc hcm=>?_,q];have e':c=s1.heap.objs.size+4\/c=s1.heap.objs.size+2\/c=s1.heap.objs.size+3\/c=s1.heap.objs.size\/c=s1.heap.objs.size+1:=by simpa using hcm
   have hle:s1.heap.objs.size<=c:=by
    rcases e' with z|z|z|z|z
    .rw[z];exact J5 _ _
    .rw[z];exact J5 _ _
    .rw[z];exact J5 _ _
    .rw[z];exact GU _
    .rw[z];exact J5 _ _
   exact I1.WD hle (I1.Jy.fresh hle)
end L2
namespace TL
open PySem PySem.Builtin PySem.Builtin.Str PySem.StrLaws
abbrev tl (x:G0):Gm GJ:=x.cps.toList
theorem VG {x y:G0}(h:tl x=tl y):x=y:=G0.ext' (Vh.mp h)
theorem MX (x y:G0):tl (x++y)=tl x++tl y:=by
 show(x++y).cps.toList=_
 rw[G0.cps_append,TV]
def Sw (S:Gm GJ):Gm (Gm GJ)->Gm GJ
 |[]=>[]
 |[p]=>p
 |p::q::r=>p++(S++Sw S (q::r))
theorem Ud (y:G0): ∀parts:Gm G0,tl (Qx y parts)=Sw (tl y) (parts.map tl)
 |[]=>rfl
 |[_]=>rfl
 |x::z::r=>by
  show tl (x++y++Qx y (z::r))=tl x++(tl y++Sw (tl y) ((z::r).map tl))
  rw[MX,MX,Ud y (z::r),Hf]
theorem join_eq (y:G0) (parts:Gm G0):Ut y parts=Qx y parts:=glued_eq_join y parts
end TL
namespace L2
open PySem PySem.Spec PyProof.Rows
theorem iJ: ∀ {ys:Gm G0}{us:Gm Gy},bH (ys.map V.str) us->StrsAre us ys
 |[],_, .nil=> .nil
 |y::ys,_, .cons r t=>by
  obtain⟨k,rfl⟩:=r;exact .cons y k (iJ t)
section
variable {X:Cx}
theorem Ge:MtR X "str.join" (λx xs H Q=> ∃a p,∃ys:Gm G0,x= .str a/\xs=[.ref p]/\(cK X.K H p (ys.map V.str)\/pV X.K H p (ys.map V.str))/\
  (ys.map (·.length)).sum+ys.length*a.length<=16777216/\Q (.str (Ut a ys)) H):=by
 intro pins s σ H x xs v us Q I rx rs h;obtain⟨a,p,ys,rfl,rfl,hp,hz,h⟩:=h;obtain⟨t,rfl⟩:=rx;cases rs with
 |cons r1 rs=>
  cases rs;cases r1;rcases hp with hp|hp
  .obtain⟨Ji,r,⟨o,n,ho,hc,_,hd⟩,_⟩:=I.list hp
   exact PyProof.Rows.join_list (items:=Ji.toArray) #[o,ho,hc,n,hd] (by rw[Uj];exact iJ r) hz λt' k=>#[.str _,H,I.tok k,#[t',IO],h]
  .obtain⟨Ji,r,ht,_⟩:=I.tuple hp
   exact PyProof.Rows.join_tuple (items:=Ji.toArray) ht (by rw[Uj];exact iJ r) hz λt' k=>#[.str _,H,I.tok k,#[t',IO],h]
end
section
variable {X:Cx}{o e:IY}{to te:TE}
def tM1 (r:V->Gm V->Hp->VK->Prop) (to te:TE):TE:=λσ H Q=>to σ H λx H1=>(∃a,x= .str a)/\te σ H1 λy H2=>r x [y] H2 Q
theorem aeN {id:String}{name:G0}{L8 pos:Pos}{r:V->Gm V->Hp->VK->Prop}(slot:Slot "str" name id) (ty:typeOf (.builtin id)=Hz (.type "method_descriptor")) (rule:MtR X id r) (ho:PE X o to) (he:PE X e te)
  (hs:Hb [e] X.env=[(IN,eval e X.env)]:=by rfl) (Sr:JK o name X.env (eval o X.env)=eval o X.env:=by rfl) (Ss:(L8.endLine == pos.line)=Ix:=by rfl):
  PE X (.Call (.Attribute o name L8) [e] [] pos) (tM1 r to te):=by
 intro pins s σ H Q I h;refine PySem.Call_method1 Sr hs Ss (cG (ho pins s σ H _ I h) λv s1 ⟨x,H1,I1,r1,q1⟩=>?_);obtain⟨⟨a,rfl⟩,q1⟩:=q1;obtain⟨t,rfl⟩:=_root_.id r1;refine#["str",_,F.plainAttrs_str,slot,ty,Yu _ _ _,(λ_ e=>nomatch e),Oj IO (OY (Nf ?_))]
 exact cG (he pins s1 σ H1 _ I1 q1) λu s2 ⟨y,H2,I2,r2,q2⟩=>NI (rule pins s2 σ H2 _ [y] _ [u] Q I2 r1 (.cons r2 .nil) q2)
theorem yy {L8 pos:Pos}(ho:PE X o to) (he:PE X e te) (hs:Hb [e] X.env=[(IN,eval e X.env)]:=by rfl) (Sr:JK o "join" X.env (eval o X.env)=eval o X.env:=by rfl) (Ss:(L8.endLine == pos.line)=Ix:=by rfl):
  PE X (.Call (.Attribute o "join" L8) [e] [] pos) (tM1 (λx xs H Q=> ∃a p,∃ys:Gm G0,x= .str a/\xs=[.ref p]/\(cK X.K H p (ys.map V.str)\/pV X.K H p (ys.map V.str))/\
   (ys.map (·.length)).sum+ys.length*a.length<=16777216/\Q (.str (Ut a ys)) H) to te):=
 aeN F.slot_str_join F.type_str_join Ge ho he hs Sr Ss
end
abbrev E0:XK:=λ_ _ _=>False
theorem aC {X:Cx} :eJ nF X E0:=λ_ _ _ _ _ _ _ h=>h.elim
section
variable {P:Hm}{w:HS}{K:Gu}{mg:G0->GF Gy}{base:Ij}
theorem sN.ok {x IW:G0}{st:Stmt}{f:Gx}{fd:HX}{N ps:Gm G0}{k:GJ}{sp:Sp}(F:sN K x IW st f fd) (S:ax N ps (ah st)) (len: ∀vs H Q E,sp vs H Q E->vs.length=ps.length)
  (K6: ∀(IB:Gy) (A:IA) (outer:Gm Env) (s:GC) (H:Hp) (vs:Gm V) (Q:VK) (E:XK),cy k (A.deeper (Lc IW (ah st) s.heap.objs.size f IB))->sp vs H Q E->
   Bd (gW nF P w K mg base N IW (ah st) f IB A outer s H E).nox (bq st) { nx:=λ_ H'=>Q .Kk H',rt:=Q } (start N vs) H):b8 P w K mg base nF (k+1) f fd ps sp:=by
 obtain⟨oc,od,kV,doc,pm,an,IB,ct,VT,rfl,lk,Rx⟩:=F.ex;refine Xq lk Rx S len λA outer s H vs Q E hr Tr=>?_;obtain⟨t,h,q⟩:=K6 IB A outer s H vs Q E hr Tr;exact#[t,h.nox,q]
end
theorem gS {A:IA}{k:GJ}(hr:cy k A):A.units+1<P4:=HE (Pu (by decide:1<=64) _) hr.units
section
variable {X:Cx}
theorem pv (i:GJ) {x:G0}{pos:Pos}(hN:X.N[i]?=GM x:=by rfl) (hv:tq X.env.scope x:=by first|exact HD rfl|exact RQ (HD IO)|exact RQ (RQ IO)) (hd:(x == ("__debug__":G0))=IN:=by decide)
  (Rx:(x == ("__classdict__":G0))=IN:=by decide):PE X (.Name x pos) (d7 i):=iB hN hv hd Rx
theorem AA:gB X (.builtin "len") (λxs H Q=> ∃a Iw,xs=[V.ref a]/\H a=GM (.dK Iw)/\Q (.int Iw.length) H):=by
 intro pins s σ H xs us Q I r h;obtain⟨a,Iw,rfl,ha,q⟩:=h;obtain⟨u,rfl,ru⟩:=kD r;cases ru;exact aeJ I (.inl ha) λt s' I'=>#[.int Iw.length,H,I',#[t,IO],q]
end
theorem cQ {A B:Prop}(h:B):if IN=Ix then A else B:=by
 rw[GB Gn];exact h
theorem dR {A B:Prop}(h:A):if Ix=Ix then A else B:=by
 rw[GD IO];exact h
def aI (H H':Hp):Prop:= ∀b o,H b=GM o->H' b=GM o
theorem aI.refl (H:Hp):aI H H:=λ_ _ h=>h
theorem aI.trans {H H1 H2:Hp}(a:aI H H1) (b:aI H1 H2):aI H H2:=λc o h=>b c o (a c o h)
theorem aI.seq {K:Gu}{H H':Hp}{a:Gx}{xs:Gm V}(e:aI H H') (h:cK K H a xs):cK K H' a xs:=by
 rcases h with(h|⟨o,h⟩)|h
 .exact .inl (.inl (e _ _ h))
 .exact .inl (.inr #[o,e _ _ h])
 .exact .inr h
end L2
namespace OS
open PySem
structure AM (l:Gm Gx) (ch:Gm Gx) (a:Gx) (oe:Kd) (h h':Ij):Prop where
 keep: ∀b o,b∉l->b∉ch->h.get? b=GM o->h'.get? b=GM o
 slot: ∀b o,b∈l->b∉ch->h.get? b=GM o-> ∃sl,h'.get? b=GM { o with slots:=sl }
 there: ∀b o,h.get? b=GM o-> ∃u,h'.get? b=GM u
 fly: ∃vs T oT ts,h'.get? a=GM #[oe.cls,oe.dict, .fields vs,oe.slots]/\vs[1]?=GM (.ref T)/\h.objs.size<=T/\T≠a/\h'.get? T=GM oT/\oT.data= .fields ts/\ts[3]?=GM .none
theorem sA {o:Kd}{vs:Ky Gy}(hd:o.data= .fields vs) (f:Ky Gy->Ky Gy):o.mapFields f=#[o.cls,o.dict, .fields (f vs),o.slots]:=by
 obtain⟨c,d,dt,sl⟩:=o;cases hd
 rfl
section
variable {E:Gy->GC->Prop}{base:Ij}{a:Gx}{Q:Nl->GC->Prop}
theorem ph {head:Gy}{WH:HH}(RV:A.frames=GM (env::outer)) (hl:s.heap.FunFrames base (env::outer)) (hf:env.frame=GM L)
  (he:s.heap.get? a=GM oe) (hd:oe.data= .fields vs) (hsz:1<vs.size)
  (h: ∀h',AM ((env::outer).filterMap (·.frame)) [a] a oe s.heap h'->Q () { s with heap:=h' }):
  Hl M A (frameOf env>>=λx=>entryPlaceOf L WH>>=λpl=>Rv head x .none (P2 L) .none pl>>=λb=>setField (.ref a) 1 b) (λ_ s'=>Hl M A (Ru (.ref a) Id) Q E s') E s:=by
 have na:a∉(env::outer).filterMap (·.frame):=λhm=>by
  obtain⟨_,o,ho,hn⟩:=hl.mem hm;rw[he] at ho;cases ho;exact hn vs hd
 refine He (wpAny_frameOf_fun RV hl hf λh1 S=>He (wpAny_entryPlaceOf λpl MS=>?_));unfold Rv newFields;refine He (wpAny_newObj_type ?_ (MS.sizeOk5 _ _ _ _ _));have e1:h1.get? a=GM oe:=(S.2.1 a na).trans he;generalize ht:({ cls:= .type "traceback",dict:=Id,data:= .fields ([head, .ref L, .none,P2 L, .none]++(if pl.isEmpty then Jr 6 Ju else pl)).toArray } :Kd)=tb
 have td:tb.data= .fields ([head, .ref L, .none,P2 L, .none]++(if pl.isEmpty then Jr 6 Ju else pl)).toArray:=by rw[<-ht]
 have tf:tb.isFreed=IN:=Mu td
 have e2:(h1.push tb).get? a=GM oe:=GN tb e1;refine Tf e2 hd hsz ?_
 have ne:h1.objs.size≠a:=Qv (Hg e1)
 have hd3:=P1 hd (·.setIfInBounds 1 (Hj h1.objs.size))
 have e3:=Kq (JE (·.setIfInBounds 1 (Hj h1.objs.size))) e2 (Mu hd3)
 have t3:((h1.push tb).update a (JE (·.setIfInBounds 1 (Hj h1.objs.size)))).get? h1.objs.size=GM tb:=
  (IC (h1.push tb) _ (KY ne)).trans (Io h1 tf)
 unfold Ru;refine He (wpAny_field e3 hd3 (x:= .ref h1.objs.size) (by simp [hsz]) ?_);rw[GD (show(Hj h1.objs.size !=Ju)=Ix from by simp)];have sz3:3<([head, .ref L, .none,P2 L, .none]++(if pl.isEmpty then Jr 6 Ju else pl)).toArray.size:=by
  simp only[Hv,Gq,Gp,GK];lia
 refine Tf t3 td sz3 (h _ ?_);have other: ∀b,b≠a->b≠h1.objs.size-> ∀f,(((h1.push tb).update a (JE (·.setIfInBounds 1 (Hj h1.objs.size)))).update h1.objs.size f).get? b=(h1.push tb).get? b:=λb x y f=>by
  rw[IC _ _ (KY y),IC _ _ (KY x)]
 have old: ∀b o,s.heap.get? b=GM o->b≠h1.objs.size:=λb o q=>by
  rw[S.1];exact Ih (Hg q)
 have d4:=P1 td (·.setIfInBounds 3 ((Id:GF Gx).elim Ju λf=>P2 f))
 have t4:=Kq (JE (·.setIfInBounds 3 ((Id:GF Gx).elim Ju λf=>P2 f))) t3 (Mu d4)
 have a4:(((h1.push tb).update a (JE (·.setIfInBounds 1 (Hj h1.objs.size)))).update h1.objs.size (JE (·.setIfInBounds 3 ((Id:GF Gx).elim Ju λf=>P2 f)))).get? a=GM #[oe.cls,oe.dict, .fields (vs.setIfInBounds 1 (Hj h1.objs.size)),oe.slots]:=by
  rw[IC _ _ ne,e3,sA hd]
 refine#[λb o nl nc q=>?_,λb o hb nc q=>?_,λb o q=>?_,?_]
 .rw[other b (λz=>nc (by rw[z];exact GP)) (old b o q)]
  exact GN tb ((S.2.1 b nl).trans q)
 .obtain⟨sl,z⟩:=S.2.2 b o q
  exact#[sl,by rw[other b (λy=>nc (by rw[y];exact GP)) (old b o q)];exact GN tb z]
 .by_cases ba:b=a
  .rw[ba];exact#[_,a4]
  .obtain⟨sl,z⟩:=S.2.2 b o q
   exact#[_,by rw[other b ba (old b o q)];exact GN tb z]
 .refine#[_,h1.objs.size,_,_,a4,by simp [hsz],Oz S.1.symm,ne,t4,d4,?_]
  simp
theorem Av (RV:A.frames=GM (env::outer)) (hl:s.heap.FunFrames base (env::outer)) (hf:env.frame=GM L)
  (he:s.heap.get? a=GM oe) (hd:oe.data= .fields vs) (h1:vs[1]?=GM .none)
  (h: ∀h',AM ((env::outer).filterMap (·.frame)) [a] a oe s.heap h'->Q () { s with heap:=h' }):Hl M A (leaving env (.ref a)) Q E s:=by
 unfold leaving Qh;simp only[hf];refine He (He (wpAny_field he hd h1 ?_));rw[GB [01]];exact ph RV hl hf he hd (Ko.mp h1).1 h
theorem zu (RV:A.frames=GM (env::outer)) (hl:s.heap.FunFrames base (env::outer)) (hf:env.frame=GM L)
  (he:s.heap.get? a=GM oe) (hd:oe.data= .fields vs) (h1:vs[1]?=GM (.ref T)) (ne:T≠a) (hT:s.heap.get? T=GM oT) (Z7:oT.data= .fields ts) (h3:ts[3]?=GM .none)
  (h: ∀h',AM ((env::outer).filterMap (·.frame)) [a,T] a oe s.heap h'->Q () { s with heap:=h' }):Hl M A (Qh (.ref a) env) (λ_ s'=>Hl M A (Ru (.ref a) Id) Q E s') E s:=by
 unfold Qh;simp only[hf];refine He (wpAny_field he hd h1 ?_);rw[GD (show(Hj T !=Ju)=Ix from by simp)];refine He (wpAny_field hT Z7 h3 ?_);rw[GB (show¬((Ju == P2 L)=Ix) from by simp [P2])];refine He (Tf hT Z7 (Ko.mp h3).1 ?_);have other: ∀b,b≠T->(s.heap.update T (JE (·.setIfInBounds 3 Ju))).get? b=s.heap.get? b:=λb hb=>IC _ _ (KY hb)
 have nT:T∉(env::outer).filterMap (·.frame):=λhm=>by
  obtain⟨_,o,ho,hn⟩:=hl.mem hm;rw[hT] at ho;cases ho;exact hn ts Z7
 have sT:=Kq (JE (·.setIfInBounds 3 Ju)) hT (Mu (P1 Z7 _));refine ph (s:= { s with heap:=s.heap.update T (JE (·.setIfInBounds 3 Ju)) }) RV (hl.of_keeps λb o hb hn=>#[o,(other b λq=>by rw[q,hT] at hb;cases hb;exact hn ts Z7).trans hb,IO]) hf ((other a (KY ne)).trans he) hd (Ko.mp h1).1 λh' X=>h h' ?_
 have size:(s.heap.update T (JE (·.setIfInBounds 3 Ju))).objs.size=s.heap.objs.size:=Ij.size_after_update ..;refine#[λb o nl nc q=>X.keep b o nl (λz=>nc (by rcases Hc.mp z with z|z;rw[z];exact GP;cases z)) ((other b λz=>nc (by rw[z];simp)).trans q),
  λb o hb nc q=>X.slot b o hb (λz=>nc (by rcases Hc.mp z with z|z;rw[z];exact GP;cases z)) ((other b λz=>nc (by rw[z];simp)).trans q),λb o q=>?_,?_]
 .by_cases bT:b=T
  .rw[bT];exact X.there T _ sT
  .exact X.there b o ((other b bT).trans q)
 .obtain⟨ws,T',oT',ts',x1,x2,x3,x4⟩:=X.fly
  exact#[ws,T',oT',ts',x1,x2,by rw[<-size];exact x3,x4]
theorem Dv (RV:A.frames=GM (env::outer)) (hl:s.heap.FunFrames base (env::outer)) (hf:env.frame=GM L)
  (he:s.heap.get? a=GM oe) (hd:oe.data= .fields vs) (h1:vs[1]?=GM (.ref T)) (ne:T≠a) (hT:s.heap.get? T=GM oT) (Z7:oT.data= .fields ts) (h3:ts[3]?=GM .none)
  (h: ∀h',AM ((env::outer).filterMap (·.frame)) [a,T] a oe s.heap h'->Q () { s with heap:=h' }):Hl M A (leaving env (.ref a)) Q E s:=by
 unfold leaving;exact He (zu RV hl hf he hd h1 ne hT Z7 h3 h)
end
end OS
namespace OS
open PySem
section
variable {prog:Hm}{w:HS}{A:IA}{E:Gy->GC->Prop}{h:Ij}{g:Ky Q7}{d:Drawn}{t:GJ}{os:OsState}
variable {nm q:G0}{C N:Gx}{bs bm bmB:Gm Gy}{Sx:HH}{sn:Gm G0}{sub:Gm Gy}{ab:HH}{col:GF HH}{dd:GF Gx}{k0 k1 k2 k3 k5:GF Gy}{B K7 OP:String}
def LA (h:Ij) (l:Gm Gy) (name:G0) (y:GF Gy):Prop:= ∀(M:Model) (A:IA) (E:Gy->GC->Prop) (g:Ky Q7) (d:Drawn) (t:GJ) (os:OsState) (Q:GF Gy->GC->Prop),Q y #[h,g,d,t,os]->Hl M A (lookupAlong l name) Q E #[h,g,d,t,os]
theorem LA.of (m:mroOf (.type B)=Hz l) (k:JD (.type B) name=Hz y):LA h l name y:=by
 rw[typeLookup_eq,m] at k;intro M A E g d t os Q q;rw[show lookupAlong l name=Hz y from k];exact HU q
theorem LA.own {a:Gx}{mA:G0->GF Gy}(o:h.get? a=GM #[c0,da, .cls cd,sl]) (n:h.Ns cd.ns mA) (z:mA name=Id) (k:LA h l name y):LA h (.ref a::l) name y:=by
 intro M A E g d t os Q q;rw[lookupAlong_cons];refine He (wpAny_classOwn_cls o n ?_);rw[z];exact k M A E g d t os Q q
theorem iA {mN:G0->GF Gy}{Q:GF Gy->GC->Prop}(hC:h.get? C=GM (JF nm q C N bs bm Sx sn sub ab col dd k0 k1 k2 k3 k5 K7)) (n:h.Ns N mN) (k:mN name=Id->LA h bm name y)
  (q:Q (match mN name with|some v=>GM v|none=>y) #[h,g,d,t,os]):Hl M A (JD (.ref C) name) Q E #[h,g,d,t,os]:=by
 rw[typeLookup_eq];refine He (wpAny_mroOf_exc hC ?_);rw[lookupAlong_cons];refine He (wpAny_classOwn_exc hC n ?_);cases z:mN name with
 |some v=>rw[z] at q;exact HU q
 |none=>rw[z] at q;exact k z M A E g d t os Q q
abbrev dO (C T:Gx):Kd:= { cls:= .ref C,data:= .fields [.ref T, .none, .none, .none, .bool IN, .none].toArray }
abbrev e8 (l:Gm Gy):Kd:= { cls:= .type "tuple",data:= .seq l.toArray }
def zk (x:Gx) (Q:Gy->GC->Prop) (E:Gy->GC->Prop) (r:Result) (s':GC):Prop:=match r with
 | .ok (.ret v)=>v= .none/\Q (.ref x) s'
 | .ok _=>False
 | .error e=>E e s'
structure Up (bm l:Gm Gy) (B:String):Prop where
 b:l.contains (.type B)=Ix
 a:l.contains (.type "AttributeError")=IN
 n:l.contains (.type "NameError")=IN
theorem EI (F:NL B K7 OP bmB) (U:Up bm (.ref C::bm) B) {Q:Nl->GC->Prop}(hC:h.get? C=GM (JF nm q C N bs bm Sx sn sub ab col dd k0 k1 k2 k3 k5 K7)) (z:Q () #[h,g,d,t,os]):Hl M A (Kt K7 #[.ref C::rest,[]]) Q E #[h,g,d,t,os]:=by
 have u:=U.b
 have st:=F.noStar;simp only[F.newRow,F.newSplit,F.newKind,Kt]
 repeat (first|(refine wpAny_isSubtype_exc hC ?_;rw[u])|refine HK hC ?_|refine wpAny_madeBy_exc hC ?_|refine wpAny_staticBase_exc hC ?_|simp only[bne_self_eq_false,J2,Ni]|wp_step)
 exact z
theorem Ec (F:NL B K7 OP bmB) (U:Up bm (.ref C::bm) B) {R:Result->GC->Prop}(hC:h.get? C=GM (JF nm q C N bs bm Sx sn sub ab col dd k0 k1 k2 k3 k5 K7)) (z:R (.ok (.ret (.ref (h.objs.size+1)))) #[(h.push (e8 rest)).push (dO C h.objs.size),g,d,t,os]) (Ue:rest.length<=GV):
  MB (model prog w) A (.builtin K7 #[.ref C::rest,[]]) R #[h,g,d,t,os]:=by
 have ak2:=F.ends
 have u1:=U.b
 have u2:=U.a
 have u3:=U.n;refine codeAny_builtinAt F.entry ?_;unfold Builtin.«BaseException.__new__»;refine wpAt_bind ?_
 show wpAt _ _ _ (stack>>=_) _ _ _
 refine wpAt_bind (wpAt_stack λ_ _=>wpAt_of_wpAny ?_)
 wp_walk
 refine wpAt_of_wpAny ?_;rw[F.owner]
 repeat (first|(with_reducible refine wpAny_isSubtype_exc hC ?_;first|rw[u1]|rw[u2]|rw[u3])|with_reducible refine wpAny_madeHere_exc F.canon hC ?_|with_reducible refine HK hC ?_|wp_step)
 show R _ _
 rw[Jq];exact z
theorem AV (F:NL B K7 OP bmB) (U:Up bm (.ref C::bm) B) {Q:Nl->GC->Prop}
  (hC:h.get? C=GM (JF nm q C N bs bm Sx sn sub ab col dd k0 k1 k2 k3 k5 K7)) (he:h.get? e=GM oe) (ZD:oe.cls= .ref C) (z:Q () #[h,g,d,t,os]):Hl M A (Kt OP #[.ref e::rest,[]]) Q E #[h,g,d,t,os]:=by
 have u:=U.b
 have st:=F.noStar;simp only[F.initRow,F.initSplit,F.initKind,Kt]
 repeat (first|(with_reducible refine wpAny_isSubtype_exc hC ?_;rw[u])|(with_reducible refine HK he ?_;rw[ZD])|with_reducible refine HK hC ?_|wp_step)
 refine wpAny_onRaise ?_;rw[show∀(a b:String) (n:GJ),Bind.check #[.positional,"*",B, .self,[#["args", .varPos,IN]]] a b n (W0 (λx=>x.1) ({ pos:=Hj e::rest } :Args).kw)=Hz () from λ_ _ _=>check_star_args _ _ _ _ _ _];exact HU z
theorem pZ (F:NL B K7 OP bmB) (U:Up bm (.ref C::bm) B) {mN:G0->GF Gy}{Q:Fin->GC->Prop}
  (hC:h.get? C=GM (JF nm q C N bs bm Sx sn sub ab col dd k0 k1 k2 k3 k5 K7)) (hn:h.Ns N mN) (WI:mN "__init__"=GM (.ref fI)) (hI:h.get? fI=GM oI) (hIc:oI.cls= .type "function")
  (hq:MB (model prog w) A (.call (.ref fI) #[.ref (h.objs.size+1)::rest,[]]) (zk (h.objs.size+1) (λv s'=>Q (.done (.ret v)) s') E) #[(h.push (e8 rest)).push (dO C h.objs.size),g,d,t,os])
  (Ue:rest.length<=GV):
  Hl (model prog w) A (Builtin.«type.__call__» #[.ref C::rest,[]]) Q E #[h,g,d,t,os]:=by
 repeat (first|with_reducible refine HK hC ?_|with_reducible refine wpAny_madeBy_exc hC ?_|wp_step)
 refine codeAny_call_builtin_code (UM _ F.quiet) (EI F U hC ?_);refine Ec F U hC ?_ Ue;show Hl _ _ _ _ _ _;have c1:((h.push (e8 rest)).push (dO C h.objs.size)).get? C=GM (JF nm q C N bs bm Sx sn sub ab col dd k0 k1 k2 k3 k5 K7):=GN _ (GN _ hC);have n1:((h.push (e8 rest)).push (dO C h.objs.size)).Ns N mN:=
  let ⟨o,es,ep,e,r⟩:=hn;#[o,es,ep,GN _ (GN _ e),r]
 have i1:((h.push (e8 rest)).push (dO C h.objs.size)).get? fI=GM oI:=GN _ (GN _ hI)
 have e1:((h.push (e8 rest)).push (dO C h.objs.size)).get? (h.objs.size+1)=GM (dO C h.objs.size):=by heap_get
 have hcC:(Hj C::bm).contains (.ref C)=Ix:=by simp
 unfold Yv
 repeat (first|with_reducible refine HK e1 ?_|(with_reducible refine wpAny_isSubtype_exc c1 ?_;rw[hcC])|wp_step)
 show Hl _ _ (JD (.ref C) _) _ _ _
 refine iA (y:=Id) c1 n1 (λz=>by rw[WI] at z;cases z) ?_;rw[WI];refine wpAny_holding ?_;unfold bindSpecial;refine He (He ?_);have hT:(⟨(h.push (e8 rest)).push (dO C h.objs.size),g,d,t,os⟩:GC).TypeIs (.ref fI) "function":=#[_,i1,hIc];refine wpAny_typeOf hT (HU (He (QK (NK hq λr s' z=>?_))));rcases r with e|(v|_|_|_)
 .exact z
 .exact z.elim
 .exact z.elim
 .exact z.elim
 .obtain⟨rfl,z⟩:=z
  exact HU (HU z)
theorem Dj (F:NL B K7 OP bmB) (U:Up bm (.ref C::bm) B) {mN:G0->GF Gy}{R:Result->GC->Prop}
  (hC:h.get? C=GM (JF nm q C N bs bm Sx sn sub ab col dd k0 k1 k2 k3 k5 K7)) (hn:h.Ns N mN) (WI:mN "__init__"=GM (.ref fI)) (hI:h.get? fI=GM oI) (hIc:oI.cls= .type "function")
  (hq:MB (model prog w) (A.under (.builtin "type.__call__" #[.ref C::rest,[]])) (.call (.ref fI) #[.ref (h.objs.size+1)::rest,[]]) (zk (h.objs.size+1) (λv s'=>R (.ok (.ret v)) s') (λe s'=>R (.error e) s')) #[(h.push (e8 rest)).push (dO C h.objs.size),g,d,t,os])
  (Ue:rest.length<=GV):
  MB (model prog w) A (.call (.ref C) #[rest,[]]) R #[h,g,d,t,os]:=by
 have f1:=tc_lookup
 have f2:=tc_bind (.ref C)
 have hT:(⟨h,g,d,t,os⟩:GC).TypeIs (.ref C) "type":=#[_,hC,IO];refine codeAny_of_tree ?_
 show Hl _ _ (callAny (.ref C) _) _ _ _
 repeat (any_goals (first|assumption|with_reducible refine HK hC ?_|wp_step))
 refine#[IO,?_];refine codeAny_call_builtin_at (UM _ [00]) entry_typeCall (wpAny_check_type_call_sub hC (pZ F U hC hn WI hI hIc ?_ Ue));exact hq
theorem zG (F:NL B K7 OP bmB) (U:Up bm (.ref C::bm) B) {R:Result->GC->Prop}
  (hC:h.get? C=GM (JF nm q C N bs bm Sx sn sub ab col dd k0 k1 k2 k3 k5 K7)) (he:h.get? e=GM (dO C T))
  (hq:R (.ok (.ret .none)) #[(h.push (e8 [])).update e (JE (·.setIfInBounds 0 (.ref h.objs.size))),g,d,t,os]):
  MB (model prog w) A (.call (.builtin OP) #[[.ref e],[]]) R #[h,g,d,t,os]:=by
 refine P0 F.init.plain F.initEntry (AV F U hC he IO ?_);unfold Builtin.«BaseException.__init__»
 wp_walk
 exact hq
end
theorem aeO:JD (.type "Exception") "__getattribute__"=Hz (GM (.builtin "BaseException.__getattribute__")):=by rw[Lu,J9];kernel_rfl
theorem aeP:JD (.type "Exception") "__getattr__"=Hz Id:=by rw[Lu,J9];kernel_rfl
theorem zc:Slot "Exception" "__getattribute__" "BaseException.__getattribute__":=
 .of (owner:="BaseException") (n:="__getattribute__") (by rw[Lu,J9];kernel_rfl) [00] [00] [00]
  (by first|exact .inl [00]|exact .inr [00]) (by rw[isSubtype_type];kernel_rfl)
section
open Builtin Builtin.ObjectAttr
variable {prog:Hm}{w:HS}{A:IA}{E:Gy->GC->Prop}{h:Ij}{g:Ky Q7}{d:Drawn}{t:GJ}{os:OsState}
variable {nm q:G0}{C N x:Gx}{bs bm:Gm Gy}{sn:Gm G0}{sub:Gm Gy}{ab:HH}{col:GF HH}{dd:GF Gx}{k0 k1 k2 k3 k5:GF Gy}{K7:String}
 {mN mA:G0->GF Gy}{name:G0}{v:Gy}
theorem zN {Q:Vn->GC->Prop}
  (hC:h.get? C=GM (JF nm q C N bs bm Ix sn sub ab col dd k0 k1 k2 k3 k5 K7)) (hn:h.Ns N mN) (Z8:mN name=Id)
  (hB:LA h bm name Id) (I:h.Inst x C mA) (hv:mA name=GM v) (hq:Q (.done (.ret v)) #[h,g,d,t,os]):
  Hl (model prog w) A (Builtin.«object.__getattribute__» #[[.ref x, .str name tk],[]]) Q E #[h,g,d,t,os]:=by
 obtain⟨o,hx,hc,hnc,hd⟩:=I;rcases hd with⟨_,hmA⟩|⟨dx,WJ,hne,hns⟩
 .rw[hmA name] at hv;cases hv
 unfold Builtin.«object.__getattribute__»
 repeat (first|(with_reducible refine HK hx ?_;rw[hc])|(with_reducible refine iA hC hn (λ_=>hB) ?_;rw[Z8])|wp_step)
 split
 .rename_i c Rx
  exact GW Rx (hnc c)
 unfold instanceDict
 repeat (first|(with_reducible refine HK hx ?_;rw[hc])|with_reducible refine HK hC ?_|wp_step)
 rw[WJ]
 repeat (first|(with_reducible refine wpAny_nsGet hns.ns ?_;rw[hv])|wp_step)
 exact hq
theorem AG (hcB:(Hj C::bm).contains (.type "BaseException")=Ix) {Q:Nl->GC->Prop}(hC:h.get? C=GM (JF nm q C N bs bm Ix sn sub ab col dd k0 k1 k2 k3 k5 K7))
  (hx:h.get? x=GM o) (hc:o.cls= .ref C) (hq:Q () #[h,g,d,t,os]):Hl M A (Kt "BaseException.__getattribute__" #[[.ref x,ja],[]]) Q E #[h,g,d,t,os]:=by
 have hk:builtinKind "BaseException.__getattribute__"=GM .slot:=by decide+kernel
 have Z9:splitId "BaseException.__getattribute__"=GM ("BaseException","__getattribute__"):=by decide+kernel
 have ha:=PySem.F.args_bexc_ga (.ref x) ja;simp only[Kt,hk,Z9];refine He ?_;unfold Yv
 repeat (first|(with_reducible refine HK hx ?_;rw[hc])|(with_reducible refine wpAny_isSubtype_exc hC ?_;rw[hcB])|wp_step)
 exact hq
theorem F6 (hcB:(Hj C::bm).contains (.type "BaseException")=Ix) (l1:LA h bm "__getattribute__" (GM (.builtin "BaseException.__getattribute__"))) (l2:LA h bm "__getattr__" Id) {Q:Gy->GC->Prop}
  (hC:h.get? C=GM (JF nm q C N bs bm Ix sn sub ab col dd k0 k1 k2 k3 k5 K7)) (hn:h.Ns N mN) (hng:mN "__getattribute__"=Id) (hnh:mN "__getattr__"=Id) (Z8:mN name=Id)
  (hB:LA h bm name Id) (I:h.Inst x C mA) (hv:mA name=GM v) (hh:handedOut v=Hz v) (hq:Q v #[h,g,d,t+1,os]):
  Hl (model prog w) A (SQ (.ref x) name expr) Q E #[h,g,d,t,os]:=by
 obtain⟨o,hx,hc,_⟩:=id I;have f3:=zc.bind (.ref x);have hx0:(expr&&onTheHeap (NP "BaseException.__getattribute__"))=IN:=by cases expr<;>rfl
 have hx2:(NP "BaseException.__getattribute__" == NP "object.__getattribute__")=IN:=by decide+kernel
 have hx1:(onTheHeap (Hj C)&&NP "BaseException.__getattribute__" == NP "object.__getattribute__")=IN:=by rw[hx2];rfl
 have hx3:onTheHeap (Hj C)=Ix:=rfl;unfold SQ getAttrBy
 repeat (any_goals (first|assumption|(with_reducible refine HK hx ?_;rw[hc])|(with_reducible refine iA hC hn (λ_=>l1) ?_;rw[hng])|(with_reducible refine iA hC hn (λ_=>l2) ?_;rw[hnh])|wp_step))
 exact P0 zc.plain PySem.F.entry_bexc_ga (AG hcB hC hx hc (zN hC hn Z8 hB I hv (by show Hl _ _ (handedOut v) _ _ _;rw[hh];exact HU hq)))
end
end OS
namespace OS
open PySem
section
open Builtin Builtin.ObjectAttr
variable {prog:Hm}{w:HS}{A:IA}{E:Gy->GC->Prop}{h:Ij}{g:Ky Q7}{d:Drawn}{t:GJ}{os:OsState}
variable {nm q:G0}{C N x R:Gx}{bs bm:Gm Gy}{sn:Gm G0}{sub:Gm Gy}{ab:HH}{col:GF HH}{dd:GF Gx}{k0 k1 k2 k3 k5:GF Gy}{K7:String}
 {mN mA:G0->GF Gy}{name:G0}{v:Gy}{o:Kd}{vs:Ky Gy}{sa owner B:String}
theorem F5 {Q:Nl->GC->Prop}(SF:MY B bm sa owner) (hC:h.get? C=GM (JF nm q C N bs (.ref R::bm) Ix sn sub ab col dd k0 k1 k2 k3 k5 K7)) (hx:h.get? x=GM o) (hc:o.cls= .ref C) (z:Q () #[h,g,d,t,os]):
  Hl M A (Kt sa #[[.ref x,y,v],[]]) Q E #[h,g,d,t,os]:=by
 have u:(Hj C:: .ref R::bm).contains (.type owner)=Ix:=by rw[HP,HP,SF.hasOwner,Qm,Qm]
 have ha:=SF.args (.ref x) y v;simp only[SF.split,SF.kind,Kt];refine He ?_;unfold Yv
 repeat (first|(with_reducible refine wpAny_isSubtype_exc hC ?_;rw[u])|(with_reducible refine HK hx ?_;rw[hc])|wp_step)
 cases hs:Manifest.signature? sa with
 |none=>exact HU z
 |some r=>
  simp only[argsOk,hs] at ha;show Hl M A (WU sa r #[[.ref x,y,v],[]]) Q E _;rw[show WU sa r #[[.ref x,y,v],[]]=Hz () from ha];exact HU z
theorem BL {Q:Vn->GC->Prop}(SF:MY B bm sa owner) (hC:h.get? C=GM (JF nm q C N bs (.ref R::bm) Ix sn sub ab col dd k0 k1 k2 k3 k5 K7)) (hn:h.Ns N mN) (Z8:mN name=Id)
  (hB:LA h (.ref R::bm) name Id) (hx:h.get? x=GM o) (hc:o.cls= .ref C) (hdn:o.dict=Id) (hfd:o.data= .fields vs)
  (hq: ∀h' U8,(∀b ob,b≠x->h.get? b=GM ob->h'.get? b=GM ob)->h'.get? x=GM #[o.cls,GM h.objs.size,o.data,o.slots]->h'.Ns1 h.objs.size (λy=>if y=name then GM v else Id)->
   Q (.done (.ret .none)) #[h',g,d,U8,os]):
  Hl (model prog w) A (Builtin.«object.__setattr__» #[[.ref x, .str name tk,v],[]]) Q E #[h,g,d,t,os]:=by
 have VH:=SF.passes (.ref x);unfold Builtin.«object.__setattr__»
 repeat (first|rw[refuse_eq]|(rw[refuseLoop_ref,refuseLoop_ref,VH])|(with_reducible refine HK hx ?_;rw[hc])|with_reducible refine wpAny_mroOf_exc hC ?_|(with_reducible refine iA hC hn (λ_=>hB) ?_;rw[Z8])|wp_step)
 rw[hdn,GB (by simp [typeHasDict])];split
 .rename_i z
  cases z
 split
 .rename_i c z
  rw[hfd] at z;cases z
 .have x1:(h.push { cls:= .type "dict",data:= .dict [].toArray }).get? x=GM o:=GN _ hx
  have ne:x≠h.objs.size:=Ih (Hg hx);refine He (wpAny_alloc' ?_);refine He (wpAny_update' x1 ?_);refine HU ?_
  have hgd:((h.push { cls:= .type "dict",data:= .dict [].toArray }).update x λo=> { cls:=o.cls,dict:=GM h.objs.size,data:=o.data,slots:=o.slots }).get? h.objs.size
    =GM { cls:= .type "dict",data:= .dict [].toArray } :=
   (Uk _ _ _ _ ne.symm).trans (Ij.get?_push_at IO IO)
  have Xu:((h.push { cls:= .type "dict",data:= .dict [].toArray }).update x λo=> { cls:=o.cls,dict:=GM h.objs.size,data:=o.data,slots:=o.slots }).Ns h.objs.size (λ_=>Id):=
   #[_, [].toArray,_,hgd,IO,λe he=>GW he (by simp),λ_=>rfl]
  show Hl _ _ (storeInDict h.objs.size (.str name tk) name v) _ _ _
  unfold storeInDict newKeyGuard;refine He (HU (He (Vd (Po Xu) λh' hn' hs=>?_)));obtain⟨oD,esD,epD,hoD,hdD,hcD⟩:=hn'.count (Yz name v Within.nil);refine He (Rp hoD (by rw[hdD];exact Rq (GX hcD (by rw[Gp,GK,Ng];lia))) ?_)
  wp_walk
  refine hq h' _ (λb ob hb e=>?_) ?_ hn'
  .exact(hs.2 b (Ih (Hg e))).trans ((Uk _ _ _ _ hb).trans (GN _ e))
  .refine(hs.2 x ne).trans (Kq _ x1 ?_)
   have RV:=(Ij.get?_some_iff.mp hx).2;obtain⟨oc,od,odt,VT⟩:=o;cases odt<;>first|rfl|exact RV
theorem Dr {Q:Vn->GC->Prop}(SF:MY B bm sa owner) (hC:h.get? C=GM (JF nm q C N bs (.ref R::bm) Ix sn sub ab col dd k0 k1 k2 k3 k5 K7)) (hn:h.Ns N mN) (Z8:mN name=Id)
  (hB:LA h (.ref R::bm) name Id) (hx:h.get? x=GM o) (hc:o.cls= .ref C) (WJ:o.dict=GM dx) (hd:h.Ns1 dx mA) (hw:Within mA ns) (hsz:ns.length<=1000)
  (hq: ∀h' U8,(∀b ob,b≠dx->h.get? b=GM ob->h'.get? b=GM ob)->h'.Ns1 dx (λy=>if y=name then GM v else mA y)->Q (.done (.ret .none)) #[h',g,d,U8,os]):
  Hl (model prog w) A (Builtin.«object.__setattr__» #[[.ref x, .str name tk,v],[]]) Q E #[h,g,d,t,os]:=by
 have VH:=SF.passes (.ref x);unfold Builtin.«object.__setattr__»
 repeat (first|rw[refuse_eq]|(rw[refuseLoop_ref,refuseLoop_ref,VH])|(with_reducible refine HK hx ?_;rw[hc])|with_reducible refine wpAny_mroOf_exc hC ?_|(with_reducible refine iA hC hn (λ_=>hB) ?_;rw[Z8])|wp_step)
 rw[WJ];refine HU ?_;show Hl _ _ (storeInDict dx (.str name tk) name v) _ _ _;unfold storeInDict newKeyGuard;refine He (HU (He (Vd hd λh' n' hs=>?_)));obtain⟨o1,es1,ep1,h1,d1,c1⟩:=n'.count (Yz name v hw);refine He (Rp h1 (by rw[d1];exact Rq (GX c1 (by rw[Gp,Ng];lia))) ?_)
 wp_walk
 exact hq h' _ (λb ob hb e=>(hs.2 b hb).trans e) n'
theorem yE {Q:Nl->GC->Prop}(SF:MY B bm sa owner) (hC:h.get? C=GM (JF nm q C N bs (.ref R::bm) Ix sn sub ab col dd k0 k1 k2 k3 k5 K7)) (hn:h.Ns N mN) (hns:mN "__setattr__"=Id) (l:LA h (.ref R::bm) "__setattr__" (GM (.builtin sa))) (hx:h.get? x=GM o) (hc:o.cls= .ref C)
  (hq: ∀tk t,Hl (model prog w) A.in1 (Builtin.«object.__setattr__» #[[.ref x, .str name tk,v],[]]) (λf s'=>f= .done (.ret .none)/\Q () s') (λ_ _=>False) #[h,g,d,t,os]):
  Hl (model prog w) A (SU (.ref x) name v) Q E #[h,g,d,t,os]:=by
 have f3:=SF.slot.bind (.ref x);unfold SU callSpecial? specialOf
 repeat (any_goals (first|assumption|(with_reducible refine HK hx ?_;rw[hc])|(with_reducible refine iA hC hn (λ_=>l) ?_;rw[hns])|wp_step))
 refine P0 SF.slot.plain SF.entry (F5 SF hC hx hc (JM (hq _ _) (λf s' z=>?_) λ_ _ z=>z.elim));obtain⟨rfl,z⟩:=z
 repeat (any_goals (first|assumption|wp_step))
end
end OS
namespace OS
open PySem PySem.Spec L2
open PyProof.Rows hiding St
def EK (H:Hp) (ch:Gm Gx):Hp:=λb=>if b∈ch then Id else H b
theorem fQ {H:Hp}(h:b∉ch):EK H ch b=H b:=GB h
theorem oz {H:Hp}(h:b∈ch):EK H ch b=Id:=GD h
theorem DG {H:Hp}(h: ∀b∈ch,H b=Id):EK H ch=H:=by
 funext b
 by_cases hb:b∈ch
 .rw[oz hb,h b hb]
 .exact fQ hb
theorem FS {H:Hp}{a:Gx}(I:aP X pins σ H s) (hex:X.ex=[])
  (L:AM (tm X.stack) ch a oe s.heap h') (TH: ∀b∈ch,X.P6.heap.objs.size<=b) (htr: ∀b∈ch,H b=Id\/ ∃φ,H b=GM (.ext φ)):
  Un X.fs [] X.H_0 (EK H ch) X.P6.heap h'/\iU X.prog X.w (EK H ch) h':=by
 have old: ∀b o,X.P6.heap.get? b=GM o->b∉ch:=λb o e hb=>GW (Hh (Hg e) (TH b hb)) (Jl _)
 have nex: ∀b,b∉X.ex:=λb hb=>by rw[hex] at hb;exact nomatch hb
 have nst: ∀b o,X.P6.heap.get? b=GM o->b∉X.fs->b∉tm X.stack:=λb o e hb hs=>by
  rcases Hc.mp (I.RG b hs) with z|z
  .rw[z] at e
   exact GW (Hh (Hg e) I.ok.above) (Jl _)
  .exact hb z
 have Bh: ∀b u,H b=GM u->(∀φ,u≠ .ext φ)->b∉ch:=λb u e ne hb=>by
  rcases htr b hb with z|⟨φ,z⟩
  .rw[e] at z;cases z
  .rw[e] at z;exact ne φ (G7 z)
 have fin: ∀b,b∈X.fs->b∈tm X.stack:=λb hb=>by
  rcases I.ok.Xd with e|⟨e,hf⟩
  .rw[e];exact hb
  .rw[e];unfold tm;rw[LI,hf];exact G8 _ hb
 refine#[#[λb o e n hb _=>?_,λb o e n hb _=>?_,λb o e n _=>?_,λb o e _=>?_,λb xs e=>?_,λb o u e=>?_,λb ps e=>?_],λx u q=>?_]
 .exact L.keep b o (nst b o e hb) (old b o e) (I.base.keep b o e n hb (nex b))
 .obtain⟨sl,z⟩:=I.base.slot b o e n hb (nex b)
  obtain⟨sl',z'⟩:=L.slot b _ (fin b hb) (old b o e) z;exact#[sl',z']
 .rw[fQ (old b o e)]
  exact I.base.free b o e n (nex b)
 .obtain⟨o',z⟩:=I.base.there b o e (nex b)
  exact L.there b o' z
 .have z:=I.base.Q9 b xs e
  rw[fQ (Bh b _ z λφ y=>nomatch y)]
  exact z
 .have z:=I.base.QN b o u e
  rw[fQ (Bh b _ z λφ y=>nomatch y)]
  exact z
 .obtain⟨more,z⟩:=I.base.Ra b ps e
  exact#[more,by rw[fQ (Bh b _ z λφ y=>nomatch y)];exact z]
 .have hx:x∉ch:=λz=>by rw[oz z] at q;cases q
  rw[fQ hx] at q;refine(I.Jy x u q).QU (λb v hb e=>?_) (λb e=>?_) λb xs e=>?_
  .refine L.keep b v (λz=>?_) (λz=>?_) e
   .have y:=I.QF b z
    rcases hb with rfl|hb
    .rw[q] at y;cases y
    .rw[hb] at y;cases y
   .rcases hb with rfl|hb
    .exact hx z
    .exact Bh b _ hb (λφ y=>nomatch y) z
  .rw[fQ (Bh b _ e λφ y=>nomatch y)];exact e
  .rw[fQ (Bh b _ e λφ y=>nomatch y)];exact e
def aeQ (C d a:Gx) (n:GJ) (H:Hp) (h:Ij):Prop:= ∃oe vs T oT ts,h.get? a=GM oe/\oe.cls= .ref C/\oe.dict=GM d/\oe.data= .fields vs/\vs[1]?=GM (.ref T)/\n<=T/\T≠a/\H T=Id/\
 h.get? T=GM oT/\oT.data= .fields ts/\ts[3]?=GM .none
def jF (P:Hm) (w:HS):rl:=λouter H s E e s'=> ∃(C a d:Gx) (H':Hp),e= .ref a/\s'.os=s.os/\Qk s'.gens/\Un (tm outer) [] H H' s.heap s'.heap/\iU P w H' s'.heap/\
 s.heap.objs.size<=a/\H' a=Id/\aeQ C d a s.heap.objs.size H' s'.heap/\E (.ref C) (GM d) H'
section
variable {P:Hm}{w:HS}{K:Gu}{mg:G0->GF Gy}{base:Ij}{H0:Hp}{E:XK}{CX:rl}
theorem vP {H:Hp}{a d:Gx}(I:aP (gW CX P w K mg base N IW scope f cd A outer s0 H0 E) pins σ H s)
  (L:AM (tm (Lc IW scope s0.heap.objs.size f cd::outer)) ch a oe s.heap h') (TH: ∀b∈ch,s0.heap.objs.size<=b) (htr: ∀b∈ch,H b=Id\/ ∃φ,H b=GM (.ext φ)) (ha:a∈ch)
  (hc:oe.cls= .ref C) (hd:oe.dict=GM d) (hE:E (.ref C) (GM d) (EK H ch)):jF P w outer H0 s0 E (.ref a) { s with heap:=h' } :=by
 obtain⟨u,k⟩:=FS I IO L TH htr;obtain⟨vs,T,oT,ts,x1,x2,x3,x4,x5,x6,x7⟩:=L.fly;refine#[C,a,d,EK H ch,IO,I.os,I.bare,u,k,TH a ha,oz ha,#[_,vs,T,oT,ts,x1,hc,hd,IO,x2,GX I.sz x3,x4,?_,x5,x6,x7],hE];have z:=I.Jy.fresh x3;by_cases hT:T∈ch
 .exact oz hT
 .rw[fQ hT];exact z
theorem bN:eJ (jF P w) (gW (jF P w) P w K mg base N IW scope f cd A outer s0 H0 E) E:=by
 intro pins σ H s e s' I h;obtain⟨C,a,d,H',rfl,os,bare,un,Jy,za,ha,⟨oe,vs,T,oT,ts,x1,x2,x3,x4,x5,x6,x7,x8,x9,x10,x11⟩,hE⟩:=h;have J:=I.VE (ch:=[]) os un Jy bare (λb z=>nomatch z)
 have sz:=I.sz
 have ck: ∀b∈[a,T],H' b=Id:=λb hb=>by
  rcases Hc.mp hb with z|z
  .rw[z];exact ha
  .rw[Ht.mp z];exact x8
 refine Dv (base:=base) J.ok.frames J.stack IO x1 x4 x5 x7 x9 x10 x11 λh' L=>?_;refine vP J L (λb hb=>?_) (λb hb=> .inl (ck b hb)) GP x2 x3 (by rw[DG ck];exact hE);rcases Hc.mp hb with z|z
 .rw[z];exact GX sz za
 .rw[Ht.mp z];exact GX sz x6
end
theorem kr {P:Hm}{w:HS}{K:Gu}{mg:G0->GF Gy}{base:Ij}{x IW:G0}{st:Stmt}{f:Gx}{fd:HX}{N ps:Gm G0}{k:GJ}{sp:Sp}(F:sN K x IW st f fd)
  (S:ax N ps (ah st)) (len: ∀vs H Q E,sp vs H Q E->vs.length=ps.length)
  (K6: ∀(IB:Gy) (A:IA) (outer:Gm Env) (s:GC) (H:Hp) (vs:Gm V) (Q:VK) (E:XK),cy k (A.deeper (Lc IW (ah st) s.heap.objs.size f IB))->sp vs H Q E->
   Bd (gW (jF P w) P w K mg base N IW (ah st) f IB A outer s H E) (bq st) { nx:=λ_ H'=>Q .Kk H',rt:=Q } (start N vs) H):b8 P w K mg base (jF P w) (k+1) f fd ps sp:=by
 obtain⟨oc,od,kV,doc,pm,an,IB,ct,VT,rfl,lk,Rx⟩:=F.ex;exact Xq lk Rx S len λA outer s H vs Q E hr Tr=>K6 IB A outer s H vs Q E hr Tr
theorem aeR {R C:Gx} :Up (.ref R::dw) (.ref C:: .ref R::dw) "Exception":=
 #[by rw[HP,HP];rfl,by rw[HP,HP];rfl,by rw[HP,HP];rfl]
theorem CF {R C:Gx} :(Hj C:: .ref R::dw).contains (.type "BaseException")=Ix:=by rw[HP,HP];rfl
theorem qS {E:Gy->GC->Prop}{Q:Flow->GC->Prop}(hh:A.handled=Id)
  (H:Hl M A y (λv s1=> ∃e oe vs R C fI,v= .ref e/\XAt s1.heap R C fI/\s1.heap.get? e=GM oe/\oe.cls= .ref C/\oe.data= .fields vs/\vs[1]?=GM .none/\E (.ref e) s1) E s):
  Hl M A (raiseStmt env (GM y) Id) Q E s:=by
 unfold raiseStmt;refine He (JM H (λv s1 h1=>?_) λ_ _ x=>x);obtain⟨e,oe,vs,R,C,fI,rfl,⟨Nn,mN,oI,NR,mR,⟨nm,q,bs,sn,sub,ab,col,dd,k0,k1,k2,k3,k5,hC⟩,_⟩,he,hc,hd,h1,hE⟩:=h1;have hcB:=CF (R:=R) (C:=C);obtain⟨hp,g,d,tk,os⟩:=s1
 repeat (first|(with_reducible refine HK he ?_;rw[hc])|with_reducible refine HK hC ?_|(with_reducible refine wpAny_isSubtype_exc hC ?_;rw[hcB])|with_reducible refine wpAny_field he hd h1 ?_|wp_step)
 exact wpAny_raiseNew_none hh hE
def sI (C p:Gx):HO:= .ext λh=> ∃T,h.get? p=GM (dO C T)
def k7 (C d p:Gx):HO:= .ext λh=> ∃o vs,h.get? p=GM o/\o.cls= .ref C/\o.dict=GM d/\o.data= .fields vs/\vs[1]?=GM .none
def c4 (d:Gx) (fs:Gm (G0×V)):HO:= .ext λh=> ∃mA,h.Ns1 d mA/\(∀f,gD (fs.lookup f) (mA f))/\Om mA (fs.map (·.1))
def j5 (C:Gx) (g:Gm V->Gm (G0×V)->Prop):Sp:=λvs H Q _=> ∃(p:Gx) (us:Gm V) (fs:Gm (G0×V)),vs= .ref p::us/\g us fs/\H p=GM (sI C p)/\
 ∀d,H d=Id->Q .Kk (bf (bf H d (c4 d fs)) p (k7 C d p))
def CS (C:Gx) (g:Gm V->Gm (G0×V)->Prop) (E:XK) (t:TA):TS:=λ_ σ H=>t σ H λvs H1=>vs.length<=9/\ ∃fs,g vs fs/\ ∀d,H1 d=Id->E (.ref C) (GM d) (bf H1 d (c4 d fs))
def sG (X:Cx) (E:XK):Prop:= ∀(pins:Gm (Gx×Kd)) (σ:St) (H:Hp) (s:GC) (C d a:Gx),aP X pins σ H s->H a=GM (k7 C d a)->X.P6.heap.objs.size<=a->E (.ref C) (GM d) (EK H [a])->X.xe (.ref a) s
theorem o9 {P:Hm}{w:HS}{K:Gu}{mg:G0->GF Gy}{base:Ij}{H0:Hp}{E:XK} :sG (gW (jF P w) P w K mg base N IW scope f cd A outer s0 H0 E) E:=by
 intro pins σ H s C d a I h z hE;obtain⟨⟨o,ws,x1,x2,x3,x4,x5⟩,_⟩:=I.Jy _ _ h;refine Av (base:=base) I.ok.frames I.stack IO x1 x4 x5 λh' L=>?_;refine vP I L (λb hb=>?_) (λb hb=>?_) GP x2 x3 hE
 .rw[Ht.mp hb]
  exact z
 .rw[Ht.mp hb]
  exact .inr #[_,h]
section
variable {E:XK}{g:Gm V->Gm (G0×V)->Prop}
theorem o5 {H1:Hp}(XR:sG X E) (XC:ir X.K R C fI) (F:b8 X.prog X.w X.K X.mg X.base nF k fI fdI ps (j5 C g)) (hr:cy (k+1) X.A) (hb:iw X.K fdI ps [])
  (I1:aP X pins σ H1 s1) (r:bH vs us) (lv:vs.length<=9) (hg:g vs fs) (qE: ∀d,H1 d=Id->E (.ref C) (GM d) (bf H1 d (c4 d fs))):
  Hl (model X.prog X.w) X.A (call (.ref C) us) (λv s1=> ∃e oe vs R C fI,v= .ref e/\XAt s1.heap R C fI/\s1.heap.get? e=GM oe/\oe.cls= .ref C/\oe.data= .fields vs/\vs[1]?=GM .none/\X.xe (.ref e) s1) X.xe s1:=by
 obtain⟨h1,g1,d1,t1,VI⟩:=s1;obtain⟨Nn,mN,oI,NR,mR,⟨nm,q,bs,sn,sub,ab,col,dd,k0,k1,k2,k3,k5,hC⟩,hn,WI,V1,hI,hIc,_⟩:=XC.at_ h1 I1.NV;have lu:us.length<=9:=by rw[<-r.length];exact lv
 have fr:H1 (h1.objs.size+1)=Id:=I1.Jy.fresh (Q3 _)
 have ge:((h1.push (e8 us)).push (dO C h1.objs.size)).get? (h1.objs.size+1)=GM (dO C h1.objs.size):=by heap_get
 have I2:aP X pins σ (bf H1 (h1.objs.size+1) (sI C (h1.objs.size+1))) ⟨(h1.push (e8 us)).push (dO C h1.objs.size),g1,d1,t1,VI⟩:=
  I1.laid (t':=t1) (λb u z=>GN _ (GN _ z)) (Q3 _) #[#[_,ge],#[_,ge],λ_ _ ⟨T,z⟩ y=>#[T,y _ z]]
 have r2:bH (V.ref (h1.objs.size+1)::vs) (Hj (h1.objs.size+1)::us):= .cons IO r
 have Tr:j5 C g (V.ref (h1.objs.size+1)::vs) (bf H1 (h1.objs.size+1) (sI C (h1.objs.size+1)))
   (λv H'=>v= .Kk/\ ∃d,(bf H1 (h1.objs.size+1) (sI C (h1.objs.size+1))) d=Id/\H'=bf (bf (bf H1 (h1.objs.size+1) (sI C (h1.objs.size+1))) d (c4 d fs)) (h1.objs.size+1) (k7 C d (h1.objs.size+1))) E0:=
  #[_,vs,fs,IO,hg,aj,λd hd=>#[IO,d,hd,IO]]
 have hl:(Hj (h1.objs.size+1)::us++[]).length=ps.length:=by
  have z:=r2.length;rw[F.len _ _ _ _ Tr] at z;rw[GY];exact z.symm
 have bb:=hb #[(h1.push (e8 us)).push (dO C h1.objs.size),g1,d1,t1,VI] (Hj (h1.objs.size+1)::us) I2.NV hl;rw[GY] at bb;refine QK (Dj Q0 aeR hC hn WI hI hIc (NK (F.run _ X.stack _ _ #[Hj (h1.objs.size+1)::us,[]] (Hj (h1.objs.size+1)::us) _ _ E0 (hr.make C us []) (I2.ZP.make C us []) bb r2 Tr) λr s' S9=>?_) (by rw[Ng];lia))
 cases r with
 |error e=>exact S9.elim
 |ok fl=>
  cases fl with
  |next=>exact S9.elim
  |brk=>exact S9.elim
  |cont=>exact S9.elim
  |ret u=>
   obtain⟨v,H',I3,rv,ev,d,hd,eH⟩:=I2.after S9;subst ev;have np:d≠h1.objs.size+1:=λz=>by rw[z,aj] at hd;cases hd
   rw[af np] at hd;have at3:H' (h1.objs.size+1)=GM (k7 C d (h1.objs.size+1)):=by rw[eH];exact aj
   obtain⟨⟨o,ws,x1,x2,x3,x4,x5⟩,_⟩:=I3.Jy _ _ at3;refine#[rv,_,o,ws,R,C,fI,IO,XC.at_ _ I3.NV,x1,x2,x4,x5,XR pins σ H' _ C d _ I3 at3 (GX I1.sz (Q3 _)) ?_];have z:EK H' [h1.objs.size+1]=bf H1 d (c4 d fs):=by
    funext b
    by_cases hb:b=h1.objs.size+1
    .rw[oz (by rw[hb];exact GP),hb,af np.symm,fr]
    .rw[fQ (by simpa using hb),eH,af hb]
     by_cases hbd:b=d
     .rw[hbd,aj,aj]
     .rw[af hbd,af hbd,af hb]
   rw[z];exact qE d hd
theorem tV (XR:sG X E) (XC:ir X.K R C fI) (F:b8 X.prog X.w X.K X.mg X.base nF k fI fdI ps (j5 C g)) (hr:cy (k+1) X.A) (hg:Gl X x) (hm:X.mg x=GM (.ref C)) (hb:iw X.K fdI ps []) (ha:PA X (e::es) t)
  (So:(x == ("__debug__":G0))=IN:=by decide) (he:Hb (e::es) X.env=(IN,eval e X.env)::Hb es X.env:=by rfl) (MS:(J6 ML (Hb es X.env)).any (·.1)=IN:=by rfl):
  PS X (.Raise (GM (.Call (.Name x np) (e::es) [] ML)) Id pos) (CS C g E t):=by
 intro pins s σ H D I h;rw[arm_exec_Raise];refine He (M8 (qS hr.hd (He (cG ?_ λv s1 hv=>He (M8 (HU hv))))));refine Lm (iM I hg hm ?_ So);refine LM (h₀:=X.base) I.ok.mod.U6 XC.kp (cG (ha ML pins s σ H _ I h) λus s1 z=>?_) he MS;obtain⟨vs,H1,I1,r,lv,fs,hgv,qE⟩:=z;exact#[I1.NV,o5 XR XC F hr hb I1 r lv hgv qE]
theorem A7 (XR:sG X E) (XC:ir X.K R C fI) (F:b8 X.prog X.w X.K X.mg X.base nF k fI fdI ps (j5 C g)) (hr:cy (k+1) X.A) (hg:Gl X x) (hm:X.mg x=GM (.ref C)) (hb:iw X.K fdI ps [])
  (So:(x == ("__debug__":G0))=IN:=by decide):PS X (.Raise (GM (.Call (.Name x np) [] [] ML)) Id pos) (CS C g E kq):=by
 intro pins s σ H D I h;obtain⟨lv,fs,hgv,qE⟩:=h;rw[arm_exec_Raise];refine He (M8 (qS hr.hd (He (cG ?_ λv s1 hv=>He (M8 (HU hv))))));refine Lm (iM I hg hm ?_ So);exact SJ (I.NV) XC.kp (o5 XR XC F hr hb I .nil lv hgv qE)
end
end OS
namespace OS
open Vbemac
def b6 (c:JV):HH:=letter c||digit c
def fA (c:JV):HH:=c !=10
def br (p:JV->HH) (bs:HA) (i:GJ):GJ:=i+((bs.drop i).takeWhile p).length
theorem fP {bs:HA}{i:GJ}{c:JV}(h:bs[i]?=GM c):bs.drop i=c::bs.drop (i+1):=by
 obtain⟨hi,e⟩:=Hk.mp h;rw[Kw hi,e]
theorem lq {p:JV->HH}{bs:HA}{i:GJ}{c:JV}(h:bs[i]?=GM c) (hp:p c=Ix):br p bs i=br p bs (i+1):=by
 unfold br;rw[fP h,Kg,GD hp,Gp];lia
theorem pP {p:JV->HH}{bs:HA}{i:GJ}{c:JV}(h:bs[i]?=GM c) (hp:p c=IN):br p bs i=i:=by
 unfold br;rw[fP h,Kg,GB (by rw[hp];exact Gn)]
 rfl
theorem lY {p:JV->HH}{bs:HA}{i:GJ}(h:bs.length<=i):br p bs i=i:=by
 unfold br;rw[L9 h]
 rfl
theorem oY {p:JV->HH}{bs:HA}{i:GJ}(h:i<=bs.length):br p bs i<=bs.length:=by
 unfold br;have:=(Gm.takeWhile_sublist p (l:=bs.drop i)).length_le;rw[J3] at this;lia
def cV (bs:HA) (i j:GJ):HA:=(bs.drop i).take (j-i)
theorem yZ {p:JV->HH} : ∀l:HA,l.takeWhile p=l.take (l.takeWhile p).length
 |[]=>rfl
 |a::l=>by
  rw[Kg];split
  .rw[Gp,Gm.take_succ_cons,<-yZ l]
  .rfl
theorem kO (p:JV->HH) (bs:HA) (i:GJ):(bs.drop i).takeWhile p=cV bs i (br p bs i):=by
 unfold cV br;rw[Jn];exact yZ _
theorem pA (p:JV->HH) (bs:HA) (i:GJ):(bs.drop i).drop ((bs.drop i).takeWhile p).length=bs.drop (br p bs i):=by
 rw[O6]
 rfl
theorem jk: ∀(w:HA) (p:Pos),(∀c∈w,c≠10)->moved p w=(p.1,p.2+w.length)
 |[],p,_=>rfl
 |c::w,p,h=>by
  show moved (advance p c) w=_
  rw[jk w _ λd hd=>h d (G8 _ hd)];unfold advance;rw[GB (h c GP),Gp];show(p.1,p.2+1+w.length)=_;rw[R0,Nj 1]
theorem sH {p:JV->HH} : ∀(l:HA),∀c∈l.takeWhile p,p c=Ix
 |[],c,h=>nomatch h
 |a::l,c,h=>by
  rw[Kg] at h;split at h
  .rename_i q
   rcases Hc.mp h with e|h
   .rw[e];exact q
   .exact sH l c h
  .exact nomatch h
theorem oH {p:JV->HH}(hp:p 10=IN) (bs:HA) (i:GJ) (q:Pos):moved q ((bs.drop i).takeWhile p)=(q.1,q.2+(br p bs i-i)):=by
 rw[jk _ _ λc hc e=>by
  have:=sH _ c hc;rw[e,hp] at this;cases this]
 unfold br;rw[Jn]
section
variable {bs:HA}{i k:GJ}{c:JV}{q:Pos}
theorem lQ (h:bs[i]?=GM c) (hb:blank c=Ix):lex (k+1) q (bs.drop i)=lex k (advance q c) (bs.drop (i+1)):=by
 rw[fP h,lex,GD hb]
theorem jm (h:bs[i]?=GM c) (hb:blank c=IN) (PZ:c=35):
  lex (k+1) q (bs.drop i)=lex k (q.1,q.2+(br fA bs i-i)) (bs.drop (br fA bs i)):=by
 have e:=fP h
 have m:=oH (p:=fA) IO bs i q
 have d:=pA fA bs i;rw[e] at m d;rw[e,lex,GB (by rw[hb];exact Gn),GD PZ]
 show lex k (moved q ((c::bs.drop (i+1)).takeWhile fA)) ((c::bs.drop (i+1)).drop ((c::bs.drop (i+1)).takeWhile fA).length)=_
 rw[m,d]
theorem lD (h:bs[i]?=GM c) (hb:blank c=IN) (PZ: ¬c=35) (hl:letter c=Ix):
  lex (k+1) q (bs.drop i)=if 24<br b6 bs i-i then [(.bad,q)] else(.word (cV bs i (br b6 bs i)),q)::lex k (q.1,q.2+(br b6 bs i-i)) (bs.drop (br b6 bs i)):=by
 have e:=fP h
 have m:=oH (p:=b6) [01] bs i q
 have d:=pA b6 bs i
 have t:=kO b6 bs i
 have n:((bs.drop i).takeWhile b6).length=br b6 bs i-i:=by unfold br;rw[Jn]
 rw[e] at m d t n;rw[e,lex,GB (by rw[hb];exact Gn),GB PZ,GD hl];show(if 24<((c::bs.drop (i+1)).takeWhile b6).length then _ else(Tok.word ((c::bs.drop (i+1)).takeWhile b6),q)::lex k (moved q ((c::bs.drop (i+1)).takeWhile b6)) ((c::bs.drop (i+1)).drop ((c::bs.drop (i+1)).takeWhile b6).length))=_
 rw[m,d,n,t]
def qT (bs:HA) (j:GJ):HH:=(bs[j]?).any letter
theorem A4 (bs:HA) (j:GJ):(bs.drop j).head?=bs[j]?:=Gm.head?_drop
theorem nv (h:bs[i]?=GM c) (hb:blank c=IN) (PZ: ¬c=35) (hl:letter c=IN) (hd:digit c=Ix):
  lex (k+1) q (bs.drop i)=if 18<br digit bs i-i\/qT bs (br digit bs i)=Ix then [(.bad,q)] else(.num (valueOf (cV bs i (br digit bs i))),q)::lex k (q.1,q.2+(br digit bs i-i)) (bs.drop (br digit bs i)):=by
 have e:=fP h
 have m:=oH (p:=digit) [01] bs i q
 have d:=pA digit bs i
 have t:=kO digit bs i
 have n:((bs.drop i).takeWhile digit).length=br digit bs i-i:=by unfold br;rw[Jn]
 rw[e] at m d t n;rw[e,lex,GB (by rw[hb];exact Gn),GB PZ,GB (by rw[hl];exact Gn),GD hd];show(if 18<((c::bs.drop (i+1)).takeWhile digit).length\/((((c::bs.drop (i+1)).drop ((c::bs.drop (i+1)).takeWhile digit).length).head?).any letter)=Ix then _
  else(Tok.num (valueOf ((c::bs.drop (i+1)).takeWhile digit)),q)::lex k (moved q ((c::bs.drop (i+1)).takeWhile digit)) ((c::bs.drop (i+1)).drop ((c::bs.drop (i+1)).takeWhile digit).length))=_
 rw[m,d,n,t,A4]
 rfl
theorem nY {n:GJ}{x:HA} : ∀(L:Gm HA),(∀s∈L,s.length=n)->L.find? (λs=>x.take s.length == s)=if x.take n∈L then GM (x.take n) else Id
 |[],_=>by simp
 |a::L,h=>by
  have ha:=h a GP
  have ih:=nY (n:=n) (x:=x) L λs hs=>h s (G8 _ hs)
  rw[Iy,ha];by_cases e:x.take n=a
  .rw[show(x.take n == a)=Ix from by rw[e];exact IG a,GD (by rw[e];exact GP),e]
  .rw[show(x.take n == a)=IN from beq_eq_false_iff_ne.mpr e]
   show L.find? _=_
   rw[ih];by_cases m:x.take n∈L
   .rw[GD m,GD (G8 _ m)]
   .rw[GB m,GB (λz=>(Hc.mp z).elim e m)]
def Au:Gm HA:=SIGNS.take 7
def CA:Gm HA:=SIGNS.drop 7
theorem gQ:SIGNS=Au++CA:=(OT 7 SIGNS).symm
theorem jv: ∀s∈Au,s.length=2:=by decide
theorem oJ: ∀s∈CA,s.length=1:=by decide
theorem wZ: ∀s∈SIGNS,∀d∈s,d≠10:=by decide
def bI (bs:HA) (i:GJ):GJ:=if cV bs i (i+2)∈SIGNS then i+(cV bs i (i+2)).length else i+1
theorem io (x:HA):x∈SIGNS ↔ x∈Au\/x∈CA:=by rw[gQ];exact HG
theorem zU (h:bs[i]?=GM c):(SIGNS.find? λs=>(bs.drop i).take s.length == s)=if cV bs i (bI bs i)∈SIGNS then GM (cV bs i (bI bs i)) else Id:=by
 have e2:(bs.drop i).take 2=cV bs i (i+2):=by unfold cV;rw[Jn]
 have e1:(bs.drop i).take 1=cV bs i (i+1):=by unfold cV;rw[Jn]
 have l1:(cV bs i (i+1)).length=1:=by rw[<-e1,fP h];rfl
 rw[gQ,Gm.find?_append,nY Au jv,nY CA oJ,e2,e1];by_cases m2:cV bs i (i+2)∈Au
 .have n2:=jv _ m2
  have s2:cV bs i (i+2)∈SIGNS:=(io _).mpr (.inl m2)
  have se:bI bs i=i+2:=by unfold bI;rw[GD s2,n2]
  rw[GD m2,se,<-gQ,GD s2]
  rfl
 .have se:bI bs i=i+1:=by
   unfold bI;by_cases s2:cV bs i (i+2)∈SIGNS
   .rw[GD s2,oJ _ (((io _).mp s2).resolve_left m2)]
   .rw[GB s2]
  have n1: ¬cV bs i (i+1)∈Au:=λz=>by
   have:=jv _ z;lia
  rw[GB m2,se,<-gQ,GF.none_or];by_cases m1:cV bs i (i+1)∈CA
  .rw[GD m1,GD ((io _).mpr (.inr m1))]
  .rw[GB m1,GB λz=>((io _).mp z).elim n1 m1]
theorem qb (h:bs[i]?=GM c) (m:cV bs i (bI bs i)∈SIGNS):(cV bs i (bI bs i)).length=bI bs i-i:=by
 have e1:(cV bs i (i+1)).length=1:=by unfold cV;rw[Jn,fP h];rfl
 unfold bI at m ⊢;split
 .rename_i s2
  rw[GD s2] at m;rcases(io _).mp s2 with z|z
  .rw[jv _ z,jv _ z];lia
  .rw[oJ _ z,e1];lia
 .rw[e1];lia
theorem kN (h:bs[i]?=GM c) (hb:blank c=IN) (PZ: ¬c=35) (hl:letter c=IN) (hd:digit c=IN):
  lex (k+1) q (bs.drop i)=if cV bs i (bI bs i)∈SIGNS then(.sign (cV bs i (bI bs i)),q)::lex k (q.1,q.2+(bI bs i-i)) (bs.drop (bI bs i)) else [(.bad,q)]:=by
 have f:=zU h
 have e:=fP h
 have hle:i<=bI bs i:=by unfold bI;split<;>lia
 have dd: ∀n,(bs.drop i).drop n=bs.drop (i+n):=λn=>O6
 rw[e] at f;rw[e,lex,GB (by rw[hb];exact Gn),GB PZ,GB (by rw[hl];exact Gn),GB (by rw[hd];exact Gn),f];by_cases m:cV bs i (bI bs i)∈SIGNS
 .rw[GD m,GD m]
  show _::lex k (moved q (cV bs i (bI bs i))) ((c::bs.drop (i+1)).drop (cV bs i (bI bs i)).length)=_
  rw[jk _ _ (wZ _ m),qb h m,<-e,dd,show i+(bI bs i-i)=bI bs i by lia]
 .rw[GB m,GB m]
theorem EW (h:bs.length<=i):lex (k+1) q (bs.drop i)=[(.eof,q)]:=by
 rw[L9 h,lex]
end
end OS
namespace OS
open Vbemac
open PySem (Str)
def gP:Tok->Prop
 | .word w=>w≠[]/\ ∀c∈w,b6 c=Ix
 | .sign s=>s∈SIGNS
 |_=>True
def Mid (x:Tok×Pos):Prop:=x.1≠ .eof/\x.1≠ .bad/\gP x.1
def j2 (x:Tok×Pos):Prop:=x.1= .eof\/x.1= .bad
def gz (t:JH):Prop:= ∃WK x,t=WK++[x]/\j2 x/\ ∀y∈WK,Mid y
theorem gz.one (h:j2 x):gz [x]:=#[[],x,IO,h,λ_ z=>nomatch z]
theorem gz.cons (h:Mid x) (w:gz t):gz (x::t):=by
 obtain⟨WK,y,rfl,f,a⟩:=w;refine#[x::WK,y,IO,f,λz hz=>?_];rcases Hc.mp hz with e|hz
 .rw[e];exact h
 .exact a z hz
theorem gz.tail (w:gz (x::t)) (h: ¬j2 x):Mid x/\gz t:=by
 obtain⟨WK,y,e,f,a⟩:=w;cases WK with
 |nil=>
  injection e with e1 e2;exact GW (e1▸f) h
 |cons z WK=>
  injection e with e1 e2;exact#[e1▸a z GP,WK,y,e2,f,λv hv=>a v (G8 _ hv)]
theorem gz.ne (w:gz t):t≠[]:=by
 obtain⟨WK,y,rfl,_⟩:=w;simp
theorem gn: ∀(k:GJ) (q:Pos) (b:HA),gz (lex k q b)
 |0,q,b=>by rw[lex];exact .one (.inl IO)
 |k+1,q,[]=>by rw[lex];exact .one (.inl IO)
 |k+1,q,c::r=>by
  have z:(c::r)[0]?=GM c:=rfl
  have d0:(c::r).drop 0=c::r:=rfl;rw[<-d0];by_cases hb:blank c=Ix
  .rw[lQ z hb];exact gn k _ _
  .have hb:blank c=IN:=by simpa using hb
   by_cases PZ:c=35
   .rw[jm z hb PZ];exact gn k _ _
   .by_cases hl:letter c=Ix
    .rw[lD z hb PZ hl]
     split
     .exact .one (.inr IO)
     .refine .cons #[by simp,by simp,?_,?_] (gn k _ _)
      .rw[<-kO,d0,Kg,GD (by unfold b6;rw[hl];rfl)]
       simp
      .rw[<-kO];exact sH _
    .have hl:letter c=IN:=by simpa using hl
     by_cases hd:digit c=Ix
     .rw[nv z hb PZ hl hd]
      split
      .exact .one (.inr IO)
      .exact .cons #[by simp,by simp,IK] (gn k _ _)
     .have hd:digit c=IN:=by simpa using hd
      rw[kN z hb PZ hl hd];split
      .rename_i m
       exact .cons #[by simp,by simp,m] (gn k _ _)
      .exact .one (.inr IO)
theorem dW: ∀(k:GJ) (q:Pos) (b:HA),(lex k q b).length<=k+1
 |0,q,b=>by rw[lex];simp
 |k+1,q,[]=>by rw[lex];simp
 |k+1,q,c::r=>by
  have z:(c::r)[0]?=GM c:=rfl
  have d0:(c::r).drop 0=c::r:=rfl;rw[<-d0];by_cases hb:blank c=Ix
  .rw[lQ z hb];exact GX (dW k _ _) (by lia)
  .have hb:blank c=IN:=by simpa using hb
   by_cases PZ:c=35
   .rw[jm z hb PZ];exact GX (dW k _ _) (by lia)
   .by_cases hl:letter c=Ix
    .rw[lD z hb PZ hl]
     split
     .simp
     .rw[Gp];exact LF (dW k _ _)
    .have hl:letter c=IN:=by simpa using hl
     by_cases hd:digit c=Ix
     .rw[nv z hb PZ hl hd]
      split
      .simp
      .rw[Gp];exact LF (dW k _ _)
     .have hd:digit c=IN:=by simpa using hd
      rw[kN z hb PZ hl hd];split
      .rw[Gp];exact LF (dW k _ _)
      .simp
theorem fZ {a b:HA}(h:sb a=sb b):a=b:=by
 have e:(a.map Kz).toArray=(b.map Kz).toArray:=Hr G0.cps h
 have e:a.map Kz=b.map Kz:=by simpa using e
 exact UO (λx y q=>QL.mp q) |>.mp e
theorem qW:lS=sb [47,114,101,115,116]:=rfl
theorem yN: ∀a∈SIGNS,∀b∈SIGNS,dD a=dD b->a=b:=by decide+kernel
theorem AO: ∀a∈SIGNS,∀c,(dD a).cps[0]?=GM c-> ∀d:GJ,d<256->d=c->b6 (MC d)=IN:=by
 have h: ∀a∈SIGNS,∀d:GJ,d<256->(dD a).cps[0]?=GM d->b6 (MC d)=IN:=by decide+kernel
 intro a ha c hc d hd e;subst e;exact h a ha d hd hc
theorem vk {w s:HA}(h0:w≠[]) (hw: ∀c∈w,b6 c=Ix) (hs:s∈SIGNS):sb w≠dD s:=λe=>by
 obtain⟨c,r,rfl⟩: ∃c r,w=c::r:=by cases w with|nil=>exact GW IO h0|cons c r=>exact#[c,r,IO]
 have f:=AO s hs c.toNat (by rw[<-e];rfl) c.toNat (V8 c) IO;rw[US,hw c GP] at f;cases f
def xx:Tok->GF G0
 | .word w=>GM (sb w)
 | .sign s=>GM (dD s)
 | .num _=>Id
 | .eof=>GM (sb [])
 | .bad=>GM (sb [])
def dE (x:G0) (w:HA):Prop:=x=sb w/\w≠[]/\ ∀c∈w,b6 c=Ix
def eV (x:G0) (s:HA):Prop:=x=dD s/\s∈SIGNS
theorem DE: ∀s∈SIGNS,dD s≠sb []:=by decide+kernel
theorem BW (ok:gP k) {w:HA}(h:dE x w):xx k=GM x ↔ k= .word w:=by
 obtain⟨rfl,h0,h1⟩:=h;constructor
 .intro e
  cases k with
  |word v=>exact Hr Tok.word (fZ (G7 e))
  |sign s=>exact GW (G7 e).symm (vk h0 h1 ok)
  |num n=>cases e
  |eof=>exact GW (fZ (G7 e)).symm h0
  |bad=>exact GW (fZ (G7 e)).symm h0
 .intro e;subst e;rfl
theorem u9 (ok:gP k) (h:eV x s):xx k=GM x ↔ k= .sign s:=by
 obtain⟨rfl,hs⟩:=h;constructor
 .intro e
  cases k with
  |word v=>exact GW (G7 e) (vk ok.1 ok.2 hs)
  |sign r=>exact Hr Tok.sign (yN r ok s hs (G7 e))
  |num n=>cases e
  |eof=>exact GW (G7 e).symm (DE s hs)
  |bad=>exact GW (G7 e).symm (DE s hs)
 .intro e;subst e;rfl
end OS
namespace OS
abbrev jY (p q:PySem.Pos):Prop:=(p.endLine == q.line)=Ix
open PySem PySem.Spec L2
open PyProof.Rows hiding St
theorem bB {X:Cx}{i:Int}{pos:Pos}(hg:Gl X x) (hm: ∃t,X.mg x=GM (.int i t)) (hd:(x == ("__debug__":G0))=IN:=by decide):PE X (.Name x pos) (tC (.int i)):=by
 obtain⟨t,hm⟩:=hm;exact rX hg hm #[t,IO] hd
theorem aeS {X:Cx}{i:G0}{pos:Pos}(hg:Gl X x) (hm: ∃t,X.mg x=GM (.str i t)) (hd:(x == ("__debug__":G0))=IN:=by decide):PE X (.Name x pos) (tC (.str i)):=by
 obtain⟨t,hm⟩:=hm;exact rX hg hm #[t,IO] hd
theorem pU.sq {K:Gu}{a:Gx}{H:Hp}(h:pU K a xs):pV K H a xs:= .inr h
theorem xX (r:Paired (λ(p:Gm cf×V) (q:Gm cf×Gx×Gy)=>p.1=q.1/\bD p.2 q.2.2) Iw xs) (k:Gm cf):gD (cW Iw k) ((Q8 xs k).map (·.2)):=by
 induction r with
 |nil=>exact IK
 | @cons p q ps qs hq t ih=>
  unfold cW Q8 at*;rw[Iy,Iy];by_cases e:q.1=k
  .rw[show decide (p.1=k)=Ix from Hy (hq.1.trans e),show decide (q.1=k)=Ix from Hy e]
   exact hq.2
  .rw[show decide (p.1=k)=IN from Ha (λz=>e (hq.1.symm.trans z)),show decide (q.1=k)=IN from Ha e]
   exact ih
section
variable {td ty:TE}
def aeT (P:Hm) (w:HS) (K:Gu) (ty td:TE):TE:=λσ H Q=>ty σ H λy H1=>td σ H1 λx H2=> ∃a b k Iw,x= .ref a/\Be P w K a Iw/\y= .ref b/\H2 b=GM (.tup (k.map kV))/\Q (.bl (cW Iw k).isSome) H2
def aaa (P:Hm) (w:HS) (K:Gu) (td ty:TE):TE:=λσ H Q=>td σ H λx H1=>ty σ H1 λy H2=> ∃a b k Iw v,x= .ref a/\Be P w K a Iw/\y= .ref b/\H2 b=GM (.tup (k.map kV))/\cW Iw k=GM v/\Q v H2
theorem yU (hu:X.A.units+1<P4) (hi:PE X i ty) (ho:PE X o td):PC X .In i o (aeT X.prog X.w X.K ty td):=by
 intro pins s σ H Q I h;refine bin hi ho I h λv u s2 x y H2 I2 rx ry q=>?_;obtain⟨a,b,k,Iw,ey,kd,ex,eb,q⟩:=q;subst ex;subst ey;cases rx;cases ry;obtain⟨xs,dd,rel⟩:=kd.at_;refine wpAny_in_heap (Ln hu) (j0 I2.Jy eb) kd.no (dd _ I2.NV) ?_;have z:=(xX rel k).Ml;rw[JQ] at z;rw[<-z];exact#[.bl _,H2,I2.tok _,IO,q]
theorem Bn (hu:X.A.units+1<P4) (ho:PE X o td) (hi:PE X i ty) (hs:FU i):PE X (.Subscript o i pos) (aaa X.prog X.w X.K td ty):=by
 intro pins s σ H Q I h;refine yt QZ.lookup hs (cG (ho pins s σ H _ I h) λu s1 ⟨x,H1,I1,rx,q1⟩=>cG (hi pins s1 σ H1 _ I1 q1) λiv s2 ⟨y,H2,I2,ry,a,b,k,Iw,v',ex,kd,ey,eb,l,q⟩=>?_);subst ex;subst ey;obtain rfl:u=Hj a:=rx;obtain rfl:iv=Hj b:=ry;obtain⟨xs,dd,rel⟩:=kd.at_;have z:=xX rel k;rw[l] at z;obtain⟨w',hw,TK⟩:=gD.some_of z;obtain⟨p,hp,hp2⟩:=IM.mp hw;have D:=dd _ I2.NV;refine#[D.typeIs,Yq (Ln hu) (j0 I2.Jy eb) D hp ?_];rw[hp2];exact#[v',H2,I2.tok _,TK,q]
end
section
variable {X:Cx}{st:Stmt}{t:TS}
def Xv (t:TS):TS:=λD σ H=> ∃J:L2.St->Hp->Prop,t { D with nx:=J } σ H/\ ∀σ' H',J σ' H'->D.nx σ' H'
theorem kI (h:PS X st t):PS X st (Xv t):=by
 intro pins s σ H D I h0;obtain⟨J,h1,h2⟩:=h0;refine cG (h pins s σ H { D with nx:=J } I h1) λf s1 q=>?_;cases f with
 |next=>
  obtain⟨σ',H',I',q⟩:=q;exact#[σ',H',I',h2 _ _ q]
 |brk=>exact q
 |cont=>exact q
 |ret u=>exact q
end
theorem bZ:gB X (.builtin "isinstance") (λxs H Q=> ∃(x:V) (C:Gx) (t:Gy) (b:HH),xs=[x, .ref C]/\js X.K H x t/\Jh X.K t (.ref C)=GM b/\Q (.bl b) H):=by
 intro pins s σ H xs us Q I r h;obtain⟨x,C,t,b,rfl,ty,e,q⟩:=h;obtain⟨u1,u2,rfl,r1,r2⟩:=vals2 r;cases r2;exact zT I r1 ty e λtk=>#[.bl b,H,I.tok _,IO,q]
theorem Cl.of {K:Gu}{H:Hp}(t:Cl K C) (e:H p=GM (.ins C dx fs)):js K H (.ref p) (.ref C):= .ins e t.cl t.ha t.hn t.htk t.hm
theorem cn {α β:Type}{F:α->β->Prop} : ∀ {l:Gm α}{m:Gm β},Paired F l m->l.length=m.length
 |_,_, .nil=>rfl
 |_,_, .cons r t=>Hr (· +1) (cn t)
def aab (N P:Gm G0) (sc:Scope):Prop:=sc.kind= .function/\sc.isCoroutine=IN/\sc.isGenerator=IN/\N.Nodup/\N.take P.length=P/\(∀x∈P,sc.names.lookup x=GM .local\/sc.names.lookup x=GM .cell)/\ ∀y∈sc.names,y.2≠ .free
instance (N P:Gm G0) (sc:Scope):Decidable (aab N P sc):=by unfold aab;infer_instance
theorem ay {N P:Gm G0}(h:aab N P sc):ax N P sc:=#[h.1,h.2.1,h.2.2.1,h.2.2.2.1,h.2.2.2.2.1,h.2.2.2.2.2.1,h.2.2.2.2.2.2]
end OS
namespace OS
open PySem PySem.Spec L2
open PyProof.Rows hiding St
def _root_.L2.dz.to (D:dz) (X:Cx) (ss:Gm Stmt):dz:= { D with nx:=λσ H=>Bd X ss D σ H }
theorem xR {x m:G0}{p1 p2 p4:Pos}(hp:jY p2 p4) (hf:methodCallForm (args.length+0) (J6 p4 (Hb args env)) (N7 p4 (LL [] env))=Ix):
  eval (.Call (.Attribute (.Name x p1) m p2) args [] p4) env=(do
   let ov<-eval (.Name x p1) env
   standAt p2.atName
   let (f,first)<-holding [ov] (O1 ov m (do return (<-importBound (.Name x p1) env).getD Ix))
   Th p4 f first (J6 p4 (Hb args env)) (N7 p4 (LL [] env))):=by
 show(do
   let ov<-eval (.Name x p1) env
   standAt p2.atName
   methodCall (.Name x p1) m p2 p4 env ov (args.length+0) (J6 p4 (Hb args env)) (N7 p4 (LL [] env)))=_
 unfold methodCall calleeOf methodCallPos;rw[hf,hp]
 rfl
section
variable {H:Hp}{t:TS}
theorem pf:vV X ss (λD σ H=>Bd X ss D σ H):=λpins s σ H D I h=>by
 obtain⟨t,h,q⟩:=h;exact h pins s σ H D I q
theorem dB (h:PS X s t) (q:t (D.to X ss) σ H):Bd X (s::ss) D σ H:=#[_,ai h pf,q]
theorem aac (h:PS X s t) (q:t D σ H):Bd X [s] D σ H:=#[_,ak h,q]
theorem eY (q:D.nx σ H):Bd X [] D σ H:=#[_,aQ,q]
end
inductive Pe (X:Cx) (e:IY) (σ:L2.St) (H:Hp) (Q:VK):Prop
 |mk (t:TE) (_:PE X e t) (_:t σ H Q):Pe X e σ H Q
inductive Pt (X:Cx) (e:IY) (σ:L2.St) (H:Hp) (Q:HH->Hp->Prop):Prop
 |mk (t:TT) (_:PT X e t) (_:t σ H Q):Pt X e σ H Q
inductive Pa (X:Cx) (e:Gm IY) (σ:L2.St) (H:Hp) (Q:Gm V->Hp->Prop):Prop
 |mk (t:TA) (_:PA X e t) (_:t σ H Q):Pa X e σ H Q
section
variable {H:Hp}{t:TS}{Q:VK}{R:HH->Hp->Prop}
theorem eF:PE X e (λσ H Q=>Pe X e σ H Q):=λpins s σ H Q I h=>by
 obtain⟨t,h,q⟩:=h;exact h pins s σ H Q I q
theorem gO:PT X e (λσ H Q=>Pt X e σ H Q):=λpins s σ H Q I h=>by
 obtain⟨t,h,q⟩:=h;exact h pins s σ H Q I q
theorem ua:PA X es (λσ H Q=>Pa X es σ H Q):=λpos pins s σ H Q I h=>by
 obtain⟨t,h,q⟩:=h;exact h pos pins s σ H Q I q
structure Sl (X:Cx) (i:GJ) (y:G0):Prop where
 hi:X.N[i]?=GM y
 hx:Loc X.env.scope y
 hf:X.fn y=Ix
theorem aW (i:GJ) (nd:X.N.Nodup) (q:Pe X e σ H λv H'=>Bd X ss D (σ.set i (GM v)) H') (h:Sl X i y:=by exact#[IO,HD IO,IO]) (hs:Lb e (GM (.Name y p0)) p5.line X.env=Hz IN:=by rfl):Bd X (.Assign [.Name y p0] e p5::ss) D σ H:=
 dB (b4 nd h.hi h.hx eF hs (.inl h.hf)) q
theorem dQ (q:Pe X e σ H λ_ H'=>Bd X ss D σ H') (hs:Lb e Id p5.line X.env=Hz IN:=by rfl):Bd X (.Expr e p5::ss) D σ H:=dB (a6 eF hs) q
theorem aD (q:Pe X e σ H D.rt):Bd X (.Return (GM e) p5::ss) D σ H:=dB (aB eF) q
theorem aY (q:Pt X e σ H λb H'=>if b=Ix then Bd X A (D.to X ss) σ H' else Bd X ss D σ H'):Bd X (.If e A [] p5::ss) D σ H:=dB (bz gO pf aQ) q
theorem jR (N:L2.St->Hp->Prop) (rest: ∀σ H,N σ H->Bd X ss D σ H) (q:Pt X e σ H λb H'=>if b=Ix then Bd X A { D with nx:=N } σ H' else N σ H'):Bd X (.If e A [] p5::ss) D σ H:=dB (kI (bz gO pf aQ)) #[N,q,rest]
theorem wd (q:Bd X ss D σ H):Bd X [] (D.to X ss) σ H:=eY q
theorem du (q:Pe X e σ H (wP R)) (he: ∀whole,isTrue e X.env whole=(do let v<-whole;standAt e.pos;holding [v] (truthy v)):=by intro _;rfl):Pt X e σ H R:=#[_,bS eF he,q]
theorem lG (q:Pt X e σ H λb H'=>R (!b) H'):Pt X (.UnaryOp .Not e p1) σ H R:=#[_,my gO,q]
theorem vv {f:IY}(q:Pt X e σ H λb H'=>if b=Ix then Pt X f σ H' R else R IN H'):Pt X (.BoolOp .And [e,f] p1) σ H R:=#[_,(lZ gO (lm gO)).pt,q]
theorem aeU {f:IY}(q:Pt X e σ H λb H'=>if b=Ix then R Ix H' else Pt X f σ H' R):Pt X (.BoolOp .Or [e,f] p1) σ H R:=#[_,(qK gO (oy gO)).pt,q]
theorem tW {x:G0}(q:Q (.str x) H):Pe X (.Constant (.str x) j p1) σ H Q:=#[_,aK,q]
theorem gN {x:Int}(q:Q (.int x) H):Pe X (.Constant (.int x) j p1) σ H Q:=#[_,aG,q]
theorem cg (q:Q .Kk H):Pe X (.Constant .none j p1) σ H Q:=#[_,mw,q]
theorem ca {Q:Gm V->Hp->Prop}(q:Q [] H):Pa X [] σ H Q:=#[_,ac,q]
theorem aX {Q:Gm V->Hp->Prop}(q:Pe X e σ H λv H1=>Pa X es σ H1 λvs H2=>Q (v::vs) H2) (hs:Hb (e::es) X.env=(IN,eval e X.env)::Hb es X.env:=by rfl):Pa X (e::es) σ H Q:=#[_,aa eF ua hs,q]
theorem bV (i:GJ) {x:G0}(q:d7 i σ H Q) (hN:X.N[i]?=GM x:=by rfl) (hv:tq X.env.scope x:=by exact HD IO) (hd:(x == ("__debug__":G0))=IN:=by decide) (Rx:(x == ("__classdict__":G0))=IN:=by decide):Pe X (.Name x p1) σ H Q:=#[_,iB hN hv hd Rx,q]
end
theorem Pt.mono {X:Cx}{e:IY}{σ:L2.St}{H:Hp}{Q Q':HH->Hp->Prop}(h:Pt X e σ H Q) (im: ∀b H,Q b H->Q' b H):Pt X e σ H Q':=by
 obtain⟨t,ht,q⟩:=h;refine#[λσ H Q'=> ∃Q:HH->Hp->Prop,(∀b H,Q b H->Q' b H)/\t σ H Q,λpins s σ H Q' I h=>?_,Q,im,q];obtain⟨Q,im,q⟩:=h;exact cG (ht pins s σ H Q I q) λc s' ⟨H',I',q⟩=>#[H',I',im _ _ q]
theorem Pe.mono {X:Cx}{e:IY}{σ:L2.St}{H:Hp}{Q Q':VK}(h:Pe X e σ H Q) (im: ∀b H,Q b H->Q' b H):Pe X e σ H Q':=by
 obtain⟨t,ht,q⟩:=h;refine#[λσ H Q'=> ∃Q:VK,(∀b H,Q b H->Q' b H)/\t σ H Q,λpins s σ H Q' I h=>?_,Q,im,q];obtain⟨Q,im,q⟩:=h;exact cG (ht pins s σ H Q I q) λc s' ⟨v,H',I',r,q⟩=>#[v,H',I',r,im _ _ q]
inductive aad (I:GJ->L2.St->Hp->Prop) (m:GJ) (σ:L2.St) (H:Hp):Prop
 |mk (k:GJ) (_:k<m) (_:I k σ H):aad I m σ H
def _root_.L2.dz.lp (D:dz) (X:Cx) (ss:Gm Stmt) (N:L2.St->Hp->Prop):dz:= { D.to X ss with nx:=N,ct:=N,bk:=(D.to X ss).nx }
inductive isApp (L:Gx) (R:Hp->Prop) (v:V) (H:Hp):Prop
 |mk (xs:Gm V) (_:H L=GM (.lst xs)) (_:xs.length<GV) (_:R (bf H L (.lst (xs++[v])))):isApp L R v H
section
variable {X:Cx}{ss A:Gm Stmt}{D:dz}{σ:L2.St}{H:Hp}{e f c:IY}{es:Gm IY}{Q:VK}{R:HH->Hp->Prop}{N:L2.St->Hp->Prop}{x y:G0}{p0 p1 p2 p3 p4 p5:Pos}{i:GJ}{L:Gx}{xs:Gm V}{te:TE}
theorem ij (hp:Rt (model X.prog X.w) X.A X.env X.xe) (I:GJ->L2.St->Hp->Prop) (m:GJ) (h0:I m σ H) (hs: ∀m σ H,I m σ H->Pt X c σ H λb H1=>if b=Ix then Bd X A (D.lp X ss (aad I m)) σ H1 else Bd X ss D σ H1):Bd X (.While c A [] p5::ss) D σ H:=by
 refine dB (jo hp gO pf) #[I,#[m,h0],λm σ H h=>(hs m σ H h).mono λb H1 z=>?_];cases b with
 |true=>exact#[aad I m,λσ' H' ⟨k,h1,h2⟩=>#[k,h1,h2],z]
 |false=>exact z
theorem kW (q:N σ H):Bd X [] (D.lp X ss N) σ H:=eY q
theorem uG (q:D.bk σ H):Bd X (.Break p5::A) D σ H:=dB El q
theorem yR (i:GJ) (hp:Rt (model X.prog X.w) X.A X.env X.xe) (nd:X.N.Nodup) (he:PE X e te) (hv: ∀R:VK,R (.ref L) H->te σ H R) (I:GJ->L2.St->Hp->Prop) (h0:I 0 σ H) (hL: ∀j σ H,j<=xs.length->I j σ H->H L=GM (.lst xs))
  (hs: ∀j x σ H,xs[j]?=GM x->I j σ H->Bd X A (D.lp X ss (I (j+1))) (σ.set i (GM x)) H) (hd: ∀σ H,I xs.length σ H->Bd X ss D σ H) (hc:X.calm=Ix:=by rfl) (h:Sl X i y:=by exact#[IO,HD IO,IO]) (hf: ∀x,KN e X.env x=Hz x:=by intro _;rfl):Bd X (.For (.Name y p0) e A [] p5::ss) D σ H:=
 dB (kj hp hc (fL he) (cY nd h.hi h.hx (.inl h.hf)) pf hf) (hv _ #[L,IO,#[_,cK.of (hL 0 σ H (HB _) h0)],ie I h0 (λj σ H hj h=>cK.of (hL j σ H hj h)) hs hd])
theorem rE (q:Pa X es σ H (B9 Q)):Pe X (.List es p1) σ H Q:=#[_,bj ua,q]
theorem rR (q: ∀L,H L=Id->Q (.ref L) (bf H L (.lst []))):Pe X (.List [] p1) σ H Q:=rE (ca #[HB _,q])
theorem rb (hl:X.mg "len"=Id) (hL:H L=GM (.lst xs)) (he:PE X e te) (hv: ∀Q:VK,Q (.ref L) H->te σ H Q) (q:Q (.int xs.length) H) (hg:Gl X "len":=by rfl) (Ms:Hb [e] X.env=[(IN,eval e X.env)]:=by rfl):Pe X (.Call (.Name "len" p1) [e] [] p2) σ H Q:=
 #[_,aR bL hg hl Jc (aa he ac Ms) [01] [01] Ms IO,hv _ #[L,xs,IO, .inl (cK.of hL),q]]
theorem cA {r:R2}(ho:mz X (J1 op) r) (q:Pe X e σ H λx H1=>Pe X f σ H1 λy H2=>r x y H2 (wP R)) (hm:behindInMarks op f=IN:=by exact a0 _):Pt X (.Compare e [op] [f] p1) σ H R:=#[_,bg ho eF eF hm,q]
theorem DT {r:R2}(ho:mz X (N6 op) r) (q:Pe X e σ H λx H1=>Pe X f σ H1 λy H2=>r x y H2 Q):Pe X (.BinOp e op f p1) σ H Q:=#[_,aZ ho eF eF,q]
theorem Ed (he:PE X e te) (hv: ∀R:VK,R (.ref L) H->te σ H R) (hL:H L=GM (.lst xs)) (q:Pe X f σ H (isApp L λH'=>Bd X ss D σ H')) (hb:JK e "append" X.env (eval e X.env)=eval e X.env:=by rfl) (Ms:Hb [f] X.env=[(IN,eval f X.env)]:=by rfl) (hp:jY p2 p4:=by rfl):
  Bd X (.Expr (.Call (.Attribute e "append" p2) [f] [] p4) p5::ss) D σ H:=by
 refine dQ #[_,df G6 Ik Il di he (aa eF ac Ms) hb (by rw[Ms];rfl) hp Ms IO,hv _ #[.inl #[IO,_,cK.of hL],q.mono λv H1 z=>?_]];obtain⟨xs',h1,h2,h3⟩:=z;exact#[L,xs',v,IO,IO,h1,h2,h3]
end
section
variable {H:Hp}{Q:VK}{R:HH->Hp->Prop}{sp:Sp}{CX:rl}{E:XK}
theorem cB (q:Pe X e σ H (pQ X.K y Q)) (hb:JK e y X.env (eval e X.env)=eval e X.env):Pe X (.Attribute e y p1) σ H Q:=#[_,az eF hb,q]
theorem Ag (q:Pe X e σ H λv H1=>Pe X f σ H1 λu H2=>ZR X.K v u H2 Q) (hs:rH f):Pe X (.Subscript e f p1) σ H Q:=#[_,eS cX eF eF hs,q]
theorem cq (q:Pa X (e::es) σ H λvs H1=>sp (vs++[]) H1 Q E) (G:b8 X.prog X.w X.K X.mg X.base CX k fa fd ps sp) (hr:cy k X.A) (d:CD X.K X.mg x fa fd ps) (up:eJ CX X E) (hg:Gl X x:=by rfl) (hx:(x == ("__debug__":G0))=IN:=by decide) (he:Hb (e::es) X.env=(IN,eval e X.env)::Hb es X.env:=by rfl) (MS:(J6 p4 (Hb es X.env)).any (·.1)=IN:=by rfl):
  Pe X (.Call (.Name x p1) (e::es) [] p4) σ H Q:=#[_,aq G hr hg d up ua hx he MS,q]
theorem aeV (q:Pe X e σ H λv H1=>Pe X f σ H1 λu H2=> ∃i j,v= .int i/\u= .int j/\R (decide (i=j)) H2):Pt X (.Compare e [.Eq] [f] p1) σ H R:=cA cu (q.mono λv H1 q=>q.mono λu H2 ⟨i,j,h1,h2,q'⟩=>by
 subst h1 h2;exact#[IO,_,IO,by rw[show decide (V.int i=V.int j)=decide (i=j) from decide_eq_decide.mpr #[λy=>V.int.inj y,λy=>by rw[y]]];exact q']) (a0 _)
end
theorem eU {c:Prop} [Decidable c] {A B:Prop}(h1:c->A) (h2: ¬c->B):if decide c=Ix then A else B:=by
 by_cases h:c
 .rw[GD (Hy h)];exact h1 h
 .rw[GB (by rw[Ha h];exact Gn)];exact h2 h
end OS
namespace OS
open Vbemac
def kt:Exps->Gm Exp
 | .nil=>[]
 | .cons e l=>e::kt l
def tu:Rest->Gm Exp
 | .nil=>[]
 | .cons _ e r=>e::tu r
def vT:Rest->Gm HA
 | .nil=>[]
 | .cons op _ r=>op::vT r
def o0 (s:GJ) (a:Int):HH:=if s=1 then a == 0 else a !=0
def ka (s:GJ):Int:=if s=1 then 0 else 1
end OS
namespace OS
open PySem PySem.Spec L2
open PyProof.Rows hiding St
inductive ui:Gm G0->Gm Stmt->Prop
 |nil:ui [] []
 |cons {f:G0}{fs:Gm G0}{ss:Gm Stmt}{p1 p2 p3 p4:Pos}(_:ui fs ss):ui (f::fs) (.Assign [.Attribute (.Name "self" p1) f p2] (.Name f p3) p4::ss)
inductive mt (C:Gx) (fs:Gm G0) (vs:Gm V) (H:Hp) (Q:VK) (_E:XK):Prop
 |mk (p dx:Gx) (ws:Gm V) (_:vs= .ref p::ws) (_:ws.length=fs.length) (_:H p=GM (.ins C dx [])) (_: ∀H':Hp,H' p=GM (.ins C dx (fs.zip ws))->(∀b o,H b=GM o->b≠p->H' b=GM o)->Q .Kk H'):mt C fs vs H Q _E
theorem tO {f:G0}{v:V} : ∀ {l:Gm (G0×V)},(∀x∈l,x.1≠f)->Lg f v l=l++[(f,v)]
 |[],_=>rfl
 | (g,x)::r,h=>by
  unfold Lg;rw[GB (h _ GP),tO λy hy=>h y (G8 _ hy)]
  rfl
section
variable {P:Hm}{w:HS}{K:Gu}{mg:G0->GF Gy}{base:Ij}
theorem FH {X:Cx}{D:dz}{p dx C:Gx}{σ:L2.St}(c:i8 X.K C) (h0:X.N[0]?=GM ("self":G0)) (v0:tq X.env.scope "self") (s0:σ[0]?=GM (GM (.ref p))):
  ∀ {fs:Gm G0}{ss:Gm Stmt},ui fs ss-> ∀ {k:GJ}{ws:Gm V}{done:Gm (G0×V)}{H:Hp},(∀g∈fs,aH X.K C g/\tq X.env.scope g/\(g == ("__debug__":G0))=IN/\(g == ("__classdict__":G0))=IN)->
   (∀i g,fs[i]?=GM g->X.N[k+i]?=GM g)->(∀i v,ws[i]?=GM v->σ[k+i]?=GM (GM v))->ws.length=fs.length->(done.map (·.1)++fs).Nodup->done.length+fs.length<1000->H p=GM (.ins C dx done)->
   (∀H':Hp,H' p=GM (.ins C dx (done++fs.zip ws))->(∀b o,H b=GM o->b≠p->H' b=GM o)->D.nx σ H')->Bd X ss D σ H:=by
 intro fs ss hi
 induction hi with
 |nil=>
  intro k ws done H _ _ _ hl _ _ hp q;refine eY (q H ?_ λb o e _=>e);rw[Oh.mp hl,Gm.zip_nil_left,GY];exact hp
 | @cons f fs ss p1 p2 p3 p4 _ ih=>
  intro k ws done H hg hN hw hl nd len hp q;cases ws with
  |nil=>cases hl
  |cons v ws=>
   obtain⟨no,vf,d1,d2⟩:=hg f GP;refine dB (fY (iB h0 v0) (iB (hN 0 f IO) vf d1 d2) IO) (gY (gY #[p,C,dx,done,IO,hp,c,no,by lia,?_] s0) (hw 0 v IO));have nf: ∀x∈done,x.1≠f:=λx hx e=>by
    have:=(Qg.mp nd).2.2 x.1 (Gm.mem_map_of_mem hx) f GP;exact this e
   rw[tO nf];refine ih (k:=k+1) (ws:=ws) (done:=done++[(f,v)]) (λg h=>hg g (G8 _ h)) (λi g e=>?_) (λi u e=>?_) (VR hl) ?_ ?_ aj λH' h1 h2=>?_
   .rw[R0,Nj 1];exact hN (i+1) g e
   .rw[R0,Nj 1];exact hw (i+1) u e
   .rw[IF,Hf];exact nd
   .rw[Gq]
    have:done.length+(fs.length+1)<1000:=len
    show done.length+1+fs.length<1000
    lia
   .refine q H' ?_ λb o e ne=>h2 b o (by rw[af ne];exact e) ne
    rw[h1,Hf]
    rfl
theorem ei {x IW:G0}{st:Stmt}{f:Gx}{fd:HX}{C:Gx}{fs:Gm G0}(F:sN K x IW st f fd) (S:ax ("self"::fs) ("self"::fs) (ah st)) (c:i8 K C) (no: ∀g∈fs,aH K C g) (i:ui fs (bq st))
  (hd:(fs.length<1000/\ ∀g∈fs,(g == ("__debug__":G0))=IN/\(g == ("__classdict__":G0))=IN):=by decide):b8 P w K mg base nF 1 f fd ("self"::fs) (mt C fs):=by
 refine F.ok S (λvs H Q E h=>?_) [02]
 .obtain⟨p,dx,ws,rfl,h,_⟩:=h
  exact Hr Rw h
 .obtain⟨p,dx,ws,rfl,hl,hp,q⟩:=h
  have vis: ∀g∈("self":G0)::fs,tq (ah st) g:=λg hg=>(S.par g hg).elim .inl λz=> .inr (.inl z)
  have e:L2.start ("self"::fs) (.ref p::ws)=GM (.ref p)::ws.map GM:=by
   unfold L2.start;rw[show(("self":G0)::fs).length-(V.ref p::ws).length=0 by rw[Gp,Gp,hl,Mb]];exact GY _
  rw[e];refine FH (C:=C) (p:=p) (dx:=dx) c IO (vis _ GP) IO i (k:=1) (ws:=ws) (done:=[]) (λg hg=>#[no g hg,vis g (G8 _ hg),hd.2 g hg]) (λi g e=>by rw[Nj];exact e) (λi v e=>?_) hl (JW.mp S.nd).2 (by rw[GK,GJ.zero_add];exact hd.1) hp λH' h1 h2=>q H' h1 h2;rw[Nj,RZ,HF,e]
  rfl
end
abbrev cZ.O {K:Gu}{mg:G0->GF Gy}{n:G0}{st:Stmt}{ps:Gm G0}{f:Gx}{fd:HX}(_:cZ K mg n st ps f fd) (P:Hm) (w:HS) (base:Ij) (k:GJ) (sp:Sp):Prop:=b8 P w K mg base (jF P w) k f fd ps sp
abbrev cZ.U {K:Gu}{mg:G0->GF Gy}{n:G0}{st:Stmt}{ps:Gm G0}{f:Gx}{fd:HX}(_:cZ K mg n st ps f fd) (P:Hm) (w:HS) (base:Ij) (k:GJ) (sp:Sp):Prop:=b8 P w K mg base nF k f fd ps sp
abbrev hJ.O {K:Gu}{C:Gx}{n q:G0}{st:Stmt}{ps:Gm G0}{f:Gx}{fd:HX}(_:hJ K C n q st ps f fd) (P:Hm) (w:HS) (mg:G0->GF Gy) (base:Ij) (k:GJ) (sp:Sp):Prop:=b8 P w K mg base (jF P w) k f fd ps sp
abbrev hJ.U {K:Gu}{C:Gx}{n q:G0}{st:Stmt}{ps:Gm G0}{f:Gx}{fd:HX}(_:hJ K C n q st ps f fd) (P:Hm) (w:HS) (mg:G0->GF Gy) (base:Ij) (k:GJ) (sp:Sp):Prop:=b8 P w K mg base nF k f fd ps sp
abbrev dZ (s:Stmt) (l:Gm G0):Prop:=ax l l (ah s)
theorem aeW:dZ abo ["self","worth"]:=ay [00]
theorem aeX:dZ abp ["self","name"]:=ay [00]
theorem aeY:dZ abq ["self","name","arguments"]:=ay [00]
theorem aeZ:dZ abr ["self","sign","operand"]:=ay [00]
theorem ae0:dZ abt ["self","strength","operands","signs"]:=ay [00]
theorem ae1:dZ abu ["self","condition","chosen","otherwise"]:=ay [00]
theorem ae2:dZ abv ["self","name","first","last","body"]:=ay [00]
theorem ae3:dZ abw ["self","name","exp"]:=ay [00]
theorem ae4:dZ abx ["self","name","first","last","statements"]:=ay [00]
theorem ae5:dZ aby ["self","condition","statements","else_statements"]:=ay [00]
theorem ae6:dZ abz ["self","side","zone","quarter","price","to_price","amount"]:=ay [00]
theorem ae7:dZ abA ["self","name","exp"]:=ay [00]
theorem ae8:dZ abB ["self","name","side","zone","price","amounts","under","group"]:=ay [00]
theorem ae9:dZ abC ["self","name","exp"]:=ay [00]
theorem afa:dZ abD ["self","name","parameters","exp"]:=ay [00]
theorem afb:dZ abE ["self","name","statements"]:=ay [00]
theorem ajy:dZ s_S ["self","number"]:=ay [00]
theorem afc:dZ abF ["self"]:=ay [00]
theorem afd:dZ abG ["self","kind","line","column"]:=ay [00]
theorem afe:dZ abH ["sign","right"]:=ay [00]
theorem aff:dZ abI ["sign","left","right"]:=ay [00]
theorem afg:dZ abJ ["sign","left","right"]:=ay [00]
theorem afh:dZ abK ["sign","number"]:=ay [00]
theorem afi:dZ abL ["name","numbers"]:=ay [00]
theorem afj:dZ abM ["strength","number"]:=ay [00]
theorem afk:dZ abN ["strength"]:=ay [00]
theorem ajz:dZ s_T ["self","kind","value","line","column"]:=ay [00]
theorem ajA:dZ s_h ["byte"]:=ay [00]
theorem ajB:dZ s_l ["byte"]:=ay [00]
theorem afl:dZ s_U ["text","at"]:=ay [00]
theorem afm:dZ s_V ["text","at"]:=ay [00]
theorem afn:dZ s_W ["text","at"]:=ay [00]
theorem afo:ax ["text","at","pair"] ["text","at"] (ah s_X):=ay [00]
theorem afp:ax ["text","at","end","glued"] ["text","at","end"] (ah s_Y):=ay [00]
theorem EZ:ax ["part","worth","byte"] ["part"] (ah s_B):=ay [00]
theorem aae:ax ["kind","part","byte"] ["kind","part"] (ah s_C):=ay [00]
theorem m7:ax ["text","found","line","line_start","at","end","kind"] ["text"] (ah s_m):=ay [00]
theorem afq:dZ abO ["self","tokens"]:=ay [00]
theorem afr:ax ["self","token"] ["self"] (ah s_c):=ay [00]
theorem afs:ax ["self","kind","token"] ["self","kind"] (ah s_d):=ay [00]
theorem ajC:dZ s_s ["self","value"]:=ay [00]
theorem aft:dZ abP ["self"]:=ay [00]
theorem afu:dZ abQ ["self"]:=ay [00]
theorem Xw:ax ["self","token"] ["self"] (ah abR):=ay [00]
theorem afv:dZ abS ["self"]:=ay [00]
theorem afw:ax ["self","token"] ["self"] (ah s_D):=ay [00]
theorem afx:dZ abT ["self","value"]:=ay [00]
theorem afy:dZ abU ["self","value"]:=ay [00]
theorem ajD:dZ s_M ["self"]:=ay [00]
theorem Xx:ax ["self","name"] ["self"] (ah abV):=ay [00]
theorem afz:dZ abW ["self","given"]:=ay [00]
theorem afA:dZ abX ["self","name"]:=ay [00]
theorem afB:dZ abY ["self","name"]:=ay [00]
theorem ajE:dZ s_g ["reader","depth"]:=ay [00]
theorem afC:dZ s_f ["reader","depth"]:=ay [00]
theorem afD:ax ["reader","depth","inner","condition","chosen"] ["reader","depth"] (ah abZ):=ay [00]
theorem afE:ax ["reader","depth","strength","operands","signs"] ["reader","depth","strength"] (ah s_E):=ay [00]
theorem aaf:ax ["reader","depth","inner","sign"] ["reader","depth"] (ah s_n):=ay [00]
theorem afF:ax ["reader","depth","name"] ["reader","depth"] (ah ab0):=ay [00]
theorem afG:ax ["reader","depth","inner","exp"] ["reader","depth"] (ah ab1):=ay [00]
theorem afH:ax ["reader","depth","inner","name","first","last","body"] ["reader","depth"] (ah ab2):=ay [00]
theorem afI:ax ["reader","depth","inner","name","wanted","arguments"] ["reader","depth"] (ah YL):=ay [00]
theorem afJ:dZ ab3 ["reader","sign"]:=ay [00]
theorem aag:ax ["tops","pieces","top"] ["tops"] (ah s_N):=ay [00]
theorem BE:ax ["pieces","found","piece","letter"] ["pieces"] (ah s_t):=ay [00]
theorem afK:ax ["top","parameters"] ["top"] (ah s_Z):=ay [00]
theorem aah:ax ["statements","depth","pieces","statement"] ["statements","depth"] (ah s_j):=ay [00]
theorem ajF:dZ s_F ["statement","depth"]:=ay [00]
theorem afL:ax ["statement","depth","pieces"] ["statement","depth"] (ah s_1):=ay [00]
theorem afM:ax ["step","pieces"] ["step"] (ah s_2):=ay [00]
theorem afN:ax ["block","pieces"] ["block"] (ah s_3):=ay [00]
theorem ajG:dZ s_e ["word","exp"]:=ay [00]
theorem ajH:dZ s_x ["node"]:=ay [00]
theorem ajI:dZ s_a ["exp"]:=ay [00]
theorem ajJ:dZ s_k ["exp","weakest"]:=ay [00]
theorem afO:dZ ab4 ["exp"]:=ay [00]
theorem ajK:dZ s_G ["exp"]:=ay [00]
theorem aai:ax ["arguments","pieces","argument"] ["arguments"] (ah s_O):=ay [00]
theorem Fp:ax ["chain","pieces","sign","operand"] ["chain"] (ah s_H):=ay [00]
theorem afP:ax ["choice","pieces"] ["choice"] (ah s_4):=ay [00]
theorem aaj:ax ["tops","top"] ["tops"] (ah s_5):=ay [00]
theorem afQ:dZ ab5 ["top"]:=ay [00]
theorem Fd:ax ["statements","statement"] ["statements"] (ah s_o):=ay [00]
theorem E6:ax ["statement","inner","chosen"] ["statement"] (ah s_I):=ay [00]
theorem Gb:ax ["step","zone","quarter","price"] ["step"] (ah s_6):=ay [00]
theorem FT:ax ["block","zone","price","amounts"] ["block"] (ah s_7):=ay [00]
theorem afR:dZ ab6 ["exp"]:=ay [00]
theorem afS:dZ s_u ["exp"]:=ay [00]
theorem ajL:dZ s_i ["exp"]:=ay [00]
theorem ajM:dZ s_P ["value"]:=ay [00]
theorem BQ:ax ["call","arguments","values","argument"] ["call"] (ah s_w):=ay [00]
theorem aak:ax ["unary","operand","value"] ["unary"] (ah s_8):=ay [00]
theorem aal:ax ["chain","operands","operand"] ["chain"] (ah s_9):=ay [00]
theorem Ab:ax ["chain","operands","values","decided","operand","value"] ["chain","operands"] (ah s_p):=ay [00]
theorem zQ:ax ["chain","operands","first","used","value"] ["chain","operands"] (ah s_y):=ay [00]
theorem yM:ax ["sign","left","right","left_value","right_value","value"] ["sign","left","right"] (ah ab7):=ay [00]
theorem D0:ax ["choice","condition","value"] ["choice"] (ah ab8):=ay [00]
theorem Ci:ax ["summed","first","last","first_value","last_value"] ["summed"] (ah s_J):=ay [00]
theorem aam:ax ["text","reader","tops"] ["text"] (ah s_z):=ay [00]
theorem afT:dZ ab9 ["reader"]:=ay [00]
theorem afU:ax ["reader","name","exp"] ["reader"] (ah aca):=ay [00]
theorem ajN:ax ["reader","exp"] ["reader"] (ah s_A):=ay [00]
theorem afV:ax ["reader","name","parameters","exp","parameter"] ["reader"] (ah acb):=ay [00]
theorem afW:ax ["reader","function","parameters"] ["reader","function"] (ah acd):=ay [00]
theorem afX:ax ["reader","function","name"] ["reader","function"] (ah ace):=ay [00]
theorem afY:ax ["reader","name"] ["reader"] (ah acf):=ay [00]
theorem afZ:ax ["reader","depth","statements","statement"] ["reader","depth"] (ah s_q):=ay [00]
theorem af0:dZ acg ["reader","depth"]:=ay [00]
theorem af1:ax ["reader","name","exp"] ["reader"] (ah ach):=ay [00]
theorem af2:dZ aci ["reader","depth"]:=ay [00]
theorem af3:ax ["reader","depth","inner","name","first","last","statements"] ["reader","depth"] (ah acj):=ay [00]
theorem af4:ax ["reader","depth","inner","condition","statements","else_statements"] ["reader","depth"] (ah ack):=ay [00]
theorem af5:dZ acm ["reader"]:=ay [00]
theorem ajO:dZ s_r ["reader","word"]:=ay [00]
theorem ajP:dZ s_Q ["reader","word"]:=ay [00]
theorem af6:ax ["reader","side","zone","quarter","price","to_price","amount"] ["reader"] (ah acn):=ay [00]
theorem af7:ax ["reader","name","side","zone","price","amounts","under","group"] ["reader"] (ah aco):=ay [00]
theorem af8:ax ["reader","name","exp"] ["reader"] (ah acp):=ay [00]
theorem af9:dZ acq ["reader"]:=ay [00]
theorem aan:ax ["text","byte"] ["text"] (ah s_K):=ay [00]
theorem ajQ:dZ s_L ["as_told"]:=ay [00]
theorem ajR:dZ s_R ["numbers"]:=ay [00]
theorem aao:ax ["text","tops","refusal"] ["text"] (ah s_b):=ay [00]
variable {P:Hm}{w:HS}{K:Gu}{mg:G0->GF Gy}{base:Ij}{a:bJ}
def lF (bs:Gv):Gm V:=bs.map λc=>V.int (nb c)
theorem ga (bs:Gv):(lF bs).length=bs.length:=by unfold lF;rw[GG]
theorem fV {bs:Gv}{i:GJ}{c:JV}(h:bs[i]?=GM c):(lF bs)[i]?=GM (V.int (nb c)):=by unfold lF;rw[HF,h];rfl
theorem pj {p:JV->Prop}(h: ∀n:GJ,n<256->p (MC n)) (c:JV):p c:=by
 have:=h c.toNat (V8 c)
 rwa [US] at this
theorem tS (c:JV):Je c=(decide ((48:Int)<=nb c)&&decide (nb c<=57)):=pj (p:=λc=>Je c=(decide ((48:Int)<=nb c)&&decide (nb c<=57))) [00] c
theorem Az (c:JV):Ld c=((decide ((65:Int)<=nb c)&&decide (nb c<=90))||((decide ((97:Int)<=nb c)&&decide (nb c<=122))||decide (nb c=95))):=
 pj (p:=λc=>Ld c=((decide ((65:Int)<=nb c)&&decide (nb c<=90))||((decide ((97:Int)<=nb c)&&decide (nb c<=122))||decide (nb c=95)))) [00] c
inductive wC (p:JV->HH) (vs:Gm V) (H:Hp) (Q:VK) (_E:XK):Prop
 |mk (c:JV) (_:vs=[.int (nb c)]) (_:Q (.bl (p c)) H):wC p vs H Q _E
inductive yC (K:Gu) (p:JV->HH) (vs:Gm V) (H:Hp) (Q:VK) (_E:XK):Prop
 |mk (l:Gx) (bs:Gv) (i:GJ) (_:vs=[.ref l, .int i]) (_:cK K H l (lF bs)) (_:i<=bs.length) (_:Q (.int (br p bs i:GJ)) H):yC K p vs H Q _E
theorem B8 (c:JV):fA c=!decide (V.int (nb c)=V.int 10):=pj (p:=λc=>fA c=!decide (V.int (nb c)=V.int 10)) [00] c
theorem j4 {i:GJ}{lo hi n:Int}{σ:St}{H:Hp}{Q:VK}(hv:σ[i]?=GM (GM (.int n))) (q:Q (.bl (decide (lo<=n)&&decide (n<=hi))) H):
  DP (vS λi j=> .bl (decide (i<=j))) (vS λi j=> .bl (decide (i<=j))) (tC (.int lo)) (d7 i) (tC (.int hi)) σ H Q:=by
 refine gY #[_,_,IO,IO,_,IO,?_] hv;by_cases h1:lo<=n
 .rw[GD (Hy h1)]
  rw[Hy h1,Yx] at q;exact#[_,_,IO,IO,q]
 .rw[GB (by rw[Ha h1];exact Gn)]
  rw[Ha h1,WS] at q;exact q
theorem cS:decide (V.int i=V.int j)=decide (i=j):=decide_eq_decide.mpr #[λy=>V.int.inj y,λy=>by rw[y]]
theorem bi {A B:Prop}(h1:b=Ix->A) (h2:b=IN->B):if b=Ix then A else B:=by
 cases b with
 |true=>exact dR (h1 IO)
 |false=>exact cQ (h2 IO)
theorem Ft (T:Txt K mg a):T.d_h.U P w base 1 (wC Je):=by
 refine T.d_h.F.ok ajA [03] [02];obtain⟨c,rfl,q⟩:=h;refine#[_,(ak (aB (lA jb jb aG (pv 0) aG))),?_];rw[tS] at q;exact j4 IO q
theorem aap (T:Txt K mg a):T.d_l.U P w base 1 (wC Ld):=by
 refine T.d_l.F.ok ajB [03] [02];obtain⟨c,rfl,q⟩:=h;refine#[_,(ak (aB (Du (lA jb jb aG (pv 0) aG) (Du (lA jb jb aG (pv 0) aG) (nU (cH cu (pv 0) aG (a0 _))))))),?_];rw[Az] at q;refine j4 IO #[_,IO,bi (λe=>?_) λe=>?_]
 .rw[e,S7] at q
  exact q
 .rw[e,PH] at q
  refine j4 IO #[_,IO,bi (λe=>?_) λe=>?_]
  .rw[e,S7] at q
   exact q
  .rw[e,PH] at q
   refine#[IO,?_];rw[cS];exact q
theorem ajS (T:Txt K mg a):T.d_U.U P w base 1 (yC K fA):=by
 refine T.d_U.F.ok afl [03] [02];obtain⟨l,bs,i,rfl,hS,hi,q⟩:=h;refine#[_,(ai (jo Jw (lZ (bg iR (pv 1) (aR bL (by rfl) T.LR Jc (aa (pv 0) ac)) (a0 _)) (lm (bg uy (eS cX (pv 0) (pv 1) (λ_ _=>rfl)) (bB (by rfl) T.Qp) (a0 _)))).pt (ak (lV (i:=1) afl.nd IO (HD IO) aG lX)))
   (ak (aB (pv 1)))),?_]
 refine#[λm σ H'=> ∃j:GJ,m=bs.length-j/\σ=[GM (.ref l),GM (.int (j:GJ))]/\H'=H/\j<=bs.length/\br fA bs j=br fA bs i,#[_,i,IO,IO,IO,hi,IO],?_];rintro m σ H' ⟨j,rfl,rfl,rfl,hj,ej⟩;refine#[_,_,IO, .inl hS,_,_,IO,IO,_,IO,?_];rw[ga];refine bi (λe=>?_) λe=>?_
 .have lt:j<bs.length:=by have:=Hn e;lia
  obtain⟨c,hc⟩: ∃c,bs[j]?=GM c:=#[_,IX lt];refine#[_,_,_,_,IO,IO,hS,ci (fV hc),IO,_,IO,?_];have st:fA c=!decide (V.int (nb c)=V.int 10):=B8 c;refine bi (λe2=>?_) λe2=>?_
  .refine#[λσ' Ta=>σ'=[GM (.ref l),GM (.int ((j+1:GJ)))]/\Ta=H',?_,_,IO,_,_,IO,IO,IO,IO]
   rintro σ' Ta ⟨rfl,rfl⟩;exact#[_,by lia,j+1,IO,IO,IO,lt,by rw[<-ej,lq hc (st.trans e2)]]
  .refine ?_
   rw[<-ej,pP hc (st.trans e2)] at q;exact q
 .have ge:bs.length<=j:=by have:=Hq e;lia
  refine cQ ?_;rw[<-ej,lY ge] at q;exact q
theorem ajT (T:Txt K mg a):T.d_V.U P w base 2 (yC K b6):=by
 have G_l:=aap (P:=P) (w:=w) (base:=base) T
 have G_h:=Ft (P:=P) (w:=w) (base:=base) T;refine T.d_V.F.ok afm [03] [02];obtain⟨l,bs,i,rfl,hS,hi,q⟩:=h;refine#[_,(ai (jo Jw (lZ (bg iR (pv 1) (aR bL (by rfl) T.LR Jc (aa (pv 0) ac)) (a0 _)) (lm (qK (bS (aq G_l hr (by rfl) T.d_l.c aC (aa (eS cX (pv 0) (pv 1) (λ_ _=>rfl)) ac))) (oy (bS (aq G_h hr (by rfl) T.d_h.c aC (aa (eS cX (pv 0) (pv 1) (λ_ _=>rfl)) ac))))).pt)).pt (ak (lV (i:=1) afm.nd IO (HD IO) aG lX)))
   (ak (aB (pv 1)))),?_]
 refine#[λm σ H'=> ∃j:GJ,m=bs.length-j/\σ=[GM (.ref l),GM (.int (j:GJ))]/\H'=H/\j<=bs.length/\br b6 bs j=br b6 bs i,#[_,i,IO,IO,IO,hi,IO],?_];rintro m σ H' ⟨j,rfl,rfl,rfl,hj,ej⟩;refine#[_,_,IO, .inl hS,_,_,IO,IO,_,IO,?_];rw[ga];refine bi (λe=>?_) λe=>?_
 .have lt:j<bs.length:=by have:=Hn e;lia
  obtain⟨c,hc⟩: ∃c,bs[j]?=GM c:=#[_,IX lt];have go:b6 c=Ix-> ∃N:St->Hp->Prop,(∀σ' Ta,N σ' Ta-> ∃m',m'<bs.length-j/\ ∃j1:GJ,m'=bs.length-j1/\σ'=[GM (.ref l),GM (.int (j1:GJ))]/\Ta=H'/\j1<=bs.length/\br b6 bs j1=br b6 bs i)/\
    N [GM (.ref l),GM (.int ((j+1:GJ)))] H':=λy=>by
   refine#[λσ' Ta=>σ'=[GM (.ref l),GM (.int ((j+1:GJ)))]/\Ta=H',?_,IO,IO];rintro σ' Ta ⟨rfl,rfl⟩;exact#[_,by lia,j+1,IO,IO,IO,lt,by rw[<-ej,lq hc y]]
  refine#[_,_,_,_,IO,IO,hS,ci (fV hc),c,IO,_,IO,bi (λe2=>?_) λe2=>?_]
  .obtain⟨N,n1,n2⟩:=go (by unfold b6;rw[e2];rfl)
   exact dR #[N,n1,_,IO,_,_,IO,IO,n2]
  .refine#[_,_,_,_,IO,IO,hS,ci (fV hc),c,IO,_,IO,bi (λe3=>?_) λe3=>?_]
   .obtain⟨N,n1,n2⟩:=go (by unfold b6;rw[e3,Qm])
    exact#[N,n1,_,IO,_,_,IO,IO,n2]
   .refine ?_
    rw[<-ej,pP hc (by unfold b6;rw[e2,e3];rfl)] at q;exact q
 .have ge:bs.length<=j:=by have:=Hq e;lia
  refine cQ ?_;rw[<-ej,lY ge] at q;exact q
theorem ajU (T:Txt K mg a):T.d_W.U P w base 2 (yC K Je):=by
 have G_h:=Ft (P:=P) (w:=w) (base:=base) T;refine T.d_W.F.ok afn [03] [02];obtain⟨l,bs,i,rfl,hS,hi,q⟩:=h;refine#[_,(ai (jo Jw (lZ (bg iR (pv 1) (aR bL (by rfl) T.LR Jc (aa (pv 0) ac)) (a0 _)) (lm (bS (aq G_h hr (by rfl) T.d_h.c aC (aa (eS cX (pv 0) (pv 1) (λ_ _=>rfl)) ac))))).pt (ak (lV (i:=1) afn.nd IO (HD IO) aG lX)))
   (ak (aB (pv 1)))),?_]
 refine#[λm σ H'=> ∃j:GJ,m=bs.length-j/\σ=[GM (.ref l),GM (.int (j:GJ))]/\H'=H/\j<=bs.length/\br Je bs j=br Je bs i,#[_,i,IO,IO,IO,hi,IO],?_];rintro m σ H' ⟨j,rfl,rfl,rfl,hj,ej⟩;refine#[_,_,IO, .inl hS,_,_,IO,IO,_,IO,?_];rw[ga];refine bi (λe=>?_) λe=>?_
 .have lt:j<bs.length:=by have:=Hn e;lia
  obtain⟨c,hc⟩: ∃c,bs[j]?=GM c:=#[_,IX lt];refine#[_,_,_,_,IO,IO,hS,ci (fV hc),c,IO,_,IO,bi (λe2=>?_) λe2=>?_]
  .refine#[λσ' Ta=>σ'=[GM (.ref l),GM (.int ((j+1:GJ)))]/\Ta=H',?_,_,IO,_,_,IO,IO,IO,IO]
   rintro σ' Ta ⟨rfl,rfl⟩;exact#[_,by lia,j+1,IO,IO,IO,lt,by rw[<-ej,lq hc e2]]
  .refine ?_
   rw[<-ej,pP hc e2] at q;exact q
 .have ge:bs.length<=j:=by have:=Hq e;lia
  refine cQ ?_;rw[<-ej,lY ge] at q;exact q
theorem dg (hg:Gl X x) (hm:X.mg x=GM (.ref p)) (hd:(x == ("__debug__":G0))=IN:=by decide):PE X (.Name x pos) (tC (.ref p)):=rX hg hm IO hd
theorem oK {bs:Gv}{i j:GJ} :kQ (lF bs) (GM (i:Int)) (GM (j:Int))=lF (cV bs i j):=by
 unfold kQ cV;rw[HT.QG,HT.QG,ga];unfold lF;rw[<-PJ,<-Gm.map_take]
 congr 1
 by_cases hi:i<=bs.length
 .rw[OU hi]
  by_cases hj:j<=bs.length
  .rw[OU hj]
  .rw[V3 (show bs.length<=j by lia),Ki (by rw[J3];lia),Ki (by rw[J3];lia)]
 .rw[V3 (show bs.length<=i by lia),SE (GU _),SE (show bs.length<=i by lia)]
  simp
theorem aaq (h:kb x=kb y):x=y:=QL.mp (U5 (WZ h))
theorem ES {x y:Gv}(h:x.map kb=y.map kb):x=y:=(UO λ_ _ z=>aaq z).mp h
theorem aar (w:Gv):(w.map kb).map kV=lF w:=by unfold lF;rw[JT];rfl
theorem yP (w:Gv): ∀L:Gm Gv,cW (L.map λs=>(s.map kb,V.str (dD s))) (w.map kb)=if w∈L then GM (V.str (dD w)) else Id
 |[]=>by simp [cW]
 |s::L=>by
  rw[GZ];by_cases e:s=w
  .subst e
   rw[cT IO,GD GP]
  .rw[cF (λz=>e (ES z)),yP w L]
   by_cases m:w∈L
   .rw[GD m,GD (G8 _ m)]
   .rw[GB m,GB λz=>(Hc.mp z).elim (λy=>e y.symm) m]
theorem uJ (w:Gv):cW eN (w.map kb)=if w∈Ic then GM (V.str (dD w)) else Id:=yP w Ic
theorem jD (w:Gv):(cW eN (w.map kb)).isSome=decide (w∈Ic):=by
 rw[uJ];by_cases m:w∈Ic
 .rw[GD m,Hy m];rfl
 .rw[GB m,Ha m];rfl
def fD (bs:Gv) (i:GJ) (c:JV):GJ:=if Ld c=Ix then br b6 bs i else if Je c=Ix then br Je bs i else bI bs i
inductive uA (K:Gu) (vs:Gm V) (H:Hp) (Q:VK) (_E:XK):Prop
 |mk (l:Gx) (bs:Gv) (i:GJ) (c:JV) (_:vs=[.ref l, .int i]) (_:cK K H l (lF bs)) (_:bs[i]?=GM c) (_: ∀H',aI H H'->Q (.int (fD bs i c:GJ)) H'):uA K vs H Q _E
theorem be {H:Hp}(h:H p=YA):aI H (bf H p o):=λb u e=>by rw[af (aw e h)];exact e
theorem ajV (T:Txt K mg a) (kS:Be P w K a.K3 eN):T.d_X.U P w base 3 (uA K):=by
 have G_l:=aap (P:=P) (w:=w) (base:=base) T
 have G_h:=Ft (P:=P) (w:=w) (base:=base) T
 have G_V:=ajT (P:=P) (w:=w) (base:=base) T
 have G_W:=ajU (P:=P) (w:=w) (base:=base) T;refine T.d_X.F.ok afo [03] [02];obtain⟨l,bs,i,c,rfl,hS,hc,q⟩:=h
 have hi:i<=bs.length:=Mc (Hk.mp hc).1;refine#[_,(ai (bz (bS (aq G_l (hr.mono [01]) (by rfl) T.d_l.c aC (aa (eS cX (pv 0) (pv 1) (λ_ _=>rfl)) ac))) (ak (aB (aq G_V (hr.mono [01]) (by rfl) T.d_V.c aC (aa (pv 0) (aa (pv 1) ac))))) aQ)
   (ai (bz (bS (aq G_h (hr.mono [01]) (by rfl) T.d_h.c aC (aa (eS cX (pv 0) (pv 1) (λ_ _=>rfl)) ac))) (ak (aB (aq G_W (hr.mono [01]) (by rfl) T.d_W.c aC (aa (pv 0) (aa (pv 1) ac))))) aQ)
   (ai (b4 (i:=2) afo.nd IO (HD IO) (ii gU (by rfl) T.RF M9 (aa (ip jH (pv 0) (gj (pv 1)) (gj (aZ d9 (pv 1) aG))) ac)))
   (ak (aB (dL (fB (yU (gS hr) (pv 2) (dg (by rfl) T.RE))) (aZ d9 (pv 1) (aR bL (by rfl) T.LR Jc (aa (pv 2) ac))) (aZ d9 (pv 1) aG))))))),?_]
 refine#[_,_,_,_,IO,IO,hS,ci (fV hc),c,IO,_,IO,bi (λe=>?_) λe=>?_]
 .refine#[l,bs,i,IO,hS,hi,?_]
  have z:=q H (aI.refl H);unfold fD at z;rw[GD e] at z;exact z
 .refine#[_,_,_,_,IO,IO,hS,ci (fV hc),c,IO,_,IO,bi (λe2=>?_) λe2=>?_]
  .refine#[l,bs,i,IO,hS,hi,?_]
   have z:=q H (aI.refl H);unfold fD at z;rw[GB (by rw[e];exact Gn),GD e2] at z;exact z
  .refine#[_,IO,_,_,IO,IO,_,IO,_,_,IO,hS,λp hp=>?_]
   refine#[p,_,IO, .inl #[cK.of aj,λt ht=>?_]];have cut:kQ (lF bs) (GM (i:Int)) (GM ((i:Int)+2))=lF (cV bs i (i+2)):=oK (j:=i+2);rw[cut] at ht ⊢;have sm:aI H (bf (bf H p (.lst (lF (cV bs i (i+2))))) t (.tup (lF (cV bs i (i+2))))):=(be hp).trans (be ht);have z:=q _ sm;unfold fD at z;rw[GB (by rw[e];exact Gn),GB (by rw[e2];exact Gn)] at z;unfold bI at z;refine#[a.K3,t,(cV bs i (i+2)).map kb,eN,IO,kS,IO,by rw[aj,aar],_,IO,bi (λe3=>?_) λe3=>?_]
   .rw[jD] at e3
    rw[GD (Hn e3)] at z;refine#[_,_,IO, .inr (pV.of aj),_,_,IO,IO,?_];rw[ga];exact z
   .rw[jD] at e3
    rw[GB (Hq e3)] at z;exact#[_,_,IO,IO,z]
def jN (bs:Gv) (i e:GJ) (c:JV):Int:=if Ld c=Ix then(if e-i<=24 then 0 else 4) else if Je c=Ix then(if 18<e-i\/qT bs e=Ix then 4 else 1) else if cV bs i e∈Ic then 2 else 4
inductive qp (K:Gu) (vs:Gm V) (H:Hp) (Q:VK) (_E:XK):Prop
 |mk (l:Gx) (bs:Gv) (i e:GJ) (c:JV) (_:vs=[.ref l, .int i, .int e]) (_:cK K H l (lF bs)) (_:bs[i]?=GM c) (_:i<=e) (_:e<=bs.length) (_: ∀H',aI H H'->Q (.int (jN bs i e c)) H'):qp K vs H Q _E
theorem ajW (T:Txt K mg a) (kS:Be P w K a.K3 eN):T.d_Y.U P w base 2 (qp K):=by
 have G_l:=aap (P:=P) (w:=w) (base:=base) T
 have G_h:=Ft (P:=P) (w:=w) (base:=base) T;refine T.d_Y.F.ok afp [03] [02];obtain⟨l,bs,i,e,c,rfl,hS,hc,hie,he,q⟩:=h;refine#[_,(ai (bz (bS (aq G_l (hr.mono [01]) (by rfl) T.d_l.c aC (aa (eS cX (pv 0) (pv 1) (λ_ _=>rfl)) ac))) (ak (aB (dL (bg jb (aZ eQ (pv 2) (pv 1)) (bB (by rfl) T.QQ) (a0 _)) (bB (by rfl) T.TC) (bB (by rfl) T.PU)))) aQ)
   (ai (bz (bS (aq G_h (hr.mono [01]) (by rfl) T.d_h.c aC (aa (eS cX (pv 0) (pv 1) (λ_ _=>rfl)) ac))) (ai (b4 (i:=3) afp.nd IO (HD IO) (wg (cH iR (pv 2) (aR bL (by rfl) T.LR Jc (aa (pv 0) ac)) (a0 _)) (nU (aq G_l (hr.mono [01]) (by rfl) T.d_l.c aC (aa (eS cX (pv 0) (pv 2) (λ_ _=>rfl)) ac)))))
   (ak (aB (dL (qK (bS (pv 3)) (oy (bg qD (aZ eQ (pv 2) (pv 1)) (bB (by rfl) T.P7) (a0 _)))).pt (bB (by rfl) T.PU) (bB (by rfl) T.PR))))) aQ)
   (ak (aB (dL (fB (yU (gS hr) (ii gU (by rfl) T.RF M9 (aa (ip jH (pv 0) (gj (pv 1)) (gj (pv 2))) ac)) (dg (by rfl) T.RE))) (bB (by rfl) T.VB) (bB (by rfl) T.PU)))))),?_]
 refine#[_,_,_,_,IO,IO,hS,ci (fV hc),c,IO,_,IO,bi (λe1=>?_) λe1=>?_]
 .refine#[_,_,IO,IO,_,_,IO,IO,_,IO,?_]
  have z:=q H (aI.refl H);unfold jN at z;rw[GD e1] at z;refine bi (λe2=>?_) λe2=>?_
  .have:=Hn e2
   rw[GD (by lia)] at z;exact z
  .have:=Hq e2
   rw[GB (by lia)] at z;exact z
 .refine#[_,_,_,_,IO,IO,hS,ci (fV hc),c,IO,_,IO,bi (λe2=>?_) λe2=>?_]
  .have z:=q H (aI.refl H)
   unfold jN at z;rw[GB (by rw[e1];exact Gn),GD e2] at z;have rest: ∀b:HH,qT bs e=b->ZG (tIf (tOr (tB (d7 3)) (Xm (Bc (vS λi j=> .bl (decide (j<i))) (Bc (vS λi j=> .int (i-j)) (d7 2) (d7 1)) (tC (.int 18))))) (tC (.int 4)) (tC (.int 1))) { nx:=λ_ H'=>Q .Kk H',rt:=Q } [GM (.ref l),GM (.int i),GM (.int e),GM (.bl b)] H:=λb hb=>by
    refine#[_,IO,bi (λe3=>?_) λe3=>?_]
    .rw[GD (.inr (hb.trans e3))] at z
     exact dR z
    .refine#[_,_,IO,IO,_,_,IO,IO,_,IO,bi (λe4=>?_) λe4=>?_]
     .have:=Hn e4
      rw[GD (.inl (by lia))] at z;exact z
     .have:=Hq e4
      rw[GB (λy=>y.elim (λy=>by lia) λy=>by rw[hb,e3] at y;cases y)] at z;exact z
   refine#[_,_,IO, .inl hS,_,_,IO,IO,_,IO,?_];rw[ga];refine bi (λe3=>?_) λe3=>?_
   .have lt:e<bs.length:=by have:=Hn e3;lia
    obtain⟨g,hg⟩: ∃g,bs[e]?=GM g:=#[_,IX lt];refine#[_,_,_,_,IO,IO,hS,ci (fV hg),g,IO,?_];exact rest (Ld g) (by unfold qT;rw[hg];rfl)
   .have ge:bs.length<=e:=by have:=Hq e3;lia
    exact rest IN (by unfold qT;rw[Tb ge];rfl)
  .refine#[_,IO,_,IO,_,_,IO,hS,λp hp=>?_]
   refine#[p,_,IO, .inl #[cK.of aj,λt ht=>?_]];rw[oK] at ht ⊢;have sm:aI H (bf (bf H p (.lst (lF (cV bs i e)))) t (.tup (lF (cV bs i e)))):=(be hp).trans (be ht);have z:=q _ sm;unfold jN at z;rw[GB (by rw[e1];exact Gn),GB (by rw[e2];exact Gn)] at z;refine#[a.K3,t,(cV bs i e).map kb,eN,IO,kS,IO,by rw[aj,aar],_,IO,bi (λe3=>?_) λe3=>?_]
   .rw[jD] at e3
    rw[GD (Hn e3)] at z;exact z
   .rw[jD] at e3
    rw[GB (Hq e3)] at z;exact z
section
open Vbemac (valueOf)
theorem rq (l:Gv) (c:JV):valueOf (l++[c])=10*valueOf l+(c.toNat-48):=by unfold valueOf;rw[Gm.foldl_append];rfl
theorem Dc (h:Je c=Ix):48<=nb c:=by
 rw[tS,Jt] at h;exact Hn h.1
inductive yn (K:Gu) (vs:Gm V) (H:Hp) (Q:VK) (_E:XK):Prop
 |mk (l:Gx) (u:Gv) (_:vs=[.ref l]) (_:cK K H l (lF u)) (_:(∀c∈u,Je c=Ix)) (_:Q (.int (valueOf u:GJ)) H):yn K vs H Q _E
def one (c:JV):G0:=#[[c.toNat].toArray]
theorem qU: ∀w:Gv,TL.Sw [] (w.map λc=>[c.toNat])=w.map Kz
 |[]=>rfl
 |[c]=>rfl
 |c::d::r=>by
  show [c.toNat]++([]++TL.Sw [] ((d::r).map λc=>[c.toNat]))=_
  rw[qU (d::r)]
  rfl
theorem DD (w:Gv):Ut ("":G0) (w.map one)=sb w:=by
 rw[TL.join_eq];refine TL.VG ?_;rw[TL.Ud,JT];exact qU w
def Bm:G0:="0123456789:;<=>?@ABCDEFGHIJKLMNOPQRSTUVWXYZ[\\]^_`abcdefghijklmnopqrstuvwxyz"
theorem zF:Bm.length<=GV:=by decide+kernel
theorem Di (h:b6 c=Ix):Cy Bm.cps.toList (nb c-48)=GM c.toNat:=by
 revert h;exact pj (p:=λc=>b6 c=Ix->Cy Bm.cps.toList (nb c-48)=GM c.toNat) [00] c
inductive D6 (K:Gu) (vs:Gm V) (H:Hp) (Q:VK) (_E:XK):Prop
 |mk (k:Int) (l:Gx) (u:Gv) (_:vs=[.int k, .ref l]) (_:cK K H l (lF u)) (_:u.length<=3000) (_:((k=0/\(∀c∈u,b6 c=Ix)/\ ∀H',aI H H'->Q (.str (sb u)) H')\/(k=1/\(∀c∈u,Je c=Ix)/\ ∀H',aI H H'->Q (.int (valueOf u:GJ)) H')\/
   (k=2/\u∈Ic/\ ∀H',aI H H'->Q (.str (dD u)) H')\/(k=4/\ ∀H',aI H H'->Q (.str (sb [])) H'))):D6 K vs H Q _E
theorem ajX (T:Txt K mg a):T.d_B.U P w base 1 (yn K):=by
 refine T.d_B.F.ok EZ [03] [02];obtain⟨l,u,rfl,hS,hd,q⟩:=h;refine#[_,(ai (b4 (i:=1) EZ.nd IO (HD IO) aG)
   (ai (kj Jw IO (fL (pv 0)) (cY (i:=2) EZ.nd IO (HD IO)) (ak (b4 (i:=1) EZ.nd IO (HD IO) (aZ eQ (aZ d9 (aZ Bq (pv 1) aG) (pv 2)) aG))))
   (ak (aB (pv 1))))),?_]
 refine#[l,IO,#[_,hS],ie (K:=K) (a:=l) (xs:=lF u) (λi σ H'=> ∃v:GF V,σ=[GM (.ref l),GM (.int (valueOf (u.take i):GJ)),v]/\H'=H) #[Id,IO,IO] (λi σ H' _ ⟨_,_,e⟩=>by rw[e];exact hS) ?_ ?_]
 .rintro i y σ H' hi ⟨v,rfl,rfl⟩
  obtain⟨c,hc,rfl⟩: ∃c,u[i]?=GM c/\y=V.int (nb c):=by
   unfold lF at hi;rw[HF] at hi;cases e:u[i]? with
   |none=>rw[e] at hi;cases hi
   |some c=>rw[e] at hi;exact#[c,IO,(G7 hi).symm]
  refine#[_,_,IO,IO, .inr #[by decide,by decide],_,_,IO,IO,_,_,IO,IO,GM (.int (nb c)),?_,IO];have g:=Dc (hd c (Iu hc));have e:((valueOf (u.take (i+1)):GJ):Int)=(valueOf (u.take i):GJ)*10+nb c-48:=by
   rw[NM,hc];show((valueOf (u.take i++[c]):GJ):Int)=_;rw[rq];have g':48<=c.toNat:=Int.ofNat_le.mp g;show((10*valueOf (u.take i)+(c.toNat-48):GJ):Int)=(valueOf (u.take i):GJ)*10+(c.toNat:Int)-48;lia
  rw[e]
  rfl
 .rintro σ H' ⟨v,rfl,rfl⟩
  rw[ga,Mw];exact q
theorem ajY (T:Txt K mg a) (kS:Be P w K a.K3 eN):T.d_C.U P w base 2 (D6 K):=by
 have G_B:=ajX (P:=P) (w:=w) (base:=base) T;refine T.d_C.F.ok aae [03] [02];obtain⟨k,l,u,rfl,hS,hlen,h⟩:=h;refine#[_,(ai (bz (bg cu (pv 0) (bB (by rfl) T.TC) (a0 _)) (ak (aB (yy aK (zw IO aae.nd (fL (pv 1)) (own:=[("byte",2)]) (eB (by show mX ["kind","part","byte"] (ah s_C) _ [("byte",2)]=Ix;decide+kernel)) (λ_ _ _ _ _=>cY (i:=2) aae.nd IO (HD IO)) (λ_ _ _ _ _=>kT) (λ_ _ _ _ _=>(eS ZT (aeS (by rfl) T.TF) (aZ eQ (pv 2) aG) (λ_ _=>rfl))))))) aQ)
   (ai (bz (bg cu (pv 0) (bB (by rfl) T.PR) (a0 _)) (ak (aB (aq G_B (hr.mono [01]) (by rfl) T.d_B.c aC (aa (pv 1) ac)))) aQ)
   (ai (bz (bg cu (pv 0) (bB (by rfl) T.VB) (a0 _)) (ak (aB (Bn (gS hr) (dg (by rfl) T.RE) (ii gU (by rfl) T.RF M9 (aa (pv 1) ac)) (λ_ _=>rfl)))) aQ)
   (ak (aB aK))))),?_]
 refine#[IO,_,IO,?_];rw[cS];rcases h with⟨rfl,hw,q⟩|⟨rfl,hd,q⟩|⟨rfl,hs,q⟩|⟨rfl,q⟩
 .refine dR ?_
  refine#[#[_,IO],l,IO,#[_,hS],λD hD=>?_];have sm:aI H (bf H D (.lst [])):=be hD;refine si (K:=K) (a:=l) (xs:=lF u) (λi H'=>aI H H'/\H' D=GM (.lst (((u.take i).map one).map V.str))) #[sm,aj] (λi H' _ z=>z.1.seq hS) ?_ ?_
  .rintro i y H' hi ⟨s1,Sy⟩
   obtain⟨c,hc,rfl⟩: ∃c,u[i]?=GM c/\y=V.int (nb c):=by
    unfold lF at hi;rw[HF] at hi;cases e:u[i]? with
    |none=>rw[e] at hi;cases hi
    |some c=>rw[e] at hi;exact#[c,IO,(G7 hi).symm]
   refine#[IO,?_];unfold qc;dsimp only;rw[GD IO];refine#[_,_,IO,IO,_,_,_,IO,IO,zF,Di (hw c (Iu hc)),_,Sy,?_,?_,?_]
   .have z:=(Gm.length_take_le i u)
    rw[GG,GG];refine HE (TU i u) ?_;exact HE hlen [01]
   .exact λb o e=>by rw[af (aw e hD)];exact s1 b o e
   .rw[aj,NM,hc]
    show GM (HO.lst (((u.take i).map one).map V.str++[V.str #[[c.toNat].toArray]]))=GM (HO.lst (((u.take i++[c]).map one).map V.str))
    rw[IF,IF]
    rfl
  .rintro H' ⟨s1,Sy⟩
   rw[ga,Mw] at Sy;refine#[_,D,u.map one,IO,IO, .inl (cK.of Sy),?_,?_]
   .have e:((u.map one).map (·.length)).sum=u.length:=by
     rw[JT];clear hS hlen hw q Sy s1 sm
     induction u with
     |nil=>rfl
     |cons c r ih=>rw[GZ,RL,ih,Gp];show 1+r.length=_;lia
    rw[e];show u.length+(u.map one).length*0<=16777216;lia
   .rw[DD]
    exact q H' s1
 .refine cQ #[IO,_,IO,?_]
  rw[cS];exact dR #[l,u,IO,hS,hd,q H (aI.refl H)]
 .refine cQ #[IO,_,IO,?_]
  rw[cS];refine cQ #[IO,_,IO,?_];rw[cS];refine dR #[l,_,IO, .inl #[hS,λt ht=>?_]];refine#[a.K3,t,u.map kb,eN,_,IO,kS,IO,by rw[aj,aar],(by rw[uJ,GD hs]),q _ (be ht)]
 .refine cQ #[IO,_,IO,?_]
  rw[cS];refine cQ #[IO,_,IO,?_];rw[cS];exact cQ (q H (aI.refl H))
end
section
open Vbemac (valueOf)
def CT (k v l c:V):Gm (G0×V):=Lg "column" c (Lg "line" l (Lg "value" v (Lg "kind" k [])))
def iT:HW->Int
 | .word _=>0
 | .num _=>1
 | .sign _=>2
 | .eof=>3
 | .bad=>4
def i5:HW->V
 | .word u=> .str (sb u)
 | .num n=> .int (n:GJ)
 | .sign u=> .str (dD u)
 | .eof=> .str (sb [])
 | .bad=> .str (sb [])
inductive gw (C:Gx) (H:Hp) (p:Gx) (x:HW×HJ):Prop
 |mk (dx:Gx) (_:H p=GM (.ins C dx (CT (.int (iT x.1)) (i5 x.1) (.int (x.2.1:GJ)) (.int (x.2.2:GJ))))):gw C H p x
inductive Xy (C:Gx) (vs:Gm V) (H:Hp) (Q:VK) (_E:XK):Prop
 |mk (p dx:Gx) (k v l c:V) (_:vs=[.ref p,k,v,l,c]) (_:H p=GM (.ins C dx [])) (_: ∀H':Hp,H' p=GM (.ins C dx (CT k v l c))->(∀b o,H b=GM o->b≠p->H' b=GM o)->Q .Kk H'):Xy C vs H Q _E
theorem Bo (c:JV):uD (.int (nb c)) [.int 9, .int 10, .int 13, .int 32]=RP c:=pj (p:=λc=>uD (.int (nb c)) [.int 9, .int 10, .int 13, .int 32]=RP c) [00] c
inductive C9 (K:Gu) (C:Gx) (vs:Gm V) (H:Hp) (Q:VK) (_E:XK):Prop
 |mk (l:Gx) (bs:Gv) (_:vs=[.ref l]) (_:cK K H l (lF bs)) (_:bs.length<=3000) (_: ∀(H':Hp) (q:Gx) (as:Gm Gx),aI H H'->H q=YA->H' q=GM (.lst (as.map V.ref))->Paired (gw C H') as (HY bs)->Q (.ref q) H'):C9 K C vs H Q _E
theorem gw.keep {H H':Hp}(h:gw C H p x) (k: ∀b o,H b=GM o->(∀xs,o≠ .lst xs)->H' b=GM o):gw C H' p x:=by
 obtain⟨dx,e⟩:=h;exact#[dx,k _ _ e λxs z=>nomatch z]
theorem gM {α β:Type}{F:α->β->Prop} : ∀ {l:Gm α}{m:Gm β}{x:α}{y:β},Paired F l m->F x y->Paired F (l++[x]) (m++[y])
 |_,_,_,_, .nil,h=> .cons h .nil
 |_,_,_,_, .cons r t,h=> .cons r (gM t h)
def Xz (k:Int) (u:Gv) (v:V):Prop:=(k=0/\(∀c∈u,b6 c=Ix)/\v= .str (sb u))\/(k=1/\(∀c∈u,Je c=Ix)/\v= .int (valueOf u:GJ))\/(k=2/\u∈Ic/\v= .str (dD u))\/(k=4/\v= .str (sb []))
theorem rZ (h:Ld c=Ix):b6 c=Ix:=by unfold b6;rw[h];rfl
theorem CH {p:JV->HH} :i<=br p bs i:=by unfold br;lia
theorem pO {p:JV->HH}(h:bs[i]?=GM c) (hp:p c=Ix):i<br p bs i:=by
 rw[lq h hp];exact CH
theorem uI {p:JV->HH} : ∀c∈cV bs i (br p bs i),p c=Ix:=by
 rw[<-kO];exact sH _
theorem mK:(cV bs i j).length<=bs.length-i:=by
 unfold cV;rw[Mv,J3];lia
theorem pb (h:bs[i]?=GM c):i<bI bs i/\bI bs i<=bs.length:=by
 obtain⟨hi,_⟩:=Hk.mp h;have l1:0<(cV bs i (i+2)).length:=by unfold cV;rw[Jn,fP h];exact GJ.succ_pos _
 have l2:=mK (bs:=bs) (i:=i) (j:=i+2);unfold bI;split<;>lia
theorem Da (h:bs[i]?=GM c) (hb:RP c=IN) (PZ: ¬c=35):i<fD bs i c/\fD bs i c<=bs.length/\ ∃y:HW,jN bs i (fD bs i c) c=iT y/\Xz (iT y) (cV bs i (fD bs i c)) (i5 y)/\
  ∀k q,Pq (k+1) q (bs.drop i)=if iT y=4 then [(y,q)] else(y,q)::Pq k (q.1,q.2+(fD bs i c-i)) (bs.drop (fD bs i c)):=by
 obtain⟨hi,_⟩:=Hk.mp h;unfold fD jN;cases hl:Ld c with
 |true=>
  rw[GD IO,GD IO];refine#[pO h (rZ hl),oY (Mc hi),?_];by_cases g:br b6 bs i-i<=24
  .refine#[.word (cV bs i (br b6 bs i)),GD g, .inl #[IO,uI,IO],λk q=>?_]
   rw[lD h hb PZ hl,GB (by lia)];exact(GB (by show¬(0:Int)=4;decide)).symm
  .refine#[.bad,GB g, .inr (.inr (.inr #[IO,IO])),λk q=>?_]
   rw[lD h hb PZ hl,GD (by lia)];exact(GD IO).symm
 |false=>
  rw[GB Gn,GB Gn];cases hd:Je c with
  |true=>
   rw[GD IO,GD IO];refine#[pO h hd,oY (Mc hi),?_];by_cases g:18<br Je bs i-i\/qT bs (br Je bs i)=Ix
   .refine#[.bad,GD g, .inr (.inr (.inr #[IO,IO])),λk q=>?_]
    rw[nv h hb PZ hl hd,GD g];exact(GD IO).symm
   .refine#[.num (valueOf (cV bs i (br Je bs i))),GB g, .inr (.inl #[IO,uI,IO]),λk q=>?_]
    rw[nv h hb PZ hl hd,GB g];exact(GB (by show¬(1:Int)=4;decide)).symm
  |false=>
   rw[GB Gn,GB Gn];refine#[(pb h).1,(pb h).2,?_];by_cases g:cV bs i (bI bs i)∈Ic
   .refine#[.sign (cV bs i (bI bs i)),GD g, .inr (.inr (.inl #[IO,g,IO])),λk q=>?_]
    rw[kN h hb PZ hl hd,GD g];exact(GB (by show¬(2:Int)=4;decide)).symm
   .refine#[.bad,GB g, .inr (.inr (.inr #[IO,IO])),λk q=>?_]
    rw[kN h hb PZ hl hd,GB g];exact(GD IO).symm
theorem XB (h:nb c=nb d):c=d:=QL.mp (U5 h)
theorem vK:(as++[x]).map V.ref=as.map V.ref++[V.ref x]:=by rw[IF];rfl
theorem CG {K:Gu}{H:Hp}{Q:VK}{E:XK}(ok:Xz k u v) (hS:cK K H l (lF u)) (hl:u.length<=3000) (q: ∀H',aI H H'->Q v H'):D6 K [.int k, .ref l] H Q E:=by
 refine#[k,l,u,IO,hS,hl,?_];rcases ok with⟨h,g,rfl⟩|⟨h,g,rfl⟩|⟨h,g,rfl⟩|⟨h,rfl⟩
 .exact .inl #[h,g,q]
 .exact .inr (.inl #[h,g,q])
 .exact .inr (.inr (.inl #[h,g,q]))
 .exact .inr (.inr (.inr #[h,q]))
theorem qe (T:Txt K mg a):T.d_T.U P w mg base 1 (Xy a.Ka):=by
 refine T.d_T.F.ok ajz [03] [02];obtain⟨p,dx,k,v,l,c,rfl,hp,q⟩:=h;refine#[_,(ai (fY (pv 0) (pv 1) IO)
   (ai (fY (pv 0) (pv 2) IO)
   (ai (fY (pv 0) (pv 3) IO)
   (ak (fY (pv 0) (pv 4) IO))))),?_]
 have l1:(Lg "kind" k []).length<1000:=HE (dq "kind" k []) [01]
 have l2:(Lg "value" v (Lg "kind" k [])).length<1000:=HE (GX (dq "value" v _) (LF (dq "kind" k []))) [01]
 have l3:(Lg "line" l (Lg "value" v (Lg "kind" k []))).length<1000:=HE (GX (dq "line" l _) (LF (GX (dq "value" v _) (LF (dq "kind" k []))))) [01];refine#[p,_,dx,_,IO,hp,T.JP,T.La,(by show 0<1000;decide),?_];refine#[p,_,dx,_,IO,aj,T.JP,T.Kl,l1,?_];refine#[p,_,dx,_,IO,aj,T.JP,T.NH,l2,?_];refine#[p,_,dx,_,IO,aj,T.JP,T.MI,l3,?_];refine q _ aj λb o e hb=>?_
 rw[af hb,af hb,af hb,af hb];exact e
structure aga (C:Gx) (bs:Gv) (q:Gx) (H H':Hp) (i ln ls:GJ) (as:Gm Gx):Prop where
 sm:aI H H'
 lst:H' q=GM (.lst (as.map V.ref))
 agb:i<=bs.length
 agc:ls<=i
 rest: ∃(ts:Gw) (k:GJ),Paired (gw C H') as ts/\bs.length<i+k/\HY bs=ts++Pq k (ln,i-ls+1) (bs.drop i)/\as.length<=i
theorem xW {H5 H6:Hp}(hx:H6 x=GM (.ins C dx (CT (.int (iT y.1)) (i5 y.1) (.int (y.2.1:GJ)) (.int (y.2.2:GJ)))))
  (k: ∀b o,H5 b=GM o->H6 b=GM o) (p:Paired (gw C H5) as ts) (nq:x≠q) (hq:H6 q=GM (.lst (as.map V.ref))):
  Paired (gw C (bf H6 q (.lst ((as++[x]).map V.ref)))) (as++[x]) (ts++[y]):=by
 refine gM (Paired.Np p λb z h=>?_) #[dx,by rw[af nq];exact hx];refine gw.keep h λb' o e no=>?_;have ne:b'≠q:=λz=>by
  have w1:=k _ _ e;rw[z,hq] at w1;exact no _ (G7 w1).symm
 rw[af ne];exact k _ _ e
theorem ajZ (T:Txt K mg a) (kS:Be P w K a.K3 eN):T.d_m.U P w base 4 (C9 K a.Ka):=by
 have G_U:=ajS (P:=P) (w:=w) (base:=base) T
 have G_X:=ajV (P:=P) (w:=w) (base:=base) T kS
 have G_Y:=ajW (P:=P) (w:=w) (base:=base) T kS
 have G_C:=ajY (P:=P) (w:=w) (base:=base) T kS
 have G_T:=qe (P:=P) (w:=w) (base:=base) T;refine T.d_m.F.ok m7 [03] [02];obtain⟨l,bs,rfl,hS,hlen,hQ⟩:=h;refine#[_,(ai (b4 (i:=1) m7.nd IO (HD IO) (bj ac))
   (ai (b4 (i:=2) m7.nd IO (HD IO) aG)
   (ai (b4 (i:=3) m7.nd IO (HD IO) aG)
   (ai (b4 (i:=4) m7.nd IO (HD IO) aG)
   (ai (jo Jw (bg iR (pv 4) (aR bL (by rfl) T.LR Jc (aa (pv 0) ac)) (a0 _)) (ak (bz (bg jE (eS cX (pv 0) (pv 4) (λ_ _=>rfl)) (dg (by rfl) T.VC) IO) (ai (lV (i:=4) m7.nd IO (HD IO) aG lX)
   (ak (bz (bg cu (eS cX (pv 0) (aZ eQ (pv 4) aG) (λ_ _=>rfl)) (bB (by rfl) T.Qp) (a0 _)) (ai (lV (i:=2) m7.nd IO (HD IO) aG lX)
   (ak (b4 (i:=3) m7.nd IO (HD IO) (pv 4)))) aQ))) (ak (bz (bg cu (eS cX (pv 0) (pv 4) (λ_ _=>rfl)) (bB (by rfl) T.Uz) (a0 _)) (ak (b4 (i:=4) m7.nd IO (HD IO) (aq G_U (hr.mono [01]) (by rfl) T.d_U.c aC (aa (pv 0) (aa (pv 4) ac))))) (ai (b4 (i:=5) m7.nd IO (HD IO) (aq G_X (hr.mono [01]) (by rfl) T.d_X.c aC (aa (pv 0) (aa (pv 4) ac))))
   (ai (b4 (i:=6) m7.nd IO (HD IO) (aq G_Y (hr.mono [01]) (by rfl) T.d_Y.c aC (aa (pv 0) (aa (pv 4) (aa (pv 5) ac)))))
   (ai (a6 (df G6 Ik Il di (pv 1) (aa (kK T.Sb G_T (hr.mono [01]) (by rfl) T.R9 T.d_T.c.b .nil aC (aa (pv 6) (aa (aq G_C (hr.mono [01]) (by rfl) T.d_C.c aC (aa (pv 6) (aa (ip jH (pv 0) (gj (pv 4)) (gj (pv 5))) ac))) (aa (pv 2) (aa (aZ d9 (aZ eQ (pv 4) (pv 3)) aG) ac))))) ac)))
   (ai (bz (bg cu (pv 6) (bB (by rfl) T.PU) (a0 _)) (ak (aB (pv 1))) aQ)
   (ak (b4 (i:=4) m7.nd IO (HD IO) (pv 5))))))))))))
   (ai (a6 (df G6 Ik Il di (pv 1) (aa (kK T.Sb G_T (hr.mono [01]) (by rfl) T.R9 T.d_T.c.b .nil aC (aa (bB (by rfl) T.W9) (aa aK (aa (pv 2) (aa (aZ d9 (aZ eQ (pv 4) (pv 3)) aG) ac))))) ac)))
   (ak (aB (pv 1))))))))),?_]
 refine#[HB _,λq hq=>#[λm σ H'=> ∃(i ln ls:GJ) (as:Gm Gx) (v5 v6:GF V),m=bs.length-i/\σ=[GM (.ref l),GM (.ref q),GM (.int ln),GM (.int ls),GM (.int i),v5,v6]/\aga a.Ka bs q H H' i ln ls as,#[_,0,1,0,[],Id,Id,IO,IO,#[be hq,aj,HB _,GU _,[],bs.length+1, .nil,by lia,IO,GU _]],?_]];rintro m σ H1 ⟨i,ln,ls,as,v5,v6,rfl,rfl,M⟩;have XD:=M.sm.seq hS;obtain⟨ts,k,pr,hk,tk,asl⟩:=M.rest;have ile:=M.agb;have aj0:=M.agc;obtain⟨k,rfl⟩: ∃k',k=k'+1:=#[k-1,by lia];have ec:(i:Int)-(ls:Int)+1=((i-ls+1:GJ):Int):=by lia
 refine#[_,_,IO, .inl XD,_,_,IO,IO,_,IO,?_];rw[ga];refine bi (λe=>?_) λe=>?_
 .have lt:i<bs.length:=by have:=Hn e;lia
  obtain⟨c,hc⟩: ∃c,bs[i]?=GM c:=#[_,IX lt];refine#[λσ' Ta=> ∃(i' ln' ls':GJ) (as':Gm Gx) (v5' v6':GF V),i<i'/\σ'=[GM (.ref l),GM (.ref q),GM (.int ln'),GM (.int ls'),GM (.int i'),v5',v6']/\aga a.Ka bs q H Ta i' ln' ls' as',?_,?_]
  .rintro σ' Ta ⟨i',ln',ls',as',v5',v6',lt',rfl,M'⟩
   have:=M'.agb;exact#[_,by lia,i',ln',ls',as',v5',v6',IO,IO,M']
  refine#[_,_,_,_,IO,IO,XD,ci (fV hc),_,_,IO, .inr T.VD.sq,IO,IO,_,IO,?_];show if uD (.int (nb c)) [.int 9, .int 10, .int 13, .int 32]=Ix then _ else _
  rw[Bo];refine bi (λhb=>?_) λhb=>?_
  .refine#[_,IO,_,_,IO,IO,?_]
   refine#[_,_,IO,IO,_,_,_,V.int (nb c),IO,IO,XD,(by rw[Int.add_sub_cancel];exact ci (fV hc)),IO,_,IO,?_];rw[cS];have lx:=lQ (k:=k) (q:=(ln,i-ls+1)) hc hb;refine bi (λh10=>?_) λh10=>?_
   .have c10:c=10:=XB (Hn h10)
    refine#[_,IO,_,_,IO,IO,i+1,ln+1,i+1,as,v5,v6,MA i,IO,#[M.sm,M.lst,lt,GU _,ts,k,pr,by lia,?_,by lia]];rw[tk,lx,c10,Mb]
    rfl
   .have c10: ¬c=10:=λz=>GW (by rw[z];rfl) (Hq h10)
    refine#[i+1,ln,ls,as,v5,v6,MA i,IO,#[M.sm,M.lst,lt,GJ.le_succ_of_le aj0,ts,k,pr,by lia,?_,by lia]];rw[tk,lx,show i+1-ls+1=i-ls+1+1 by lia];unfold Vbemac.advance;rw[GB c10]
  .refine#[_,_,_,_,IO,IO,XD,ci (fV hc),IO,_,IO,?_]
   rw[cS];refine bi (λPZ=>?_) λPZ=>?_
   .have c35:c=35:=XB (Hn PZ)
    have g:i<br fA bs i:=pO hc (by rw[c35];rfl)
    have g2:br fA bs i<=bs.length:=oY ile;refine#[l,bs,i,IO,XD,ile,br fA bs i,ln,ls,as,v5,v6,g,IO,#[M.sm,M.lst,g2,by lia,ts,k,pr,by lia,?_,by lia]];rw[tk,jm hc hb c35]
    show ts++Pq k (ln,i-ls+1+(br fA bs i-i)) _=_
    rw[show i-ls+1+(br fA bs i-i)=br fA bs i-ls+1 by lia]
   .have c35: ¬c=35:=λz=>GW (by rw[z];rfl) (Hq PZ)
    obtain⟨g,g2,y,ky,vy,lx⟩:=Da hc hb c35;have lx:=lx k (ln,i-ls+1);refine#[l,bs,i,c,IO,XD,hc,λH2 s2=>?_];refine#[l,bs,i,fD bs i c,c,IO,s2.seq XD,hc,Mc g,g2,λH3 s3=>?_];rw[ky];generalize fD bs i c=en at g g2 vy lx ky ⊢;have s13:aI H1 H3:=s2.trans s3;have hS3:=s13.seq XD;refine#[.inl #[IO,_,cK.of (s13 _ _ M.lst)],?_];refine#[_,IO,_,IO,_,_,IO,hS3,λp hp=>?_];rw[oK];refine CG vy (cK.of aj) ?_ λH4 s4=>?_
    .have:=mK (bs:=bs) (i:=i) (j:=en)
     lia
    have s14:aI H1 H4:=s13.trans ((be hp).trans s4);refine#[_,_,IO,IO,_,_,IO,IO,λx dx hx WJ ne=>#[x,dx,_,_,_,_,IO,aj,λH5 h5 k5=>#[IO,?_]]]
    have h5:H5 x=GM (.ins a.Ka dx (CT (.int (iT y)) (i5 y) (.int (ln:GJ)) (.int ((i-ls+1:GJ):Int)))):=by rw[<-ec];exact h5
    have s15:aI H1 H5:=λb o e=>k5 b o (by rw[af (aw (s14 b o e) hx),af (aw (s14 b o e) WJ)];exact s14 b o e) (aw (s14 b o e) hx)
    have nq:x≠q:=(aw (s14 _ _ M.lst) hx).symm
    have q5:=s15 _ _ M.lst
    have pn:=xW (y:=(y,ln,i-ls+1)) h5 s15 pr nq q5
    have sm5:aI H (bf H5 q (.lst ((as++[x]).map V.ref))):=λb o e=>by rw[af (aw e hq)];exact s15 b o (M.sm b o e)
    refine#[q,_,_,IO,IO,q5,by rw[GG];exact HE (GX asl (GX ile hlen)) [01],?_];rw[<-vK];refine#[IO,_,IO,?_];rw[cS];refine bi (λk4=>?_) λk4=>?_
    .rw[GD (Hn k4)] at lx
     refine(hQ _ q (as++[x]) sm5 hq aj ?_);rw[tk,lx];exact pn
    .rw[GB (Hq k4)] at lx
     refine#[en,ln,ls,as++[x],_,_,g,IO,#[sm5,aj,g2,by lia,ts++[(y,ln,i-ls+1)],k,pn,by lia,?_,by rw[Gq,Kp];lia]];rw[tk,lx,Hf];show ts++(y,ln,i-ls+1)::Pq k (ln,i-ls+1+(en-i)) _=_;rw[show i-ls+1+(en-i)=en-ls+1 by lia]
     rfl
 .have lx:=EW (k:=k) (q:=(ln,i-ls+1)) (bs:=bs) (i:=i) (by have:=Hq e;lia)
  refine#[.inl #[IO,_,cK.of M.lst],?_];refine#[_,_,IO,IO,_,_,IO,IO,λx dx hx WJ ne=>#[x,dx,_,_,_,_,IO,aj,λH5 h5 k5=>#[IO,?_]]];have h5:H5 x=GM (.ins a.Ka dx (CT (.int (iT .eof)) (i5 .eof) (.int (ln:GJ)) (.int ((i-ls+1:GJ):Int)))):=by rw[<-ec];exact h5
  have s15:aI H1 H5:=λb o e=>k5 b o (by rw[af (aw e hx),af (aw e WJ)];exact e) (aw e hx)
  have nq:x≠q:=(aw M.lst hx).symm
  have q5:=s15 _ _ M.lst
  have pn:=xW (y:=(.eof,ln,i-ls+1)) h5 s15 pr nq q5
  have sm5:aI H (bf H5 q (.lst ((as++[x]).map V.ref))):=λb o e=>by rw[af (aw e hq)];exact s15 b o (M.sm b o e)
  refine#[q,_,_,IO,IO,q5,by rw[GG];exact HE (GX asl (GX ile hlen)) [01],?_];rw[<-vK];refine(hQ _ q (as++[x]) sm5 hq aj ?_);rw[tk,lx];exact pn
end
theorem Fv (K:Gu):U1 K (.type "Exception") (.type "type") "__init__"=GM (.val (.builtin "Exception.__init__")):=by kernel_rfl
theorem aas:typeOf (.type "Exception")=Hz (.type "type"):=by kernel_rfl
theorem Ea:Manifest.isStub "Exception"=IN:=by decide+kernel
theorem Dm:Mz "Exception"=GM (.type "Exception"):=by decide+kernel
theorem aat {H:Hp}{a:Gx}(h:H a=GM o):bf H a o=H:=by
 funext b
 by_cases e:b=a
 .rw[e,aj,h]
 .exact af e
def CQ (C:Gx) (i:GJ):TS:=λD σ H=> ∃p,σ[i]?=GM (GM (.ref p))/\H p=GM (sI C p)/\D.nx σ H
theorem wr (XC:ir X.K R C fI) (hg:Gl X "Exception") (hm:X.mg "Exception"=Id) (hx:PE X (.Name x p2) (d7 i))
  (Ms:Hb [.Name x p2] X.env=[(IN,eval (.Name x p2) X.env)]:=by rfl) (hs:Lb (.Call (.Attribute (.Name "Exception" p1) "__init__" L8) [.Name x p2] [] ML) Id pos.line X.env=Hz IN:=by rfl)
  {pl:Sem HH}(ht:eval (.Call (.Attribute (.Name "Exception" p1) "__init__" L8) [.Name x p2] [] ML) X.env=(do
   let ov<-eval (.Name "Exception" p1) X.env
   standAt L8.atName
   let (f,first)<-holding [ov] (O1 ov "__init__" pl)
   Th ML f first (J6 ML (Hb [.Name x p2] X.env)) (N7 ML (LL [] X.env))):=by rfl):
  PS X (.Expr (.Call (.Attribute (.Name "Exception" p1) "__init__" L8) [.Name x p2] [] ML) pos) (CQ C i):=by
 intro pins s σ H D I h;obtain⟨p,hp,hH,hD⟩:=h;refine wpAny_Expr_any ?_ I.quiet hs;refine Ma (pl:=pl) (rP I hg hm Dm ?_) ht;obtain⟨m,Fr⟩:=I.fr;refine PySem.W.method_type Fr I.mod.U6 aas Ea (Fv X.K) IO ?_;have I0:aP X pins σ H { s with toks:=s.toks+1 } :=I.tok _;refine O3 (e:= .Name x p2) (rest:=[]) ?_ (by rw[Ms];rfl) IO;rw[Ms];refine Nf (cG (hx pins _ σ H (λv H'=>v= .ref p/\H'=H) I0 (gY #[IO,IO] hp)) λu s1 z=>?_);obtain⟨v,H',I1,rv,e1,e2⟩:=z;subst e1 e2;cases rv;refine NI ?_;obtain⟨h1,g1,d1,t1,VI⟩:=s1;obtain⟨⟨T,hT⟩,_⟩:=I1.Jy _ _ hH;obtain⟨Nn,mN,oI,NR,mR,⟨nm,q,bs,sn,sub,ab,col,dd,k0,k1,k2,k3,k5,hC⟩,_⟩:=XC.at_ h1 I1.NV;refine QK (zG Q0 aeR hC hT ?_);have gx:((h1.push (e8 [])).update p (JE (·.setIfInBounds 0 (.ref h1.objs.size)))).get? p=GM (dO C h1.objs.size):=
  Kq _ (GN _ hT) IO
 have J:aP X pins σ (bf H' p (sI C p)) ⟨(h1.push (e8 [])).update p (JE (·.setIfInBounds 0 (.ref h1.objs.size))),g1,d1,t1,VI⟩:=
  I1.write (x:=p) (e:=p) (t':=t1) (by rw[hH];exact IK) (.inl IO) (λb u hb z=>by rw[IC _ _ (KY hb)];exact GN _ z) #[_,gx]
   #[#[_,gx],#[_,gx],λ_ _ ⟨T,z⟩ y=>#[T,y _ z]]
 rw[aat hH] at J;exact#[σ,H',J,hD]
section
variable {CX:rl}{sp:Sp}{E:XK}
theorem vh (hg:Gl X x) (hm:X.mg x=GM (.ref R)) (c:DF X.K R m f) (F:b8 X.prog X.w X.K X.mg X.base CX k f fd ps sp) (hr:cy k X.A) (hb:iw X.K fd ps ds) (hd:bH RR ds) (hx:eJ CX X E) (ha:PA X (e::es) t)
  (So:(x == ("__debug__":G0))=IN:=by decide) (Ms:Hb (e::es) X.env=(IN,eval e X.env)::Hb es X.env:=by rfl) (MS:(J6 pos (Hb es X.env)).any (·.1)=IN:=by rfl)
  (ht:eval (.Call (.Attribute (.Name x p1) m L8) (e::es) [] pos) X.env=(do
   let ov<-eval (.Name x p1) X.env
   standAt L8.atName
   let (f,first)<-holding [ov] (O1 ov m pl)
   Th pos f first (J6 pos (Hb (e::es) X.env)) (N7 pos (LL [] X.env))):=by rfl):
  PE X (.Call (.Attribute (.Name x p1) m L8) (e::es) [] pos) (iS sp RR E t):=by
 intro pins s σ H Q I h;refine Ma (pl:=pl) (iM I hg hm ?_ So) ht;obtain⟨mm,Fr⟩:=I.fr;refine PySem.W.method_of_cls Fr I.mod.U6 c.sp (PySem.W.cls_val Fr I.mod.U6 c.ty c.rd c.fc IO ?_);have I0:aP X pins σ H { s with toks:=s.toks+1 } :=I.tok _;refine LM (first:=[]) (h₀:=X.base) I.ok.mod.U6 c.kp (cG (ha pos pins _ σ H _ I0 h) λus s1 ⟨vs,H1,I1,r,q⟩=>#[I1.NV,?_]) Ms MS
 exact sv F hr hb hd hx I1 r q
end
theorem jS:("__setattr__":G0)∈dH:=by decide+kernel
theorem qx:("__getattribute__":G0)∈dH:=by decide+kernel
theorem pk:("__getattr__":G0)∈dH:=by decide+kernel
theorem XAt.la {R C fI:Gx}{B:String}{y:GF Gy}(X:XAt h R C fI) (m:mroOf (.type B)=Hz dw) (q:n∈dH) (l:JD (.type B) n=Hz y):LA h (.ref R::dw) n y:=by
 obtain⟨_,_,_,_,_,_,_,_,_,_,_,⟨_,_,_,_,_,_,_,_,_,_,_,_,_,hR⟩,nR,qR⟩:=X;exact LA.own hR nR (qR n q) (LA.of m l)
section
variable {X:Cx}{pins:Gm (Gx×Kd)}{σ:St}{H:Hp}{s:GC}{R C fI p d:Gx}{f:G0}{y:V}{u:Gy}{A:IA}{E:Gy->GC->Prop}{Q:Nl->GC->Prop}{fs:Gm (G0×V)}{sa owner B:String}
theorem lM {mA:G0->GF Gy}(n:h.Ns1 d mA) (r: ∀g,gD (fs.lookup g) (mA g)) (wi:Om mA (fs.map (·.1))):cJ X.prog X.w H h d (c4 d fs):=by
 obtain⟨o,es,ep,e,z⟩:=id n;exact#[#[mA,n,r,wi],#[o,e],λh1 h2 ⟨m,n1,q1⟩ k=>#[m,n1.at k,q1]]
theorem Ey (XC:ir X.K R C fI) (SF:MY B dw sa owner) (hf:f∈dH) (hB:JD (.type B) f=Hz Id) (I:aP X pins σ H s) (e:H p=GM (sI C p)) (ry:bD y u)
  (h: ∀d s',H d=Id->aP X pins σ (bf (bf H d (c4 d [(f,y)])) p (k7 C d p)) s'->Q () s'):Hl (model X.prog X.w) A (SU (.ref p) f u) Q E s:=by
 have XA:=XC.at_ _ I.NV;obtain⟨⟨T,hT⟩,_⟩:=I.Jy _ _ e;obtain⟨h1,g1,d1,t1,VI⟩:=s;obtain⟨Nn,mN,oI,NR,mR,⟨nm,q,bs,sn,sub,ab,col,dd,k0,k1,k2,k3,k5,hC⟩,U7,WI,V1,_⟩:=id XA;refine yE SF hC U7 (V1 _ jS) (XA.la SF.mro jS SF.slot.lookup) hT IO λtk t=>BL SF hC U7 (V1 _ hf) (XA.la SF.mro hf hB) hT IO IO IO λh' U8 k kx kn=>#[IO,?_]
 have fr:H h1.objs.size=Id:=I.Jy.fresh (GU _)
 have np:h1.objs.size≠p:=λz=>by rw[z,e] at fr;cases fr
 refine h h1.objs.size _ fr ?_;have gd:(h1.push { cls:= .type "dict",data:= .dict [].toArray }).get? h1.objs.size=GM { cls:= .type "dict",data:= .dict [].toArray } :=Io _ IO;have n0:(h1.push { cls:= .type "dict",data:= .dict [].toArray }).Ns h1.objs.size (λ_=>Id):=#[_, [].toArray,_,gd,IO,(λe he=>GW he (by simp)),λ_=>rfl]
 have I1:aP X pins σ (bf H h1.objs.size (c4 h1.objs.size [])) ⟨h1.push { cls:= .type "dict",data:= .dict [].toArray },g1,d1,U8,VI⟩:=
  I.laid (t':=U8) (λb u z=>GN _ z) (GU _) (lM (Po n0) (λ_=>IK) λg hg=>GW IO hg)
 have hp1:(h1.push { cls:= .type "dict",data:= .dict [].toArray }).get? p=GM (dO C T):=GN _ hT
 have gp:((h1.push { cls:= .type "dict",data:= .dict [].toArray }).update p λo=> { o with dict:=GM h1.objs.size }).get? p=GM { dO C T with dict:=GM h1.objs.size } :=Kq _ hp1 IO
 have I2:aP X pins σ (bf (bf H h1.objs.size (c4 h1.objs.size [])) p (k7 C h1.objs.size p)) ⟨(h1.push { cls:= .type "dict",data:= .dict [].toArray }).update p λo=> { o with dict:=GM h1.objs.size },g1,d1,U8,VI⟩:=
  I1.write (x:=p) (e:=p) (t':=U8) (by rw[af np.symm,e];exact IK) (.inl IO) (λb u hb z=>by rw[IC _ _ (KY hb)];exact z) #[_,gp]
   #[#[_,_,gp,IO,IO,IO,IO],#[_,gp],λ_ _ ⟨o,vs,z,r⟩ k=>#[o,vs,k _ z,r]]
 obtain⟨od,_,_,hod,_⟩:=id kn;have I3:aP X pins σ (bf (bf (bf H h1.objs.size (c4 h1.objs.size [])) p (k7 C h1.objs.size p)) h1.objs.size (c4 h1.objs.size [(f,y)])) ⟨h',g1,d1,U8,VI⟩:=by
  refine I2.write (x:=h1.objs.size) (e:=h1.objs.size) (t':=U8) (by rw[af np,aj];exact IK) (.inl IO) (λb v hb z=>?_) #[_,hod] (lM kn (λg=>?_) λg hg=>?_)
  .by_cases bp:b=p
   .rw[bp] at z ⊢
    rw[gp] at z;rw[kx,<-z]
   .rw[IC _ _ (KY bp)] at z
    refine k b v bp ?_;rcases Ij.get?_push_cases z with⟨z1,_⟩|z1
    .exact GW z1 hb
    .exact z1
  .show gD (Kj g [(f,y)]) (if g=f then GM u else Id)
   by_cases gf:g=f
   .rw[gf,GD IO]
    simp only[Kj,IG];exact ry
   .rw[GB gf,Kj,show(g == f)=IN from beq_eq_false_iff_ne.mpr gf]
    exact IK
  .by_cases gf:g=f
   .rw[gf];exact GP
   .exact GW (GB gf) hg
 have eH:bf (bf (bf H h1.objs.size (c4 h1.objs.size [])) p (k7 C h1.objs.size p)) h1.objs.size (c4 h1.objs.size [(f,y)])=bf (bf H h1.objs.size (c4 h1.objs.size [(f,y)])) p (k7 C h1.objs.size p):=by
  funext b
  by_cases b1:b=h1.objs.size
  .rw[b1,aj,af np,aj]
  .by_cases b2:b=p
   .rw[b2,af np.symm,aj,aj]
   .rw[af b1,af b2,af b1,af b2,af b1]
 rw[eH] at I3;exact I3
theorem DB (XC:ir X.K R C fI) (SF:MY B dw sa owner) (hf:f∈dH) (hB:JD (.type B) f=Hz Id) (I:aP X pins σ H s) (e:H p=GM (k7 C d p)) (ed:H d=GM (c4 d fs)) (hl:fs.length<1000) (ry:bD y u)
  (h: ∀s',aP X pins σ (bf H d (c4 d (Lg f y fs))) s'->Q () s'):Hl (model X.prog X.w) A (SU (.ref p) f u) Q E s:=by
 have XA:=XC.at_ _ I.NV;obtain⟨⟨o,vs,x1,x2,x3,x4,x5⟩,_⟩:=I.Jy _ _ e;obtain⟨⟨mA,n,r,wi⟩,_⟩:=I.Jy _ _ ed;obtain⟨h1,g1,d1,t1,VI⟩:=s;obtain⟨Nn,mN,oI,NR,mR,⟨nm,q,bs,sn,sub,ab,col,dd,k0,k1,k2,k3,k5,hC⟩,U7,WI,V1,_⟩:=id XA
 have dp:d≠p:=λz=>by
  obtain⟨o',es,ep,z1,z2,_⟩:=n;rw[z,x1] at z1;have y:=G7 z1;rw[<-y,x4] at z2;cases z2
 have hz:(fs.map (·.1)).length<=1000:=by rw[GG];lia
 refine yE SF hC U7 (V1 _ jS) (XA.la SF.mro jS SF.slot.lookup) x1 x2 λtk t=>Dr SF hC U7 (V1 _ hf) (XA.la SF.mro hf hB) x1 x2 x3 n wi hz λh' U8 k kn=>#[IO,?_];obtain⟨od,_,_,hod,_⟩:=id kn;refine h _ (I.write (x:=d) (e:=d) (t':=U8) (by rw[ed];exact IK) (.inl IO) k #[_,hod] (lM kn (λg=>?_) λg hg=>?_))
 .rw[jf]
  by_cases gf:g=f
  .rw[GD gf,GD gf];exact ry
  .rw[GB gf,GB gf];exact r g
 .by_cases gf:g=f
  .rw[gf];exact(ib f y fs).1
  .refine(ib f y fs).2 g (wi g λz=>hg ?_)
   show(if g=f then GM u else mA g)=Id
   rw[GB gf];exact z
theorem Fz {Q:Gy->GC->Prop}{φ:Ij->Prop}(XC:ir X.K R C fI) (hf:f∈dH) (hB:JD (.type "Exception") f=Hz Id) (I:aP X pins σ H s)
  (e: ∃o vs,s.heap.get? p=GM o/\o.cls= .ref C/\o.dict=GM d/\o.data= .fields vs) (ed:H d=GM (c4 d fs)) (l:fs.lookup f=GM v)
  (h: ∀u s',aP X pins σ H s'->bD v u->Q u s'):Hl (model X.prog X.w) A (SQ (.ref p) f b) Q E s:=by
 have XA:=XC.at_ _ I.NV;obtain⟨o,vs,x1,x2,x3,x4⟩:=e;obtain⟨⟨mA,n,r,wi⟩,_⟩:=I.Jy _ _ ed;obtain⟨h1,g1,d1,t1,VI⟩:=s;obtain⟨Nn,mN,oI,NR,mR,⟨nm,q,bs,sn,sub,ab,col,dd,k0,k1,k2,k3,k5,hC⟩,U7,WI,V1,_⟩:=id XA
 have dp:d≠p:=λz=>by
  obtain⟨o',es,ep,z1,z2,_⟩:=n;rw[z,x1] at z1;have y:=G7 z1;rw[<-y,x4] at z2;cases z2
 have nc: ∀c,o.data≠ .cls c:=λc z=>by rw[x4] at z;cases z
 have I0:h1.Inst p C mA:=#[o,x1,x2,nc, .inr #[d,x3,dp,n]];obtain⟨u,hu,ru⟩:=gD.some_of (v:=v) (o:=mA f) (by rw[<-l];exact r f);exact F6 CF (XA.la JG.mro qx aeO) (XA.la JG.mro pk aeP) (hC) U7 (V1 _ qx) (V1 _ pk) (V1 _ hf) (XA.la JG.mro hf hB) I0 hu (PySem.W.handedOut_of (qA ru)) (h u _ (I.tok _) ru)
end
section
variable {ta tv:TE}
def sX0 (C:Gx) (ta tv:TE) (f:G0):TS:=λD σ H=>tv σ H λy H1=>ta σ H1 λx H2=> ∃p,x= .ref p/\H2 p=GM (sI C p)/\ ∀d,H2 d=Id->D.nx σ (bf (bf H2 d (c4 d [(f,y)])) p (k7 C d p))
def sX1 (C:Gx) (ta tv:TE) (f:G0):TS:=λD σ H=>tv σ H λy H1=>ta σ H1 λx H2=> ∃p d fs,x= .ref p/\H2 p=GM (k7 C d p)/\H2 d=GM (c4 d fs)/\fs.length<1000/\D.nx σ (bf H2 d (c4 d (Lg f y fs)))
theorem agd (XC:ir X.K R C fI) (SF:MY "Exception" dw sa owner) (hf:f∈dH) (hB:JD (.type "Exception") f=Hz Id) (ha:PE X o ta) (hv:PE X Lk tv)
  (hs:Lb Lk (GM (.Attribute o f NW)) pos.line X.env=Hz IN):PS X (.Assign [.Attribute o f NW] Lk pos) (sX0 C ta tv f):=by
 intro pins s σ H D I h;refine MR (cG (hv pins s σ H _ I h) λu s1 ⟨y,H1,I1,ry,q⟩=>cG (ha pins s1 σ H1 _ I1 q) λov s2 ⟨x,H2,I2,rx,p,ex,ea,q2⟩=>?_) hs;subst ex;obtain rfl:ov=Hj p:=rx;exact Ey XC SF hf hB I2 ea ry λd s3 hd I3=>#[σ,_,I3,q2 d hd]
theorem Bt (XC:ir X.K R C fI) (SF:MY "Exception" dw sa owner) (hf:f∈dH) (hB:JD (.type "Exception") f=Hz Id) (ha:PE X o ta) (hv:PE X Lk tv)
  (hs:Lb Lk (GM (.Attribute o f NW)) pos.line X.env=Hz IN):PS X (.Assign [.Attribute o f NW] Lk pos) (sX1 C ta tv f):=by
 intro pins s σ H D I h;refine MR (cG (hv pins s σ H _ I h) λu s1 ⟨y,H1,I1,ry,q⟩=>cG (ha pins s1 σ H1 _ I1 q) λov s2 ⟨x,H2,I2,rx,p,d,fs,ex,ea,ed,l,q2⟩=>?_) hs;subst ex;obtain rfl:ov=Hj p:=rx;exact DB XC SF hf hB I2 ea ed l ry λs3 I3=>#[σ,_,I3,q2]
end
abbrev Af (X:Cx) (pins:Gm (Gx×Kd)) (Ew:Gy->GC->Prop):Cx:= { X with pn:=X.pn++pins,xe:=Ew }
abbrev Xu (X:Cx) (a:Gx):Cx:= { X with A:=X.A.mark (GM (.ref a)),calm:=IN,xe:=λ_ _=>False }
section
variable {H:Hp}{Ew:Gy->GC->Prop}{a:Gx}
theorem Eo (I:aP X pins σ H s):aP (Af X pins Ew) [] σ H s:=
 #[#[I.ok.mod,I.ok.kind,I.ok.glob,I.ok.blt,I.ok.above,I.ok.inj,I.ok.has,I.ok.Xc,I.ok.hd,I.ok.frames,I.ok.Xd,I.ok.ZC,I.ok.bs,I.ok.Uu,I.ok.Sj,I.ok.Sk,I.ok.funs,I.ok.VS],I.os,I.bare,I.base,I.loc,I.cell,I.free,I.MQ,
  λp hp=>I.pin p (by rw[GY] at hp;exact hp),I.Jy,I.len]
theorem fK (I:aP (Af X pins Ew) Ua σ H s):aP X pins σ H s:=
 #[#[I.ok.mod,I.ok.kind,I.ok.glob,I.ok.blt,I.ok.above,I.ok.inj,I.ok.has,I.ok.Xc,I.ok.hd,I.ok.frames,I.ok.Xd,I.ok.ZC,I.ok.bs,I.ok.Uu,I.ok.Sj,I.ok.Sk,I.ok.funs,I.ok.VS],I.os,I.bare,I.base,I.loc,I.cell,I.free,I.MQ,
  λp hp=>I.pin p (O4 _ hp),I.Jy,I.len]
theorem yk (I:aP X pins σ H s):aP (Xu X a) pins σ H s:=
 #[#[I.ok.mod,I.ok.kind,I.ok.glob,I.ok.blt,I.ok.above,I.ok.inj,I.ok.has,I.ok.Xc,λz=>IP z,I.ok.frames,I.ok.Xd,I.ok.ZC,I.ok.bs,I.ok.Uu,I.ok.Sj,I.ok.Sk,I.ok.funs,I.ok.VS],I.os,I.bare,I.base,I.loc,I.cell,I.free,I.MQ,
  I.pin,I.Jy,I.len]
theorem Ax (ok:X.Ok) (I:aP (Xu X a) pins σ H s):aP X pins σ H s:=#[ok,I.os,I.bare,I.base,I.loc,I.cell,I.free,I.MQ,I.pin,I.Jy,I.len]
theorem k9 (h:SP (Af X pins Ew) Ua D f s'):SP X pins D f s':=by
 cases f with
 |next=>obtain⟨σ',H',I,q⟩:=h;exact#[σ',H',fK I,q]
 |brk=>obtain⟨σ',H',I,q⟩:=h;exact#[σ',H',fK I,q]
 |cont=>obtain⟨σ',H',I,q⟩:=h;exact#[σ',H',fK I,q]
 |ret u=>obtain⟨v,σ',H',I,r,q⟩:=h;exact#[v,σ',H',fK I,r,q]
theorem AH (I:aP X pins σ H s) (hn:H a=Id) (z:X.P6.heap.objs.size<=a) (nl:a≠X.env.locals) (nc: ∀x c,X.env.cells.lookup x=GM c->c≠a) (np: ∀p∈X.pn++pins,p.1≠a)
  (new:cJ X.prog X.w (bf H a o) s.heap a o):aP X pins σ (bf H a o) s:=by
 have ne: ∀b u,H b=GM u->b≠a:=λb u e y=>by rw[y,hn] at e;cases e
 refine I.step (h':=s.heap) (g':=s.gens) (t':=s.toks) (d':=s.drawn) (ch:=[a]) (λb hb=>?_) (λb o _ _ _ e _=>e) (λb o _ _ _ e _=>#[o.slots,e]) (λb o hb e y=>?_) (λb o _ e=>#[o,e]) (λb xs e=>?_) (λb o u e=>?_) (λb ps e=>#[[].toArray,?_]) (λm y=>y) (λb u e=>?_) I.bare
 .rw[Ht.mp hb];exact#[.inr z,nl,nc,np]
 .rw[af (λy=>hb (by rw[y];exact GP))];exact y
 .rw[af (ne b _ e)];exact e
 .rw[af (ne b _ e)];exact e
 .rw[af (ne b _ e),e];simp
 .by_cases hb:b=a
  .rw[hb,aj] at e
   rw[hb,<-G7 e];exact new
  .rw[af hb] at e
   exact(I.Jy b u e).QU (λc v _ q=>q) (λc q=>by rw[af (ne c _ q)];exact q) λc xs q=>by rw[af (ne c _ q)];exact q
theorem CL {m:G0->GF Gy}(I:aP X pins σ H s) (hn:h'.Ns X.env.locals m) (hs:Ou X.env.locals s.heap h'):aP X pins (Jr X.N.length Id) H { s with heap:=h',toks:=t } :=by
 have W:aP X pins (Jr X.N.length Id) H s:=I.weak (by rw[OQ];exact I.len.symm) λi v e=>by
  rw[LV] at e;split at e<;>cases e
 have nL: ∀b u,H b=GM u->b≠X.env.locals:=λb u e y=>by rw[y,I.free] at e;cases e
 obtain⟨ol,_,_,hol,_⟩:=id hn;refine#[W.ok,W.os,W.bare,#[λb o e n hb hx=>?_,λb o e n hb hx=>?_,W.base.free,λb o e hx=>?_,W.base.Q9,W.base.QN,W.base.Ra],#[m,hn,λi x v _ e _=>?_],λx c e=>?_,W.free,W.MQ,λp hp=>?_,λb u e=>?_,W.len]
 .exact(hs.2 b (Ih (Hh (Hg e) I.ok.above))).trans (W.base.keep b o e n hb hx)
 .obtain⟨sl,y⟩:=W.base.slot b o e n hb hx
  exact#[sl,(hs.2 b (Ih (Hh (Hg e) I.ok.above))).trans y]
 .obtain⟨o',y⟩:=W.base.there b o e hx
  exact#[o',(hs.2 b (Ih (Hh (Hg e) I.ok.above))).trans y]
 .rw[LV] at e
  split at e<;>cases e
 .obtain⟨v,o,y,yd⟩:=I.cell x c e
  exact#[v,o,(hs.2 c (I.Xe x c e)).trans y,yd]
 .obtain⟨e1,e2,e3,e4⟩:=I.pin p hp
  exact#[(hs.2 p.1 e3).trans e1,e2,e3,e4]
 .refine(I.Jy b u e).QU (λc v hc q=>(hs.2 c ?_).trans q) [08] λ_ _ q=>q
  rcases hc with y|y
  .rw[y];exact nL b u e
  .exact nL c _ y
end
structure Own (X:Cx) (pins:Gm (Gx×Kd)) (b:Gx):Prop where
 z:X.P6.heap.objs.size<=b
 nl:b≠X.env.locals
 nc: ∀x c,X.env.cells.lookup x=GM c->c≠b
 np: ∀p∈X.pn++pins,p.1≠b
theorem w6 {X:Cx}{pins:Gm (Gx×Kd)}{σ:St}{H:Hp}{s:GC}(I:aP X pins σ H s) (hb:s.heap.objs.size<=b):Own X pins b:=by
 refine#[GX I.sz hb,Qv (Hh I.lt hb),λx c e z=>?_,λp hp z=>?_]
 .obtain⟨v,q⟩:=I.cell x c e
  exact GW (Hh q.lt (by rw[z];exact hb)) (Jl _)
 .exact GW (Hh (Hg (I.pin p hp).1) (by rw[z];exact hb)) (Jl _)
def k8 (C d a:Gx):HO:= .ext λh=> ∃o vs,h.get? a=GM o/\o.cls= .ref C/\o.dict=GM d/\o.data= .fields vs
structure Fm (X:Cx) (pins:Gm (Gx×Kd)) (H:Hp) (h:Ij) (C d a:Gx):Prop where
 own:Own X pins a
 no:H a=Id
 ex: ∃oe vs T oT ts,h.get? a=GM oe/\oe.cls= .ref C/\oe.dict=GM d/\oe.data= .fields vs/\vs[1]?=GM (.ref T)/\T≠a/\H T=Id/\Own X pins T/\h.get? T=GM oT/\oT.data= .fields ts/\ts[3]?=GM .none
abbrev aj1 (X:Cx) (hs:Gm ExceptHandler) (Q:Flow->GC->Prop):Gy->GC->Prop:=λe s1=>Hl (model X.prog X.w) X.A (Qh e X.env) (λ_ s2=>Hl (model X.prog X.w) X.A (Ru e Id) (λ_ s3=>Hl (model X.prog X.w) X.A (handleBy e X.env hs) Q X.xe s3) X.xe s2) X.xe s1
section
variable {Q:Flow->GC->Prop}{Ek:XK}
theorem FQ (Ms:X.stack=X.env::X.outer) (RV:X.env.frame=GM X.env.locals)
  (hh: ∀(C a d:Gx) (σ:St) (H:Hp) (s:GC),aP X pins σ H s->Fm X pins H s.heap C d a->Ek (.ref C) (GM d) H->Hl (model X.prog X.w) X.A (handleBy (.ref a) X.env hs) Q X.xe s):
  eJ (jF X.prog X.w) (Af X pins (aj1 X hs Q)) Ek:=by
 intro Ua σ H s e s' I h;obtain⟨C,a,d,H',rfl,os,bare,un,Jy,za,ha,⟨oe,vs,T,oT,ts,x1,x2,x3,x4,x5,x6,x7,x8,x9,x10,x11⟩,hE⟩:=h;have J0:=I.VE (ch:=[]) os un Jy bare (λb z=>nomatch z)
 have J:aP X pins σ H' s':=fK J0
 have oa:Own X pins a:=w6 (fK I) za
 have oT':Own X pins T:=w6 (fK I) x6
 have fr:X.A.frames=GM (X.env::X.outer):=by rw[J.ok.frames,Ms]
 have st:s'.heap.FunFrames X.base (X.env::X.outer):=by rw[<-Ms];exact J.stack
 show Hl (model X.prog X.w) X.A (Qh (.ref a) X.env) _ _ s'
 refine zu (base:=X.base) fr st RV x1 x4 x5 x7 x9 x10 x11 λh' L=>?_;have ck: ∀b∈[a,T],H' b=Id:=λb hb=>by
  rcases Hc.mp hb with z|z
  .rw[z];exact ha
  .rw[Ht.mp z];exact x8
 have fq:(X.env::X.outer).filterMap (·.frame)=tm X.stack:=by rw[Ms];rfl
 rw[fq] at L;have hk:iU X.prog X.w H' h':=λb u e=>by
  refine(J.Jy b u e).QU (λc v hc q=>L.keep c v (λz=>?_) (λz=>?_) q) [08] λ_ _ q=>q
  .have y:=J.QF c z
   rcases hc with w1|w1
   .rw[w1,e] at y;cases y
   .rw[w1] at y;cases y
  .have y:=ck c z
   rcases hc with w1|w1
   .rw[w1,e] at y;cases y
   .rw[w1] at y;cases y
 have K1:aP X pins σ H' { s' with heap:=h' } :=by
  refine J.call (g':=s'.gens) (t':=s'.toks) (d':=s'.drawn) (ch:=[a,T]) #[λb o e n hb hx=>L.keep b o hb hx e,λb o e n hb hx=>L.slot b o hb hx e,λb o e n hx=>n,λb o e hx=>L.there b o e,λ_ _ e=>e,λ_ _ _ e=>e,λb ps e=>#[[].toArray,by rw[e];simp]] hk J.bare λb hb=>?_;rcases Hc.mp hb with z|z
  .rw[z];exact#[.inr oa.z,oa.nl,oa.nc,oa.np]
  .rw[Ht.mp z];exact#[.inr oT'.z,oT'.nl,oT'.nc,oT'.np]
 obtain⟨ws,T2,oT2,ts2,y1,y2,y3,y4,y5,y6,y7⟩:=L.fly;exact hh C a d σ H' _ K1 #[oa,ha,_,ws,T2,oT2,ts2,y1,x2,x3,IO,y2,y4,J.Jy.fresh y3,w6 J y3,y5,y6,y7] hE
end
section
variable {a:Gx}{H:Hp}{th:TS}
def Em (R G C:Gx):Prop:=G=C\/G=R
theorem Dl (XC:ir X.K R C fI) (hG:Em R G C) {E:Gy->GC->Prop}{Q:HH->GC->Prop}(I:aP X pins σ H s) (cm:Fm X pins H s.heap C d a) (q:Q Ix s):Hl M A (excMatches (.ref a) (.ref G)) Q E s:=by
 obtain⟨Nn,mN,oI,NR,mR,⟨nm,qq,bs,sn,sub,ab,col,dd,k0,k1,k2,k3,k5,hC⟩,_,_,_,_,_,⟨nm',qq',bs',sn',ak4,ab',ak5,VZ,k0',k1',k2',k3',k5',hR⟩,_⟩:=XC.at_ _ I.NV;obtain⟨oe,vs,T,oT,ts,y1,y2,_⟩:=cm.ex;obtain⟨h1,g1,d1,t1,VI⟩:=s;rcases hG with rfl|rfl
 .exact wpAny_excMatches_sub_self hC y1 y2 (by rw[HP];rfl) q
 .have u1:(Hj G::dw).contains (.type "BaseException")=Ix:=by rw[HP];rfl
  have u2:(Hj C:: .ref G::dw).contains (.ref G)=Ix:=by simp
  have f:=tc_notTuple;unfold excMatches
  repeat (first|(with_reducible refine HK y1 ?_;rw[y2])|with_reducible refine HK hR ?_|(with_reducible refine wpAny_isSubtype_exc hR ?_;rw[u1])|(with_reducible refine wpAny_isSubtype_exc hC ?_;rw[u2])|wp_step)
  exact q
theorem wJ {E:Gy->GC->Prop}{Q:Nl->GC->Prop}(I:aP X pins σ H s) (cm:Fm X pins H s.heap C d a)
  (h: ∀s',aP X pins σ H s'->(∃o vs,s'.heap.get? a=GM o/\o.cls= .ref C/\o.dict=GM d/\o.data= .fields vs)->Q () s'):Hl M A (Ru (.ref a) Id) Q E s:=by
 obtain⟨oe,vs,T,oT,ts,y1,y2,y3,y4,y5,y6,y7,y8,y9,y10,y11⟩:=cm.ex;refine wpAny_setFlight_none y1 y4 y5 y9 y10 (Ko.mp y11).1 (h _ (I.turned (it:=T) (t':=s.toks) (λb o hb e=>by rw[IC _ _ (KY hb)];exact e) y7 y8.nl (.inr y8.z) y8.nc y8.np) ?_);exact#[oe,vs,by show(s.heap.update T _).get? a=_;rw[IC _ _ y6];exact y1,y2,y3,y4]
theorem aau (XC:ir X.K R C fI) (hG:Em R G C) (hg:Gl X x) (hm:X.mg x=GM (.ref G)) (hN:X.N.Nodup) (hi:X.N[i]?=GM n) (hl:X.env.scope.names.lookup n=GM .local) (hs:vV (Xu X a) (b0::Ug) th)
  (I:aP X pins σ H s) (cm:Fm X pins H s.heap C d a) (hr:th #[λ_ _=>False,D.rt,λ_ _=>False,λ_ _=>False] ((Jr X.N.length Id).set i (GM (.ref a))) (bf H a (k8 C d a)))
  (So:(x == ("__debug__":G0))=IN:=by decide):
  Hl (model X.prog X.w) X.A (handleBy (.ref a) X.env [.ExceptHandler (GM (.Name x np)) (GM n) (b0::Ug) age]) (SP X pins D) X.xe s:=by
 refine wpAny_handleBy_cons (codeAny_handlers_test ?_) (by intro q;cases q);refine iM (X:=Xu X a) (yk I) hg hm ?_ So;refine Dl XC hG I cm ?_;show MB _ _ _ _ _;refine codeAny_handlers_suite_as (wJ I cm λs1 I1 e1=>?_);have I2:aP X pins (Jr X.N.length Id) H s1:=I1.weak (by rw[OQ];exact I1.len.symm) λi v e=>by
  rw[LV] at e;split at e<;>cases e
 have I3:aP X pins (Jr X.N.length Id) (bf H a (k8 C d a)) s1:=
  AH I2 cm.no cm.own.z cm.own.nl cm.own.nc cm.own.np #[e1,#[_,e1.choose_spec.choose_spec.1],λ_ _ ⟨o,vs,z,r⟩ k=>#[o,vs,k _ z,r]]
 refine kP (X:=Xu X a) (v:= .ref a) (yk I3) hN hi (.inl hl) IO (λs4 I4=>?_) (.inr hl);refine JM (hs pins s4 _ _ _ I4 hr) (λf s5 z=>?_) λ_ _ z=>z.elim;cases f with
 |next=>obtain⟨_,_,_,z⟩:=z;exact z.elim
 |brk=>obtain⟨_,_,_,z⟩:=z;exact z.elim
 |cont=>obtain⟨_,_,_,z⟩:=z;exact z.elim
 |ret u=>
  obtain⟨v,σ5,H5,I5,r5,q5⟩:=z;obtain⟨m,hn,_⟩:=id I5.loc;refine wpAny_nameGoes hl hn (by rw[I.ok.kind];rfl) λh' m' n' sb=>#[v,_,H5,CL (Ax I.ok I5) n' sb,r5,q5]
end
section
variable {tb th:TS}{Ek:XK}
def aav (Ek:XK) (m i:GJ) (tb th:TS):TS:=λD σ H=>tb D σ H/\ ∀C d H' a,Ek (.ref C) (GM d) H'->H' a=Id->
 th #[λ_ _=>False,D.rt,λ_ _=>False,λ_ _=>False] ((Jr m Id).set i (GM (.ref a))) (bf H' a (k8 C d a))
theorem Ez (Ek:XK) (Ms:X.stack=X.env::X.outer) (RV:X.env.frame=GM X.env.locals) (hE: ∀C d H,Ek (.ref C) (GM d) H-> ∃fI,ir X.K R C fI/\Em R G C) (hg:Gl X x) (hm:X.mg x=GM (.ref G)) (hN:X.N.Nodup) (hi:X.N[i]?=GM n) (hl:X.env.scope.names.lookup n=GM .local)
  (hb: ∀pins Ew,eJ (jF X.prog X.w) (Af X pins Ew) Ek->vV (Af X pins Ew) body tb) (hs: ∀a,vV (Xu X a) (b0::Ug) th) (So:(x == ("__debug__":G0))=IN:=by decide):
  PS X (.Try body [.ExceptHandler (GM (.Name x np)) (GM n) (b0::Ug) age] [] [] pos) (aav Ek X.N.length i tb th):=by
 intro pins s σ H D I h;refine wpAny_Try_except ?_;have P:=FQ (hs:=[.ExceptHandler (GM (.Name x np)) (GM n) (b0::Ug) age]) (Q:=SP X pins D) (Ek:=Ek) Ms RV λC a d σ1 H1 s1 I1 cm hE1=>(hE C d H1 hE1).elim λfI ⟨XC,hG⟩=>aau (D:=D) XC hG hg hm hN hi hl (hs a) I1 cm (h.2 C d H1 a hE1 cm.no) So
 refine JM (hb pins _ P [] s σ H D (Eo I) h.1) (λf s1 z=>?_) λe s1 z=>z;cases f with
 |next=>exact Nv (k9 z)
 |brk=>exact k9 z
 |cont=>exact k9 z
 |ret u=>exact k9 z
def agf (K:Gu) (te:TE) (f:G0):TE:=λσ H Q=>te σ H λx H1=> ∃R C fI a d fs v,ir K R C fI/\x= .ref a/\H1 a=GM (k8 C d a)/\H1 d=GM (c4 d fs)/\fs.lookup f=GM v/\Q v H1
theorem Ff {te:TE}{K:Gu}(hK:X.K=K) (hf:f∈dH) (hB:JD (.type "Exception") f=Hz Id) (he:PE X e te) (hb:JK e f X.env (eval e X.env)=eval e X.env):PE X (.Attribute e f pos) (agf K te f):=by
 intro pins s σ H Q I h;subst hK;refine yo hb (cG (he pins s σ H _ I h) λu s1 ⟨x,H1,I1,rx,R,C,fI,a,d,fs,v,XC,ex,ea,ed,l,q⟩=>?_);subst ex;obtain rfl:u=Hj a:=rx;obtain⟨z,_⟩:=I1.Jy _ _ ea;exact Fz (φ:=λ_=>True) XC hf hB I1 z ed l λu' s2 I2 ru=>#[v,H1,I2,ru,q]
end
theorem pN:JD (.type "Exception") "number"=Hz Id:=by rw[Lu,J9];kernel_rfl
theorem EG:JD (.type "Exception") "kind"=Hz Id:=by rw[Lu,J9];kernel_rfl
theorem Ep:JD (.type "Exception") "line"=Hz Id:=by rw[Lu,J9];kernel_rfl
theorem xf:JD (.type "Exception") "column"=Hz Id:=by rw[Lu,J9];kernel_rfl
abbrev CO (n l c:Int):Gm (G0×V):=[("number", .int (-3)),("kind", .int n),("line", .int l),("column", .int c)]
abbrev Cp (n:Int):Gm (G0×V):=[("number", .int n)]
def aj2:Gm V->Gm (G0×V)->Prop:=λus fs=> ∃n:Int,us=[.int n]/\fs=Cp n
def aaw:Gm V->Gm (G0×V)->Prop:=λus fs=> ∃n l c:Int,us=[.int n, .int l, .int c]/\fs=CO n l c
theorem iV (T:Txt K mg a) (XC:ir K a.Ks C fI):T.d_S.U P w mg base 1 (j5 C aj2):=by
 refine T.d_S.F.ok ajy (λvs H Q E h=>?_) [02]
 .obtain⟨p,us,fs,rfl,⟨n,rfl,rfl⟩,_⟩:=h
  rfl
 .obtain⟨p,us,fs,rfl,⟨n,rfl,rfl⟩,hp,q⟩:=h
  refine#[_,(ai (wr (C:=C) (fI:=fI) XC (by rfl) T.Sh (pv 0))
   (ak (agd XC JG [00] pN (pv 0) (pv 1) IO))),?_]
  exact#[p,IO,hp,p,IO,hp,λd hd=>q d hd]
theorem jV (T:Txt K mg a) (XC:XT K a):T.We.U P w mg base 2 (j5 a.Jj aaw):=by
 have G:=iV (P:=P) (w:=w) (base:=base) T XC.fc;refine T.We.F.ok afd (λvs H Q E h=>?_) [02]
 .obtain⟨p,us,fs,rfl,⟨n,l,c,rfl,rfl⟩,_⟩:=h
  rfl
 .obtain⟨p,us,fs,rfl,⟨n,l,c,rfl,rfl⟩,hp,q⟩:=h
  refine#[_,(ai (a6 (vh (by rfl) T.MZ XC.rm G (hr.mono [01]) T.d_S.c.b .nil aC (aa (pv 0) (aa (Xl CN aG) ac))))
   (ai (Bt XC.fc JG [00] EG (pv 0) (pv 1) IO)
   (ai (Bt XC.fc JG [00] Ep (pv 0) (pv 2) IO)
   (ak (Bt XC.fc JG [00] xf (pv 0) (pv 3) IO))))),?_]
  refine#[_,IO,p,_,Cp (-3),IO,#[-3,IO,IO],hp,λd hd=>?_];have np:d≠p:=(aw hp hd).symm;have z:=q d hd;refine#[p,d,_,IO,aj,by rw[af np,aj],by show 1<1000;decide,?_];refine#[p,d,_,IO,by rw[af np.symm,aj],aj,by show 2<1000;decide,?_];refine#[p,d,_,IO,by rw[af np.symm,af np.symm,aj],aj,by show 3<1000;decide,?_];have eH: ∀f1 f2 f3 f4:Gm (G0×V),bf (bf (bf (bf (bf H d (c4 d f1)) p (k7 a.Jj d p)) d (c4 d f2)) d (c4 d f3)) d (c4 d f4)=bf (bf H d (c4 d f4)) p (k7 a.Jj d p):=λf1 f2 f3 f4=>by
   funext b
   by_cases hb:b=d
   .rw[hb,aj,af np,aj]
   .rw[af hb,af hb,af hb]
    by_cases hb2:b=p
    .rw[hb2,aj,aj]
    .rw[af hb2,af hb,af hb2,af hb]
  show Q .Kk _
  rw[eH];exact z
def sr (q kd fn ds bl:Gx) (n:GJ):Gm (G0×V):=[("tokens", .ref q),("at", .int n),("known", .ref kd),("functions", .ref fn),("desks", .ref ds),("blocks", .ref bl)]
inductive XE (a:bJ) (H:Hp) (q:Gx) (n:GJ) (t:Gw):Prop
 |mk (as:Gm Gx) (all:Gw) (_:H q=GM (.lst (as.map V.ref))) (_:Paired (gw a.Ka H) as all) (_:all.drop n=t):XE a H q n t
structure o3 (a:bJ) (H:Hp) (r q kd fn ds bl:Gx) (n:GJ) (t:Gw):Prop where
 ins: ∃dr,H r=GM (.ins a.HL dr (sr q kd fn ds bl n))
 toks:XE a H q n t
def oo (C:Gx) (E:XK) (H:Hp) (n:GJ) (x:HJ):Prop:= ∀d,H d=Id->E (.ref C) (GM d) (bf H d (c4 d (CO n x.1 x.2)))
theorem iq {α β:Type}{F:α->β->Prop} : ∀ {l:Gm α}{m:Gm β}{i:GJ}{y:β},Paired F l m->m[i]?=GM y-> ∃x,l[i]?=GM x/\F x y
 |_,_,_,_, .nil,h=>by cases h
 |_,_,0,_, .cons r t,h=>#[_,IO,by obtain rfl:=G7 h;exact r]
 |_,_,i+1,_, .cons r t,h=>iq (i:=i) t h
theorem Ai {α:Type}{l t:Gm α}{x:α}(h:l.drop n=x::t):l[n]?=GM x:=by
 have:=Hr (λz:Gm α=>z[0]?) h
 simpa using this
theorem o3.cur {a:bJ}{H:Hp}{r q kd fn ds bl:Gx}{n:GJ}{x:HW×HJ}{t:Gw}(R:o3 a H r q kd fn ds bl n (x::t)):
  ∃(as:Gm Gx) (p:Gx),H q=GM (.lst (as.map V.ref))/\(as.map V.ref)[n]?=GM (.ref p)/\gw a.Ka H p x:=by
 obtain⟨as,all,h1,h2,h3⟩:=R.toks;obtain⟨p,e,k⟩:=iq h2 (Ai h3);exact#[as,p,h1,by rw[HF,e];rfl,k]
inductive XF (a:bJ) (vs:Gm V) (H:Hp) (Q:VK) (E:XK):Prop
 |mk (r q kd fn ds bl:Gx) (n:GJ) (x:HW×HJ) (t:Gw) (_:vs=[.ref r]) (_:o3 a H r q kd fn ds bl n (x::t)) (_:(x.1= .bad->oo a.Jj E H 1 x.2)) (_:(x.1≠ .bad-> ∀p,gw a.Ka H p x->Q (.ref p) H)):XF a vs H Q E
inductive DS (a:bJ) (vs:Gm V) (H:Hp) (_Q:VK) (E:XK):Prop
 |mk (r q kd fn ds bl:Gx) (n:GJ) (x:HW×HJ) (t:Gw) (m:GJ) (_:vs=[.ref r, .int m]) (_:o3 a H r q kd fn ds bl n (x::t)) (_:oo a.Jj E H (if x.1= .bad then 1 else m) x.2):DS a vs H _Q E
theorem qZ:iT x=4 ↔ x= .bad:=by cases x<;>simp [iT]
theorem dI (T:Txt K mg a) (XC:XT K a):T.Vt.O P w mg base 4 (XF a):=by
 have G:=jV (P:=P) (w:=w) (base:=base) T XC;refine kr T.Vt.F afr [03] [02];obtain⟨r,q,kd,fn,ds,bl,n,x,t,rfl,R,hb,hg⟩:=h;obtain⟨dr,er⟩:=R.ins;obtain⟨as,p,eq,ep,tp⟩:=R.cur
 have tp':=tp;obtain⟨dx,et⟩:=tp';refine#[_,(ai (b4 (i:=1) afr.nd IO (HD IO) (eS cX [07] [07] (λ_ _=>rfl)))
   (ai (bz (bg cu (az (pv 1) IO) (bB (by rfl) T.PU) (a0 _)) (ak (tV o9 XC.fc G (hr.mono [01]) (by rfl) T.QP T.We.c.b (aa (bB (by rfl) T.Rc) (aa (az (pv 1) IO) (aa (az (pv 1) IO) ac))))) aQ)
   (ak (aB (pv 1))))),?_]
 refine#[r,_,dr,_,_,IO,er,T.Ho,T.Mj,IO,r,_,dr,_,_,IO,er,T.Ho,T.Lx,IO,q,_,n, .ref p,IO,IO,cK.of eq,ci ep,?_];refine#[p,_,dx,_,_,IO,et,T.JP,T.La,IO,IO,_,IO,?_];rw[cS];refine bi (λe=>?_) λe=>?_
 .have xb:=qZ.mp (Hn e)
  exact#[p,_,dx,_,_,IO,et,T.JP,T.NH,IO,p,_,dx,_,_,IO,et,T.JP,T.MI,IO,(by show 3<=9;decide),_,#[_,_,_,IO,IO],hb xb]
 .have xb:x.1≠ .bad:=λz=>Hq e (qZ.mpr z)
  exact(hg xb p tp)
inductive tG (a:bJ) (b:HW->HH) (vs:Gm V) (H:Hp) (Q:VK) (E:XK):Prop
 |mk (r q kd fn ds bl:Gx) (n:GJ) (x:HW×HJ) (t:Gw) (_:vs=[.ref r]) (_:o3 a H r q kd fn ds bl n (x::t)) (_:(x.1= .bad->oo a.Jj E H 1 x.2)) (_:(x.1≠ .bad->Q (.bl (b x.1)) H)):tG a b vs H Q E
def m8 (v:G0) (k:HW):HH:=decide (i5 k= .str v)
inductive BF (a:bJ) (vs:Gm V) (H:Hp) (Q:VK) (E:XK):Prop
 |mk (r q kd fn ds bl:Gx) (n:GJ) (x:HW×HJ) (t:Gw) (v:G0) (_:vs=[.ref r, .str v]) (_:o3 a H r q kd fn ds bl n (x::t)) (_:(x.1= .bad->oo a.Jj E H 1 x.2)) (_:(x.1≠ .bad->Q (.bl (m8 v x.1)) H)):BF a vs H Q E
def past (a:bJ) (H:Hp) (r q kd fn ds bl:Gx) (n:GJ) (H':Hp):Prop:= ∃dr,H r=GM (.ins a.HL dr (sr q kd fn ds bl n))/\H'=bf H r (.ins a.HL dr (sr q kd fn ds bl (n+1)))
inductive Dg (a:bJ) (vs:Gm V) (H:Hp) (Q:VK) (E:XK):Prop
 |mk (r q kd fn ds bl:Gx) (n:GJ) (x:HW×HJ) (t:Gw) (_:vs=[.ref r]) (_:o3 a H r q kd fn ds bl n (x::t)) (_:(x.1= .bad->oo a.Jj E H 1 x.2)) (_:(x.1≠ .bad-> ∀H',past a H r q kd fn ds bl n H'->Q (i5 x.1) H')):Dg a vs H Q E
inductive uk (a:bJ) (vs:Gm V) (H:Hp) (Q:VK) (E:XK):Prop
 |mk (r q kd fn ds bl:Gx) (n:GJ) (x:HW×HJ) (t:Gw) (v:G0) (_:vs=[.ref r, .str v]) (_:o3 a H r q kd fn ds bl n (x::t)) (_:(x.1= .bad->oo a.Jj E H 1 x.2)) (_:(x.1≠ .bad->m8 v x.1=IN->oo a.Jj E H 2 x.2)) (_:(x.1≠ .bad->m8 v x.1=Ix-> ∀H',past a H r q kd fn ds bl n H'->Q .Kk H')):uk a vs H Q E
inductive xZ (a:bJ) (vs:Gm V) (H:Hp) (Q:VK) (E:XK):Prop
 |mk (r q kd fn ds bl:Gx) (n:GJ) (x:HW×HJ) (t:Gw) (v:G0) (_:vs=[.ref r, .str v]) (_:o3 a H r q kd fn ds bl n (x::t)) (_:(x.1= .bad->oo a.Jj E H 1 x.2)) (_:(x.1≠ .bad->m8 v x.1=IN->Q (.bl IN) H)) (_:(x.1≠ .bad->m8 v x.1=Ix-> ∀H',past a H r q kd fn ds bl n H'->Q (.bl Ix) H')):xZ a vs H Q E
theorem o3.step {a:bJ}{H H':Hp}(R:o3 a H r q kd fn ds bl n (x::t)) (h:past a H r q kd fn ds bl n H'):o3 a H' r q kd fn ds bl (n+1) t:=by
 obtain⟨dr,e,rfl⟩:=h;obtain⟨as,all,h1,h2,h3⟩:=R.toks;refine#[#[dr,aj],as,all,?_,Paired.Np h2 λb z k=>?_,?_]
 .have ne:q≠r:=λz=>by rw[z,e] at h1;cases h1
  rw[af ne];exact h1
 .obtain⟨dx,ez⟩:=k
  have ne:b≠r:=λz=>by
   rw[z,e] at ez;have:=Hr MP (HO.ins.inj (G7 ez)).2.2;cases this
  exact#[dx,by rw[af ne];exact ez]
 .have:=Hr (R5 1) h3
  rw[O6] at this;exact this
theorem Bg:ZN (i5 x) (.str v)=Ix:=by cases x<;>rfl
def mV:HW->HH
 | .num _=>Ix
 |_=>IN
def CV:HW->HH
 | .eof=>Ix
 |_=>IN
theorem gi (T:Txt K mg a) (XC:XT K a):T.Vu.O P w mg base 5 (DS a):=by
 have G:=jV (P:=P) (w:=w) (base:=base) T XC
 have TN:=dI (P:=P) (w:=w) (base:=base) T XC;refine kr T.Vu.F afs [03] [02];obtain⟨r,q,kd,fn,ds,bl,n,x,t,m,rfl,R,hf⟩:=h;obtain⟨dr,er⟩:=R.ins;refine#[_,(ai (b4 (i:=2) afs.nd IO (HD IO) (cU (pv 0) T.Ho T.Vt.c TN (hr.mono [01]) bN))
   (ak (tV o9 XC.fc G (hr.mono [01]) (by rfl) T.QP T.We.c.b (aa (pv 1) (aa (az (pv 2) IO) (aa (az (pv 2) IO) ac)))))),?_]
 refine#[r,dr,_,IO,er,IO,r,q,kd,fn,ds,bl,n,x,t,IO,R,λb=>by rw[GD b] at hf;exact hf,λnb p tp=>?_];rw[GB nb] at hf;obtain⟨dx,et⟩:=tp;exact#[p,_,dx,_,_,IO,et,T.JP,T.NH,IO,p,_,dx,_,_,IO,et,T.JP,T.MI,IO,(by show 3<=9;decide),_,#[_,_,_,IO,IO],hf]
theorem nz (T:Txt K mg a) (XC:XT K a):T.d_s.O P w mg base 5 (BF a):=by
 have TN:=dI (P:=P) (w:=w) (base:=base) T XC;refine kr T.d_s.F ajC [03] [02];obtain⟨r,q,kd,fn,ds,bl,n,x,t,v,rfl,R,hb,hg⟩:=h;obtain⟨dr,er⟩:=R.ins;refine#[_,(ak (aB (cH cu (az (cU (pv 0) T.Ho T.Vt.c TN (hr.mono [01]) bN) IO) (pv 1) (a0 _)))),?_];refine#[r,dr,_,IO,er,IO,r,q,kd,fn,ds,bl,n,x,t,IO,R,hb,λnb p tp=>?_]
 obtain⟨dx,et⟩:=tp;exact#[p,_,dx,_,_,IO,et,T.JP,T.Kl,IO,Bg,hg nb]
theorem zz (T:Txt K mg a) (XC:XT K a):T.YX.O P w mg base 5 (tG a CV):=by
 have TN:=dI (P:=P) (w:=w) (base:=base) T XC;refine kr T.YX.F aft [03] [02];obtain⟨r,q,kd,fn,ds,bl,n,x,t,rfl,R,hb,hg⟩:=h;obtain⟨dr,er⟩:=R.ins;refine#[_,(ak (aB (cH cu (az (cU (pv 0) T.Ho T.Vt.c TN (hr.mono [01]) bN) IO) (bB (by rfl) T.W9) (a0 _)))),?_];refine#[r,dr,_,IO,er,IO,r,q,kd,fn,ds,bl,n,x,t,IO,R,hb,λnb p tp=>?_]
 obtain⟨dx,et⟩:=tp;refine#[p,_,dx,_,_,IO,et,T.JP,T.La,IO,IO,?_];have z:=hg nb;rw[cS];have e:decide (iT x.1=3)=CV x.1:=by cases x.1<;>rfl
 rw[e];exact z
theorem r8 (T:Txt K mg a) (XC:XT K a):T.YY.O P w mg base 5 (tG a mV):=by
 have TN:=dI (P:=P) (w:=w) (base:=base) T XC;refine kr T.YY.F afu [03] [02];obtain⟨r,q,kd,fn,ds,bl,n,x,t,rfl,R,hb,hg⟩:=h;obtain⟨dr,er⟩:=R.ins;refine#[_,(ak (aB (cH cu (az (cU (pv 0) T.Ho T.Vt.c TN (hr.mono [01]) bN) IO) (bB (by rfl) T.PR) (a0 _)))),?_];refine#[r,dr,_,IO,er,IO,r,q,kd,fn,ds,bl,n,x,t,IO,R,hb,λnb p tp=>?_]
 obtain⟨dx,et⟩:=tp;refine#[p,_,dx,_,_,IO,et,T.JP,T.La,IO,IO,?_];have z:=hg nb;rw[cS];have e:decide (iT x.1=1)=mV x.1:=by cases x.1<;>rfl
 rw[e];exact z
theorem rD (T:Txt K mg a) (XC:XT K a):T.d_D.O P w mg base 5 (Dg a):=by
 have TN:=dI (P:=P) (w:=w) (base:=base) T XC;refine kr T.d_D.F afw [03] [02];obtain⟨r,q,kd,fn,ds,bl,n,x,t,rfl,R,hb,hg⟩:=h;obtain⟨dr,er⟩:=R.ins;refine#[_,(ai (b4 (i:=1) afw.nd IO (HD IO) (cU (pv 0) T.Ho T.Vt.c TN (hr.mono [01]) bN))
   (ai (mB (pv 0) aG xa)
   (ak (aB (az (pv 1) IO))))),?_]
 refine#[r,dr,_,IO,er,IO,r,q,kd,fn,ds,bl,n,x,t,IO,R,hb,λnb p tp=>?_];obtain⟨dx,et⟩:=tp;have ne:p≠r:=λz=>by
  rw[z,er] at et;have:=Hr MP (HO.ins.inj (G7 et)).2.2;cases this
 refine#[r,_,dr,_,_,IO,er,T.Ho,T.Lx,IO,_,_,IO,IO,dr,_,er,(by show 6<1000;decide),?_];exact#[p,_,dx,_,_,IO,(by rw[af ne];exact et),T.JP,T.Kl,IO,hg nb _ #[dr,er,IO]]
def aax:Gm V:=[.str "const", .str "fun", .str "desk", .str "let", .str "for", .str "in", .str "if", .str "then", .str "else", .str "sell", .str "buy", .str "zone", .str "quarter", .str "price", .str "to", .str "amount", .str "block", .str "under", .str "group", .str "sum"]
def dn:HW->HH
 | .word u=>!uD (.str (sb u)) aax
 |_=>IN
inductive DQ (a:bJ) (vs:Gm V) (H:Hp) (Q:VK) (E:XK):Prop
 |mk (r q kd fn ds bl:Gx) (n:GJ) (x:HW×HJ) (t:Gw) (_:vs=[.ref r]) (_:o3 a H r q kd fn ds bl n (x::t)) (_:(x.1= .bad->oo a.Jj E H 1 x.2)) (_:(x.1≠ .bad->dn x.1=IN->oo a.Jj E H 2 x.2)) (_:(x.1≠ .bad->dn x.1=Ix->Q .Kk H)):DQ a vs H Q E
inductive yq (a:bJ) (vs:Gm V) (H:Hp) (Q:VK) (E:XK):Prop
 |mk (r q kd fn ds bl:Gx) (n:GJ) (x y:HW×HJ) (t:Gw) (_:vs=[.ref r]) (_:o3 a H r q kd fn ds bl n (x::y::t)) (_:Q (.bl (mV y.1)) H):yq a vs H Q E
theorem zE (T:Txt K mg a) (XC:XT K a):T.Y0.O P w mg base 6 (uk a):=by
 have G_s:=nz (P:=P) (w:=w) (base:=base) T XC
 have UE:=gi (P:=P) (w:=w) (base:=base) T XC;refine kr T.Y0.F afx [03] [02];obtain⟨r,q,kd,fn,ds,bl,n,x,t,v,rfl,R,hb,hf,hg⟩:=h;obtain⟨dr,er⟩:=R.ins;refine#[_,(ai (bz (my (bS (eX (pv 0) T.Ho T.d_s.c G_s (hr.mono [01]) bN (aa (pv 1) ac)))) (ak (a6 (eX (pv 0) T.Ho T.Vu.c UE (hr.mono [01]) bN (aa (bB (by rfl) T.Ph) ac)))) aQ)
   (ak (mB (pv 0) aG xa))),?_]
 refine#[r,dr,_,IO,er,IO,r,q,kd,fn,ds,bl,n,x,t,v,IO,R,hb,λnb=>#[_,IO,?_]];cases e:m8 v x.1 with
 |false=>
  refine dR ?_;exact#[r,dr,_,IO,er,IO,r,q,kd,fn,ds,bl,n,x,t,2,IO,R,by rw[GB nb];exact hf nb e]
 |true=>
  refine cQ ?_;exact#[r,_,dr,_,_,IO,er,T.Ho,T.Lx,IO,_,_,IO,IO,dr,_,er,(by show 6<1000;decide),hg nb e _ #[dr,er,IO]]
theorem oU (T:Txt K mg a) (XC:XT K a):T.Wg.O P w mg base 5 (tG a dn):=by
 have TN:=dI (P:=P) (w:=w) (base:=base) T XC;refine kr T.Wg.F Xw [03] [02];obtain⟨r,q,kd,fn,ds,bl,n,x,t,rfl,R,hb,hg⟩:=h;obtain⟨dr,er⟩:=R.ins;refine#[_,(ai (b4 (i:=1) Xw.nd IO (HD IO) (cU (pv 0) T.Ho T.Vt.c TN (hr.mono [01]) bN))
   (ak (aB (wg (cH cu (az (pv 1) IO) (bB (by rfl) T.TC) (a0 _)) (nU (cH iz (az (pv 1) IO) (dg (by rfl) T.Se) IO)))))),?_]
 refine#[r,dr,_,IO,er,IO,r,q,kd,fn,ds,bl,n,x,t,IO,R,hb,λnb p tp=>?_];obtain⟨dx,et⟩:=tp;have z:=hg nb;refine#[p,_,dx,_,_,IO,et,T.JP,T.La,IO,IO,_,IO,?_];rw[cS];cases e:x.1 with
 |word u=>
  rw[e] at z et;refine dR ?_;refine#[p,_,dx,_,_,IO,et,T.JP,T.Kl,IO,_,_,IO, .inr T.Sg.sq,IO,IO,z]
 |num m=>rw[e] at z;exact cQ z
 |sign u=>rw[e] at z;exact cQ z
 |eof=>rw[e] at z;exact cQ z
 |bad=>exact GW e nb
theorem iK (T:Txt K mg a) (XC:XT K a):T.d_M.O P w mg base 6 (DQ a):=by
 have aj3:=oU (P:=P) (w:=w) (base:=base) T XC
 have UE:=gi (P:=P) (w:=w) (base:=base) T XC;refine kr T.d_M.F ajD [03] [02];obtain⟨r,q,kd,fn,ds,bl,n,x,t,rfl,R,hb,hf,hg⟩:=h;obtain⟨dr,er⟩:=R.ins;refine#[_,(ak (bz (my (bS (cU (pv 0) T.Ho T.Wg.c aj3 (hr.mono [01]) bN))) (ak (a6 (eX (pv 0) T.Ho T.Vu.c UE (hr.mono [01]) bN (aa (bB (by rfl) T.Ph) ac)))) aQ)),?_];refine#[r,dr,_,IO,er,IO,r,q,kd,fn,ds,bl,n,x,t,IO,R,hb,λnb=>#[_,IO,?_]]
 cases e:dn x.1 with
 |false=>
  refine dR ?_;exact#[r,dr,_,IO,er,IO,r,q,kd,fn,ds,bl,n,x,t,2,IO,R,by rw[GB nb];exact hf nb e]
 |true=>exact cQ (hg nb e)
theorem kX (T:Txt K mg a):T.YZ.U P w mg base 1 (yq a):=by
 refine T.YZ.F.ok afv [03] [02];obtain⟨r,q,kd,fn,ds,bl,n,x,y,t,rfl,R,z⟩:=h;obtain⟨dr,er⟩:=R.ins;obtain⟨as,all,h1,h2,h3⟩:=R.toks;have h4:all[n+1]?=GM y:=by
  have:=Hr (λz:Gw=>z[1]?) h3
  simpa [Nj] using this
 obtain⟨p,e,dx,et⟩:=iq h2 h4;have ep:(as.map V.ref)[n+1]?=GM (.ref p):=by rw[HF,e];rfl
 refine#[_,(ak (aB (cH cu (az (eS cX [07] (aZ d9 [07] aG) (λ_ _=>rfl)) IO) (bB (by rfl) T.PR) (a0 _)))),?_];refine#[r,_,dr,_,_,IO,er,T.Ho,T.Mj,IO,r,_,dr,_,_,IO,er,T.Ho,T.Lx,IO,_,_,IO,IO,q,_,((n+1:GJ):Int), .ref p,IO,IO,cK.of h1,ci ep,p,_,dx,_,_,IO,et,T.JP,T.La,IO,IO,?_];rw[cS];have e:decide (iT y.1=1)=mV y.1:=by cases y.1<;>rfl
 rw[e];exact z
abbrev nk (u:Gv):cf:=Js (sb u)
def has (Iw:Gm (cf×V)) (u:Gv):HH:=(cW Iw (nk u)).isSome
inductive Cg (a:bJ) (vs:Gm V) (H:Hp) (Q:VK) (E:XK):Prop
 |mk (r q kd fn ds bl:Gx) (n:GJ) (x:HW×HJ) (t:Gw) (kk ff:Gm (cf×V)) (_:vs=[.ref r]) (_:o3 a H r q kd fn ds bl n (x::t)) (_:H kd=GM (.dK kk)) (_:H fn=GM (.dK ff)) (_:(x.1= .bad->oo a.Jj E H 1 x.2)) (_:(x.1≠ .bad->dn x.1=IN->oo a.Jj E H 2 x.2)) (_:(∀u,x.1= .word u->dn x.1=Ix->(has kk u||has ff u)=Ix->oo a.Jj E H 4 x.2)) (_:(∀u,x.1= .word u->dn x.1=Ix->(has kk u||has ff u)=IN-> ∀H',past a H r q kd fn ds bl n H'->Q (.str (sb u)) H')):Cg a vs H Q E
inductive zi (a:bJ) (vs:Gm V) (H:Hp) (Q:VK) (E:XK):Prop
 |mk (r q kd fn ds bl g:Gx) (n:GJ) (x:HW×HJ) (t:Gw) (gg:Gm (cf×V)) (_:vs=[.ref r, .ref g]) (_:o3 a H r q kd fn ds bl n (x::t)) (_:H g=GM (.dK gg)) (_:(x.1= .bad->oo a.Jj E H 1 x.2)) (_:(x.1≠ .bad->dn x.1=IN->oo a.Jj E H 2 x.2)) (_:(∀u,x.1= .word u->dn x.1=Ix->has gg u=Ix->oo a.Jj E H 4 x.2)) (_:(∀u,x.1= .word u->dn x.1=Ix->has gg u=IN-> ∀H',past a H r q kd fn ds bl n H'->Q (.str (sb u)) H')):zi a vs H Q E
inductive zd (a:bJ) (vs:Gm V) (H:Hp) (Q:VK) (_E:XK):Prop
 |mk (r dr q kd fn ds bl:Gx) (n:GJ) (u:Gv) (kk:Gm (cf×V)) (_:vs=[.ref r, .str (sb u)]) (_:H r=GM (.ins a.HL dr (sr q kd fn ds bl n))) (_:H kd=GM (.dK kk)) (_:kk.length<GV) (_:Q .Kk (bf H kd (.dK (fX kk (nk u) (.bl Ix))))):zd a vs H Q _E
inductive uK (a:bJ) (vs:Gm V) (H:Hp) (Q:VK) (_E:XK):Prop
 |mk (r dr q kd fn ds bl:Gx) (n:GJ) (u:Gv) (kk:Gm (cf×V)) (_:vs=[.ref r, .str (sb u)]) (_:H r=GM (.ins a.HL dr (sr q kd fn ds bl n))) (_:H kd=GM (.dK kk)) (_:has kk u=Ix) (_:Q .Kk (bf H kd (.dK (f7 kk (nk u))))):uK a vs H Q _E
theorem DJ (T:Txt K mg a):T.Y4.U P w mg base 1 (zd a):=by
 refine T.Y4.F.ok afA [03] [02];obtain⟨r,dr,q,kd,fn,ds,bl,n,u,kk,rfl,er,ek,lk,hq⟩:=h;refine#[_,(ak (nQ (gS hr) [07] (pv 1) uW IO)),?_];exact#[r,_,dr,_,_,IO,er,T.Ho,T.K5,IO,kd,_,IO,Dk.k (k:=nk u) ek lk,hq]
theorem rh (T:Txt K mg a):T.Wh.U P w mg base 1 (uK a):=by
 refine T.Wh.F.ok afB [03] [02];obtain⟨r,dr,q,kd,fn,ds,bl,n,u,kk,rfl,er,ek,hk,hq⟩:=h;obtain⟨v,ev⟩:=LH.mp hk;refine#[_,(ak (a6 (DU [07] (pv 1) #[IO,IO,IO,IO]))),?_];exact#[r,_,dr,_,_,IO,er,T.Ho,T.K5,IO,kd,IO, .inl #[kk, .inl ek],kk,nk u,v,ek,IO,ev,hq]
theorem li (T:Txt K mg a) (XC:XT K a):T.Y2.O P w mg base 7 (Cg a):=by
 have G_M:=iK (P:=P) (w:=w) (base:=base) T XC
 have TN:=dI (P:=P) (w:=w) (base:=base) T XC
 have UE:=gi (P:=P) (w:=w) (base:=base) T XC
 have G_D:=rD (P:=P) (w:=w) (base:=base) T XC;refine kr T.Y2.F Xx [03] [02];obtain⟨r,q,kd,fn,ds,bl,n,⟨x,xp⟩,t,kk,ff,rfl,R,ek,ef,hb,hn,h4,hg⟩:=h;obtain⟨dr,er⟩:=R.ins;refine#[_,(ai (a6 (cU (pv 0) T.Ho T.d_M.c G_M (hr.mono [01]) bN))
   (ai (b4 (i:=1) Xx.nd IO (HD IO) (az (cU (pv 0) T.Ho T.Vt.c TN (hr.mono [01]) bN) IO))
   (ai (bz (qK (fB (rM (gS hr) (pv 1) [07])) (oy (fB (rM (gS hr) (pv 1) [07])))).pt (ak (a6 (eX (pv 0) T.Ho T.Vu.c UE (hr.mono [01]) bN (aa (bB (by rfl) T.Pj) ac)))) aQ)
   (ak (aB (cU (pv 0) T.Ho T.d_D.c G_D (hr.mono [01]) bN)))))),?_]
 refine#[r,dr,_,IO,er,IO,r,q,kd,fn,ds,bl,n,(x,xp),t,IO,R,hb,hn,λnb e=>?_];cases x with
 |word u=>
  refine#[r,dr,_,IO,er,IO,r,q,kd,fn,ds,bl,n,(.word u,xp),t,IO,R,hb,λ_ p ⟨dx,et⟩=>#[p,_,dx,_,_,IO,et,T.JP,T.Kl,IO,?_]];have agg:(has kk u||has ff u)=Ix->oo a.Jj E H 4 xp:=h4 u IO e
  have good:(has kk u||has ff u)=IN-> ∀H',past a H r q kd fn ds bl n H'->Q (.str (sb u)) H':=hg u IO e
  refine#[r,_,dr,_,_,IO,er,T.Ho,T.K5,IO,kd,_,IO,kG.k (k:=nk u) ek,_,IO,bi (λe1=>?_) λe1=>?_]
  .refine dR ?_
   refine#[r,dr,_,IO,er,IO,r,q,kd,fn,ds,bl,n,(.word u,xp),t,4,IO,R,?_];rw[GB nb];exact agg (by unfold has;rw[e1];rfl)
  .refine#[r,_,dr,_,_,IO,er,T.Ho,T.JR,IO,fn,_,IO,kG.k (k:=nk u) ef,_,IO,bi (λe2=>?_) λe2=>?_]
   .refine#[r,dr,_,IO,er,IO,r,q,kd,fn,ds,bl,n,(.word u,xp),t,4,IO,R,?_]
    rw[GB nb];exact agg (by unfold has;rw[e1,e2];rfl)
   .exact#[r,dr,_,IO,er,IO,r,q,kd,fn,ds,bl,n,(.word u,xp),t,IO,R,hb,λ_=>good (by unfold has;rw[e1,e2];rfl)]
 |num m=>cases e
 |sign u=>cases e
 |eof=>cases e
 |bad=>exact GW IO nb
theorem xq:gB X (.type "dict") (λxs H Q=> ∃a Iw,xs=[.ref a]/\vU X.prog X.w X.K a Iw/\ ∀p,H p=Id->Q (.ref p) (bf H p (.dK Iw))):=by
 intro pins s σ H xs us Q I rv h;obtain⟨a,Iw,rfl,kd,q⟩:=h;obtain⟨u,rfl,ru⟩:=rv.one;obtain rfl:u=Hj a:=ru;obtain⟨vs,dd,rel⟩:=kd.at_;refine kt_call_dict kd.no (dd _ I.NV) (by rw[<-rel.length];exact kd.len) λh' VZ hs=>?_;refine#[.ref s.heap.objs.size,_,I.laid (a:=s.heap.objs.size) (o:= .dK Iw) (t':=s.toks) (λb q hq=>?_) (GU _) (wQ kd.len (beq_eq_false_iff_ne.mpr (KY (Ih I.big))) rel VZ),IO,q _ (I.Jy.fresh (GU _))];exact(hs.2 b (Ih (Hg hq))).trans (GN _ hq)
structure aay (a:bJ) (H H':Hp) (r dr q kd fn ds bl:Gx):Prop where
 ins:H' r=GM (.ins a.HL dr (sr q kd fn ds bl 0))
 kd0:H kd=Id
 fn0:H fn=Id
 ds0:H ds=Id
 bl0:H bl=Id
 kd1:H' kd=GM (.dK [])
 fn1:H' fn=GM (.dK cv)
 ds1:H' ds=GM (.dK [])
 bl1:H' bl=GM (.dK [])
 P9:kd≠fn/\kd≠ds/\kd≠bl/\fn≠ds/\fn≠bl/\ds≠bl
 kept: ∀b o,H b=GM o->b≠r->H' b=GM o
inductive vL (a:bJ) (vs:Gm V) (H:Hp) (Q:VK) (_E:XK):Prop
 |mk (r dr q:Gx) (_:vs=[.ref r, .ref q]) (_:H r=GM (.ins a.HL dr [])) (_: ∀(H':Hp) (kd fn ds bl:Gx),aay a H H' r dr q kd fn ds bl->Q .Kk H'):vL a vs H Q _E
theorem bY {H:Hp}{a p:Gx}(h:bf H a o p=Id):p≠a/\H p=Id:=by
 by_cases e:p=a
 .rw[e,aj] at h;cases h
 .rw[af e] at h;exact#[e,h]
theorem oM (T:Txt K mg a) (kF:vU P w K a.HM cv):T.YW.U P w mg base 1 (vL a):=by
 refine T.YW.F.ok afq [03] [02];obtain⟨r,dr,q,rfl,er,hq⟩:=h;refine#[_,(ai (fY (pv 0) (pv 1) IO)
   (ai (fY (pv 0) aG IO)
   (ai (fY (pv 0) lz IO)
   (ai (fY (pv 0) (ii xq (by rfl) T.Zp boot_dict (aa (dg (by rfl) T.L6) ac)) IO)
   (ai (fY (pv 0) lz IO)
   (ak (fY (pv 0) lz IO))))))),?_]
 refine#[r,_,dr,_,IO,er,T.Ho,T.Mj,(by show 0<1000;decide),?_];refine#[r,_,dr,_,IO,aj,T.Ho,T.Lx,(by show 1<1000;decide),?_];intro kd hkd;obtain⟨n1,hkd⟩:=bY hkd;obtain⟨_,hkd⟩:=bY hkd;refine#[r,_,dr,_,IO,(by rw[af n1.symm,aj]),T.Ho,T.K5,(by show 2<1000;decide),?_];refine#[a.HM,cv,IO,kF,λfn Ub=>?_];obtain⟨n2,Ub⟩:=bY Ub;obtain⟨n2k,Ub⟩:=bY Ub;obtain⟨_,Ub⟩:=bY Ub;obtain⟨_,Ub⟩:=bY Ub;refine#[r,_,dr,_,IO,(by rw[af n2.symm,aj]),T.Ho,T.JR,(by show 3<1000;decide),?_];intro ds Uh;obtain⟨n3,Uh⟩:=bY Uh;obtain⟨n3f,Uh⟩:=bY Uh;obtain⟨_,Uh⟩:=bY Uh;obtain⟨n3k,Uh⟩:=bY Uh;obtain⟨_,Uh⟩:=bY Uh;obtain⟨_,Uh⟩:=bY Uh;refine#[r,_,dr,_,IO,(by rw[af n3.symm,aj]),T.Ho,T.MJ,(by show 4<1000;decide),?_];intro bl RW;obtain⟨n4,RW⟩:=bY RW;obtain⟨n4d,RW⟩:=bY RW;obtain⟨_,RW⟩:=bY RW;obtain⟨n4f,RW⟩:=bY RW;obtain⟨_,RW⟩:=bY RW;obtain⟨n4k,RW⟩:=bY RW;obtain⟨_,RW⟩:=bY RW;obtain⟨_,RW⟩:=bY RW;refine#[r,_,dr,_,IO,(by rw[af n4.symm,aj]),T.Ho,T.KH,(by show 5<1000;decide),?_];refine hq _ kd fn ds bl #[aj,hkd,Ub,Uh,RW,?_,?_,?_,?_,#[n2k.symm,n3k.symm,n4k.symm,n3f.symm,n4f.symm,n4d.symm],λb o e nb=>?_]
 .rw[af n1,af n4k.symm,af n1,af n3k.symm,af n1,af n2k.symm,af n1,aj]
 .rw[af n2,af n4f.symm,af n2,af n3f.symm,af n2,aj]
 .rw[af n3,af n4d.symm,af n3,aj]
 .rw[af n4,aj]
 .rw[af nb,af (aw e RW),af nb,af (aw e Uh),af nb,af (aw e Ub),af nb,af (aw e hkd),af nb,af nb]
  exact e
theorem dY {A:Type}{p:A->Prop} : ∀g∈([]:Gm A),p g:=λ_ z=>nomatch z
theorem aS {A:Type}{p:A->Prop}{f:A}{fs:Gm A}(h:p f) (r: ∀g∈fs,p g): ∀g∈f::fs,p g:=Iv.mpr #[h,r]
inductive NB (X:Cx) (c:G0) (C:Gx) (fs:Gm G0):Prop
 |mk {f:Gx}{fd:HX}(M:Mk X.K C f) (F:b8 X.prog X.w X.K X.mg X.base nF 1 f fd ("self"::fs) (mt C fs)) (b:iw X.K fd ("self"::fs) []) (hm:X.mg c=GM (.ref C)):NB X c C fs
theorem hU (T:Txt X.K X.mg a):NB X "Number" a.LX ["worth"]:=#[T.Uw,ei T.adW.F aeW T.NS (aS T.LK dY) (.cons .nil),T.adW.c.b,T.OV]
theorem FJ (T:Txt X.K X.mg a):NB X "Name" a.OB ["name"]:=#[T.Wz,ei T.adX.F aeX T.RC (aS T.PN dY) (.cons .nil),T.adX.c.b,T.T7]
theorem xK (T:Txt X.K X.mg a):NB X "Call" a.N9 ["name","arguments"]:=#[T.WA,ei T.adY.F aeY T.Nt (aS T.LY (aS T.LZ dY)) (.cons (.cons .nil)),T.adY.c.b,T.Ry]
theorem oS (T:Txt X.K X.mg a):NB X "Unary" a.Li ["sign","operand"]:=#[T.Vw,ei T.adZ.F aeZ T.Lq (aS T.K8 (aS T.KG dY)) (.cons (.cons .nil)),T.adZ.c.b,T.OD]
theorem oQ (T:Txt X.K X.mg a):NB X "Chain" a.Kv ["strength","operands","signs"]:=#[T.Vx,ei T.ad0.F ae0 T.K4 (aS T.Kb (aS T.L0 (aS T.L1 dY))) (.cons (.cons (.cons .nil))),T.ad0.c.b,T.PL]
theorem qj (T:Txt X.K X.mg a):NB X "Choice" a.LG ["condition","chosen","otherwise"]:=#[T.Ux,ei T.ad1.F ae1 T.K9 (aS T.LB (aS T.Lw (aS T.KD dY))) (.cons (.cons (.cons .nil))),T.ad1.c.b,T.OW]
theorem Cr (T:Txt X.K X.mg a):NB X "Sum" a.OC ["name","first","last","body"]:=#[T.Zl,ei T.ad2.F ae2 T.OE (aS T.OF (aS T.Ob (aS T.OG (aS T.OH dY)))) (.cons (.cons (.cons (.cons .nil)))),T.ad2.c.b,T.Vq]
theorem Cz (T:Txt X.K X.mg a):NB X "Let" a.Mr ["name","exp"]:=#[T.Zm,ei T.ad3.F ae3 T.Pd (aS T.Nu (aS T.Pf dY)) (.cons (.cons .nil)),T.ad3.c.b,T.RA]
theorem Dp (T:Txt X.K X.mg a):NB X "For" a.NQ ["name","first","last","statements"]:=#[T.Zn,ei T.ad4.F ae4 T.OI (aS T.OJ (aS T.Oc (aS T.OK (aS T.L3 dY)))) (.cons (.cons (.cons (.cons .nil)))),T.ad4.c.b,T.Ts]
theorem XG (T:Txt X.K X.mg a):NB X "If" a.Qy ["condition","statements","else_statements"]:=#[T.aec,ei T.ad5.F ae5 T.PQ (aS T.MF (aS T.Mg (aS T.Km dY))) (.cons (.cons (.cons .nil))),T.ad5.c.b,T.Vr]
theorem xE (T:Txt X.K X.mg a):NB X "Step" a.LN ["side","zone","quarter","price","to_price","amount"]:=#[T.WB,ei T.ad6.F ae6 T.Lj (aS T.Od (aS T.Oe (aS T.MG (aS T.NC (aS T.Mh (aS T.M0 dY)))))) (.cons (.cons (.cons (.cons (.cons (.cons .nil)))))),T.ad6.c.b,T.RB]
theorem oW (T:Txt X.K X.mg a):NB X "Amounts" a.LP ["name","exp"]:=#[T.Tw,ei T.ad7.F ae7 T.M3 (aS T.MH (aS T.M4 dY)) (.cons (.cons .nil)),T.ad7.c.b,T.Tt]
theorem ur (T:Txt X.K X.mg a):NB X "Block" a.KC ["name","side","zone","price","amounts","under","group"]:=#[T.Vy,ei T.ad8.F ae8 T.JY (aS T.Mp (aS T.ND (aS T.NF (aS T.M5 (aS T.Mi (aS T.L4 (aS T.M6 dY))))))) (.cons (.cons (.cons (.cons (.cons (.cons (.cons .nil))))))),T.ad8.c.b,T.Vs]
theorem uw (T:Txt X.K X.mg a):NB X "Const" a.MT ["name","exp"]:=#[T.Vz,ei T.ad9.F ae9 T.NT (aS T.NG (aS T.Of dY)) (.cons (.cons .nil)),T.ad9.c.b,T.QO]
theorem DK (T:Txt X.K X.mg a):NB X "Fun" a.O8 ["name","parameters","exp"]:=#[T.Zo,ei T.aea.F afa T.OL (aS T.OM (aS T.L5 (aS T.Pg dY))) (.cons (.cons (.cons .nil))),T.aea.c.b,T.Tu]
theorem yg (T:Txt X.K X.mg a):NB X "Desk" a.Oa ["name","statements"]:=#[T.WC,ei T.aeb.F afb T.OX (aS T.Og (aS T.LO dY)) (.cons (.cons .nil)),T.aeb.c.b,T.Wc]
inductive bQ (M:Gx->Prop) (H:Hp) (C:Gx) (fs:Gm (G0×V)) (v:V):Prop
 |mk (p dx:Gx) (_:v= .ref p) (_: ¬M p) (_:H p=GM (.ins C dx fs)):bQ M H C fs v
inductive bM (M:Gx->Prop) (H:Hp) (xs:Gm V) (v:V):Prop
 |mk (p:Gx) (_:v= .ref p) (_: ¬M p) (_:H p=GM (.lst xs)):bM M H xs v
def dh (M:Gx->Prop) (H H':Hp):Prop:= ∀b o,H b=GM o-> ¬M b->H' b=GM o
def eu (M M':Gx->Prop) (H H':Hp):Prop:= ∀b o,H b=GM o-> ¬M b-> ¬M' b/\H' b=GM o
theorem dh.two {M:Gx->Prop}{H H':Hp}(k:dh M H H'):eu M M H H':=λb o e m=>#[m,k b o e m]
def Nd (o:HO):Prop:=(∃xs,o= .lst xs)\/ ∃C d fs,o= .ins C d fs/\fs.length≠5
def lP (M M':Gx->Prop) (H H':Hp):Prop:= ∀b o,H b=GM o-> ¬M b->Nd o-> ¬M' b/\H' b=GM o
theorem eu.three {M M':Gx->Prop}{H H':Hp}(k:eu M M' H H'):lP M M' H H':=λb o e m _=>k b o e m
theorem bQ.Jf {M M':Gx->Prop}{H H':Hp}(k:lP M M' H H') (h:bQ M H C fs v) (hl:fs.length≠5:=by intro z;cases z):bQ M' H' C fs v:=by
 obtain⟨p,dx,e,m,z⟩:=h;have:=k _ _ z m (.inr #[_,_,_,IO,hl]);exact#[p,dx,e,this.1,this.2]
theorem bM.Jf {M M':Gx->Prop}{H H':Hp}(k:lP M M' H H') (h:bM M H xs v):bM M' H' xs v:=by
 obtain⟨p,e,m,z⟩:=h;have:=k _ _ z m (.inl #[_,IO]);exact#[p,e,this.1,this.2]
theorem bQ.keep {M M':Gx->Prop}{H H':Hp}(k:eu M M' H H') (h:bQ M H C fs v):bQ M' H' C fs v:=by
 obtain⟨p,dx,e,m,z⟩:=h;exact#[p,dx,e,(k _ _ z m).1,(k _ _ z m).2]
theorem bM.keep {M M':Gx->Prop}{H H':Hp}(k:eu M M' H H') (h:bM M H xs v):bM M' H' xs v:=by
 obtain⟨p,e,m,z⟩:=h;exact#[p,e,(k _ _ z m).1,(k _ _ z m).2]
mutual
def ag (a:bJ) (M:Gx->Prop) (H:Hp):Gz->V->Prop
 | .num n,v=>bQ M H a.LX [("worth", .int (n:GJ))] v
 | .name x,v=>bQ M H a.OB [("name", .str (sb x))] v
 | .call f l,v=> ∃q us,bQ M H a.N9 [("name", .str (sb f)),("arguments",q)] v/\bM M H us q/\bn a M H l us
 | .neg e,v=> ∃u,bQ M H a.Li [("sign", .str "-"),("operand",u)] v/\ag a M H e u
 | .not e,v=> ∃u,bQ M H a.Li [("sign", .str "!"),("operand",u)] v/\ag a M H e u
 | .sums e r,v=> ∃q g u us ss,bQ M H a.Kv [("strength", .int 3),("operands",q),("signs",g)] v/\bM M H (u::us) q/\bM M H ss g/\ag a M H e u/\cP a M H r us ss
 | .prods e r,v=> ∃q g u us ss,bQ M H a.Kv [("strength", .int 4),("operands",q),("signs",g)] v/\bM M H (u::us) q/\bM M H ss g/\ag a M H e u/\cP a M H r us ss
 | .cmp op x y,v=> ∃q g u1 u2,bQ M H a.Kv [("strength", .int 2),("operands",q),("signs",g)] v/\bM M H [u1,u2] q/\bM M H [.str (dD op)] g/\ag a M H x u1/\ag a M H y u2
 | .both e l,v=> ∃q g u us,bQ M H a.Kv [("strength", .int 1),("operands",q),("signs",g)] v/\bM M H (u::us) q/\bM M H (us.map λ_=> .str "&&") g/\ag a M H e u/\bn a M H l us
 | .either e l,v=> ∃q g u us,bQ M H a.Kv [("strength", .int 0),("operands",q),("signs",g)] v/\bM M H (u::us) q/\bM M H (us.map λ_=> .str "||") g/\ag a M H e u/\bn a M H l us
 | .pick c x y,v=> ∃u1 u2 u3,bQ M H a.LG [("condition",u1),("chosen",u2),("otherwise",u3)] v/\ag a M H c u1/\ag a M H x u2/\ag a M H y u3
 | .sum x lo hi e,v=> ∃u1 u2 u3,bQ M H a.OC [("name", .str (sb x)),("first",u1),("last",u2),("body",u3)] v/\ag a M H lo u1/\ag a M H hi u2/\ag a M H e u3
def bn (a:bJ) (M:Gx->Prop) (H:Hp):Ja->Gm V->Prop
 | .nil,us=>us=[]
 | .cons e l,us=> ∃u vs,us=u::vs/\ag a M H e u/\bn a M H l vs
def cP (a:bJ) (M:Gx->Prop) (H:Hp):Nz->Gm V->Gm V->Prop
 | .nil,us,ss=>us=[]/\ss=[]
 | .cons op e r,us,ss=> ∃u vs ts,us=u::vs/\ss= .str (dD op)::ts/\ag a M H e u/\cP a M H r vs ts
end
section
variable {M M':Gx->Prop}{H H':Hp}
mutual
theorem ag.Jf (k:lP M M' H H'): ∀(e:Gz) {v:V},ag a M H e v->ag a M' H' e v
 | .num n,v,h=>by unfold ag at h ⊢; exact h.Jf k
 | .name x,v,h=>by unfold ag at h ⊢; exact h.Jf k
 | .call f l,v,h=>by
  unfold ag at h ⊢;obtain⟨q,us,h1,h2,h3⟩:=h;exact#[q,us,h1.Jf k,h2.Jf k,bn.Jf k l h3]
 | .neg e,v,h=>by
  unfold ag at h ⊢;obtain⟨u,h1,h2⟩:=h;exact#[u,h1.Jf k,ag.Jf k e h2]
 | .not e,v,h=>by
  unfold ag at h ⊢;obtain⟨u,h1,h2⟩:=h;exact#[u,h1.Jf k,ag.Jf k e h2]
 | .sums e r,v,h=>by
  unfold ag at h ⊢;obtain⟨q,g,u,us,ss,h1,h2,h3,h4,h5⟩:=h;exact#[q,g,u,us,ss,h1.Jf k,h2.Jf k,h3.Jf k,ag.Jf k e h4,cP.Jf k r h5]
 | .prods e r,v,h=>by
  unfold ag at h ⊢;obtain⟨q,g,u,us,ss,h1,h2,h3,h4,h5⟩:=h;exact#[q,g,u,us,ss,h1.Jf k,h2.Jf k,h3.Jf k,ag.Jf k e h4,cP.Jf k r h5]
 | .cmp op x y,v,h=>by
  unfold ag at h ⊢;obtain⟨q,g,u1,u2,h1,h2,h3,h4,h5⟩:=h;exact#[q,g,u1,u2,h1.Jf k,h2.Jf k,h3.Jf k,ag.Jf k x h4,ag.Jf k y h5]
 | .both e l,v,h=>by
  unfold ag at h ⊢;obtain⟨q,g,u,us,h1,h2,h3,h4,h5⟩:=h;exact#[q,g,u,us,h1.Jf k,h2.Jf k,h3.Jf k,ag.Jf k e h4,bn.Jf k l h5]
 | .either e l,v,h=>by
  unfold ag at h ⊢;obtain⟨q,g,u,us,h1,h2,h3,h4,h5⟩:=h;exact#[q,g,u,us,h1.Jf k,h2.Jf k,h3.Jf k,ag.Jf k e h4,bn.Jf k l h5]
 | .pick c x y,v,h=>by
  unfold ag at h ⊢;obtain⟨u1,u2,u3,h1,h2,h3,h4⟩:=h;exact#[u1,u2,u3,h1.Jf k,ag.Jf k c h2,ag.Jf k x h3,ag.Jf k y h4]
 | .sum x lo hi e,v,h=>by
  unfold ag at h ⊢;obtain⟨u1,u2,u3,h1,h2,h3,h4⟩:=h;exact#[u1,u2,u3,h1.Jf k,ag.Jf k lo h2,ag.Jf k hi h3,ag.Jf k e h4]
theorem bn.Jf (k:lP M M' H H'): ∀(l:Ja) {us:Gm V},bn a M H l us->bn a M' H' l us
 | .nil,us,h=>by unfold bn at h ⊢; exact h
 | .cons e l,us,h=>by
  unfold bn at h ⊢;obtain⟨u,vs,h1,h2,h3⟩:=h;exact#[u,vs,h1,ag.Jf k e h2,bn.Jf k l h3]
theorem cP.Jf (k:lP M M' H H'): ∀(r:Nz) {us ss:Gm V},cP a M H r us ss->cP a M' H' r us ss
 | .nil,us,ss,h=>by unfold cP at h ⊢; exact h
 | .cons op e r,us,ss,h=>by
  unfold cP at h ⊢;obtain⟨u,vs,ts,h1,h2,h3,h4⟩:=h;exact#[u,vs,ts,h1,h2,ag.Jf k e h3,cP.Jf k r h4]
end
theorem ag.Ia (k:eu M M' H H') (e:Gz) (h:ag a M H e v):ag a M' H' e v:=ag.Jf k.three e h
theorem bn.Ia (k:eu M M' H H') (l:Ja) (h:bn a M H l us):bn a M' H' l us:=bn.Jf k.three l h
theorem ag.keep (k:dh M H H') (e:Gz) (h:ag a M H e v):ag a M H' e v:=ag.Ia k.two e h
theorem bn.keep (k:dh M H H') (l:Ja) (h:bn a M H l us):bn a M H' l us:=bn.Ia k.two l h
end
inductive uQ (a:bJ) (vs:Gm V) (H:Hp) (Q:VK) (E:XK):Prop
 |mk (r q kd fn ds bl:Gx) (n:GJ) (x:HW×HJ) (t:Gw) (d:GJ) (_:vs=[.ref r, .int d]) (_:o3 a H r q kd fn ds bl n (x::t)) (_:(d=12->oo a.Jj E H (if x.1= .bad then 1 else 6) x.2)) (_:(d≠12->Q (.int ((d+1:GJ):Int)) H)):uQ a vs H Q E
inductive uj (a:bJ) (vs:Gm V) (H:Hp) (Q:VK) (E:XK):Prop
 |mk (r q kd fn ds bl:Gx) (n:GJ) (x:HW×HJ) (t:Gw) (v:G0) (_:vs=[.ref r, .str v]) (_:o3 a H r q kd fn ds bl n (x::t)) (_:(x.1= .bad->oo a.Jj E H 1 x.2)) (_:(x.1≠ .bad->m8 v x.1=Ix->oo a.Jj E H 5 x.2)) (_:(x.1≠ .bad->m8 v x.1=IN->Q .Kk H)):uj a vs H Q E
theorem aj4 (T:Txt K mg a) (XC:XT K a):T.d_g.O P w base 6 (uQ a):=by
 have UE:=gi (P:=P) (w:=w) (base:=base) T XC;refine kr T.d_g.F ajE [03] [02];obtain⟨r,q,kd,fn,ds,bl,n,x,t,d,rfl,R,hf,hg⟩:=h;obtain⟨dr,er⟩:=R.ins;refine#[_,(ai (bz (bg cu (pv 1) (bB (by rfl) T.Rf) (a0 _)) (ak (a6 (eX (pv 0) T.Ho T.Vu.c UE (hr.mono [01]) bN (aa (bB (by rfl) T.QR) ac)))) aQ)
   (ak (aB (aZ d9 (pv 1) aG)))),?_]
 refine#[IO,_,IO,?_];rw[cS];refine bi (λe=>?_) λe=>?_
 .have:=Hn e
  exact#[r,dr,_,IO,er,IO,r,q,kd,fn,ds,bl,n,x,t,6,IO,R,hf (by lia)]
 .have:=Hq e
  exact#[_,_,IO,IO,hg (by lia)]
theorem agh (T:Txt K mg a) (XC:XT K a):T.Y5.O P w base 6 (uj a):=by
 have G_s:=nz (P:=P) (w:=w) (base:=base) T XC
 have UE:=gi (P:=P) (w:=w) (base:=base) T XC;refine kr T.Y5.F afJ [03] [02];obtain⟨r,q,kd,fn,ds,bl,n,x,t,v,rfl,R,hb,hf,hg⟩:=h;obtain⟨dr,er⟩:=R.ins;refine#[_,(ak (bz (bS (eX (pv 0) T.Ho T.d_s.c G_s (hr.mono [01]) bN (aa (pv 1) ac))) (ak (a6 (eX (pv 0) T.Ho T.Vu.c UE (hr.mono [01]) bN (aa (bB (by rfl) T.Sd) ac)))) aQ)),?_];refine#[r,dr,_,IO,er,IO,r,q,kd,fn,ds,bl,n,x,t,v,IO,R,hb,λnb=>#[_,IO,bi (λe=>?_) λe=>?_]]
 .exact#[r,dr,_,IO,er,IO,r,q,kd,fn,ds,bl,n,x,t,5,IO,R,by rw[GB nb];exact hf nb e]
 .exact hg nb e
end OS
namespace OS
open Vbemac
def W {α:Type}(p:P α) (t:JH) (Qo:α->JH->Prop) (Qe:GJ->Pos->Prop):Prop:=match p t with
 | .ok (a,r)=>Qo a r
 | .error e=>Qe e.1 e.2
section
variable {α β:Type}{p:P α}{f:α->P β}{Qo Qo':α->JH->Prop}{Qe Qe':GJ->Pos->Prop}{Ro:β->JH->Prop}
theorem wS {a:α}(e:p t= .ok (a,r)):W p t Qo Qe=Qo a r:=by unfold W;rw[e]
theorem jO (h:p t= .error e):W p t Qo Qe=Qe e.1 e.2:=by unfold W;rw[h]
theorem de:W (p>>=f) t Ro Qe=W p t (λa r=>W (f a) r Ro Qe) Qe:=by
 have e:(p>>=f) t=(match p t with
  | .error x=> .error x
  | .ok (a,r)=>f a r):=by
  show(Hd p f) t=_
  unfold Hd;show(Except.bind (p t) _)=_;cases p t with
  |error x=>rfl
  |ok z=>rfl
 unfold W;rw[e];cases h:p t with
 |error x=>rfl
 |ok z=>rfl
theorem c6 {a:α} :W (Hz a:P α) t Qo Qe=Qo a t:=rfl
theorem aaz:W (fail n:P α) t Qo Qe=Qe (if peek t= .bad then 1 else n) (place t):=rfl
theorem fC {Qo:Nl->JH->Prop} :W next t Qo Qe=Qo () (t.drop 1):=rfl
theorem md {c:JH->Prop} [∀t,Decidable (c t)] {q:P α} :W (λt=>if c t then p t else q t) t Qo Qe=if c t then W p t Qo Qe else W q t Qo Qe:=by
 unfold W;by_cases h:c t
 .dsimp only;rw[GD h,GD h]
 .dsimp only;rw[GB h,GB h]
theorem W.mono (h:W p t Qo Qe) (ho: ∀a r,Qo a r->Qo' a r) (he: ∀n q,Qe n q->Qe' n q):W p t Qo' Qe':=by
 unfold W at h ⊢;cases e:p t with
 |error x=>rw[e] at h;exact he _ _ h
 |ok z=>rw[e] at h;exact ho _ _ h
end
def a8 {α:Type}(p:P α):Prop:= ∀t,peek t= .bad->p t= .error (1,place t)
def iO {α:Type}(p:P α):Prop:= ∀t,peek t= .bad->p t= .error (1,place t)\/ ∃a,p t= .ok (a,t)
theorem a8.PY {α:Type}{p:P α}(h:a8 p):iO p:=λt e=> .inl (h t e)
section
variable {α β:Type}{p:P α}{f:α->P β}{Qo:α->JH->Prop}{Qe:GJ->Pos->Prop}{Ro:β->JH->Prop}
theorem a8.bind (h:a8 p):a8 (p>>=f):=λt e=>by
 show(Hd p f) t=_
 unfold Hd;rw[h t e]
 rfl
theorem iO.bind (h:iO p) (k: ∀a,iO (f a)):iO (p>>=f):=λt e=>by
 show(Hd p f) t=_\/ ∃a,(Hd p f) t=_
 unfold Hd;rcases h t e with z|⟨a,z⟩
 .rw[z];exact .inl IO
 .rw[z];exact k a t e
theorem iO.strict (h:iO p) (k: ∀a,a8 (f a)):a8 (p>>=f):=λt e=>by
 show(Hd p f) t=_
 unfold Hd;rcases h t e with z|⟨a,z⟩
 .rw[z];rfl
 .rw[z];exact k a t e
theorem a8.Mm (h:a8 p) (e:peek t= .bad) (w:W p t Qo Qe):Qe 1 (place t):=by
 rw[jO (h t e)] at w;exact w
end
theorem cN {t:JH}(e:peek t= .bad) (w:String):Jg t w=IN:=by unfold Jg;rw[e];rfl
theorem dG {t:JH}(e:peek t= .bad) (w:String):Md t w=IN:=by unfold Md;rw[e];rfl
theorem aU {α:Type}(n:GJ):a8 (fail n:P α):=λt e=>by unfold fail;rw[GD e]
theorem fE (w:String):a8 (key w):=λt e=>by unfold key;rw[cN e];exact aU 2 t e
theorem bA (w:String):a8 (sign w):=λt e=>by unfold sign;rw[dG e];exact aU 2 t e
theorem fg:a8 anyName:=λt e=>by unfold anyName;rw[e];exact aU 2 t e
theorem gA (K:Known):a8 (newName K):=λt e=>by unfold newName;rw[fg t e]
theorem mv (B:Blocks):a8 (blockName B):=λt e=>by unfold blockName;rw[fg t e]
theorem lh (B:Blocks):a8 (knownBlock B):=λt e=>by unfold knownBlock;rw[fg t e]
theorem mP:a8 side:=λt e=>by unfold side;rw[cN e,cN e];exact aU 2 t e
theorem ia (B:Blocks):a8 (maybeName B):=λt e=>by
 unfold maybeName;rw[cN e,cN e,GB (by simp),mv B t e]
theorem gu {α:Type}(a:α):iO (Hz a:P α):=λt _=> .inr #[a,IO]
theorem mO (w:String):iO (ifSign w):=λt e=>by unfold ifSign;rw[dG e];exact .inr #[_,IO]
theorem tY (l:Gm String):iO (Me l):=λt e=>by unfold Me;rw[e];exact .inr #[_,IO]
theorem gR {α:Type}(w:String) (p:P α):iO (behind w p):=λt e=>by unfold behind;rw[cN e];exact .inr #[_,IO]
theorem jw (k d:GJ) (K:Known):a8 (primary k d K):=λt e=>by
 cases k with
 |zero=>rw[primary];exact aU 6 t e
 |succ k=>rw[primary];simp only[e];exact aU 2 t e
theorem ld (k d:GJ) (K:Known):a8 (unary k d K):=λt e=>by
 cases k with
 |zero=>rw[unary];exact aU 6 t e
 |succ k=>rw[unary];simp only[dG e,J2,Ni];exact jw k d K t e
theorem rB (k d:GJ) (K:Known):a8 (times k d K):=by
 cases k with
 |zero=>rw[times];exact aU 6
 |succ k=>rw[times];exact(ld k d K).bind
theorem kz (k d:GJ) (K:Known):a8 (added k d K):=by
 cases k with
 |zero=>rw[added];exact aU 6
 |succ k=>rw[added];exact(rB k d K).bind
theorem m9 (k d:GJ) (K:Known):a8 (compared k d K):=by
 cases k with
 |zero=>rw[compared];exact aU 6
 |succ k=>rw[compared];exact(kz k d K).bind
theorem uN (k d:GJ) (K:Known):a8 (ands k d K):=by
 cases k with
 |zero=>rw[ands];exact aU 6
 |succ k=>rw[ands];exact(m9 k d K).bind
theorem mC (k d:GJ) (K:Known):a8 (expr k d K):=λt e=>by
 cases k with
 |zero=>rw[expr];exact aU 6 t e
 |succ k=>rw[expr];simp only[cN e,J2,Ni];exact(uN k d K).bind t e
theorem lT (k d:GJ) (K:Known) (n:GJ):a8 (arguments k d K n):=λt e=>by
 cases k with
 |zero=>rw[arguments];exact aU 6 t e
 |succ k=>rw[arguments];simp only[dG e,J2,Ni];exact(mC k d K).bind t e
theorem oN (k d:GJ) (K:Known):iO (moreTimes k d K):=by
 cases k with
 |zero=>rw[moreTimes];exact(aU 6).PY
 |succ k=>
  rw[moreTimes];intro t e;refine .inr #[.nil,?_];show(Hd _ _) t=_;unfold Hd Me;rw[e]
  rfl
theorem oF (k d:GJ) (K:Known):iO (moreAdded k d K):=by
 cases k with
 |zero=>rw[moreAdded];exact(aU 6).PY
 |succ k=>
  rw[moreAdded];intro t e;refine .inr #[.nil,?_];show(Hd _ _) t=_;unfold Hd Me;rw[e]
  rfl
theorem rK (k d:GJ) (K:Known):iO (moreAnd k d K):=by
 cases k with
 |zero=>rw[moreAnd];exact(aU 6).PY
 |succ k=>
  rw[moreAnd];intro t e;refine .inr #[.nil,?_];show(Hd _ _) t=_;unfold Hd ifSign;rw[dG e]
  rfl
theorem vd (k d:GJ) (K:Known):iO (moreOr k d K):=by
 cases k with
 |zero=>rw[moreOr];exact(aU 6).PY
 |succ k=>
  rw[moreOr];intro t e;refine .inr #[.nil,?_];show(Hd _ _) t=_;unfold Hd ifSign;rw[dG e]
  rfl
theorem mH (k d:GJ) (K:Known) (B:Blocks):a8 (stmt k d K B):=λt e=>by
 cases k with
 |zero=>rw[stmt];exact aU 6 t e
 |succ k=>rw[stmt];simp only[cN e,J2,Ni];exact mP.bind t e
theorem lJ (k d:GJ) (K:Known) (B:Blocks):a8 (stmts k d K B):=λt e=>by
 cases k with
 |zero=>rw[stmts];exact aU 6 t e
 |succ k=>rw[stmts];simp only[dG e,J2,Ni];exact(mH k d K B).bind t e
theorem jZ (k n:GJ) (K:Known):a8 (params k n K):=λt e=>by
 cases k with
 |zero=>rw[params];exact aU 6 t e
 |succ k=>
  rw[params];dsimp only;by_cases h:n=0
  .rw[GD h];exact aU 7 t e
  .rw[GB h];exact(gA K).bind t e
theorem vH (k:GJ) (K:Known) (n:GJ) (D:Gm HA):a8 (tops k K n D):=λt e=>by
 cases k with
 |zero=>rw[tops];exact aU 6 t e
 |succ k=>rw[tops];simp only[e,reduceCtorEq,Ni,cN e,J2];exact aU 2 t e
end OS
namespace OS
open PySem PySem.Spec L2
open PyProof.Rows hiding St
variable {P:Hm}{w:HS}{K:Gu}{mg:G0->GF Gy}{base:Ij}{a:bJ}
structure XH where
 p:Gx
 c:Gm (cf×V)
 x:Gx->Gm V->Prop
instance:Coe XH Gx:=#[XH.p]
structure Rb where
 r:Gx
 q:Gx
 kd:Gx
 fn:Gx
 ds:XH
 bl:XH
def fG (B:Rb) (b:Gx):Prop:=b=B.r\/b=B.kd\/b=B.fn\/b=B.ds.p\/b=B.bl.p\/ ∃xs,B.bl.x b xs
inductive XI (H:Hp) (kd:Gx) (Kn:GA):Prop
 |mk (kk:Gm (cf×V)) (_:H kd=GM (.dK kk)) (_:kk.length<=Kn.values.length) (_: ∀u,has kk u=Kn.values.contains u):XI H kd Kn
inductive XJ (H:Hp) (fn:Gx) (Kn:GA):Prop
 |mk (ff:Gm (cf×V)) (_:H fn=GM (.dK ff)) (_: ∀u,cW ff (nk u)=(Kn.funs.find? λf=>f.1 == u).map λf=>V.int (f.2:GJ)):XJ H fn Kn
inductive Dif (k f d b:Gx):Prop
 |mk (_:k≠f) (_:k≠d) (_:k≠b) (_:f≠d) (_:f≠b) (_:d≠b):Dif k f d b
structure aaA (H:Hp) (kd fn:Gx) (Kn:GA) (room:GJ):Prop where
 vals:XI H kd Kn
 funs:XJ H fn Kn
 len:Kn.values.length+room<=4000
 aj5: ∃ff,H fn=GM (.dK ff)/\ff.length=Kn.funs.length
theorem aaA.fl {H:Hp}(h:aaA H kd fn Kn room) (e:H fn=GM (.dK ff)):ff.length=Kn.funs.length:=by
 obtain⟨gg,g1,g2⟩:=h.aj5;rw[e] at g1;cases g1;exact g2
structure fU (a:bJ) (B:Rb) (H:Hp) (n:GJ) (t:Gw) (Kn:GA):Prop where
 rd:o3 a H B.r B.q B.kd B.fn B.ds.p B.bl.p n t
 wh:gz t
 kn:aaA H B.kd B.fn Kn t.length
 Sz:H B.ds.p=GM (.dK B.ds.c)
 RY:H B.bl.p=GM (.dK B.bl.c)
 P9:Dif B.kd B.fn B.ds.p B.bl.p
 fr: ∀b xs,B.bl.x b xs->H b=GM (.lst xs)
theorem sM (kk:Gm (cf×V)) (u v:Gv) (y:V):has (fX kk (nk u) y) v=(decide (v=u)||has kk v):=by
 unfold has;rw[vJ];by_cases e:v=u
 .rw[GD (by rw[e]),Hy e];rfl
 .rw[GB (λz=>e (fZ (Mq z))),Ha e];rfl
theorem vW (kk:Gm (cf×V)) (k j:cf):cW (f7 kk k) j=if j=k then Id else cW kk j:=by
 induction kk with
 |nil=>unfold f7 cW;split<;>rfl
 |cons p r ih=>
  unfold f7 at ih ⊢;rw[QB];by_cases e:p.1=k
  .rw[GB (by simp [e]),ih]
   by_cases j1:j=k
   .rw[GD j1,GD j1]
   .rw[GB j1,GB j1,cF λz=>j1 (z.symm.trans e)]
  .rw[GD (by simp [e])]
   by_cases j1:p.1=j
   .rw[cT j1,cT j1,GB λz=>e (j1.trans z)]
   .rw[cF j1,cF j1,ih]
theorem tQ (kk:Gm (cf×V)) (u v:Gv):has (f7 kk (nk u)) v=(!decide (v=u)&&has kk v):=by
 unfold has;rw[vW];by_cases e:v=u
 .rw[GD (by rw[e]),Hy e];rfl
 .rw[GB (λz=>e (fZ (Mq z))),Ha e];rfl
theorem ot:m8 v k=decide (xx k=GM v):=by
 unfold m8;cases k with
 |word u=>exact decide_eq_decide.mpr #[λz=>Hr GM (V.str.inj z),λz=>Hr V.str (G7 z)]
 |num n=>exact decide_eq_decide.mpr #[(λz=>nomatch z),(λz=>nomatch z)]
 |sign u=>exact decide_eq_decide.mpr #[λz=>Hr GM (V.str.inj z),λz=>Hr V.str (G7 z)]
 |eof=>exact decide_eq_decide.mpr #[λz=>Hr GM (V.str.inj z),λz=>Hr V.str (G7 z)]
 |bad=>exact decide_eq_decide.mpr #[λz=>Hr GM (V.str.inj z),λz=>Hr V.str (G7 z)]
theorem cz (ok:gP k) (h:dE x u):m8 x k=(k == .word u):=by
 rw[ot,Ip,Ii,beq_iff_eq];exact BW ok h
theorem dj (ok:gP k) (h:eV x u):m8 x k=(k == .sign u):=by
 rw[ot,Ip,Ii,beq_iff_eq];exact u9 ok h
inductive XM (t:Gw):Prop
 |mk (x:HW×HJ) (r:Gw) (_:t=x::r) (_:gP x.1) (_:GQ t=x.1) (_:JC t=x.2) (_: ¬j2 x->gz r):XM t
theorem gz.first (w:gz t):XM t:=by
 cases t with
 |nil=>exact GW IO w.ne
 |cons x r=>
  refine#[x,r,IO,?_,IO,IO,λh=>(w.tail h).2];by_cases h:j2 x
  .rcases h with h|h
   .rw[h];exact IK
   .rw[h];exact IK
  .exact(w.tail h).1.2.2
section
variable {H H' H2:Hp}{M:Gx->Prop}
theorem aI.keeps (s:aI H H'):dh M H H':=λb o e _=>s b o e
theorem dh.trans (k:dh M H H') (l:dh M H' H2):dh M H H2:=λb o e m=>l b o (k b o e m) m
theorem dh.refl:dh M H H:=λ_ _ e _=>e
theorem o3.same (R:o3 a H r q kd fn ds bl n t) (s:aI H H'):o3 a H' r q kd fn ds bl n t:=by
 obtain⟨dr,e⟩:=R.ins;obtain⟨as,all,h1,h2,h3⟩:=R.toks;exact#[#[dr,s _ _ e],as,all,s _ _ h1,Paired.Np h2 λb z k=>k.keep λb' o e _=>s b' o e,h3]
theorem fU.same (S:fU a B H n t Kn) (s:aI H H'):fU a B H' n t Kn:=by
 obtain⟨kk,k1,k2,k3⟩:=S.kn.vals;obtain⟨ff,f1,f2⟩:=S.kn.funs;exact#[S.rd.same s,S.wh,#[#[kk,s _ _ k1,k2,k3],#[ff,s _ _ f1,f2],S.kn.len,#[ff,s _ _ f1,S.kn.fl f1]],s _ _ S.Sz,s _ _ S.RY,S.P9,λb xs h=>s _ _ (S.fr b xs h)]
theorem we (h:past a H B.r B.q B.kd B.fn B.ds.p B.bl.p n H'):dh (fG B) H H':=λb o e m=>by
 obtain⟨dr,e1,rfl⟩:=h;rw[af λz=>m (.inl z)];exact e
theorem fU.past (S:fU a B H n (x::t) Kn) (hx: ¬j2 x) (h:OS.past a H B.r B.q B.kd B.fn B.ds.p B.bl.p n H'):fU a B H' (n+1) t Kn:=by
 have R:=S.rd.step h;obtain⟨dr,e1,rfl⟩:=h;obtain⟨kk,k1,k2,k3⟩:=S.kn.vals;obtain⟨ff,f1,f2⟩:=S.kn.funs
 have hy:=S.Sz
 have hz:=S.RY
 have nk:B.kd≠B.r:=λw=>by rw[w,e1] at k1;cases k1
 have nf:B.fn≠B.r:=λw=>by rw[w,e1] at f1;cases f1
 have nd:B.ds.p≠B.r:=λw=>by rw[w,e1] at hy;cases hy
 have nb:B.bl.p≠B.r:=λw=>by rw[w,e1] at hz;cases hz
 refine#[R,(S.wh.tail hx).2,#[#[kk,by rw[af nk];exact k1,k2,k3],#[ff,by rw[af nf];exact f1,f2],?_,#[ff,by rw[af nf];exact f1,S.kn.fl f1]],(by rw[af nd];exact hy),(by rw[af nb];exact hz),S.P9,λb xs h=>by
  have e2:=S.fr b xs h;rw[af λw=>by rw[w,e1] at e2;cases e2]
  exact e2]
 have:=S.kn.len;rw[Gp] at this;lia
theorem fU.agi (S:fU a B H n t Kn) (free:Kn.values.contains u=IN) (room:Kn.values.length+1+t.length<=4000) (e:H B.kd=GM (.dK kk)):
  fU a B (bf H B.kd (.dK (fX kk (nk u) (.bl Ix)))) n t (Kn.with u):=by
 obtain⟨dr,er⟩:=S.rd.ins;obtain⟨as,all,h1,h2,h3⟩:=S.rd.toks;obtain⟨UG,k1,k2,k3⟩:=S.kn.vals;obtain⟨ff,f1,f2⟩:=S.kn.funs;have hy:=S.Sz;have hz:=S.RY;obtain rfl:UG=kk:=by rw[e] at k1;cases k1;rfl
 obtain⟨d1,d2,d3,d4,d5,d6⟩:=S.P9;have nr:B.r≠B.kd:=λw=>by rw[w,e] at er;cases er
 have nq:B.q≠B.kd:=λw=>by rw[w,e] at h1;cases h1
 refine#[#[#[dr,by rw[af nr];exact er],as,all,by rw[af nq];exact h1,Paired.Np h2 λb x ⟨dx,ex⟩=>#[dx,?_],h3],S.wh,#[#[_,aj,?_,λv=>?_],#[ff,by rw[af d1.symm];exact f1,f2],by show Kn.values.length+1+t.length<=4000;exact room,#[ff,by rw[af d1.symm];exact f1,S.kn.fl f1]],(by rw[af d2.symm];exact hy),(by rw[af d3.symm];exact hz),S.P9,λb xs h=>by
  have e2:=S.fr b xs h;rw[af λw=>by rw[w,e] at e2;cases e2]
  exact e2]
 .rw[af λw=>by rw[w,e] at ex;cases ex]
  exact ex
 .have:=fT UG (nk u) (.bl Ix)
  show _<=Kn.values.length+1
  lia
 .rw[sM,k3]
  show _=(u::Kn.values).contains v
  rw[HP]
  congr 1
  rw[Ip,Ii,beq_iff_eq]
theorem fU.forget (S:fU a B H n t (Kn.with u)) (free:Kn.values.contains u=IN) (e:H B.kd=GM (.dK kk)):
  has kk u=Ix/\fU a B (bf H B.kd (.dK (f7 kk (nk u)))) n t Kn:=by
 obtain⟨dr,er⟩:=S.rd.ins;obtain⟨as,all,h1,h2,h3⟩:=S.rd.toks;obtain⟨UG,k1,k2,k3⟩:=S.kn.vals;obtain⟨ff,f1,f2⟩:=S.kn.funs;have hy:=S.Sz;have hz:=S.RY;obtain rfl:UG=kk:=by rw[e] at k1;cases k1;rfl
 obtain⟨d1,d2,d3,d4,d5,d6⟩:=S.P9;have nr:B.r≠B.kd:=λw=>by rw[w,e] at er;cases er
 have nq:B.q≠B.kd:=λw=>by rw[w,e] at h1;cases h1
 have hu:has UG u=Ix:=by
  rw[k3];show(u::Kn.values).contains u=Ix;rw[HP,IG]
  rfl
 have len:Kn.values.length+1+t.length<=4000:=S.kn.len
 have k2:UG.length<=Kn.values.length+1:=k2;refine#[hu,#[#[dr,by rw[af nr];exact er],as,all,by rw[af nq];exact h1,Paired.Np h2 λb x ⟨dx,ex⟩=>#[dx,?_],h3],S.wh,#[#[_,aj,?_,λv=>?_],#[ff,by rw[af d1.symm];exact f1,f2],by lia,#[ff,by rw[af d1.symm];exact f1,S.kn.fl f1]],(by rw[af d2.symm];exact hy),(by rw[af d3.symm];exact hz),S.P9,λb xs h=>by
  have e2:=S.fr b xs h;rw[af λw=>by rw[w,e] at e2;cases e2]
  exact e2]
 .rw[af λw=>by rw[w,e] at ex;cases ex]
  exact ex
 .have:(f7 UG (nk u)).length<UG.length:=by
   unfold f7;refine Vb (OR _ _) λw=>?_;rw[Qb] at w;unfold has cW at hu;rw[JQ,NN] at hu;obtain⟨p,hp,e1⟩:=hu;have:=w p hp;simp only[Oq] at this e1;exact this e1
  lia
 .rw[tQ,k3]
  show(!decide (v=u)&&(u::Kn.values).contains v)=_
  rw[HP];by_cases w:v=u
  .rw[w,Hy IO,free];rfl
  .rw[Ha w,show(v == u)=IN from beq_eq_false_iff_ne.mpr w];rfl
theorem fU.fresh (S:fU a B H n t Kn) (h:H b=Id): ¬fG B b:=by
 obtain⟨dr,e1⟩:=S.rd.ins;obtain⟨kk,k1,_⟩:=S.kn.vals;obtain⟨ff,f1,_⟩:=S.kn.funs;have hy:=S.Sz;have hz:=S.RY;rintro(rfl|rfl|rfl|rfl|rfl|⟨xs,hx⟩)
 .rw[e1] at h;cases h
 .rw[k1] at h;cases h
 .rw[f1] at h;cases h
 .rw[hy] at h;cases h
 .rw[hz] at h;cases h
 .rw[S.fr _ _ hx] at h;cases h
end
section
variable {H H' H0:Hp}{B:Rb}{n:GJ}{t:Gw}{Kn:GA}{M M':Gx->Prop}
def Rb.more (B:Rb) (l:Gx) (xs:Gm V):Rb:= { B with bl:=#[B.bl.p,B.bl.c,λb ys=>B.bl.x b ys\/(b=l/\ys=xs)] }
theorem fU.more (S:fU a B H n t Kn) (h:H l=GM (.lst xs)):fU a (B.more l xs) H n t Kn:=
 #[S.rd,S.wh,S.kn,S.Sz,S.RY,S.P9,λb ys z=>z.elim (S.fr b ys) λ⟨e1,e2⟩=>by rw[e1,e2];exact h]
theorem fU.less (S:fU a (B.more l xs) H n t Kn):fU a B H n t Kn:=
 #[S.rd,S.wh,S.kn,S.Sz,S.RY,S.P9,λb ys z=>S.fr b ys (.inl z)]
theorem fU.QH (S:fU a (B.more l xs) H n t Kn):H l=GM (.lst xs):=S.fr l xs (.inr #[IO,IO])
theorem cR (m:fG B b):fG (B.more l xs) b:=by
 rcases m with h|h|h|h|h|⟨ys,h⟩
 .exact .inl h
 .exact .inr (.inl h)
 .exact .inr (.inr (.inl h))
 .exact .inr (.inr (.inr (.inl h)))
 .exact .inr (.inr (.inr (.inr (.inl h))))
 .exact .inr (.inr (.inr (.inr (.inr #[ys, .inl h]))))
theorem dJ (m:fG (B.more l xs) b):b=l\/fG B b:=by
 rcases m with h|h|h|h|h|⟨ys,h|⟨h,_⟩⟩
 .exact .inr (.inl h)
 .exact .inr (.inr (.inl h))
 .exact .inr (.inr (.inr (.inl h)))
 .exact .inr (.inr (.inr (.inr (.inl h))))
 .exact .inr (.inr (.inr (.inr (.inr (.inl h)))))
 .exact .inr (.inr (.inr (.inr (.inr (.inr #[ys,h])))))
 .exact .inl h
theorem fS:fG (B.more l xs) l:= .inr (.inr (.inr (.inr (.inr #[xs, .inr #[IO,IO]]))))
theorem fH (h:M l):dh M H (bf H l o):=λb o' e m=>by
 rw[af λz=>m (by rw[z];exact h)];exact e
theorem fU.write (S:fU a (B.more l xs) H n t Kn) (apart: ∀zs,¬B.bl.x l zs) (hq:l≠B.q):fU a (B.more l ys) (bf H l (.lst ys)) n t Kn:=by
 have hl:=S.QH;obtain⟨dr,er⟩:=S.rd.ins;obtain⟨as,all,h1,h2,h3⟩:=S.rd.toks;obtain⟨kk,k1,k2,k3⟩:=S.kn.vals;obtain⟨ff,f1,f2⟩:=S.kn.funs
 have up: ∀ {b:Gx}{o:HO},H b=GM o->(∀zs,o≠ .lst zs)->bf H l (.lst ys) b=GM o:=λe no=>by
  rw[af λw=>by rw[w,hl] at e;exact no _ (G7 e).symm];exact e
 refine#[#[#[dr,up er (λ_ z=>nomatch z)],as,all,(by show bf H l (.lst ys) B.q=_;rw[af hq.symm];exact h1),Paired.Np h2 λb x ⟨dx,ex⟩=>#[dx,up ex (λ_ z=>nomatch z)],h3],S.wh,
  #[#[kk,up k1 (λ_ z=>nomatch z),k2,k3],#[ff,up f1 (λ_ z=>nomatch z),f2],S.kn.len,#[ff,up f1 (λ_ z=>nomatch z),S.kn.fl f1]],up S.Sz (λ_ z=>nomatch z),up S.RY (λ_ z=>nomatch z),S.P9,λb zs z=>?_]
 rcases z with z|⟨e1,e2⟩
 .rw[af λw=>apart zs (by rw[<-w];exact z)]
  exact S.fr b zs (.inl z)
 .rw[e1,e2]
  exact aj
end
theorem AD:aax=HQ.map λu=>V.str (sb u):=by decide+kernel
theorem dS:dn (.word u)=!Vbemac.KEYS.contains u:=by
 show(!uD (.str (sb u)) aax)=_
 congr 1
 rw[AD];unfold uD;rw[Ov,Gm.contains_eq_any_beq]
 congr 1
 funext z
 show(sb z == sb u)=(u == z)
 rw[Ip,beq_iff_eq,beq_iff_eq];exact#[λe=>(fZ e).symm,λe=>by rw[e]]
def fw (a:bJ) (M:Gx->Prop) (H:Hp):GF Gz->V->Prop
 |none,v=>v= .Kk
 |some e,v=>ag a M H e v
def oZ (b:HH):V:= .str (if b=Ix then "buy" else "sell")
inductive xy (a:bJ) (M:Gx->Prop) (H:Hp) (x:Gv×Gz) (v:V):Prop
 |mk (u:V) (_:bQ M H a.LP [("name", .str (sb x.1)),("exp",u)] v) (_:ag a M H x.2 u):xy a M H x v
def ja:GF Gv->V
 |none=> .Kk
 |some u=> .str (sb u)
mutual
def aO (a:bJ) (M:Gx->Prop) (H:Hp):Jo->V->Prop
 | .bind x e,v=> ∃u,bQ M H a.Mr [("name", .str (sb x)),("exp",u)] v/\ag a M H e u
 | .loop x lo hi l,v=> ∃u1 u2 q us,bQ M H a.NQ [("name", .str (sb x)),("first",u1),("last",u2),("statements",q)] v/\ag a M H lo u1/\ag a M H hi u2/\bM M H us q/\aT a M H l us
 | .cond c x y,v=> ∃u q us g ws,bQ M H a.Qy [("condition",u),("statements",q),("else_statements",g)] v/\ag a M H c u/\bM M H us q/\aT a M H x us/\bM M H ws g/\aT a M H y ws
 | .step b z qu p top am,v=> ∃u1 u2 u3 u4 u5,bQ M H a.LN [("side",oZ b),("zone",u1),("quarter",u2),("price",u3),("to_price",u4),("amount",u5)] v/\ag a M H z u1/\ag a M H qu u2/\ag a M H p u3/\fw a M H top u4/\ag a M H am u5
 | .block nm b z p x am un g,v=> ∃u1 u2 u3 u4,bQ M H a.KC [("name",ja nm),("side",oZ b),("zone",u1),("price",u2),("amounts",u3),("under",ja un),("group",u4)] v/\ag a M H z u1/\ag a M H p u2/\xy a M H (x,am) u3/\fw a M H g u4
def aT (a:bJ) (M:Gx->Prop) (H:Hp):Im->Gm V->Prop
 | .nil,us=>us=[]
 | .cons s l,us=> ∃u vs,us=u::vs/\aO a M H s u/\aT a M H l vs
end
section
variable {M M':Gx->Prop}{H H':Hp}
theorem fw.Ia (k:eu M M' H H'): ∀(e:GF Gz) {v:V},fw a M H e v->fw a M' H' e v
 |none,v,h=>h
 |some e,v,h=>ag.Ia k e h
theorem xy.Ia (k:eu M M' H H') (h:xy a M H x v):xy a M' H' x v:=by
 obtain⟨u,h1,h2⟩:=h;exact#[u,h1.keep k,ag.Ia k _ h2]
mutual
theorem aO.Ia (k:eu M M' H H'): ∀(s:Jo) {v:V},aO a M H s v->aO a M' H' s v
 | .bind x e,v,h=>by
  unfold aO at h ⊢;obtain⟨u,h1,h2⟩:=h;exact#[u,h1.keep k,ag.Ia k e h2]
 | .loop x lo hi l,v,h=>by
  unfold aO at h ⊢;obtain⟨u1,u2,q,us,h1,h2,h3,h4,h5⟩:=h;exact#[u1,u2,q,us,h1.keep k,ag.Ia k lo h2,ag.Ia k hi h3,h4.keep k,aT.Ia k l h5]
 | .cond c x y,v,h=>by
  unfold aO at h ⊢;obtain⟨u,q,us,g,ws,h1,h2,h3,h4,h5,h6⟩:=h;exact#[u,q,us,g,ws,h1.keep k,ag.Ia k c h2,h3.keep k,aT.Ia k x h4,h5.keep k,aT.Ia k y h6]
 | .step b z qu p top am,v,h=>by
  unfold aO at h ⊢;obtain⟨u1,u2,u3,u4,u5,h1,h2,h3,h4,h5,h6⟩:=h;exact#[u1,u2,u3,u4,u5,h1.keep k,ag.Ia k z h2,ag.Ia k qu h3,ag.Ia k p h4,fw.Ia k top h5,ag.Ia k am h6]
 | .block nm b z p x am un g,v,h=>by
  unfold aO at h ⊢;obtain⟨u1,u2,u3,u4,h1,h2,h3,h4,h5⟩:=h;exact#[u1,u2,u3,u4,h1.keep k,ag.Ia k z h2,ag.Ia k p h3,h4.Ia k,fw.Ia k g h5]
theorem aT.Ia (k:eu M M' H H'): ∀(l:Im) {us:Gm V},aT a M H l us->aT a M' H' l us
 | .nil,us,h=>by unfold aT at h ⊢; exact h
 | .cons s l,us,h=>by
  unfold aT at h ⊢;obtain⟨u,vs,h1,h2,h3⟩:=h;exact#[u,vs,h1,aO.Ia k s h2,aT.Ia k l h3]
end
end
def iY (ps:Gm Gv):Gm V:=ps.map λp=>V.str (sb p)
def f9 (a:bJ) (M:Gx->Prop) (H:Hp):Ir->V->Prop
 | .const x e,v=> ∃u,bQ M H a.MT [("name", .str (sb x)),("exp",u)] v/\ag a M H e u
 | .func x ps e,v=> ∃q u,bQ M H a.O8 [("name", .str (sb x)),("parameters",q),("exp",u)] v/\bM M H (iY ps) q/\ag a M H e u
 | .desk x l,v=> ∃q us,bQ M H a.Oa [("name", .str (sb x)),("statements",q)] v/\bM M H us q/\aT a M H l us
theorem f9.Ia {a:bJ}{M M':Gx->Prop}{H H':Hp}(k:eu M M' H H'): ∀(x:Ir) {v:V},f9 a M H x v->f9 a M' H' x v
 | .const x e,v,⟨u,h1,h2⟩=>#[u,h1.keep k,ag.Ia k e h2]
 | .func x ps e,v,⟨q,u,h1,h2,h3⟩=>#[q,u,h1.keep k,h2.keep k,ag.Ia k e h3]
 | .desk x l,v,⟨q,us,h1,h2,h3⟩=>#[q,us,h1.keep k,h2.keep k,aT.Ia k l h3]
inductive Fk where
 |e (x:Gz)
 |o (x:GF Gz)
 |am (x:Gv×Gz)
 |st (x:Jo)
 |sts (x:Im)
 |ps (x:Gm Gv)
 |top (x:Ir)
inductive qI (a:bJ) (M:Gx->Prop) (H:Hp) (l:Im) (v:V):Prop
 |mk (us:Gm V) (_:bM M H us v) (_:aT a M H l us):qI a M H l v
def jU (a:bJ) (M:Gx->Prop) (H:Hp) (x:Fk×V):Prop:=match x.1 with
 | .e e=>ag a M H e x.2
 | .o e=>fw a M H e x.2
 | .am e=>xy a M H e x.2
 | .st e=>aO a M H e x.2
 | .sts e=>qI a M H e x.2
 | .ps e=>bM M H (iY e) x.2
 | .top e=>f9 a M H e x.2
theorem jU.Ia {a:bJ}{M M':Gx->Prop}{H H':Hp}(k:eu M M' H H'): ∀ {x:Fk×V},jU a M H x->jU a M' H' x
 | (.e e,v),h=>ag.Ia k e h
 | (.o e,v),h=>fw.Ia k e h
 | (.am e,v),h=>xy.Ia k h
 | (.st e,v),h=>aO.Ia k e h
 | (.sts e,v),⟨us,h1,h2⟩=>#[us,h1.keep k,aT.Ia k e h2]
 | (.ps e,v),h=>bM.keep k h
 | (.top e,v),h=>f9.Ia k e h
theorem BG (T:Txt K mg a) (XC:XT K a):T.Y1.O P w mg base 6 (xZ a):=by
 have G_s:=nz (P:=P) (w:=w) (base:=base) T XC;refine kr T.Y1.F afy [03] [02];obtain⟨r,q,kd,fn,ds,bl,n,x,t,v,rfl,R,hb,hf,hg⟩:=h;obtain⟨dr,er⟩:=R.ins;refine#[_,(ai (bz (my (bS (eX (pv 0) T.Ho T.d_s.c G_s (hr.mono [01]) bN (aa (pv 1) ac)))) (ak (aB uW)) aQ)
   (ai (mB (pv 0) aG xa)
   (ak (aB uW)))),?_]
 refine#[r,dr,_,IO,er,IO,r,q,kd,fn,ds,bl,n,x,t,v,IO,R,hb,λnb=>#[_,IO,?_]];cases e:m8 v x.1 with
 |false=>exact dR (hf nb e)
 |true=>
  refine cQ ?_;exact#[r,_,dr,_,_,IO,er,T.Ho,T.Lx,IO,_,_,IO,IO,dr,_,er,(by show 6<1000;decide),hg nb e _ #[dr,er,IO]]
theorem jT (T:Txt K mg a) (XC:XT K a):T.Y3.O P w mg base 7 (zi a):=by
 have G_M:=iK (P:=P) (w:=w) (base:=base) T XC
 have TN:=dI (P:=P) (w:=w) (base:=base) T XC
 have UE:=gi (P:=P) (w:=w) (base:=base) T XC
 have G_D:=rD (P:=P) (w:=w) (base:=base) T XC;refine kr T.Y3.F afz [03] [02];obtain⟨r,q,kd,fn,ds,bl,g,n,⟨x,xp⟩,t,gg,rfl,R,eg,hb,hn,h4,hg⟩:=h;obtain⟨dr,er⟩:=R.ins;refine#[_,(ai (a6 (cU (pv 0) T.Ho T.d_M.c G_M (hr.mono [01]) bN))
   (ai (bz (fB (rM (gS hr) (az (cU (pv 0) T.Ho T.Vt.c TN (hr.mono [01]) bN) IO) (pv 1))) (ak (a6 (eX (pv 0) T.Ho T.Vu.c UE (hr.mono [01]) bN (aa (bB (by rfl) T.Pj) ac)))) aQ)
   (ak (aB (cU (pv 0) T.Ho T.d_D.c G_D (hr.mono [01]) bN))))),?_]
 refine#[r,dr,_,IO,er,IO,r,q,kd,fn,ds,bl,n,(x,xp),t,IO,R,hb,hn,λnb e=>?_];cases x with
 |word u=>
  refine#[r,dr,_,IO,er,IO,r,q,kd,fn,ds,bl,n,(.word u,xp),t,IO,R,hb,λ_ p ⟨dx,et⟩=>#[p,_,dx,_,_,IO,et,T.JP,T.Kl,IO,?_]];refine#[g,_,IO,kG.k (k:=nk u) eg,_,IO,bi (λe1=>?_) λe1=>?_]
  .refine#[r,dr,_,IO,er,IO,r,q,kd,fn,ds,bl,n,(.word u,xp),t,4,IO,R,?_]
   rw[GB nb];exact h4 u IO e e1
  .exact#[r,dr,_,IO,er,IO,r,q,kd,fn,ds,bl,n,(.word u,xp),t,IO,R,hb,λ_=>hg u IO e e1]
 |num m=>cases e
 |sign u=>cases e
 |eof=>cases e
 |bad=>exact GW IO nb
theorem gk {α:Type}{p:GH α}{n:GJ}{t:Gw}{Qo:α->Gw->Prop}{Qe:GJ->HJ->Prop}(e:p t=Hi n t) (nb:GQ t≠ .bad) (h:W p t Qo Qe):Qe n (JC t):=by
 have e:p t= .error (n,JC t):=by rw[e];unfold Hi;rw[GB nb]
 rw[jO e] at h;exact h
theorem agj {α:Type}{p p':GH α}{t:Gw}{Qo:α->Gw->Prop}{Qe:GJ->HJ->Prop}(e:p t=p' t) (h:W p t Qo Qe):W p' t Qo Qe:=by
 unfold W at h ⊢;rw[<-e];exact h
abbrev QE (a:bJ) (B:Rb) (H0:Hp) (E:XK):GJ->HJ->Prop:=λk x=> ∀H',dh (fG B) H0 H'->oo a.Jj E H' k x
theorem dC {t:Gw} :VN ((.word u,xp)::t)=if HQ.contains u=Ix then Hi 2 ((.word u,xp)::t) else .ok (u,t):=rfl
theorem jr {Kn:GA}{t:Gw}(h:HQ.contains u=Ix):Ib Kn ((.word u,xp)::t)=Hi 2 ((.word u,xp)::t):=by
 unfold Ib;rw[dC,GD h]
 rfl
theorem e7 {Kn:GA}{t:Gw}(h:HQ.contains u=IN):Ib Kn ((.word u,xp)::t)=if Kn.taken u=Ix then Hi 4 ((.word u,xp)::t) else .ok (u,t):=by
 unfold Ib;rw[dC,GB (by rw[h];exact Gn)]
structure Zf (β:Type) where
 a:bJ
 E:XK
 B:Rb
 L:GJ
 H0:Hp
 Ro:β->Gw->Prop
inductive CB (X:Cx) (x:G0) (ps:Gm G0) (sp:Sp):Prop
 |mk {k:GJ}{f:Gx}{fd:HX}(F:b8 X.prog X.w X.K X.mg X.base (jF X.prog X.w) k f fd ps sp) (hr:cy k X.A) (d:CD X.K X.mg x f fd ps) (hg:Gl X x):CB X x ps sp
structure RX (X:Cx) (a:bJ) (E:XK):Prop where
 T:Txt X.K X.mg a
 C:XT X.K a
 hr:cy 8 X.A
 up:eJ (jF X.prog X.w) X E
 lv:Rt (model X.prog X.w) X.A X.env X.xe
 nd:X.N.Nodup
 n0:X.N[0]?=GM ("reader":G0)
 v0:tq X.env.scope "reader"
structure RS {β:Type}(Z:Zf β) (F:Gm (Fk×V)) (b:HH) (H:Hp) (t:Gw) (Kn:GA) (p:GH β):Prop where
 S: ∃n,fU Z.a Z.B H n t Kn
 k:dh (fG Z.B) Z.H0 H
 f: ∀ {i:GJ}{x:Fk×V},F[i]?=GM x->jU Z.a (fG Z.B) H x
 l:t.length+b.toNat<=Z.L
 w:W p t Z.Ro (QE Z.a Z.B Z.H0 Z.E)
section
variable {β:Type}{Z:Zf β}{H H':Hp}{p p':GH β}
theorem RS.go (R:RS Z F b H t Kn p) (S:fU Z.a Z.B H' n t' WL) (k:dh (fG Z.B) H H') (l:t'.length+b'.toNat<=Z.L) (w:W p' t' Z.Ro (QE Z.a Z.B Z.H0 Z.E)):RS Z F b' H' t' WL p':=
 #[#[n,S],R.k.trans k,λe=>jU.Ia k.two (R.f e),l,w]
theorem RS.and (R:RS Z F b H t Kn p) (h:jU Z.a (fG Z.B) H e):RS Z (e::F) b H t Kn p:=
 #[R.S,R.k,λ{i x} q=>match i,q with
  |0,q=>by cases q;exact h
  |i+1,q=>R.f (i:=i) q,R.l,R.w]
theorem RS.as (R:RS Z F b H t Kn p) (e:p t=p' t):RS Z F b H t Kn p':=#[R.S,R.k,R.f,R.l,agj e R.w]
theorem RS.one (R:RS Z F b H (x::t) Kn p):t.length+1<=Z.L:=GX (J5 _ _) R.l
theorem RS.past (R:RS Z F b H (x::t) Kn p) (S:fU Z.a Z.B H n (x::t) Kn) (hx: ¬j2 x) (h:OS.past Z.a H Z.B.r Z.B.q Z.B.kd Z.B.fn Z.B.ds.p Z.B.bl.p n H') (w:W p' t Z.Ro (QE Z.a Z.B Z.H0 Z.E)):RS Z F Ix H' t Kn p':=
 R.go (S.past hx h) (we h) R.one w
end
structure XpP (v:G0) (p:GH Nl) (x:HW×HJ) (r:Gw):Prop where
 bad:x.1= .bad->p (x::r)= .error (1,x.2)
 no:x.1≠ .bad->m8 v x.1=IN->p (x::r)= .error (2,x.2)
 yes:x.1≠ .bad->m8 v x.1=Ix->p (x::r)= .ok ((),r)/\ ¬j2 x
theorem eV.p {v:G0}{s:String}(l:eV v (Gr s)) (r:Gw) (ok:gP x.1):XpP v (Hs s) x r:=by
 refine#[λb=>bA s (x::r) b,λnb e=>?_,λnb e=>?_]
 .rw[dj ok l] at e
  show(if Hu (x::r) s=Ix then _ else Hi 2 (x::r))=_
  rw[GB (by show¬(x.1 == .sign (Gr s))=Ix;rw[e];exact Gn)];unfold Hi;rw[GB (show¬GQ (x::r)= .bad from nb)]
  rfl
 .rw[dj ok l] at e
  refine#[?_,λz=>?_]
  .show(if Hu (x::r) s=Ix then _ else Hi 2 (x::r))=_
   rw[GD (by show(x.1 == .sign (Gr s))=Ix;exact e)]
   rfl
  .have:=beq_iff_eq.mp e
   exact z.elim (λz=>by rw[this] at z;cases z) nb
theorem dE.p {v:G0}{s:String}(l:dE v (Gr s)) (r:Gw) (ok:gP x.1):XpP v (IJ s) x r:=by
 refine#[λb=>fE s (x::r) b,λnb e=>?_,λnb e=>?_]
 .rw[cz ok l] at e
  show(if GI (x::r) s=Ix then _ else Hi 2 (x::r))=_
  rw[GB (by show¬(x.1 == .word (Gr s))=Ix;rw[e];exact Gn)];unfold Hi;rw[GB (show¬GQ (x::r)= .bad from nb)]
  rfl
 .rw[cz ok l] at e
  refine#[?_,λz=>?_]
  .show(if GI (x::r) s=Ix then _ else Hi 2 (x::r))=_
   rw[GD (by show(x.1 == .word (Gr s))=Ix;exact e)]
   rfl
  .have:=beq_iff_eq.mp e
   exact z.elim (λz=>by rw[this] at z;cases z) nb
theorem Ck {v:G0}(r:Gw) (e:m8 v x.1=Ix) (nb:x.1≠ .bad) (nf: ¬j2 x):XpP v HR x r:=
 #[λb=>GW b nb,λ_ z=>(by rw[e] at z;cases z),λ_ _=>#[IO,nf]]
theorem RS.tok {β:Type}{Z:Zf β}{F:Gm (Fk×V)}{b:HH}{H:Hp}{t:Gw}{Kn:GA}{p:GH β}(R:RS Z F b H t Kn p):gP (GQ t):=by
 obtain⟨n,S⟩:=R.S;obtain⟨x,t',rfl,tok,QY,_,_⟩:=S.wh.first;exact tok
section
variable {X:Cx}{β:Type}{Z:Zf β}{F:Gm (Fk×V)}{b:HH}{H:Hp}{t:Gw}{Kn:GA}{D:dz}{ss:Gm Stmt}{σ:L2.St}{p0 p1 p2 p3 p4 p5:Pos}{j:GJ}{v y:G0}{s:String}{E:XK}{Q:VK}{B:Rb}{n:GJ}{m:G0}{f:Gx}{fd:HX}{ps:Gm G0}{sp:Sp}{k:GJ}{CX:rl}{E':XK}{p:GH β}
theorem RX.rd (Y:RX X a E):PE X (.Name "reader" p1) (d7 0):=iB Y.n0 Y.v0
theorem RX.m1 (Y:RX X a E) (d:MD X.K a.HL m f fd ps) (G:b8 X.prog X.w X.K X.mg X.base CX k f fd ps sp) (hk:k<=8) (up:eJ CX X E') (S:fU a B H n t Kn) (hm:(sr B.q B.kd B.fn B.ds.p B.bl.p n).lookup m=Id) (q:Pe X e (GM (.ref B.r)::σ) H λv H1=>sp [.ref B.r,v] H1 Q E')
  (hp:jY p2 p4) (Ms:Hb [e] X.env=[(IN,eval e X.env)]):Pe X (.Call (.Attribute (.Name "reader" p1) m p2) [e] [] p4) (GM (.ref B.r)::σ) H Q:=by
 obtain⟨dr,er⟩:=S.rd.ins;exact#[_,eX Y.rd Y.T.Ho d G (Y.hr.mono hk) up (aa eF ac Ms) Ms IO (xR hp (by rw[Ms];rfl)),B.r,dr,_,IO,er,hm,q]
theorem RX.m0 (Y:RX X a E) (d:MD X.K a.HL m f fd ps) (G:b8 X.prog X.w X.K X.mg X.base CX k f fd ps sp) (hk:k<=8) (up:eJ CX X E') (S:fU a B H n t Kn) (hm:(sr B.q B.kd B.fn B.ds.p B.bl.p n).lookup m=Id) (q:sp [.ref B.r] H Q E')
  (hp:jY p2 p4):Pe X (.Call (.Attribute (.Name "reader" p1) m p2) [] [] p4) (GM (.ref B.r)::σ) H Q:=by
 obtain⟨dr,er⟩:=S.rd.ins;exact#[_,cU Y.rd Y.T.Ho d G (Y.hr.mono hk) up (xR hp IO),B.r,dr,_,IO,er,hm,q]
theorem yu {e:IY}{te:TE}{u:GH Nl}{g:Nl->GH β}(Y:RX X Z.a Z.E) (R:RS Z F b H t Kn (u>>=g)) (he:PE X e te) (hv: ∀Q:VK,Q (.str v) H->te (GM (.ref Z.B.r)::σ) H Q) (l: ∀ {x:HW×HJ} r,t=x::r->gP x.1->XpP v u x r) (q: ∀H' t',RS Z F Ix H' t' Kn (g ())->Bd X ss D (GM (.ref Z.B.r)::σ) H') (hp:jY p2 p4:=by rfl) (Ms:Hb [e] X.env=[(IN,eval e X.env)]:=by rfl):
  Bd X (.Expr (.Call (.Attribute (.Name "reader" p1) "expect" p2) [e] [] p4) p5::ss) D (GM (.ref Z.B.r)::σ) H:=by
 obtain⟨n,S⟩:=R.S;obtain⟨x,t',rfl,tok,QY,MS,_⟩:=S.wh.first;have hW:=R.w;rw[de] at hW;have l:=l t' IO tok;refine dQ (Y.m1 Y.T.Y0.c (zE Y.T Y.C) [01] Y.up S IO #[_,he,hv _ #[Z.B.r,Z.B.q,Z.B.kd,Z.B.fn,Z.B.ds,Z.B.bl,n,x,t',v,IO,S.rd,λb=>?_,λnb e=>?_,λnb e H' hp=>?_]] hp Ms)
 .rw[jO (l.bad b)] at hW;exact hW H R.k
 .rw[jO (l.no nb e)] at hW;exact hW H R.k
 .obtain⟨h1,h2⟩:=l.yes nb e
  rw[wS h1] at hW;exact q H' t' (R.past S h2 hp hW)
theorem nj {te:TE}(Y:RX X Z.a Z.E) (R:RS Z F b H t Kn p) (he:PE X e te) (hv: ∀Q:VK,Q (.str v) H->te (GM (.ref Z.B.r)::σ) H Q) (hb:GQ t= .bad->QE Z.a Z.B Z.H0 Z.E 1 (JC t)) (q:GQ t≠ .bad->Q (.bl (m8 v (GQ t))) H) (hp:jY p2 p4:=by rfl) (Ms:Hb [e] X.env=[(IN,eval e X.env)]:=by rfl):
  Pe X (.Call (.Attribute (.Name "reader" p1) "sees" p2) [e] [] p4) (GM (.ref Z.B.r)::σ) H Q:=by
 obtain⟨n,S⟩:=R.S;obtain⟨x,t',rfl,tok,QY,MS,_⟩:=S.wh.first;exact Y.m1 Y.T.d_s.c (nz Y.T Y.C) [01] Y.up S IO #[_,he,hv _ #[Z.B.r,Z.B.q,Z.B.kd,Z.B.fn,Z.B.ds,Z.B.bl,n,x,t',v,IO,S.rd,λb=>hb (QY.trans b) H R.k,q]] hp Ms
theorem r6 {u:GH Nl}{g:Nl->GH β}(Y:RX X Z.a Z.E) (R:RS Z F b H t Kn (u>>=g)) (l: ∀ {x:HW×HJ} r,t=x::r->gP x.1->XpP v u x r) (q: ∀H' t',RS Z F Ix H' t' Kn (g ())->Bd X ss D (GM (.ref Z.B.r)::σ) H') (hp:jY p2 p4:=by rfl):
  Bd X (.Expr (.Call (.Attribute (.Name "reader" p1) "expect" p2) [.Constant (.str v) j p3] [] p4) p5::ss) D (GM (.ref Z.B.r)::σ) H:=yu Y R aK [08] l q hp
theorem c8 {g:Nl->GH β}(Y:RX X Z.a Z.E) (lit:eV v (Gr s)) (R:RS Z F b H t Kn (Hs s>>=g)) (q: ∀H' t',RS Z F Ix H' t' Kn (g ())->Bd X ss D (GM (.ref Z.B.r)::σ) H') (hp:jY p2 p4:=by rfl):
  Bd X (.Expr (.Call (.Attribute (.Name "reader" p1) "expect" p2) [.Constant (.str v) j p3] [] p4) p5::ss) D (GM (.ref Z.B.r)::σ) H:=r6 Y R (λr _ ok=>lit.p r ok) q hp
theorem l0 {g:Nl->GH β}(Y:RX X Z.a Z.E) (lit:dE v (Gr s)) (R:RS Z F b H t Kn (IJ s>>=g)) (q: ∀H' t',RS Z F Ix H' t' Kn (g ())->Bd X ss D (GM (.ref Z.B.r)::σ) H') (hp:jY p2 p4:=by rfl):
  Bd X (.Expr (.Call (.Attribute (.Name "reader" p1) "expect" p2) [.Constant (.str v) j p3] [] p4) p5::ss) D (GM (.ref Z.B.r)::σ) H:=r6 Y R (λr _ ok=>lit.p r ok) q hp
theorem jx (Y:RX X Z.a Z.E) (R:RS Z F b H t Kn p) (st:a8 p) (q:GQ t≠ .bad->Q (.bl (m8 v (GQ t))) H) (hp:jY p2 p4:=by rfl):
  Pe X (.Call (.Attribute (.Name "reader" p1) "sees" p2) [.Constant (.str v) j p3] [] p4) (GM (.ref Z.B.r)::σ) H Q:=nj Y R aK [08] (λb=>st.Mm b R.w) q hp
theorem jI (Y:RX X Z.a Z.E) (R:RS Z F b H t Kn p) (nb:GQ t≠ .bad) (q:Q (.bl (m8 v (GQ t))) H) (hp:jY p2 p4:=by rfl):
  Pe X (.Call (.Attribute (.Name "reader" p1) "sees" p2) [.Constant (.str v) j p3] [] p4) (GM (.ref Z.B.r)::σ) H Q:=nj Y R aK [08] (λb=>GW b nb) (λ_=>q) hp
theorem XN {c:HW->HH}(Y:RX X Z.a Z.E) (d:MD X.K Z.a.HL m f fd ps) (G:b8 X.prog X.w X.K X.mg X.base (jF X.prog X.w) k f fd ps (tG Z.a c)) (hk:k<=8) (hm: ∀n,(sr Z.B.q Z.B.kd Z.B.fn Z.B.ds.p Z.B.bl.p n).lookup m=Id) (R:RS Z F b H t Kn p) (st:a8 p) (q:GQ t≠ .bad->Q (.bl (c (GQ t))) H) (hp:jY p2 p4:=by rfl):
  Pe X (.Call (.Attribute (.Name "reader" p1) m p2) [] [] p4) (GM (.ref Z.B.r)::σ) H Q:=by
 obtain⟨n,S⟩:=R.S;obtain⟨x,t',rfl,tok,QY,MS,_⟩:=S.wh.first;exact Y.m0 d G hk Y.up S (hm n) #[Z.B.r,Z.B.q,Z.B.kd,Z.B.fn,Z.B.ds,Z.B.bl,n,x,t',IO,S.rd,λb=>st.Mm (QY.trans b) R.w H R.k,q] hp
theorem ji {g:Nl->GH β}(Y:RX X Z.a Z.E) (R:RS Z F b H (x::r) Kn (HR>>=g)) (nf: ¬j2 x) (q: ∀H',RS Z F Ix H' r Kn (g ())->Q (i5 x.1) H') (hp:jY p2 p4:=by rfl):
  Pe X (.Call (.Attribute (.Name "reader" p1) "take" p2) [] [] p4) (GM (.ref Z.B.r)::σ) H Q:=by
 obtain⟨n,S⟩:=R.S;exact Y.m0 Y.T.d_D.c (rD Y.T Y.C) [01] Y.up S IO #[Z.B.r,Z.B.q,Z.B.kd,Z.B.fn,Z.B.ds,Z.B.bl,n,x,r,IO,S.rd,λb=>GW (.inr b) nf,λ_ H' hp=>q H' (R.past S nf hp R.w)] hp
theorem sL {e:IY}{i:GJ}(Y:RX X Z.a Z.E) (he:PE X e (tC (.int i))) (R:RS Z F b H t Kn p) (nb:GQ t≠ .bad) (h:p t=Hi i t) (hp:jY p2 p4:=by rfl) (Ms:Hb [e] X.env=[(IN,eval e X.env)]:=by rfl):
  Pe X (.Call (.Attribute (.Name "reader" p1) "fail" p2) [e] [] p4) (GM (.ref Z.B.r)::σ) H Q:=by
 obtain⟨n,S⟩:=R.S;obtain⟨x,t',rfl,tok,QY,MS,_⟩:=S.wh.first;refine Y.m1 Y.T.Vu.c (gi Y.T Y.C) [01] Y.up S IO #[_,he,Z.B.r,Z.B.q,Z.B.kd,Z.B.fn,Z.B.ds,Z.B.bl,n,x,t',i,IO,S.rd,?_] hp Ms;rw[GB (show¬x.1= .bad from nb)];exact gk h nb R.w H R.k
theorem p_L (Y:RX X Z.a Z.E) (R:RS Z F b H t Kn p) (st:a8 p) (h:GQ t≠ .bad->dn (GQ t)=IN->p t=Hi 2 t) (q:GQ t≠ .bad->dn (GQ t)=Ix->Q .Kk H) (hp:jY p2 p4:=by rfl):
  Pe X (.Call (.Attribute (.Name "reader" p1) "need_name" p2) [] [] p4) (GM (.ref Z.B.r)::σ) H Q:=by
 obtain⟨n,S⟩:=R.S;obtain⟨x,t',rfl,tok,QY,MS,_⟩:=S.wh.first;exact Y.m0 Y.T.d_M.c (iK Y.T Y.C) [01] Y.up S IO #[Z.B.r,Z.B.q,Z.B.kd,Z.B.fn,Z.B.ds,Z.B.bl,n,x,t',IO,S.rd,λb=>st.Mm (QY.trans b) R.w H R.k,λnb e=>gk (h nb e) nb R.w H R.k,q] hp
theorem xn (Y:RX X Z.a Z.E) (R:RS Z F b H t Kn p) (hb:GQ t= .bad->QE Z.a Z.B Z.H0 Z.E 1 (JC t)) (q:GQ t≠ .bad->Q (i5 (GQ t)) H) (hp:jY p2 p4:=by rfl):
  Pe X (.Attribute (.Call (.Attribute (.Name "reader" p1) "current" p2) [] [] p4) "value" p5) (GM (.ref Z.B.r)::σ) H Q:=by
 obtain⟨n,S⟩:=R.S;obtain⟨x,t',rfl,tok,QY,MS,_⟩:=S.wh.first;refine#[_,az eF IO,Y.m0 Y.T.Vt.c (dI Y.T Y.C) [01] Y.up S IO #[Z.B.r,Z.B.q,Z.B.kd,Z.B.fn,Z.B.ds,Z.B.bl,n,x,t',IO,S.rd,λb=>hb (QY.trans b) H R.k,λnb c ⟨dx,et⟩=>#[c,_,dx,_,_,IO,et,Y.T.JP,Y.T.Kl,IO,q nb]] hp]
theorem agk (Y:RX X Z.a Z.E) (R:RS Z F b H t Kn p) (st:a8 p) (q:GQ t≠ .bad->Q (i5 (GQ t)) H) (hp:jY p2 p4:=by rfl):
  Pe X (.Attribute (.Call (.Attribute (.Name "reader" p1) "current" p2) [] [] p4) "value" p5) (GM (.ref Z.B.r)::σ) H Q:=xn Y R (λb=>st.Mm b R.w) q hp
theorem RS.cons (R:RS Z F b H t Kn p): ∃x r,t=x::r:=by
 obtain⟨n,S⟩:=R.S;obtain⟨x,t',e,_⟩:=S.wh.first;exact#[x,t',e]
theorem aaB (Y:RX X Z.a Z.E) (R:RS Z F b H (x::r) Kn p) (nf: ¬j2 x) (q:Q (.bl (mV (GQ r))) H) (hp:jY p2 p4:=by rfl):
  Pe X (.Call (.Attribute (.Name "reader" p1) "number_follows" p2) [] [] p4) (GM (.ref Z.B.r)::σ) H Q:=by
 obtain⟨n,S⟩:=R.S;obtain⟨y,r',rfl,_⟩:=(S.wh.tail nf).2.first;exact Y.m0 Y.T.YZ.c (kX Y.T) [01] aC S IO #[Z.B.r,Z.B.q,Z.B.kd,Z.B.fn,Z.B.ds,Z.B.bl,n,x,y,r',IO,S.rd,q] hp
theorem aaC {te:TE}{C:HH->Hp->Prop}(Y:RX X Z.a Z.E) (R:RS Z F b H t Kn p) (he:PE X e te) (hv: ∀Q:VK,Q (.str (sb u)) H->te (GM (.ref Z.B.r)::σ) H Q) (q:C ((Kn.funs.find? λf=>f.1 == u).isSome) H):
  Pt X (.Compare e [.In] [.Attribute (.Name "reader" p1) "functions" p2] p3) (GM (.ref Z.B.r)::σ) H C:=by
 obtain⟨n,S⟩:=R.S;obtain⟨dr,er⟩:=S.rd.ins;obtain⟨ff,f1,f2⟩:=S.kn.funs;refine#[_,fB (rM (gS Y.hr) he (az Y.rd IO)),hv _ #[Z.B.r,_,dr,_,_,IO,er,Y.T.Ho,Y.T.JR,IO,Z.B.fn,_,IO,kG.k (k:=nk u) f1,_,IO,?_]];rw[f2,JQ];exact q
theorem aaD {te:TE}{C:HH->Hp->Prop}(Y:RX X Z.a Z.E) (R:RS Z F b H t Kn p) (he:PE X e te) (hv: ∀Q:VK,Q (.str (sb u)) H->te (GM (.ref Z.B.r)::σ) H Q) (q:C (!Kn.values.contains u) H):
  Pt X (.Compare e [.NotIn] [.Attribute (.Name "reader" p1) "known" p2] p3) (GM (.ref Z.B.r)::σ) H C:=by
 obtain⟨n,S⟩:=R.S;obtain⟨dr,er⟩:=S.rd.ins;obtain⟨kk,k1,k2,k3⟩:=S.kn.vals;refine#[_,fB (rc (gS Y.hr) he (az Y.rd IO)),hv _ #[Z.B.r,_,dr,_,_,IO,er,Y.T.Ho,Y.T.K5,IO,Z.B.kd,_,IO,kG.k (k:=nk u) k1,_,IO,?_]];have:=k3 u;unfold has at this;rw[this];exact q
theorem vF (i:GJ) {g:Gv->GH β}(Y:RX X Z.a Z.E) (R:RS Z F b H t Kn (Ib Kn>>=g)) (q: ∀u H' t',dE (sb u) u->HQ.contains u=IN->Kn.taken u=IN->RS Z F Ix H' t' Kn (g u)->Bd X ss D ((GM (.ref Z.B.r)::σ).set i (GM (.str (sb u)))) H')
  (h:Sl X i y:=by exact#[IO,HD IO,IO]) (hp:jY p2 p4:=by rfl):
  Bd X (.Assign [.Name y p0] (.Call (.Attribute (.Name "reader" p1) "take_free_name" p2) [] [] p4) p5::ss) D (GM (.ref Z.B.r)::σ) H:=by
 obtain⟨n,S⟩:=R.S;obtain⟨dr,er⟩:=S.rd.ins;obtain⟨⟨x,xp⟩,t',rfl,tok,QY,MS,_⟩:=S.wh.first;obtain⟨kk,k1,k2,k3⟩:=S.kn.vals;obtain⟨ff,f1,f2⟩:=S.kn.funs;have hW:=R.w;rw[de] at hW;have tk: ∀u,(has kk u||has ff u)=Kn.taken u:=λu=>by
  unfold Ow;rw[k3]
  congr 1
  unfold has;rw[f2,JQ,Ip,NN,KS]
 refine aW i Y.nd (Y.m0 Y.T.Y2.c (li Y.T Y.C) [01] Y.up S IO #[Z.B.r,Z.B.q,Z.B.kd,Z.B.fn,Z.B.ds,Z.B.bl,n,(x,xp),t',kk,ff,IO,S.rd,k1,f1,λb=>(gA Kn).Mm (QY.trans b) hW H R.k,λnb e=>?_,λu ex e e4=>?_,λu ex e e4 H' hp=>?_] hp) h
 .refine gk (p:=Ib Kn) (n:=2) (t:=(x,xp)::t') ?_ nb hW H R.k
  cases x with
  |word u=>
   rw[dS] at e;have RH:HQ.contains u=Ix:=by cases h:HQ.contains u;rw[h] at e;cases e;rfl
   exact jr RH
  |num m=>rfl
  |sign s=>rfl
  |eof=>rfl
  |bad=>exact GW IO nb
 .obtain rfl:x= .word u:=ex
  rw[dS] at e;have RH:HQ.contains u=IN:=by cases h:HQ.contains u;rfl;rw[h] at e;cases e
  refine gk (p:=Ib Kn) (n:=4) (t:=(.word u,xp)::t') ?_ (λz=>nomatch z) hW H R.k
  rw[e7 RH,GD (by rw[<-tk];exact e4)]
 .obtain rfl:x= .word u:=ex
  rw[dS] at e;have RH:HQ.contains u=IN:=by cases h:HQ.contains u;rfl;rw[h] at e;cases e
  have ft:Kn.taken u=IN:=by rw[<-tk];exact e4
  have en:Ib Kn ((.word u,xp)::t')= .ok (u,t'):=by
   rw[e7 RH,GB (by rw[ft];exact Gn)]
  rw[wS en] at hW;exact q u H' t' #[IO,tok.1,tok.2] RH ft (R.past S (λz=>z.elim (λz=>nomatch z) λz=>nomatch z) hp hW)
theorem jG (i:GJ) {g:Gv->GH β}(Y:RX X Z.a Z.E) (R:RS Z F b H t Kn (Ib Kn>>=g)) (q: ∀u H' t',Kn.taken u=IN->RS Z F Ix H' t' Kn (g u)->Bd X ss D ((GM (.ref Z.B.r)::σ).set i (GM (.str (sb u)))) H')
  (h:Sl X i y:=by exact#[IO,HD IO,IO]) (hp:jY p2 p4:=by rfl):
  Bd X (.Assign [.Name y p0] (.Call (.Attribute (.Name "reader" p1) "take_free_name" p2) [] [] p4) p5::ss) D (GM (.ref Z.B.r)::σ) H:=vF i Y R (λu H' t' _ _=>q u H' t') h hp
theorem j6 (h:Kn.taken u=IN):Kn.values.contains u=IN:=(MN.mp h).1
theorem ig {te:TE}(Y:RX X Z.a Z.E) (he:PE X e te) (hv: ∀Q:VK,Q (.str (sb u)) H->te (GM (.ref Z.B.r)::σ) H Q) (ft:Kn.taken u=IN) (hm:Kn.values.length+Z.L<=4000) (R:RS Z F Ix H t Kn p)
  (q: ∀H',RS Z F Ix H' t (Kn.with u) p->Bd X ss D (GM (.ref Z.B.r)::σ) H') (hp:jY p2 p4:=by rfl) (Ms:Hb [e] X.env=[(IN,eval e X.env)]:=by rfl):
  Bd X (.Expr (.Call (.Attribute (.Name "reader" p1) "learn" p2) [e] [] p4) p5::ss) D (GM (.ref Z.B.r)::σ) H:=by
 obtain⟨n,S⟩:=R.S;obtain⟨dr,er⟩:=S.rd.ins;obtain⟨kk,k1,k2,k3⟩:=S.kn.vals;have l:=R.l;have l:t.length+1<=Z.L:=l;refine dQ (Y.m1 Y.T.Y4.c (DJ Y.T) [01] aC S IO #[_,he,hv _ #[Z.B.r,dr,Z.B.q,Z.B.kd,Z.B.fn,Z.B.ds,Z.B.bl,n,u,kk,IO,er,k1,HE (show kk.length<=4000 by lia) [01],?_]] hp Ms);exact q _ (R.go (S.agi (j6 ft) (by lia) k1) (fH (.inr (.inl IO))) l R.w)
theorem mf {te:TE}(Y:RX X Z.a Z.E) (he:PE X e te) (hv: ∀Q:VK,Q (.str (sb u)) H->te (GM (.ref Z.B.r)::σ) H Q) (ft:Kn.taken u=IN) (R:RS Z F b H t (Kn.with u) p)
  (q: ∀H',RS Z F b H' t Kn p->Bd X ss D (GM (.ref Z.B.r)::σ) H') (hp:jY p2 p4:=by rfl) (Ms:Hb [e] X.env=[(IN,eval e X.env)]:=by rfl):
  Bd X (.Expr (.Call (.Attribute (.Name "reader" p1) "forget" p2) [e] [] p4) p5::ss) D (GM (.ref Z.B.r)::σ) H:=by
 obtain⟨n,S⟩:=R.S;obtain⟨dr,er⟩:=S.rd.ins;obtain⟨kk,k1,k2,k3⟩:=S.kn.vals;obtain⟨hu,S'⟩:=S.forget (j6 ft) k1;refine dQ (Y.m1 Y.T.Wh.c (rh Y.T) [01] aC S IO #[_,he,hv _ #[Z.B.r,dr,Z.B.q,Z.B.kd,Z.B.fn,Z.B.ds,Z.B.bl,n,u,kk,IO,er,k1,hu,?_]] hp Ms);exact q _ (R.go S' (fH (.inr (.inl IO))) R.l R.w)
theorem RX.call2 {sp:Sp}{te:TE}(Y:RX X a E) (c:CB X x ["reader","depth"] sp) (he:PE X e te) (hx:(x == ("__debug__":G0))=IN) (Ms:Hb [e] X.env=[(IN,eval e X.env)]):PE X (.Call (.Name x p1) [.Name "reader" p2,e] [] p4) (iS sp [] E (fz (d7 0) (fz te kq))):=by
 obtain⟨G,hr,d,hg⟩:=c;exact aq G hr hg d Y.up (aa Y.rd (aa he ac Ms) (by show _::Hb [e] X.env=_;rfl)) hx IO (by rw[Ms];rfl)
end
def RoX (a:bJ) (B:Rb) (H0:Hp) (L:GJ) (Kn:GA) (Q:VK) (e:Gz) (t:Gw):Prop:= ∀H' v n,t.length<L->fU a B H' n t Kn->dh (fG B) H0 H'->ag a (fG B) H' e v->Q v H'
def Rz (w2:HH) (a:bJ) (B:Rb) (H0:Hp) (L:GJ) (Kn:GA) (Q:VK) (E:XK) (e:Gz) (t:Gw):Prop:=if w2=Ix/\GQ t= .bad then QE a B H0 E 1 (JC t) else RoX a B H0 L Kn Q e t
inductive bv (a:bJ) (w2:HH) (p:GJ->GJ->GA->GH Gz) (c:GJ) (ok:GJ->GA->Gw->Prop) (vs:Gm V) (H:Hp) (Q:VK) (E:XK):Prop
 |mk (B:Rb) (n:GJ) (t:Gw) (Kn:GA) (d:GJ) (fuel:GJ) (_:vs=[.ref B.r, .int d]) (_:d<=12) (_:ok d Kn t) (_:fU a B H n t Kn) (_:16*t.length+c<=fuel) (_:W (p fuel (12-d) Kn) t (Rz w2 a B H t.length Kn Q E) (QE a B H E)):bv a w2 p c ok vs H Q E
def Lv (j:GJ):GJ->GA->Gw->Prop:=λd _ _=>13<=d+j
def LvS (j:GJ) (s:Gv):GJ->GA->Gw->Prop:=λd _ t=>13<=d+j/\GQ t= .sign s
def LvW (j:GJ) (s:Gv):GJ->GA->Gw->Prop:=λd _ t=>13<=d+j/\GQ t= .word s
def LvC (j:GJ):GJ->GA->Gw->Prop:=λd K t=>13<=d+j/\ ∃u f,GQ t= .word u/\u≠Gr "sum"/\HQ.contains u=IN/\K.funs.find? (λf=>f.1 == u)=GM f
section
variable {k:GJ}{w2:HH}{pp:GJ->GJ->GA->GH Gz}{c:GJ}{ok:GJ->GA->Gw->Prop}{x IW:G0}{st:Stmt}{f:Gx}{fd:HX}{N:Gm G0}{ps:Gm G0}
theorem kE {s:GC}{H:Hp}{E:XK}(T:Txt K mg a) (XC:XT K a) (hk:8<=k) (S:ax N ("reader"::ps) (ah st)) (hr:cy k (A.deeper (Lc IW (ah st) s.heap.objs.size f IB))):
  RX (gW (jF P w) P w K mg base N IW (ah st) f IB A outer s H E) a E:=
 #[T,XC,hr.mono hk,bN,S8,S.nd,by
  have e:=S.pre;cases N with
  |nil=>cases e
  |cons x l=>exact Hr GM (Nm e).1,(S.par "reader" GP).elim .inl λz=> .inr (.inl z)]
theorem wV (T:Txt K mg a) (XC:XT K a) (hk:8<=k) (F:sN K x IW st f fd) (S:ax N ["reader","depth"] (ah st))
  (K6: ∀(IB:Gy) (A:IA) (outer:Gm Env) (s:GC) (H:Hp) (B:Rb) (t:Gw) (Kn:GA) (d fuel:GJ) (Q:VK) (E:XK),cy k (A.deeper (Lc IW (ah st) s.heap.objs.size f IB))->d<=12->ok d Kn t->16*t.length+c<=fuel->Kn.values.length+t.length<=4000->
   let X:=gW (jF P w) P w K mg base N IW (ah st) f IB A outer s H E
   let D:dz:= { nx:=λ_ H'=>Q .Kk H',rt:=Q }
   let Z:Zf Gz:=#[a,E,B,t.length,H,Rz w2 a B H t.length Kn Q E]
   RX X a E->RS Z [] IN H t Kn (pp fuel (12-d) Kn)->Bd X (bq st) D (L2.start N [.ref B.r, .int d]) H):b8 P w K mg base (jF P w) (k+1) f fd ["reader","depth"] (bv a w2 pp c ok):=by
 refine kr F S [03] [02];obtain⟨B,n,t,Kn,d,fuel,rfl,hd,ho,St,hf,hW⟩:=h;exact K6 IB A outer s H B t Kn d fuel Q E hr hd ho hf St.kn.len (kE T XC hk S hr) #[#[n,St],dh.refl,λ{i x} e=>(by cases e),GU _,hW]
end
section
variable {X:Cx}{β:Type}{Z:Zf β}{F:Gm (Fk×V)}{b:HH}{H:Hp}{t:Gw}{Kn:GA}{D:dz}{ss:Gm Stmt}{σ:L2.St}{p0 p1 p2 p3 p4 p5:Pos}{j:GJ}{v y:G0}{s:String}{E:XK}{d:GJ}
theorem RS.done {H0:Hp}{w2:HH}{Q:VK}{v:V}(R:RS #[a,E,B,L,H0,Rz w2 a B H0 L Kn Q E] F Ix H t Kn (Hz e)) (h:ag a (fG B) H e v) (nb:w2=Ix->GQ t≠ .bad:=by intro z;cases z):Q v H:=by
 obtain⟨n,S⟩:=R.S;have w:=R.w;rw[c6] at w;have w:Rz w2 a B H0 L Kn Q E e t:=w;unfold Rz at w;rw[GB λz=>nb z.1 z.2] at w;exact w H v n R.l S R.k h
theorem RS.tail {w2:HH}{Q:VK}{pp:GJ->GJ->GA->GH Gz}{c f:GJ}{ok:GJ->GA->Gw->Prop}(R:RS #[a,E,B,t.length,H,Rz w2 a B H t.length Kn Q E] F b H t Kn (pp f (12-d) Kn)) (hd:d<=12) (ho:ok d Kn t) (hf:16*t.length+c<=f):bv a w2 pp c ok [.ref B.r, .int d] H Q E:=by
 obtain⟨n,S⟩:=R.S;exact#[B,n,t,Kn,d,f,IO,hd,ho,S,hf,R.w]
theorem AZ (i:GJ) {g:GJ->GH β}(Y:RX X Z.a Z.E) (hd:d<=12) (nb:GQ t≠ .bad) (R:RS Z F b H t Kn (IU (12-d)>>=g)) (q:d<12->RS Z F b H t Kn (g (12-(d+1)))->Bd X ss D ((GM (.ref Z.B.r)::GM (.int d)::σ).set i (GM (.int ((d+1:GJ):Int)))) H)
  (h:Sl X i y:=by exact#[IO,HD IO,IO]) (h1:X.N[1]?=GM ("depth":G0):=by rfl) (v1:tq X.env.scope "depth":=by exact HD IO) (hg:Gl X "deeper":=by rfl):
  Bd X (.Assign [.Name y p0] (.Call (.Name "deeper" p1) [.Name "reader" p2, .Name "depth" p3] [] p4) p5::ss) D (GM (.ref Z.B.r)::GM (.int d)::σ) H:=by
 obtain⟨n,S⟩:=R.S;obtain⟨⟨x,xp⟩,t',rfl,tok,QY,MS,_⟩:=S.wh.first;have hW:=R.w;rw[de] at hW;have nx:x≠ .bad:=nb;refine aW i Y.nd (h:=h) #[_,Y.call2 #[aj4 Y.T Y.C,Y.hr.mono [01],Y.T.d_g.c,hg] (iB h1 v1) [01] IO,Z.B.r,Z.B.q,Z.B.kd,Z.B.fn,Z.B.ds,Z.B.bl,n,(x,xp),t',d,IO,S.rd,λe=>?_,λe=>?_]
 .rw[GB nx]
  exact gk (p:=IU (12-d)) (n:=6) (by unfold IU;rw[GD (by lia)]) nb hW H R.k
 .have ed:IU (12-d) ((x,xp)::t')= .ok (12-(d+1),(x,xp)::t'):=by unfold IU;rw[GB (by lia),show 12-d-1=12-(d+1) by lia]
  rw[wS ed] at hW;exact q (by lia) #[R.S,R.k,R.f,R.l,hW]
def En (Z:Zf β) (g:Gz->GH β):Prop:= ∀e r,GQ r= .bad->W (g e) r Z.Ro (QE Z.a Z.B Z.H0 Z.E)->QE Z.a Z.B Z.H0 Z.E 1 (JC r)
theorem pd {g:Gz->GH β}(h: ∀e,a8 (g e)):En Z g:=λe _ nb w=>(h e).Mm nb w
theorem aj6 {H0:Hp}{Q:VK}{g:Gz->Gz} :En #[a,E,B,L,H0,Rz Ix a B H0 L Kn Q E] (λy=>Hz (g y)):=λe r nb w=>by
 rw[c6] at w;have w:Rz Ix a B H0 L Kn Q E (g e) r:=w;unfold Rz at w;rw[GD #[IO,nb]] at w;exact w
theorem RS.Ui {w2:HH}{g:Gz->GH β}{pp:GJ->GJ->GA->GH Gz}{c f:GJ}{ok:GJ->GA->Gw->Prop}{Q:VK}(R:RS Z F b H t Kn (pp f (12-d) Kn>>=g)) (st:w2=Ix->En Z g) (hd:d<=12) (ho:ok d Kn t) (hf:16*t.length+c<=f)
  (q: ∀e v H' t',(w2=Ix->GQ t'≠ .bad)->RS Z ((.e e,v)::F) Ix H' t' Kn (g e)->Q v H'):bv Z.a w2 pp c ok [.ref Z.B.r, .int d] H Q Z.E:=by
 obtain⟨n,S⟩:=R.S;have hW:=R.w;rw[de] at hW;have l:t.length<=Z.L:=GX (J5 _ _) R.l;refine#[Z.B,n,t,Kn,d,f,IO,hd,ho,S,hf,hW.mono (λe r w=>?_) λ_ _ z H' k=>z H' (R.k.trans k)];unfold Rz;by_cases nb:w2=Ix/\GQ r= .bad
 .rw[GD nb]
  exact λH' k=>st nb.1 e r nb.2 w H' (R.k.trans k)
 .rw[GB nb]
  exact λH' v n' l' S' k' h=>q e v H' r (λh z=>nb #[h,z]) ((R.go (b':=Ix) S' k' (show r.length+1<=Z.L by lia) w).and h)
theorem RS.call {g:Gz->GH β}{pp:GJ->GJ->GA->GH Gz}{c f:GJ}{ok:GJ->GA->Gw->Prop}{Q:VK}(R:RS Z F b H t Kn (pp f (12-d) Kn>>=g)) (st:En Z g) (hd:d<=12) (ho:ok d Kn t) (hf:16*t.length+c<=f)
  (q: ∀e v H' t',GQ t'≠ .bad->RS Z ((.e e,v)::F) Ix H' t' Kn (g e)->Q v H'):bv Z.a Ix pp c ok [.ref Z.B.r, .int d] H Q Z.E:=R.Ui (λ_=>st) hd ho hf λe v H' t' nb=>q e v H' t' (nb IO)
theorem RS.agl {g:Gz->GH β}{pp:GJ->GJ->GA->GH Gz}{c f:GJ}{ok:GJ->GA->Gw->Prop}{Q:VK}(R:RS Z F b H t Kn (pp f (12-d) Kn>>=g)) (hd:d<=12) (ho:ok d Kn t) (hf:16*t.length+c<=f)
  (q: ∀e v H' t',RS Z ((.e e,v)::F) Ix H' t' Kn (g e)->Q v H'):bv Z.a IN pp c ok [.ref Z.B.r, .int d] H Q Z.E:=R.Ui (λz=>nomatch z) hd ho hf λe v H' t' _=>q e v H' t'
theorem e9 (i:GJ) {x:G0}{g:Gz->GH β}{pp:GJ->GJ->GA->GH Gz}{c f:GJ}{ok:GJ->GA->Gw->Prop}{te:TE}(Y:RX X Z.a Z.E) (cl:CB X x ["reader","depth"] (bv Z.a Ix pp c ok)) (he:PE X e te) (hv: ∀Q:VK,Q (.int d) H->te (GM (.ref Z.B.r)::σ) H Q)
  (R:RS Z F Ix H t Kn (pp f (12-d) Kn>>=g)) (st:En Z g) (hd:d<=12) (ho:ok d Kn t) (hf:16*Z.L+c<=f+16)
  (q: ∀e v H' t',RS Z ((.e e,v)::F) Ix H' t' Kn (g e)->Bd X ss D ((GM (.ref Z.B.r)::σ).set i (GM v)) H')
  (h:Sl X i y:=by exact#[IO,HD IO,IO]) (hx:(x == ("__debug__":G0))=IN:=by decide) (Ms:Hb [e] X.env=[(IN,eval e X.env)]:=by rfl):
  Bd X (.Assign [.Name y p0] (.Call (.Name x p1) [.Name "reader" p2,e] [] p4) p5::ss) D (GM (.ref Z.B.r)::σ) H:=by
 have l:t.length+1<=Z.L:=R.l;refine aW i Y.nd #[_,Y.call2 cl he hx Ms,?_] h;exact hv _ (R.call st hd ho (by lia) λe v H' t' _ R'=>q e v H' t' R')
theorem RX.make {c:G0}{C:Gx}{fs:Gm G0}{e:IY}{es:Gm IY}{tt:TA}(Y:RX X a E) (nb:NB X c C fs) (ha:PA X (e::es) tt) (hg:Gl X c) (hx:(c == ("__debug__":G0))=IN) (he:Hb (e::es) X.env=(IN,eval e X.env)::Hb es X.env) (MS:(J6 p4 (Hb es X.env)).any (·.1)=IN):
  PE X (.Call (.Name c p1) (e::es) [] p4) (Xp C (mt C fs) [] E0 tt):=by
 obtain⟨M,G,b,hm⟩:=nb;exact kK M G (Y.hr.mono [01]) hg hm b .nil aC ha hx he MS
theorem kh {c:G0}{C:Gx}{fs:Gm G0}{e:IY}{es:Gm IY}{Q:VK}(Y:RX X a E) (nb:NB X c C fs) (q:Pa X (e::es) σ H λws H1=> ∀x dx,H1 x=Id->H1 dx=Id->dx≠x->mt C fs (.ref x::(ws++[])) (bf (bf H1 dx (.own x)) x (.ins C dx [])) (λv H2=>v= .Kk/\Q (.ref x) H2) E0)
  (hg:Gl X c:=by rfl) (hx:(c == ("__debug__":G0))=IN:=by decide) (he:Hb (e::es) X.env=(IN,eval e X.env)::Hb es X.env:=by rfl) (MS:(J6 p4 (Hb es X.env)).any (·.1)=IN:=by rfl):Pe X (.Call (.Name c p1) (e::es) [] p4) σ H Q:=#[_,Y.make nb ua hg hx he MS,q]
theorem RS.new {p:GH β}{Q:VK}(R:RS Z F b H t Kn p) (hl:ws.length=fs.length) (q: ∀u H',bQ (fG Z.B) H' C (fs.zip ws) u->RS Z F b H' t Kn p->Q u H'):
  ∀x dx,H x=Id->H dx=Id->dx≠x->mt C fs (.ref x::(ws++[])) (bf (bf H dx (.own x)) x (.ins C dx [])) (λv H2=>v= .Kk/\Q (.ref x) H2) E0:=λx dx hx WJ ne=>by
 obtain⟨n,S⟩:=R.S;refine#[x,dx,ws++[],IO,by rw[GY];exact hl,aj,λH' h1 h2=>#[IO,?_]];rw[GY] at h1;have sm:aI H H':=λb o e=>h2 b o (by rw[af (aw e hx),af (aw e WJ)];exact e) (aw e hx);exact q _ H' #[x,dx,IO,S.fresh hx,h1] (R.go (S.same sm) (OS.aI.keeps sm) R.l R.w)
theorem iN {p:GH β}{c:G0}(Y:RX X Z.a Z.E) (nb:NB X c C fs) (ha:PA X (e::es) tt) (hv: ∀Q:Gm V->Hp->Prop,Q ws H->tt σ H Q) (R:RS Z F b H t Kn p) (hl:ws.length=fs.length) (q: ∀u H',bQ (fG Z.B) H' C (fs.zip ws) u->RS Z F b H' t Kn p->D.rt u H')
  (hg:Gl X c:=by rfl) (hx:(c == ("__debug__":G0))=IN:=by decide) (he:Hb (e::es) X.env=(IN,eval e X.env)::Hb es X.env:=by rfl) (MS:(J6 p4 (Hb es X.env)).any (·.1)=IN:=by rfl):
  Bd X [.Return (GM (.Call (.Name c p1) (e::es) [] p4)) p5] D σ H:=aac (aB (Y.make nb ha hg hx he MS)) (hv _ (R.new hl q))
end
theorem Ah:eV "(" (Gr "("):=#[by decide+kernel,by decide+kernel]
theorem xh:eV ")" (Gr ")"):=#[by decide+kernel,by decide+kernel]
theorem wa:dE "sum" (Gr "sum"):=#[by decide+kernel,by decide+kernel,by decide+kernel]
theorem XQ:dE "in" (Gr "in"):=#[by decide+kernel,by decide+kernel,by decide+kernel]
theorem XU:eV ".." (Gr ".."):=#[by decide+kernel,by decide+kernel]
theorem XW:eV ":" (Gr ":"):=#[by decide+kernel,by decide+kernel]
theorem vD {Kn:GA}{t:Gw} :HZ (f+1) d Kn ((.word (Gr "sum"),xp)::t)=
  (IU d>>=λe=>HR>>=λ_=>Hs "(">>=λ_=>Ib Kn>>=λx=>IJ "in">>=λ_=>G9 f e Kn>>=λlo=>Hs "..">>=λ_=>G9 f e Kn>>=λhi=>Hs ":">>=λ_=>
   G9 f e (Kn.with x)>>=λy=>Hs ")">>=λ_=>Hz (.sum x lo hi y):GH Gz) ((.word (Gr "sum"),xp)::t):=by
 rw[HZ];show(if Gr "sum"=Gr "sum" then _ else _)=_
 rw[GD IO]
theorem xQ:dE "if" (Gr "if"):=#[by decide+kernel,by decide+kernel,by decide+kernel]
theorem F9:dE "then" (Gr "then"):=#[by decide+kernel,by decide+kernel,by decide+kernel]
theorem sX:dE "else" (Gr "else"):=#[by decide+kernel,by decide+kernel,by decide+kernel]
theorem EY {Kn:GA}{t:Gw} :G9 (f+1) d Kn ((.word (Gr "if"),xp)::t)=
  (IU d>>=λe=>HR>>=λ_=>G9 f e Kn>>=λc=>IJ "then">>=λ_=>G9 f e Kn>>=λx=>IJ "else">>=λ_=>G9 f e Kn>>=λy=>Hz (.pick c x y):GH Gz) ((.word (Gr "if"),xp)::t):=by
 rw[G9];show(if GI ((.word (Gr "if"),xp)::t) "if"=Ix then _ else _)=_
 rw[GD (by unfold GI;exact IG _)]
theorem wX {Kn:GA}{t:Gw} :HZ (f+1) d Kn ((.sign (Gr "("),xp)::t)=
  (IU d>>=λe=>HR>>=λ_=>G9 f e Kn>>=λx=>Hs ")">>=λ_=>Hz x:GH Gz) ((.sign (Gr "("),xp)::t):=by
 rw[HZ];show(if Hu ((.sign (Gr "("),xp)::t) "("=Ix then _ else _)=_
 rw[GD (by unfold Hu;exact IG _)]
theorem fO {β:Type}{Z:Zf β}{F:Gm (Fk×V)}{b:HH}{H:Hp}{t:Gw}{Kn:GA}{p:GH β}(R:RS Z F b H t Kn p) (h:GQ t= .word u): ∃xp r,t=(.word u,xp)::r:=by
 obtain⟨n,S⟩:=R.S;obtain⟨⟨x,xp⟩,r,rfl,_,_,_,_⟩:=S.wh.first;exact#[xp,r,by rw[show x= .word u from h]]
theorem zn {β:Type}{Z:Zf β}{F:Gm (Fk×V)}{b:HH}{H:Hp}{t:Gw}{Kn:GA}{p:GH β}(R:RS Z F b H t Kn p) (h:GQ t= .sign u): ∃xp r,t=(.sign u,xp)::r:=by
 obtain⟨n,S⟩:=R.S;obtain⟨⟨x,xp⟩,r,rfl,_,_,_,_⟩:=S.wh.first;exact#[xp,r,by rw[show x= .sign u from h]]
theorem B3 (h:16*L+c<=f) (hc:6<=c): ∃g,f=g+1/\16*L+12<=g+16:=#[f-1,by lia,by lia]
section
variable {β:Type}{Z:Zf β}{H:Hp}
theorem jd {g:Nl->GH β}(Y:RX X Z.a Z.E) (l:dE v (Gr s)) (R:RS Z F b H ((.word (Gr s),xp)::t) Kn (HR>>=g)) (q: ∀H' t',RS Z F Ix H' t' Kn (g ())->Bd X ss D (GM (.ref Z.B.r)::σ) H') (hp:jY p2 p4:=by rfl):
  Bd X (.Expr (.Call (.Attribute (.Name "reader" p1) "expect" p2) [.Constant (.str v) j p3] [] p4) p5::ss) D (GM (.ref Z.B.r)::σ) H:=
 r6 Y R (λr e ok=>by
  cases e;exact Ck t (by rw[cz ok l];exact IG _) (by intro z;cases z) (by intro z;cases z with|inl z=>cases z|inr z=>cases z)) q hp
theorem Ee {g:Nl->GH β}(Y:RX X Z.a Z.E) (l:eV v (Gr s)) (R:RS Z F b H ((.sign (Gr s),xp)::t) Kn (HR>>=g)) (q: ∀H' t',RS Z F Ix H' t' Kn (g ())->Bd X ss D (GM (.ref Z.B.r)::σ) H') (hp:jY p2 p4:=by rfl):
  Bd X (.Expr (.Call (.Attribute (.Name "reader" p1) "expect" p2) [.Constant (.str v) j p3] [] p4) p5::ss) D (GM (.ref Z.B.r)::σ) H:=
 r6 Y R (λr e ok=>by
  cases e;exact Ck t (by rw[dj ok l];exact IG _) (by intro z;cases z) (by intro z;cases z with|inl z=>cases z|inr z=>cases z)) q hp
end
theorem agm (T:Txt K mg a) (XC:XT K a) (hk:8<=k)
  (G:T.Sa.O P w base k (bv a Ix G9 12 (Lv j))):
  T.Wl.O P w base (k+1) (bv a IN HZ 6 (LvW (j+1) (Gr "sum"))):=by
 refine wV T XC hk T.Wl.F afH λIB A outer s H B t Kn d fuel Q E hr hd ho hf hm=>?_;intro X D Z Y R;obtain⟨hl,h0⟩:=ho;obtain⟨xp,r,rfl⟩:=fO R h0;obtain⟨f,rfl,hF⟩:=B3 hf [01];have c:CB X "read_exp" ["reader","depth"] (bv a Ix G9 12 (Lv j)):=#[G,hr,T.Sa.c,IO];have hl:13<=d+1+j:=by rw[Ny];exact hl
 refine AZ 2 Y hd (by intro z;cases z) (R.as vD) λlt R=>?_;refine jd Y wa R λH t R=>?_;refine c8 Y Ah R λH t R=>?_;refine jG 3 Y R λu H t ft R=>?_;refine l0 Y XQ R λH t R=>?_;refine e9 4 Y c (pv 2) [08] R (pd λx=>(bA "..").bind) lt hl hF λe1 v1 H t R=>?_;refine c8 Y XU R λH t R=>?_;refine e9 5 Y c (pv 2) [08] R (pd λx=>(bA ":").bind) lt hl hF λe2 v2 H t R=>?_;refine c8 Y XW R λH t R=>?_;refine ig Y (pv 3) [08] ft hm R λH R=>?_;refine e9 6 Y c (pv 2) [08] R (pd λx=>(bA ")").bind) lt hl hF λe3 v3 H t R=>?_;refine mf Y (pv 3) [08] ft R λH R=>?_;refine c8 Y xh R λH t R=>?_;refine iN Y (Cr T) (aa (pv 3) (aa (pv 4) (aa (pv 5) (aa (pv 6) ac)))) [08] R IO λu H i R=>R.done ?_;unfold ag;exact#[v1,v2,v3,i,R.f (i:=2) IO,R.f (i:=1) IO,R.f (i:=0) IO]
theorem agn (T:Txt K mg a) (XC:XT K a) (hk:8<=k)
  (G:T.Sa.O P w base k (bv a Ix G9 12 (Lv j))):
  T.Wk.O P w base (k+1) (bv a IN HZ 6 (LvS (j+1) (Gr "("))):=by
 refine wV T XC hk T.Wk.F afG λIB A outer s H B t Kn d fuel Q E hr hd ho hf hm=>?_;intro X D Z Y R;obtain⟨hl,h0⟩:=ho;obtain⟨xp,r,rfl⟩:=zn R h0;obtain⟨f,rfl,hF⟩:=B3 hf [01];have c:CB X "read_exp" ["reader","depth"] (bv a Ix G9 12 (Lv j)):=#[G,hr,T.Sa.c,IO];have hl:13<=d+1+j:=by rw[Ny];exact hl
 refine AZ 2 Y hd (by intro z;cases z) (R.as wX) λlt R=>?_;refine Ee Y Ah R λH t R=>?_;refine e9 3 Y c (pv 2) [08] R (pd λx=>(bA ")").bind) lt hl hF λe v H t R=>?_;refine c8 Y xh R λH t R=>?_;exact aD (bV 3 (R.done (R.f (i:=0) IO)))
theorem ago (T:Txt K mg a) (XC:XT K a) (hk:8<=k)
  (G:T.Sa.O P w base k (bv a Ix G9 12 (Lv j))):
  T.Wi.O P w base (k+1) (bv a Ix G9 12 (LvW (j+1) (Gr "if"))):=by
 refine wV T XC hk T.Wi.F afD λIB A outer s H B t Kn d fuel Q E hr hd ho hf hm=>?_;intro X D Z Y R;obtain⟨hl,h0⟩:=ho;obtain⟨xp,r,rfl⟩:=fO R h0;obtain⟨f,rfl,hF⟩:=B3 hf [01];have c:CB X "read_exp" ["reader","depth"] (bv a Ix G9 12 (Lv j)):=#[G,hr,T.Sa.c,IO];have hl:13<=d+1+j:=by rw[Ny];exact hl
 refine AZ 2 Y hd (by intro z;cases z) (R.as EY) λlt R=>?_;refine jd Y xQ R λH t R=>?_;refine e9 3 Y c (pv 2) [08] R (pd λx=>(fE "then").bind) lt hl hF λe1 v1 H t R=>?_;refine l0 Y F9 R λH t R=>?_;refine e9 4 Y c (pv 2) [08] R (pd λx=>(fE "else").bind) lt hl hF λe2 v2 H t R=>?_;refine l0 Y sX R λH t R=>?_;have l:t.length+1<=Z.L:=R.l;refine aD (kh Y (qj T) (aX (bV 3 (aX (bV 4 (aX #[_,Y.call2 c (pv 2) [01] IO,R.call aj6 lt hl (by lia) λe3 v3 H t nb R=>ca (R.new IO λu H i R=>R.done ?_ λ_=>nb)]))))));unfold ag;exact#[v1,v2,v3,i,R.f (i:=2) IO,R.f (i:=1) IO,R.f (i:=0) IO]
end OS
namespace OS
open Vbemac
def ors (f d:GJ) (Kn:GA):GH Gz:=do
 let x<-ands f d Kn
 let l<-moreOr f d Kn
 return (match l with
  | .nil=>x
  |l=> .either x l)
abbrev Pairs:=Gm (HA×Exp)
def xk:Pairs->Exps->Exps
 |[],l=>l
 |x::r,l=> .cons x.2 (xk r l)
def wI:Pairs->Rest->Rest
 |[],l=>l
 |x::r,l=> .cons x.1 x.2 (wI r l)
theorem ve:xk (es++[x]) l=xk es (.cons x.2 l):=by
 induction es with
 |nil=>rfl
 |cons y r ih=>show Exps.cons y.2 (xk (r++[x]) l)=_;rw[ih];rfl
theorem vq:wI (es++[x]) l=wI es (.cons x.1 x.2 l):=by
 induction es with
 |nil=>rfl
 |cons y r ih=>show Rest.cons y.1 y.2 (wI (r++[x]) l)=_;rw[ih];rfl
theorem bU {α β:Type}{p:P α}{g:α->P β}{x:α}(h:p t= .ok (x,r)):(p>>=g) t=g x r:=by
 show Hd p g t=_
 unfold Hd;rw[h]
 rfl
theorem kZ {α β:Type}{p q:P α}{g:α->P β}(e:p t=q t'):(p>>=g) t=(q>>=g) t':=by
 show Hd p g t=Hd q g t'
 unfold Hd;rw[e]
structure ChP (p sub:GJ->GJ->Known->P Exp) (c c':GJ) (sg:Gm HA) (once:HH) (res:Exp->Pairs->Exp) where
 q:GJ->GJ->Known->Exp->Pairs->P Exp
 start: ∀ {fuel d:GJ}{Kn:Known}{n:GJ},16*n+c<=fuel-> ∃f,16*n+c'<=f/\p fuel d Kn=(sub f d Kn>>=λe=>q f d Kn e [])
 PY: ∀f d Kn e es,iO (q f d Kn e es)
 stop: ∀ {f d:GJ}{Kn:Known}{e:Exp}{es:Pairs}{t:JH},1<=f->(once=Ix->es.length<=1)->(once=Ix/\es≠[]\/ ∀op,peek t= .sign op->op∉sg)->q f d Kn e es t= .ok (res e es,t)
 go: ∀ {f d:GJ}{Kn:Known}{e:Exp}{es:Pairs}{x:Tok×Pos}{t:JH}{op:HA},16*(t.length+1)+c'<=f->(once=Ix->es=[])->x.1= .sign op->op∈sg-> ∃f',16*t.length+c'<=f'/\q f d Kn e es (x::t)=(sub f' d Kn>>=λe2=>q f' d Kn e (es++[(op,e2)])) t
def Fw (e:Exp):Exps->Exp
 | .nil=>e
 |l=> .either e l
def bth (e:Exp):Exps->Exp
 | .nil=>e
 |l=> .both e l
def sms (e:Exp):Rest->Exp
 | .nil=>e
 |l=> .sums e l
def prs (e:Exp):Rest->Exp
 | .nil=>e
 |l=> .prods e l
def S0:Gm HA:=[text "||"]
def S1:Gm HA:=[text "&&"]
def S2:Gm HA:=["==","!=","<=",">=","<",">"].map text
def S3:Gm HA:=["+","-"].map text
def S4:Gm HA:=["*","/","%"].map text
theorem aaE {f d:GJ}{Kn:Known} :ors f d Kn=(ands f d Kn>>=λx=>moreOr f d Kn>>=λl=>Hz (Fw x l):P Exp):=by
 unfold ors
 congr 1
theorem Fa {f d:GJ}{Kn:Known} :ands (f+1) d Kn=(compared f d Kn>>=λx=>moreAnd f d Kn>>=λl=>Hz (bth x l):P Exp):=by
 rw[ands]
 congr 1
theorem Cc {f d:GJ}{Kn:Known} :added (f+1) d Kn=(times f d Kn>>=λx=>moreAdded f d Kn>>=λl=>Hz (sms x l):P Exp):=by
 rw[added]
 congr 1
theorem CU {f d:GJ}{Kn:Known} :times (f+1) d Kn=(unary f d Kn>>=λx=>moreTimes f d Kn>>=λl=>Hz (prs x l):P Exp):=by
 rw[times]
 congr 1
theorem n6 {t:JH}{s:String}{l:Gm HA}(h: ∀op,peek t= .sign op->op∉l) (m:text s∈l):Md t s=IN:=by
 unfold Md;rw[beq_eq_false_iff_ne];exact λz=>h _ z m
theorem ko (h: ∀op,peek t= .sign op->op∉l.map text):Me l t= .ok (Id,t):=by
 unfold Me;cases e:peek t with
 |sign s=>
  dsimp only;rw[GB (by rw[HV];exact h s e)]
 |_=>rfl
theorem mh (e:x.1= .sign op) (h:op∈l.map text):Me l (x::t)= .ok (GM op,t):=by
 unfold Me;have e:peek (x::t)= .sign op:=e;rw[e];dsimp only;rw[GD (by rw[HV];exact h)]
 rfl
theorem vY {f d:GJ}{Kn:Known}{t:JH}(h:Md t "||"=IN):moreOr (f+1) d Kn t= .ok (.nil,t):=by
 rw[moreOr];show(Hd (ifSign "||") _) t=_;unfold Hd ifSign;rw[h]
 rfl
theorem uV {f d:GJ}{Kn:Known}{t:JH}(h:Md t "&&"=IN):moreAnd (f+1) d Kn t= .ok (.nil,t):=by
 rw[moreAnd];show(Hd (ifSign "&&") _) t=_;unfold Hd ifSign;rw[h]
 rfl
theorem AF {f d:GJ}{Kn:Known}{x:Tok×Pos}{t:JH}(h:Md (x::t) "||"=Ix):moreOr (f+1) d Kn (x::t)=(ands f d Kn>>=λa=>moreOr f d Kn>>=λl=>Hz (.cons a l):P Exps) t:=by
 rw[moreOr];show(Hd (ifSign "||") _) (x::t)=_;unfold Hd ifSign;rw[h]
 rfl
theorem wj {f d:GJ}{Kn:Known}{x:Tok×Pos}{t:JH}(h:Md (x::t) "&&"=Ix):moreAnd (f+1) d Kn (x::t)=(compared f d Kn>>=λa=>moreAnd f d Kn>>=λl=>Hz (.cons a l):P Exps) t:=by
 rw[moreAnd];show(Hd (ifSign "&&") _) (x::t)=_;unfold Hd ifSign;rw[h]
 rfl
theorem pX {f d:GJ}{Kn:Known}{t:JH}(h: ∀op,peek t= .sign op->op∉S3):moreAdded (f+1) d Kn t= .ok (.nil,t):=by
 rw[moreAdded];show(Hd (Me ["+","-"]) _) t=_;unfold Hd;rw[ko h]
 rfl
theorem pW {f d:GJ}{Kn:Known}{t:JH}(h: ∀op,peek t= .sign op->op∉S4):moreTimes (f+1) d Kn t= .ok (.nil,t):=by
 rw[moreTimes];show(Hd (Me ["*","/","%"]) _) t=_;unfold Hd;rw[ko h]
 rfl
theorem sy {f d:GJ}{Kn:Known}{x:Tok×Pos}{t:JH}{op:HA}(e:x.1= .sign op) (h:op∈S3):moreAdded (f+1) d Kn (x::t)=(times f d Kn>>=λa=>moreAdded f d Kn>>=λl=>Hz (.cons op a l):P Rest) t:=by
 rw[moreAdded];show(Hd (Me ["+","-"]) _) (x::t)=_;unfold Hd;rw[mh e h]
 rfl
theorem sS {f d:GJ}{Kn:Known}{x:Tok×Pos}{t:JH}{op:HA}(e:x.1= .sign op) (h:op∈S4):moreTimes (f+1) d Kn (x::t)=(unary f d Kn>>=λa=>moreTimes f d Kn>>=λl=>Hz (.cons op a l):P Rest) t:=by
 rw[moreTimes];show(Hd (Me ["*","/","%"]) _) (x::t)=_;unfold Hd;rw[mh e h]
 rfl
def ou (f d:GJ) (Kn:Known) (a:Exp):P Exp:=Me ["==","!=","<=",">=","<",">"]>>=λs=>match s with
 |none=>Hz a
 |some op=>added f d Kn>>=λb=>Hz (.cmp op a b)
theorem uF {f d:GJ}{Kn:Known} :compared (f+1) d Kn=(added f d Kn>>=λx=>ou f d Kn x:P Exp):=by
 rw[compared]
 rfl
theorem wf (f d:GJ) (Kn:Known) (a:Exp):iO (ou f d Kn a):=(tY _).bind λs=>by
 cases s with
 |none=>exact gu _
 |some op=>exact(kz f d Kn).bind.PY
theorem A8 {f d:GJ}{Kn:Known}{a:Exp}{t:JH}(h: ∀op,peek t= .sign op->op∉S2):ou f d Kn a t= .ok (a,t):=by
 unfold ou;show(Hd (Me ["==","!=","<=",">=","<",">"]) _) t=_;unfold Hd;rw[ko h]
 rfl
theorem Eb {f d:GJ}{Kn:Known}{a:Exp}{x:Tok×Pos}{t:JH}{op:HA}(e:x.1= .sign op) (h:op∈S2):ou f d Kn a (x::t)=(added f d Kn>>=λb=>Hz (.cmp op a b):P Exp) t:=by
 unfold ou;show(Hd (Me ["==","!=","<=",">=","<",">"]) _) (x::t)=_;unfold Hd;rw[mh e h]
 rfl
theorem yQ {x:Tok×Pos}{t:JH}{op:HA}{s:String}(e:x.1= .sign op) (h:op∈[text s]):Md (x::t) s=Ix:=by
 unfold Md;obtain rfl:=Ht.mp h;exact beq_iff_eq.mpr e
def aj7:ChP ors ands 11 11 S0 IN (λe es=>Fw e (xk es .nil)) where
 q f d Kn e es:=moreOr f d Kn>>=λl=>Hz (Fw e (xk es l))
 start {fuel d Kn n} hf:=#[fuel,by lia,by rw[aaE];rfl]
 PY f d Kn e es:=(vd f d Kn).bind λl=>gu _
 stop {f d Kn e es t} hf _ h:=by
  obtain⟨f,rfl⟩: ∃f',f=f'+1:=#[f-1,by lia];rcases h with⟨h,_⟩|h
  .cases h
  .exact bU (vY (n6 h (Ht.mpr IO)))
 go {f d Kn e es x t op} hf _ e1 h:=by
  obtain⟨f,rfl⟩: ∃f',f=f'+1:=#[f-1,by lia];refine#[f,by lia,?_];rw[kZ (AF (yQ e1 h)),bind_assoc];refine Hr (λg=>(ands f d Kn>>=g:P Exp) t) (funext λa=>?_);rw[bind_assoc];simp only[ve]
  rfl
def agp:ChP ands compared 11 10 S1 IN (λe es=>bth e (xk es .nil)) where
 q f d Kn e es:=moreAnd f d Kn>>=λl=>Hz (bth e (xk es l))
 start {fuel d Kn n} hf:=by
  obtain⟨f,rfl⟩: ∃f',fuel=f'+1:=#[fuel-1,by lia];exact#[f,by lia,by rw[Fa];rfl]
 PY f d Kn e es:=(rK f d Kn).bind λl=>gu _
 stop {f d Kn e es t} hf _ h:=by
  obtain⟨f,rfl⟩: ∃f',f=f'+1:=#[f-1,by lia];rcases h with⟨h,_⟩|h
  .cases h
  .exact bU (uV (n6 h (Ht.mpr IO)))
 go {f d Kn e es x t op} hf _ e1 h:=by
  obtain⟨f,rfl⟩: ∃f',f=f'+1:=#[f-1,by lia];refine#[f,by lia,?_];rw[kZ (wj (yQ e1 h)),bind_assoc];refine Hr (λg=>(compared f d Kn>>=g:P Exp) t) (funext λa=>?_);rw[bind_assoc];simp only[ve]
  rfl
def agq:ChP added times 9 8 S3 IN (λe es=>sms e (wI es .nil)) where
 q f d Kn e es:=moreAdded f d Kn>>=λl=>Hz (sms e (wI es l))
 start {fuel d Kn n} hf:=by
  obtain⟨f,rfl⟩: ∃f',fuel=f'+1:=#[fuel-1,by lia];exact#[f,by lia,by rw[Cc];rfl]
 PY f d Kn e es:=(oF f d Kn).bind λl=>gu _
 stop {f d Kn e es t} hf _ h:=by
  obtain⟨f,rfl⟩: ∃f',f=f'+1:=#[f-1,by lia];rcases h with⟨h,_⟩|h
  .cases h
  .exact bU (pX h)
 go {f d Kn e es x t op} hf _ e1 h:=by
  obtain⟨f,rfl⟩: ∃f',f=f'+1:=#[f-1,by lia];refine#[f,by lia,?_];rw[kZ (sy e1 h),bind_assoc];refine Hr (λg=>(times f d Kn>>=g:P Exp) t) (funext λa=>?_);rw[bind_assoc];simp only[vq]
  rfl
def agr:ChP times unary 8 7 S4 IN (λe es=>prs e (wI es .nil)) where
 q f d Kn e es:=moreTimes f d Kn>>=λl=>Hz (prs e (wI es l))
 start {fuel d Kn n} hf:=by
  obtain⟨f,rfl⟩: ∃f',fuel=f'+1:=#[fuel-1,by lia];exact#[f,by lia,by rw[CU];rfl]
 PY f d Kn e es:=(oN f d Kn).bind λl=>gu _
 stop {f d Kn e es t} hf _ h:=by
  obtain⟨f,rfl⟩: ∃f',f=f'+1:=#[f-1,by lia];rcases h with⟨h,_⟩|h
  .cases h
  .exact bU (pW h)
 go {f d Kn e es x t op} hf _ e1 h:=by
  obtain⟨f,rfl⟩: ∃f',f=f'+1:=#[f-1,by lia];refine#[f,by lia,?_];rw[kZ (sS e1 h),bind_assoc];refine Hr (λg=>(unary f d Kn>>=g:P Exp) t) (funext λa=>?_);rw[bind_assoc];simp only[vq]
  rfl
def ags (e:Exp):Pairs->Exp
 |[]=>e
 |x::_=> .cmp x.1 e x.2
def aj8 (f d:GJ) (Kn:Known) (e:Exp):Pairs->P Exp
 |[]=>ou f d Kn e
 |x::_=>Hz (.cmp x.1 e x.2)
def agt:ChP compared added 10 9 S2 Ix ags where
 q:=aj8
 start {fuel d Kn n} hf:=by
  obtain⟨f,rfl⟩: ∃f',fuel=f'+1:=#[fuel-1,by lia];exact#[f,by lia,by rw[uF];rfl]
 PY f d Kn e es:=by
  cases es with
  |nil=>exact wf f d Kn e
  |cons x r=>exact gu _
 stop {f d Kn e es t} hf _ h:=by
  cases es with
  |nil=>
   rcases h with⟨_,h⟩|h
   .exact GW IO h
   .exact A8 h
  |cons x r=>rfl
 go {f d Kn e es x t op} hf h0 e1 h:=by
  obtain rfl:=h0 IO;exact#[f,by lia,Eb e1 h]
end OS
namespace OS
open PySem PySem.Spec L2
open PyProof.Rows hiding St
variable {P:Hm}{w:HS}{K:Gu}{mg:G0->GF Gy}{base:Ij}{a:bJ}
theorem XX {u:Gv}{xp:HJ} : ¬j2 (.word u,xp):=by intro z;cases z with|inl z=>cases z|inr z=>cases z
theorem nfS {u:Gv}{xp:HJ} : ¬j2 (.sign u,xp):=by intro z;cases z with|inl z=>cases z|inr z=>cases z
theorem nfN {xp:HJ} : ¬j2 (.num m,xp):=by intro z;cases z with|inl z=>cases z|inr z=>cases z
theorem uS (h:mV x=Ix): ∃m,x= .num m:=by
 cases x with
 |num m=>exact#[m,IO]
 |_=>cases h
theorem ik (h:dn x=Ix): ∃u,x= .word u/\HQ.contains u=IN:=by
 cases x with
 |word u=>rw[dS] at h;exact#[u,IO,by cases e:HQ.contains u;rfl;rw[e] at h;cases h]
 |_=>cases h
theorem EA {A:Type} [BEq A] [LawfulBEq A] {x y:A}(h:(x == y)=IN):x≠y:=beq_eq_false_iff_ne.mp h
theorem uc:HZ (f+1) d Kn ((.num m,xp)::t)=(HR>>=λ_=>Hz (.num m):GH Gz) ((.num m,xp)::t):=by rw[HZ];rfl
theorem wR (h0:mV x=IN) (h1:x≠ .sign (Gr "(")) (h2:x≠ .word (Gr "sum")) (h3:dn x=IN):HZ (f+1) d Kn ((x,xp)::t)=Hi 2 ((x,xp)::t):=by
 rw[HZ];cases x with
 |num m=>cases h0
 |sign u=>
  show(if Hu ((.sign u,xp)::t) "("=Ix then _ else Hi 2 ((.sign u,xp)::t))=_
  rw[GB (show¬Hu ((.sign u,xp)::t) "("=Ix from λz=>h1 (beq_iff_eq.mp z))]
 |word u=>
  rw[dS] at h3;show(if u=Gr "sum" then _ else if HQ.contains u=Ix then _ else _)=_
  rw[GB λz=>h2 (by rw[z]),GD (by cases e:HQ.contains u;rw[e] at h3;cases h3;rfl)]
 |eof=>rfl
 |bad=>rfl
theorem sQ (ns:IZ u≠ .word (Gr "sum")) (hk:HQ.contains u=IN) (hf:(Kn.funs.find? λf=>f.1 == u).isSome=IN):HZ (f+1) d Kn ((.word u,xp)::t)=if Kn.values.contains u=Ix then .ok (.name u,t) else Hi 3 ((.word u,xp)::t):=by
 rw[HZ];show(if u=Gr "sum" then _ else if HQ.contains u=Ix then _ else _)=_
 rw[GB λz=>ns (by rw[z]),GB (by rw[hk];exact Gn),GF.isSome_eq_false_iff.mp hf |> GF.isNone_iff_eq_none.mp]
 rfl
theorem agu (T:Txt K mg a) (XC:XT K a) (hk:8<=k)
  (G1:T.Wk.O P w base k (bv a IN HZ 6 (LvS j (Gr "("))))
  (G2:T.Wl.O P w base k (bv a IN HZ 6 (LvW j (Gr "sum"))))
  (G3:T.Wm.O P w base k (bv a IN HZ 6 (LvC j))):
  T.Wj.O P w base (k+1) (bv a IN HZ 6 (Lv j)):=by
 refine wV T XC hk T.Wj.F afF λIB A outer s H B t Kn d fuel Q E hr hd hl hf hm=>?_;intro X D Z Y R;obtain⟨⟨x,xp⟩,r,rfl⟩:=R.cons;have tok:gP x:=R.tok;have st:=jw fuel (12-d) Kn;refine aY (du (XN Y T.YY.c (r8 T XC) [01] (λ_=>rfl) R st λnb=>#[_,IO,bi (λe=>?_) λe0=>?_]))
 .obtain⟨m,rfl⟩:=uS e
  obtain⟨f,rfl,_⟩:=B3 hf [01];exact aD (kh Y (hU T) (aX (ji Y (R.as uc) nfN λH R=>ca (R.new IO λu H i R=>R.done (by unfold ag;exact i)))))
 refine aY (du (jI Y R nb #[_,IO,bi (λe=>?_) λe1=>?_]))
 .obtain rfl:x=_:=beq_iff_eq.mp ((dj tok Ah).symm.trans e)
  exact aD #[_,Y.call2 #[G1,hr,T.Wk.c,IO] (pv 1) [01] IO,R.tail hd #[hl,IO] hf]
 refine aY (du (jI Y R nb #[_,IO,bi (λe=>?_) λe2=>?_]))
 .obtain rfl:x=_:=beq_iff_eq.mp ((cz tok wa).symm.trans e)
  exact aD #[_,Y.call2 #[G2,hr,T.Wl.c,IO] (pv 1) [01] IO,R.tail hd #[hl,IO] hf]
 have h1:=EA ((dj tok Ah).symm.trans e1)
 have h2:=EA ((cz tok wa).symm.trans e2);obtain⟨f,rfl,_⟩:=B3 hf [01];refine dQ (p_L Y R st (λ_ e=>wR e0 h1 h2 e) λ_ e=>?_)
 obtain⟨u,rfl,hu⟩:=ik e;refine aW 2 Y.nd (agk Y R st λ_=>?_);refine aY (aaC Y R (pv 2) [08] (bi (λe=>?_) λe3=>?_))
 .obtain⟨g,hg⟩:=LH.mp e
  exact aD #[_,Y.call2 #[G3,hr,T.Wm.c,IO] (pv 1) [01] IO,R.tail hd #[hl,u,g,IO,λz=>h2 (by rw[z]),hu,hg] hf]
 have ep:=sQ (f:=f) (d:=12-d) (xp:=xp) (t:=r) h2 hu e3;refine aY (aaD Y R (pv 2) [08] (bi (λe=>?_) λe4=>?_))
 .refine dQ (sL Y (bB (by rfl) T.Qq) R nb ?_)
  rw[Ve] at e;rw[ep,e]
  rfl
 .refine aD (kh Y (FJ T) (aX (ji Y (R.as (p':=HR>>=λ_=>Hz (.name u)) ?_) XX λH R=>ca (R.new IO λu H i R=>R.done (by unfold ag;exact i)))))
  rw[UP] at e4;rw[ep,e4]
  rfl
theorem aj9:eV "-" (Gr "-"):=#[by decide+kernel,by decide+kernel]
theorem aka:eV "!" (Gr "!"):=#[by decide+kernel,by decide+kernel]
theorem eT {t:Gw} :Hu (x::t) s=(x.1 == .sign (Gr s)):=rfl
theorem AI {f d:GJ}{Kn:GA}{xp:HJ}{t:Gw} :Ie (f+1) d Kn ((.sign (Gr "!"),xp)::t)=
  (IU d>>=λe=>HR>>=λ_=>Ie f e Kn>>=λx=>Hz (.not x):GH Gz) ((.sign (Gr "!"),xp)::t):=by
 rw[Ie];show(if Hu ((.sign (Gr "!"),xp)::t) "-"=Ix then _ else if Hu ((.sign (Gr "!"),xp)::t) "!"=Ix then _ else _)=_
 rw[GB (by rw[eT];show¬(J8 (Gr "!") == .sign (Gr "-"))=Ix;decide+kernel),GD (by rw[eT];exact IG _)]
theorem AW {f d:GJ}{Kn:GA}{xp:HJ}{t:Gw}(h: ∀m,GQ t≠ .num m):Ie (f+1) d Kn ((.sign (Gr "-"),xp)::t)=
  (IU d>>=λe=>HR>>=λ_=>Ie f e Kn>>=λx=>Hz (.neg x):GH Gz) ((.sign (Gr "-"),xp)::t):=by
 rw[Ie];show(if Hu ((.sign (Gr "-"),xp)::t) "-"=Ix then(match GQ t with
   | .num n=>_
   |_=>_) else _)=_
 rw[GD (by rw[eT];exact IG _)];cases e:GQ t with
 |num m=>exact GW e (h m)
 |_=>rfl
theorem AJ {f d m:GJ}{Kn:GA}{xp:HJ}{t:Gw}(h:GQ t= .num m):Ie (f+1) d Kn ((.sign (Gr "-"),xp)::t)= .ok (.neg (.num m),t.drop 1):=by
 rw[Ie];show(if Hu ((.sign (Gr "-"),xp)::t) "-"=Ix then(match GQ t with
   | .num n=>_
   |_=>_) else _)=_
 rw[GD (by rw[eT];exact IG _),h]
 rfl
theorem oA {f d:GJ}{Kn:GA}{t:Gw}(h1:(x.1 == .sign (Gr "-"))=IN) (h2:(x.1 == .sign (Gr "!"))=IN):Ie (f+1) d Kn (x::t)=HZ f d Kn (x::t):=by
 rw[Ie];show(if Hu (x::t) "-"=Ix then _ else if Hu (x::t) "!"=Ix then _ else _)=_
 rw[GB (by rw[eT,h1];exact Gn),GB (by rw[eT,h2];exact Gn)]
theorem FB {f d m:GJ}{Kn:GA}{xp:HJ}{t:Gw} :Ie (f+2) d Kn ((.num m,xp)::t)= .ok (.num m,t):=by
 rw[oA IO IO,HZ]
 rfl
theorem wH {f d m:GJ}{Kn:GA}{xp:HJ}{t:Gw}(hf:2<=f) (w:t≠[]) (h:GQ t= .num m):Ie (f+1) d Kn ((.sign (Gr "-"),xp)::t)=(HR>>=λ_=>Ie f d Kn>>=λx=>Hz (.neg x):GH Gz) ((.sign (Gr "-"),xp)::t):=by
 rw[AJ h];obtain⟨g,rfl⟩: ∃g,f=g+2:=#[f-2,by lia];cases t with
 |nil=>exact GW IO w
 |cons y r=>
  obtain⟨y,yp⟩:=y;obtain rfl:y= .num m:=h;show _=(Ie (g+2) d Kn>>=λx=>Hz (.neg x):GH Gz) ((.num m,yp)::r)
  rw[bU FB]
  rfl
theorem hX (okT okC:GJ->GA->Gw->Prop) (T:Txt K mg a) (XC:XT K a) (hk:8<=k)
  (h0: ∀d Kn t,okT d Kn t->13<=d+j) (h1: ∀d Kn s xp t,okT d Kn ((.sign s,xp)::t)->d<12->okC (d+1) Kn t) (h2: ∀d Kn s xp t m,okT d Kn ((.sign s,xp)::t)->GQ t= .num m->okC d Kn t)
  (G1:T.Wj.O P w base k (bv a IN HZ 6 (Lv j)))
  (G2:T.VU.O P w base k (bv a IN Ie 7 okC)):
  T.VU.O P w base (k+1) (bv a IN Ie 7 okT):=by
 refine wV T XC hk T.VU.F aaf λIB A outer s H B t Kn d fuel Q E hr hd ho hf hm=>?_;intro X D Z Y R;obtain⟨⟨x,xp⟩,r,rfl⟩:=R.cons;have tok:gP x:=R.tok;have st:=ld fuel (12-d) Kn;have vm:=dj tok aj9;have vn:=dj tok aka;obtain⟨f,rfl⟩: ∃f,fuel=f+1:=#[fuel-1,by lia];rw[Gp] at hf;have tail: ∀(c:Gv) (d2:GJ) (mk:Gz->Gz),x= .sign c->(∀ {H:Hp}{e:Gz}{u v:V},bQ (fG B) H a.Li [("sign",i5 (.sign c)),("operand",u)] v->ag a (fG B) H e u->ag a (fG B) H (mk e) v)->d2<=12->okC d2 Kn r->
   RS Z [] IN H ((x,xp)::r) Kn (HR>>=λ_=>Ie f (12-d2) Kn>>=λy=>Hz (mk y))->Bd X ((bq s_n).drop 3) D [GM (.ref B.r),GM (.int d),GM (.int d2),Id] H:=by
  intro c d2 mk ex hmk hd2 hC R;subst ex;refine aW 3 Y.nd (ji Y R nfS λH R=>?_);exact aD (kh Y (oS T) (aX (bV 3 (aX #[_,Y.call2 #[G2,hr,T.VU.c,IO] (pv 2) [01] IO,R.agl hd2 hC (by lia) λe v H t R=>ca (R.new IO λu H i R=>R.done (hmk i (R.f (i:=0) IO)))]))))
 refine aY (vv (lG (du (jx Y R st λnb=>#[_,IO,?_]))));have vm:m8 "-" (GQ ((x,xp)::r))=_:=vm;have vn:m8 "!" (GQ ((x,xp)::r))=_:=vn;rw[vm];cases em:(x == J8 (Gr "-")) with
 |true=>
  obtain rfl:x=_:=beq_iff_eq.mp em;refine cQ (cQ ?_);refine aW 2 Y.nd (bV 1 ?_);refine aY (aeU (du (jI Y R nb #[_,IO,?_])));rw[vn];refine cQ (lG (du (aaB Y R nfS #[_,IO,?_])));cases ey:mV (GQ r) with
  |true=>
   obtain⟨m,e⟩:=uS ey;refine cQ (tail _ d _ IO (λi h=>by unfold ag;exact#[_,i,h]) hd (h2 _ _ _ _ _ m ho e) (R.as (wH (by lia) (λz=>by rw[z] at e;cases e) e)))
  |false=>
   refine dR (AZ 2 Y hd (by intro z;cases z) (R.as (AW λm z=>by rw[z] at ey;cases ey)) λlt R=>wd ?_);exact tail _ (d+1) _ IO (λi h=>by unfold ag;exact#[_,i,h]) lt (h1 _ _ _ _ _ ho lt) R
 |false=>
  refine dR (lG (du (jI Y R nb #[_,IO,?_])));rw[vn];cases en:(x == J8 (Gr "!")) with
  |true=>
   obtain rfl:x=_:=beq_iff_eq.mp en;refine cQ ?_;refine aW 2 Y.nd (bV 1 ?_);refine aY (aeU (du (jI Y R nb #[_,IO,?_])));rw[vn,en];refine dR (dR (AZ 2 Y hd (by intro z;cases z) (R.as AI) λlt R=>wd ?_));exact tail _ (d+1) _ IO (λi h=>by unfold ag;exact#[_,i,h]) lt (h1 _ _ _ _ _ ho lt) R
  |false=>exact dR (aD #[_,Y.call2 #[G1,hr,T.Wj.c,IO] (pv 1) (by decide) IO,RS.tail (R.as (oA em en)) hd (h0 _ _ _ ho) (by rw[Gp];lia)])
def Zf.mo {β:Type}(Z:Zf β) (L:Gx) (us:Gm V):Zf β:= { Z with B:=Z.B.more L us }
theorem dh.wide {M M':Gx->Prop}{H H':Hp}(k:dh M H H') (h: ∀b,M b->M' b):dh M' H H':=λb o e m=>k b o e λz=>m (h b z)
section
variable {β:Type}{Z:Zf β}{H:Hp}{p:GH β}{Q:VK}
structure wq (Z:Zf β) (L:Gx):Prop where
 n0:Z.H0 L=Id
 nm: ¬fG Z.B L
 nx: ∀zs,¬Z.B.bl.x L zs
 nq:L≠Z.B.q
theorem RS.nwl (R:RS Z F b H t Kn p) (h:H L=Id):wq Z L:=by
 obtain⟨n,S⟩:=R.S;have nm:=S.fresh h;refine#[?_,nm,λzs z=>(by rw[S.fr L zs z] at h;cases h),λz=>(by obtain⟨as,all,h1,_⟩:=S.rd.toks;rw[z,h1] at h;cases h)];cases e:Z.H0 L with
 |none=>rfl
 |some o=>rw[R.k L o e nm] at h;cases h
theorem RS.more {us:Gm V}(R:RS Z F b H t Kn p) (h:H L=Id):RS (Z.mo L us) F b (bf H L (.lst us)) t Kn p:=by
 obtain⟨n,S⟩:=R.S;have N:=R.nwl h;have sm:aI H (bf H L (.lst us)):=be h;refine#[#[n,(S.same sm).more aj],(R.k.trans (OS.aI.keeps sm)).wide λb=>cR,λe=>jU.Ia (λb o e m=>#[λz=>(dJ z).elim (λz=>by rw[z,h] at e;cases e) m,sm b o e]) (R.f e),R.l,R.w.mono (λ_ _ z=>z) λ_ _ z H' k=>z H' λb o e m=>k b o e λz=>(dJ z).elim (λz=>by rw[z,N.n0] at e;cases e) m]
theorem RS.QH (R:RS (Z.mo L us) F b H t Kn p):H L=GM (.lst us):=by
 obtain⟨n,S⟩:=R.S;exact S.QH
theorem RS.push {v:V}(N:wq Z L) (R:RS (Z.mo L us) F b H t Kn p):RS (Z.mo L (us++[v])) F b (bf H L (.lst (us++[v]))) t Kn p:=by
 obtain⟨n,S⟩:=R.S;have mm: ∀c,fG (Z.B.more L us) c->fG (Z.B.more L (us++[v])) c:=λc h=>(dJ h).elim (λz=>by rw[z];exact fS) λz=>cR z;have mm': ∀c,fG (Z.B.more L (us++[v])) c->fG (Z.B.more L us) c:=λc h=>(dJ h).elim (λz=>by rw[z];exact fS) λz=>cR z;refine#[#[n,S.write N.nx N.nq],(R.k.wide mm).trans (fH fS),λe=>jU.Ia (λc o e m=>#[λz=>m (mm' c z),by rw[af λz=>m (by rw[z];exact fS)];exact e]) (R.f e),R.l,R.w.mono (λ_ _ z=>z) λ_ _ z H' k=>z H' (k.wide mm')]
theorem RS.less (N:wq Z L) (R:RS (Z.mo L us) F b H t Kn p):RS Z F b H t Kn p:=by
 obtain⟨n,S⟩:=R.S;refine#[#[n,S.less],λb o e m=>R.k b o e λz=>(dJ z).elim (λz=>by rw[z,N.n0] at e;cases e) m,λe=>jU.Ia (λb o e m=>#[λz=>m (cR z),e]) (R.f e),R.l,R.w.mono (λ_ _ z=>z) λ_ _ z H' k=>z H' (k.wide λb=>cR)]
theorem wq.mo (N:wq Z L') (ne:L'≠L):wq (Z.mo L us) L':=#[N.n0,λz=>(dJ z).elim ne N.nm,λzs z=>z.elim (N.nx zs) λz=>ne z.1,N.nq]
theorem RS.swap (R:RS ((Z.mo L us).mo L' Qr) F b H t Kn p):RS ((Z.mo L' Qr).mo L us) F b H t Kn p:=by
 obtain⟨n,S⟩:=R.S;have m1: ∀c,fG ((Z.B.more L us).more L' Qr) c->fG ((Z.B.more L' Qr).more L us) c:=λc h=>(dJ h).elim (λz=>by rw[z];exact cR fS) λz=>(dJ z).elim (λz=>by rw[z];exact fS) λz=>cR (cR z);have m2: ∀c,fG ((Z.B.more L' Qr).more L us) c->fG ((Z.B.more L us).more L' Qr) c:=λc h=>(dJ h).elim (λz=>by rw[z];exact cR fS) λz=>(dJ z).elim (λz=>by rw[z];exact fS) λz=>cR (cR z);exact#[#[n,S.rd,S.wh,S.kn,S.Sz,S.RY,S.P9,λc zs z=>S.fr c zs (z.elim (λz=>z.elim (λz=> .inl (.inl z)) .inr) λz=> .inl (.inr z))],R.k.wide m1,λe=>jU.Ia (λc o e m=>#[λz=>m (m2 c z),e]) (R.f e),R.l,R.w.mono (λ_ _ z=>z) λ_ _ z H' k=>z H' (k.wide m2)]
theorem nB (i:GJ) (Y:RX X Z.a Z.E) (R:RS Z F b H t Kn p) (q: ∀L H',wq Z L->RS (Z.mo L []) F b H' t Kn p->Bd X ss D (σ.set i (GM (.ref L))) H') (h:Sl X i y:=by exact#[IO,HD IO,IO]):Bd X (.Assign [.Name y p0] (.List [] p1) p5::ss) D σ H:=
 aW i Y.nd (rR λL h=>q L _ (R.nwl h) (R.more h)) h
theorem sZ {te:TE}(N:wq Z L) (R:RS (Z.mo L us) F b H t Kn p) (he:PE X e te) (hv: ∀R:VK,R (.ref L) H->te σ H R) (q:Pe X f σ H λv H1=> ∃F' b' t' WL p',us.length<GV/\RS (Z.mo L us) F' b' H1 t' WL p'/\(∀H2,RS (Z.mo L (us++[v])) F' b' H2 t' WL p'->Bd X ss D σ H2))
  (hb:JK e "append" X.env (eval e X.env)=eval e X.env:=by rfl) (Ms:Hb [f] X.env=[(IN,eval f X.env)]:=by rfl) (hp:jY p2 p4:=by rfl):
  Bd X (.Expr (.Call (.Attribute e "append" p2) [f] [] p4) p5::ss) D σ H:=by
 refine Ed he hv R.QH (q.mono λv H1 z=>?_) hb Ms hp;obtain⟨F',b',t',WL,p',h1,R',h2⟩:=z;exact#[us,R'.QH,h1,h2 _ (R'.push N)]
theorem ml (Y:RX X Z.a Z.E) (R:RS Z F b H t Kn p) (lit:eV v (Gr s)) (st:a8 p) (h:Hu t s=Ix->p t=Hi 5 t) (q:Hu t s=IN->Bd X ss D (GM (.ref Z.B.r)::σ) H) (hg:Gl X "refuse_here":=by rfl):
  Bd X (.Expr (.Call (.Name "refuse_here" p1) [.Name "reader" p2, .Constant (.str v) j p3] [] p4) p5::ss) D (GM (.ref Z.B.r)::σ) H:=by
 obtain⟨n,S⟩:=R.S;obtain⟨x,t',rfl,tok,QY,MS,_⟩:=S.wh.first;refine dQ #[_,aq (agh Y.T Y.C) (Y.hr.mono [01]) hg Y.T.Y5.c Y.up (aa Y.rd (aa aK ac)),Z.B.r,Z.B.q,Z.B.kd,Z.B.fn,Z.B.ds,Z.B.bl,n,x,t',v,IO,S.rd,λb=>st.Mm (QY.trans b) R.w H R.k,λnb e=>?_,λnb e=>?_]
 .rw[dj tok lit] at e
  exact gk (h e) nb R.w H R.k
 .rw[dj tok lit] at e
  exact q e
end
end OS
namespace OS
open Vbemac
def c9 (f e:GJ) (K:Known) (m:GJ):P Exps:=λu=>
 if m=0 then(if Md u ","=Ix then fail 5 u else(sign ")">>=λ_=>Hz .nil:P Exps) u)
 else(if Md u ")"=Ix then fail 5 u else(sign ",">>=λ_=>arguments f e K m:P Exps) u)
def yi:Gm Exp->Exps->Exps
 |[],l=>l
 |e::r,l=> .cons e (yi r l)
theorem uO {es:Gm Exp}{x:Exp}{l:Exps} :yi (es++[x]) l=yi es (.cons x l):=by
 induction es with
 |nil=>rfl
 |cons y r ih=>show Exps.cons y (yi (r++[x]) l)=_;rw[ih];rfl
theorem eI (f e:GJ) (K:Known) (m:GJ):a8 (c9 f e K m):=λt h=>by
 unfold c9;rw[dG h,dG h];by_cases c:m=0
 .rw[GD c,GB Gn]
  exact(bA ")").bind t h
 .rw[GB c,GB Gn]
  exact(bA ",").bind t h
theorem so {f d:GJ}{Kn:Known}{u:HA}{xp:Pos}{t:JH}{g:HA×GJ}(hs:u≠text "sum") (hk:KEYS.contains u=IN) (hf:Kn.funs.find? (λf=>f.1 == u)=GM g):
  primary (f+1) d Kn ((.word u,xp)::t)=(deeper d>>=λe=>next>>=λ_=>sign "(">>=λ_=>(if g.2=0 then(sign ")">>=λ_=>Hz (.call u .nil)) else(arguments f e Kn g.2>>=λl=>Hz (.call u l))):P Exp) ((.word u,xp)::t):=by
 rw[primary];show(if u=text "sum" then _ else _)=_
 rw[GB hs,GB (by rw[hk];exact Gn)];simp only[hf]
end OS
namespace OS
open PySem PySem.Spec L2
open PyProof.Rows hiding St
variable {P:Hm}{w:HS}{K:Gu}{mg:G0->GF Gy}{base:Ij}{a:bJ}
section
open Vbemac (arguments)
theorem xT:eV "," (Gr ","):=#[by decide+kernel,by decide+kernel]
section
variable {α β γ:Type}{p q:GH α}{g:α->GH β}{h:β->GH γ}
theorem bo (e:p t=q t):(p>>=g) t=(q>>=g) t:=by
 show Hd p g t=Hd q g t
 unfold Hd;rw[e]
end
def Zf.at {β:Type}(Z:Zf β) (l:GJ):Zf β:= { Z with L:=l }
section
variable {β:Type}{Z:Zf β}{F:Gm (Fk×V)}{b:HH}{H:Hp}{t:Gw}{Kn:GA}{p:GH β}{L:Gx}{l:GJ}
theorem RS.at (R:RS Z F b H t Kn p):RS (Z.at t.length) F IN H t Kn p:=#[R.S,R.k,R.f,GU _,R.w]
theorem RS.back (h:l<=Z.L) (R:RS (Z.at l) F Ix H t Kn p):RS Z F Ix H t Kn p:=#[R.S,R.k,R.f,GX R.l h,R.w]
end
theorem pK {K:GA}{t:Gw}(h:Hu t ","=IN):c9 f e K 0 t=(Hs ")">>=λ_=>Hz .nil:GH Ja) t:=by
 unfold c9;rw[GD IO,GB (by rw[h];exact Gn)]
theorem oV {K:GA}{t:Gw}(hm:m≠0) (h:Hu t ")"=IN):c9 f e K m t=(Hs ",">>=λ_=>arguments f e K m:GH Ja) t:=by
 unfold c9;rw[GB hm,GB (by rw[h];exact Gn)]
theorem iD {K:GA}{t:Gw}(h:if m=0 then Hu t ","=Ix else Hu t ")"=Ix):c9 f e K m t=Hi 5 t:=by
 unfold c9;by_cases c:m=0
 .rw[GD c] at h ⊢; rw[GD h]
 .rw[GB c] at h ⊢; rw[GD h]
theorem aaF {K:GA}{t:Gw}(h:Hu t ")"=Ix):arguments (f+1) e K n t=Hi 5 t:=by
 rw[arguments];show(if Hu t ")"=Ix then _ else _)=_
 rw[GD h]
theorem FL {K:GA}{t:Gw}(hn:1<=n) (h:Hu t ")"=IN):arguments (f+1) e K n t=(G9 f e K>>=λa=>c9 f e K (n-1)>>=λl=>Hz (.cons a l):GH Ja) t:=by
 rw[arguments];show(if Hu t ")"=Ix then _ else _)=_
 rw[GB (by rw[h];exact Gn)];show Hd _ _ t=Hd _ _ t;unfold Hd
 congr 1
 funext #[a,u]
 show(if n<=1 then _ else _:GH Ja) u=(c9 f e K (n-1)>>=λl=>Hz (.cons a l):GH Ja) u
 by_cases n1:n<=1
 .rw[GD n1,show n-1=0 by lia]
  show(if Hu u ","=Ix then Hi 5 u else _)=_
  by_cases c:Hu u ","=Ix
  .rw[GD c,bo (iD (by rw[GD IO];exact c))]
   rfl
  .rw[GB c,bo (pK (by cases h:Hu u ",";rfl;exact GW h c)),bind_assoc]
   rfl
 .rw[GB n1]
  show(if Hu u ")"=Ix then Hi 5 u else _)=_
  by_cases c:Hu u ")"=Ix
  .rw[GD c,bo (iD (by rw[GB (by lia)];exact c))]
   rfl
  .rw[GB c,bo (oV (by lia) (by cases h:Hu u ")";rfl;exact GW h c)),bind_assoc]
def zm (f e:GJ) (Kn:GA) (u:Gv) (wanted:GJ):Gm Gz->GH Gz
 |[]=>if wanted=0 then(Hs ")">>=λ_=>Hz (.call u .nil)) else(arguments f e Kn wanted>>=λl=>Hz (.call u l))
 |x::es=>c9 f e Kn (wanted-(x::es).length)>>=λl=>Hz (.call u (yi (x::es) l))
theorem xm {f e w:GJ}{Kn:GA}{t:Gw}(lt:es.length<w) (hc:Hu t ")"=IN):
  (arguments (f+1) e Kn (w-es.length)>>=λl=>Hz (.call u (yi es l)):GH Gz) t=(G9 f e Kn>>=λa=>zm f e Kn u w (es++[a])) t:=by
 rw[bo (FL (by lia) hc),bind_assoc];refine Hr (λg=>(G9 f e Kn>>=g:GH Gz) t) (funext λa=>?_);rw[bind_assoc];have n:w-es.length-1=w-(es++[a]).length:=by rw[Gq,Kp];lia
 have e1:(λl=>(Hz (Tq u (yi es (.cons a l))):GH Gz))=λl=>Hz (.call u (yi (es++[a]) l)):=funext λl=>by rw[uO]
 rw[n];show(c9 f e Kn _>>=λl=>(Hz (Tq u (yi es (.cons a l))):GH Gz))=_
 rw[e1];cases es with
 |nil=>rfl
 |cons y r=>rfl
abbrev fkE (ps:Gm (Gz×V)):Gm (Fk×V):=ps.map λx=>(.e x.1,x.2)
theorem yW {a:bJ}{M:Gx->Prop}{H:Hp}{l:Ja}{ws:Gm V}(hl:bn a M H l ws): ∀ {ps:Gm (Gz×V)},(∀ {i:GJ}{x:Fk×V},(fkE ps)[i]?=GM x->jU a M H x)->bn a M H (yi (ps.map (·.1)).reverse l) ((ps.map (·.2)).reverse++ws)
 |[],_=>hl
 | (e,v)::ps,h=>by
  rw[GZ,GZ,IT,IT,uO,Hf];refine yW (l:= .cons e l) ?_ λ{i x} q=>h (i:=i+1) q;unfold bn;exact#[v,ws,IO,h (i:=0) IO,hl]
theorem ow {Z:Zf Gz}{F:Gm (Fk×V)}{b:HH}{H:Hp}{t:Gw}{Kn K:GA}{f e w:GJ}{u:Gv}{x:Gz×V}{r:Gm (Gz×V)}(R:RS Z F b H t Kn (zm f e K u w ((x::r).map (·.1)).reverse)):RS Z F b H t Kn (c9 f e K (w-((x::r).map (·.1)).reverse.length)>>=λl=>Hz (.call u (yi ((x::r).map (·.1)).reverse l))):=by
 cases h:((x::r).map (·.1)).reverse with
 |nil=>rw[Gm.reverse_eq_nil_iff] at h;cases h
 |cons y l=>rw[h] at R;exact R
theorem eR {b:HH}{A B:Prop}(e:b=Ix) (h:A):if b=Ix then A else B:=by rw[GD e];exact h
theorem sY (f e:GJ) (K:GA) (u:Gv) (w:GJ) (es:Gm Gz) (x:Gz):a8 (zm f e K u w (es++[x])):=by
 cases es with
 |nil=>exact(eI _ _ _ _).bind
 |cons y r=>exact(eI _ _ _ _).bind
theorem agv {β:Type}{Z:Zf β}{F:Gm (Fk×V)}{b:HH}{H:Hp}{t:Gw}{Kn:GA}{p:GH β}{Q:VK}{te:TE}{g:Gv×GJ}(Y:RX X Z.a Z.E) (R:RS Z F b H t Kn p) (he:PE X e te) (hv: ∀Q:VK,Q (.str (sb u)) H->te (GM (.ref Z.B.r)::σ) H Q) (hg:Kn.funs.find? (λf=>f.1 == u)=GM g) (q:Q (.int (g.2:GJ)) H) (hs:FU e:=by exact λ_ _=>rfl):
  Pe X (.Subscript (.Attribute (.Name "reader" p1) "functions" p2) e p3) (GM (.ref Z.B.r)::σ) H Q:=by
 obtain⟨n,S⟩:=R.S;obtain⟨dr,er⟩:=S.rd.ins;obtain⟨ff,f1,f2⟩:=S.kn.funs;have f2:=f2 u;rw[hg] at f2;exact#[_,EX (gS Y.hr) (az Y.rd IO) he hs,Z.B.r,_,dr,_,_,IO,er,Y.T.Ho,Y.T.JR,IO,hv _ #[Z.B.fn,_,IO, .inl #[ff,nk u, .inl f1,IO,f2.symm],q]]
inductive XY (Z:Zf Gz) (L:Gx) (Kn:GA) (u:Gv) (w e:GJ) (σ0:L2.St) (m:GJ) (σ:L2.St) (H:Hp):Prop
 |mk (ps:Gm (Gz×V)) (t:Gw) (f:GJ) (_:m=w-ps.length) (_:σ=σ0) (_:ps.length<=w) (_:ps.length+t.length<=Z.L) (_:16*t.length+12<=f) (_:ps=[]->16*t.length+13<=f) (_:RS (Z.mo L (ps.map (·.2)).reverse) (fkE ps) Ix H t Kn (zm f e Kn u w (ps.map (·.1)).reverse)):XY Z L Kn u w e σ0 m σ H
inductive agw (Z:Zf Gz) (L:Gx) (Kn:GA) (u:Gv) (w e:GJ) (σ0:L2.St) (ps:Gm (Gz×V)) (l:GJ) (σ:L2.St) (H:Hp):Prop
 |mk (t:Gw) (f:GJ) (_:σ=σ0) (_:t.length<=l) (_:16*t.length+12<=f) (_:RS (Z.mo L (ps.map (·.2)).reverse) (fkE ps) Ix H t Kn (arguments (f+1) e Kn (w-(ps.map (·.1)).reverse.length)>>=λl=>Hz (.call u (yi (ps.map (·.1)).reverse l)))):agw Z L Kn u w e σ0 ps l σ H
section
variable {k j:GJ}
theorem agx (T:Txt K mg a) (XC:XT K a) (hk:8<=k)
  (G:T.Sa.O P w base k (bv a Ix G9 12 (Lv j))):
  T.Wm.O P w base (k+1) (bv a IN HZ 6 (LvC (j+1))):=by
 refine wV T XC hk T.Wm.F afI λIB A outer s H B t Kn d fuel Q E hr hd ho hf hm=>?_;intro X D Z Y R;obtain⟨hl,u,g,h0,hs,hu,hg⟩:=ho;obtain⟨xp,r,rfl⟩:=fO R h0;obtain⟨f,rfl⟩: ∃f,fuel=f+1:=#[fuel-1,by lia];have c:CB X "read_exp" ["reader","depth"] (bv a Ix G9 12 (Lv j)):=#[G,hr,T.Sa.c,IO];have hl:13<=d+1+j:=by rw[Ny];exact hl
 refine AZ 2 Y hd (by intro z;cases z) (R.as (so hs hu hg)) λlt R=>?_;refine aW 3 Y.nd (ji Y R XX λH R=>?_);refine c8 Y Ah R λH t R=>?_;have l1:t.length+1<=Z.L:=R.l;refine aW 4 Y.nd (agv Y R (pv 3) [08] hg ?_);refine nB 5 Y R λL H N R=>?_;have hL:(r.length+1:GJ)<=Z.L:=GU _;have hm:Kn.values.length+Z.L<=4000:=hm;have hf:16*Z.L+6<=f+1:=hf;refine ij Y.lv (XY Z L Kn u g.2 (12-(d+1)) [GM (.ref B.r),GM (.int d),GM (.int ((d+1:GJ):Int)),GM (.str (sb u)),GM (.int (g.2:GJ)),GM (.ref L)]) _ #[[],t,f,IO,IO,HB _,by show 0+t.length<=_;lia,by lia,λ_=>by lia,R] ?_;rintro m σ H ⟨ps,t,f,rfl,rfl,h1,h2,h3,h4,R⟩;refine cA iR (rb T.LR R.QH (pv 5) [08] (bV 4 #[_,_,IO,IO,_,IO,bi (λe=>?_) λe=>?_]))
 .have lt':ps.length<g.2:=by have:=Hn e;rw[II,GG] at this;lia
  have len:((ps.map (·.1)).reverse:Gm Gz).length=ps.length:=by rw[II,GG]
  refine jR (agw Z L Kn u g.2 (12-(d+1)) [GM (.ref B.r),GM (.int d),GM (.int ((d+1:GJ):Int)),GM (.str (sb u)),GM (.int (g.2:GJ)),GM (.ref L)] ps t.length) ?_ ?_
  .rintro σ H ⟨t1,f1,rfl,l1,hf1,R⟩
   refine ml Y R xh (lT _ _ _ _).bind (λh=>(bo (aaF h)).trans IO) λhc=>?_;have R:=R.as (xm (by rw[len];exact lt') hc);refine sZ N R (pv 5) [08] #[_,Y.call2 c (pv 2) [01] IO,R.at.call (pd λx=>sY _ _ _ _ _ _ _) lt hl (by lia) λe1 v1 H t2 _ R2=>#[_,_,_,_,_,by rw[II,GG];exact HE (show ps.length<=4000 by lia) [01],RS.back (Z:=Z.mo L _) (l:=t1.length) (by show t1.length<=Z.L;lia) R2,λH3 R3=>?_]];have l2:t2.length+1<=t1.length:=R2.l;refine kW #[_,(show g.2-((e1,v1)::ps).length<g.2-ps.length by rw[Gp];lia),(e1,v1)::ps,t2,f1,IO,IO,(by rw[Gp];lia),(by rw[Gp];lia),(by lia),(λz=>nomatch z),?_]
   rw[GZ,GZ,IT,IT];exact R3
  .refine cA qD (rb T.LR R.QH (pv 5) [08] (gN #[_,_,IO,IO,_,IO,?_]))
   cases ps with
   |nil=>
    refine cQ ?_;have R:RS _ (fkE []) Ix H t Kn (if g.2=0 then _ else _):=R
    rw[GB (by have:0<g.2:=lt';lia)] at R;obtain⟨f,rfl⟩: ∃f',f=f'+1:=#[f-1,by lia];exact#[t,f,IO,GU _,GJ.le_of_succ_le_succ (h4 IO),R]
   |cons x r=>
    refine eR (Hy (by rw[II,GG,Gp];lia)) ?_;have R:=ow R;refine ml Y R xh (eI _ _ _ _).bind (λh=>(bo (iD (by rw[GB (by rw[len];lia)];exact h))).trans IO) λhc=>?_;refine c8 (Z:=(Z.mo L ((x::r).map (·.2)).reverse).at t.length) Y xT (R.at.as ((bo (oV (by rw[len];lia) hc)).trans (congrFun (bind_assoc _ _ _) t))) λH t2 R2=>eY ?_;have l2:t2.length+1<=t.length:=R2.l;obtain⟨f,rfl⟩: ∃f',f=f'+1:=#[f-1,by lia];exact#[t2,f,IO,by lia,by lia,RS.back (Z:=Z.mo L _) (l:=t.length) (by show t.length<=Z.L;lia) R2]
 .have eq:ps.length=g.2:=by have:=Hq e;rw[II,GG] at this;lia
  have len:((ps.map (·.1)).reverse:Gm Gz).length=ps.length:=by rw[II,GG]
  have R:RS (Z.mo L (ps.map (·.2)).reverse) (fkE ps) Ix H t Kn (if g.2=0 then(Hs ")">>=λ_=>Hz (.call u .nil)) else(c9 f (12-(d+1)) Kn 0>>=λl=>Hz (.call u (yi (ps.map (·.1)).reverse l)))):=by
   cases ps with
   |nil=>
    have h0:g.2=0:=eq.symm
    have R:RS _ (fkE []) Ix H t Kn (if g.2=0 then _ else _):=R
    rw[GD h0] at R ⊢;exact R
   |cons x r=>
    have R:=ow R;rw[len,eq,Mb] at R;rw[GB (by rw[<-eq,Gp];lia)];exact R
  have fin:RS (Z.mo L (ps.map (·.2)).reverse) (fkE ps) Ix H t Kn (Hs ")">>=λ_=>Hz (.call u (yi (ps.map (·.1)).reverse .nil)))->Bd X ((bq YL).drop 7) D [GM (.ref B.r),GM (.int d),GM (.int ((d+1:GJ):Int)),GM (.str (sb u)),GM (.int (g.2:GJ)),GM (.ref L)] H:=λR=>by
   refine c8 Y xh R λH t R=>?_;have hL:=R.QH;refine aD (kh Y (xK T) (aX (bV 3 (aX (bV 5 (ca (R.new IO λv H i R=>?_)))))));have hL:=R.QH;have R:=R.less N;refine R.done ?_;unfold ag;refine#[.ref L,_,bQ.keep (λb o e m=>#[λz=>m (cR z),e]) i,#[L,IO,N.nm,hL],?_];have:=yW (l:= .nil) (ws:=[]) (by unfold bn;rfl) R.f;rw[GY] at this;exact this
  refine aY (cA qD (bV 4 (gN #[_,_,IO,IO,_,IO,bi (λe=>?_) λe=>?_])))
  .have h0:g.2≠0:=by have:=Hn e;lia
   rw[GB h0] at R;refine ml Y R xT (eI _ _ _ _).bind (λh=>(bo (iD (by rw[GD IO];exact h))).trans IO) λhc=>wd (fin (R.as ?_));exact(bo (pK hc)).trans (congrFun (bind_assoc _ _ _) t)
  .have h0:g.2=0:=by have:=Hq e;lia
   rw[GD h0] at R;obtain rfl:ps=[]:=Oh.mp (eq.trans h0);exact fin R
end
end
theorem mE {α β:Type}{F:α->β->Prop} : ∀ {l:Gm α}{m:Gm β}{i:GJ}{y:β},Paired F l m->m[i]?=GM y-> ∃x,l[i]?=GM x/\F x y
 |_,_,_,_, .nil,h=>by cases h
 |_,_,0,_, .cons r t,h=>#[_,IO,by obtain rfl:=G7 h;exact r]
 |_,_,i+1,_, .cons r t,h=>mE (i:=i) t h
theorem Bb.row {K:Gu}{ad:Gx}{i:GJ}{xs:Gm V}{H:Hp}(h:Bb K ad dN) (e:dN[i]?=GM xs): ∃qs:Gm Gx,qs.length=5/\pV K H ad (qs.map V.ref)/\ ∃q,Cy (qs.map V.ref) (i:GJ)=GM (.ref q)/\pV K H q xs:=by
 obtain⟨qs,h1,h2⟩:=h;obtain⟨q,hq,hk⟩:=mE h2 e;refine#[qs,cn h2,h1.sq,q,?_,hk.sq];refine ci ?_;rw[HF,hq]
 rfl
theorem Ct {x:HW}(tok:gP x) {sg:Gm Gv}(hs: ∀o∈sg,o∈Ic) (h:uD (i5 x) (sg.map λo=>V.str (dD o))=Ix): ∃op∈sg,x= .sign op:=by
 unfold uD at h;rw[Ov,KS] at h;obtain⟨o,ho,e⟩:=h;refine#[o,ho,(u9 tok (x:=dD o) #[IO,hs o ho]).mp ?_];have e:E1 (V.str (dD o)) (i5 x)=Ix:=e;cases x with
 |word u=>exact Hr GM (beq_iff_eq.mp (show(dD o == sb u)=Ix from e)).symm
 |num n=>cases (show IN=Ix from e)
 |sign u=>exact Hr GM (beq_iff_eq.mp (show(dD o == dD u)=Ix from e)).symm
 |eof=>exact Hr GM (beq_iff_eq.mp (show(dD o == sb [])=Ix from e)).symm
 |bad=>exact Hr GM (beq_iff_eq.mp (show(dD o == sb [])=Ix from e)).symm
theorem D9 {op:Gv}{sg:Gm Gv}(h:op∈sg):uD (i5 (.sign op)) (sg.map λo=>V.str (dD o))=Ix:=by
 unfold uD;rw[Ov,KS];exact#[op,h,show(dD op == dD op)=Ix from IG _]
theorem AE (x:HW):je (i5 x)=Ix:=by cases x<;>rfl
theorem xg (sg:Gm Gv):(sg.map λo=>V.str (dD o)).all je=Ix:=by
 rw[SY,LC];exact λ_ _=>rfl
section
variable {M:Gx->Prop}{H:Hp}
theorem xu: ∀ {es:Pairs}{us:Gm V},Paired (λ(x:Gv×Gz) u=>ag a M H x.2 u) es us->bn a M H (xk es .nil) us
 |_,_, .nil=>by unfold xk bn;rfl
 |_,_, .cons h t=>by unfold xk bn;exact#[_,_,IO,h,xu t]
theorem xD: ∀ {es:Pairs}{us:Gm V},Paired (λ(x:Gv×Gz) u=>ag a M H x.2 u) es us->cP a M H (wI es .nil) us (es.map λx=>V.str (dD x.1))
 |_,_, .nil=>by unfold wI cP;exact#[IO,IO]
 |_,_, .cons h t=>by unfold wI cP;exact#[_,_,_,IO,IO,h,xD t]
theorem sF {F:Gv×Gz->V->Prop}{o:Gv} : ∀ {es:Pairs}{us:Gm V},Paired F es us->(∀x∈es,x.1∈[o])->(es.map λx=>V.str (dD x.1))=us.map λ_=>V.str (dD o)
 |_,_, .nil,_=>rfl
 |_,_, .cons h t,hx=>by
  rw[GZ,GZ,Ht.mp (hx _ (GP ..)),sF t λy hy=>hx y (G8 _ hy)]
end
theorem agy:dD (Gr "||")="||":=by decide+kernel
theorem aaG:dD (Gr "&&")="&&":=by decide+kernel
structure qG (s:GJ) (sg:Gm Gv) (once:HH) (res:Gz->Pairs->Gz):Prop where
 UH: ∀e,res e []=e
 at_: ∀ {a:bJ}{M:Gx->Prop}{H:Hp}{e:Gz}{es:Pairs}{v w:V}{us:Gm V}{q g:V},es≠[]->(∀x∈es,x.1∈sg)->(once=Ix->es.length<=1)->bQ M H a.Kv [("strength", .int (s:GJ)),("operands",q),("signs",g)] w->
  bM M H (v::us) q->bM M H (es.map λx=>V.str (dD x.1)) g->ag a M H e v->Paired (λ(x:Gv×Gz) u=>ag a M H x.2 u) es us->ag a M H (res e es) w
theorem aaH:qG 0 S0 IN (λe es=>Fw e (xk es .nil)) where
 UH e:=rfl
 at_ {a M H e es v w us q g} h0 hs _ hi hq hg he VJ:=by
  cases es with
  |nil=>exact GW IO h0
  |cons y r=>
   rw[sF VJ hs,agy] at hg;show ag a M H (.either e (xk (y::r) .nil)) w;unfold ag;exact#[q,g,v,_,hi,hq,hg,he,xu VJ]
theorem ET:qG 1 S1 IN (λe es=>bth e (xk es .nil)) where
 UH e:=rfl
 at_ {a M H e es v w us q g} h0 hs _ hi hq hg he VJ:=by
  cases es with
  |nil=>exact GW IO h0
  |cons y r=>
   rw[sF VJ hs,aaG] at hg;show ag a M H (.both e (xk (y::r) .nil)) w;unfold ag;exact#[q,g,v,_,hi,hq,hg,he,xu VJ]
theorem EQ:qG 3 S3 IN (λe es=>sms e (wI es .nil)) where
 UH e:=rfl
 at_ {a M H e es v w us q g} h0 hs _ hi hq hg he VJ:=by
  cases es with
  |nil=>exact GW IO h0
  |cons y r=>
   show ag a M H (.sums e (wI (y::r) .nil)) w
   unfold ag;exact#[q,g,v,_,_,hi,hq,hg,he,xD VJ]
theorem FE:qG 4 S4 IN (λe es=>prs e (wI es .nil)) where
 UH e:=rfl
 at_ {a M H e es v w us q g} h0 hs _ hi hq hg he VJ:=by
  cases es with
  |nil=>exact GW IO h0
  |cons y r=>
   show ag a M H (.prods e (wI (y::r) .nil)) w
   unfold ag;exact#[q,g,v,_,_,hi,hq,hg,he,xD VJ]
theorem FV:qG 2 S2 Ix ags where
 UH e:=rfl
 at_ {a M H e es v w us q g} h0 hs h1 hi hq hg he VJ:=by
  cases VJ with
  |nil=>exact GW IO h0
  |cons h t=>
   cases t with
   |nil=>
    show ag a M H (.cmp _ e _) w
    unfold ag;exact#[q,g,v,_,hi,hq,hg,he,h]
   |cons h2 t2=>
    have:=h1 IO;rw[Gp,Gp] at this;lia
inductive w8 (a:bJ) (w2:HH) (s:GJ) (p:GJ->GJ->GA->GH Gz) (c:GJ) (ok:GJ->GA->Gw->Prop) (vs:Gm V) (H:Hp) (Q:VK) (E:XK):Prop
 |mk (u v:V) (_:vs=[u,v, .int (s:GJ)]) (_:bv a w2 p c ok [u,v] H Q E):w8 a w2 s p c ok vs H Q E
def Fq {β:Type}(Z:Zf β):Prop:= ∀e r,GQ r= .bad->Z.Ro e r->QE Z.a Z.B Z.H0 Z.E 1 (JC r)
theorem Fq.mo {β:Type}{Z:Zf β}(h:Fq Z) (N:wq Z L):Fq (Z.mo L us):=λe r b o H' k=>h e r b o H' λc o e m=>k c o e λz=>(dJ z).elim (λz=>by rw[z,N.n0] at e;cases e) m
theorem Fq.bad {β:Type}{Z:Zf β}{p:GH β}(h:Fq Z) (hr:iO p) (b:GQ t= .bad) (w:W p t Z.Ro (QE Z.a Z.B Z.H0 Z.E)):QE Z.a Z.B Z.H0 Z.E 1 (JC t):=by
 rcases hr t b with e|⟨x,e⟩
 .rw[jO e] at w;exact w
 .rw[wS e] at w;exact h x t b w
theorem enZ {a:bJ}{E:XK}{H0:Hp}{Q:VK} :Fq #[a,E,B,L,H0,Rz Ix a B H0 L Kn Q E]:=λe r b w=>by
 have w:Rz Ix a B H0 L Kn Q E e r:=w;unfold Rz at w;rw[GD #[IO,b]] at w;exact w
theorem agz {w2:HH}{pp:GJ->GJ->GA->GH Gz}{c sn:GJ}{ok:GJ->GA->Gw->Prop}{x IW:G0}{st:Stmt}{f:Gx}{fd:HX}{N:Gm G0}(T:Txt K mg a) (XC:XT K a) (hk:8<=k) (F:sN K x IW st f fd) (S:ax N ["reader","depth","strength"] (ah st))
  (K6: ∀(IB:Gy) (A:IA) (outer:Gm Env) (s:GC) (H:Hp) (B:Rb) (t:Gw) (Kn:GA) (d fuel:GJ) (Q:VK) (E:XK),cy k (A.deeper (Lc IW (ah st) s.heap.objs.size f IB))->d<=12->ok d Kn t->16*t.length+c<=fuel->Kn.values.length+t.length<=4000->
   let X:=gW (jF P w) P w K mg base N IW (ah st) f IB A outer s H E
   let D:dz:= { nx:=λ_ H'=>Q .Kk H',rt:=Q }
   let Z:Zf Gz:=#[a,E,B,t.length,H,Rz w2 a B H t.length Kn Q E]
   RX X a E->RS Z [] IN H t Kn (pp fuel (12-d) Kn)->Bd X (bq st) D (L2.start N [.ref B.r, .int d, .int (sn:GJ)]) H):b8 P w K mg base (jF P w) (k+1) f fd ["reader","depth","strength"] (w8 a w2 sn pp c ok):=by
 refine kr F S [03] [02];obtain⟨_,_,rfl,B,n,t,Kn,d,fuel,h0,hd,ho,St,hf,hW⟩:=h;cases h0;exact K6 IB A outer s H B t Kn d fuel Q E hr hd ho hf St.kn.len (kE T XC hk S hr) #[#[n,St],dh.refl,λ{i x} e=>(by cases e),GU _,hW]
section
variable {H:Hp}{Q:VK}{E:XK}
theorem BP (Y:RX X a E) (KT:Bb X.K a.Jx dN) (q:Q (.int 5) H) (h1:Gl X "len":=by rfl) (h2:Gl X "CHAIN_SIGNS":=by rfl):Pe X (.Call (.Name "len" p1) [.Name "CHAIN_SIGNS" p2] [] p3) σ H Q:=by
 obtain⟨qs,qs5,sqA,_⟩:=KT.row (H:=H) (i:=0) IO;refine#[_,aR bL h1 Y.T.LR Jc (aa (dg h2 Y.T.O9) ac),_,_,IO, .inr sqA,?_];rw[GG,qs5];exact q
theorem p_R {te:TE}(Y:RX X a E) (KT:Bb X.K a.Jx dN) (row:dN[sn]?=GM xs) (he:PE X e te) (hv: ∀Q:VK,Q (.int (sn:GJ)) H->te σ H Q) (q: ∀c,pV X.K H c xs->Q (.ref c) H) (h2:Gl X "CHAIN_SIGNS":=by rfl) (hs:rH e:=by exact λ_ _=>rfl):Pe X (.Subscript (.Name "CHAIN_SIGNS" p1) e p3) σ H Q:=by
 obtain⟨qs,qs5,sqA,c,atq,sq⟩:=KT.row (H:=H) row;exact#[_,eS ZS (dg h2 Y.T.O9) he hs,hv _ #[_,_,_,_,IO,IO,sqA,atq,q c sq]]
theorem RX.XZ {sp:Sp}{σ:L2.St}(Y:RX X a E) (c:CB X "read_chain" ["reader","depth","strength"] sp) (q:sp [u,v, .int ((sn+1:GJ):Int)] H Q E) (h1:X.N[1]?=GM ("depth":G0):=by rfl) (v1:tq X.env.scope "depth":=by exact HD IO) (h2:X.N[2]?=GM ("strength":G0):=by rfl) (v2:tq X.env.scope "strength":=by exact HD IO):
  Pe X (.Call (.Name "read_chain" p1) [.Name "reader" p2, .Name "depth" p3, .BinOp (.Name "strength" p4) .Add (.Constant (.int 1) 0 p5) p6] [] p7) (GM u::GM v::GM (.int (sn:GJ))::σ) H Q:=by
 obtain⟨G,hr,d,hg⟩:=c;exact#[_,aq G hr hg d Y.up (aa Y.rd (aa (iB h1 v1) (aa (aZ d9 (iB h2 v2) aG) ac))),_,_,IO,IO,q]
end
inductive ChI {p sub:GJ->GJ->GA->GH Gz}{c c':GJ}{sg:Gm Gv}{once:HH}{res:Gz->Pairs->Gz}(L:ChP p sub c c' sg once res) (Z:Zf Gz) (A1 A2:Gx) (Kn:GA) (d:GJ) (e:Gz) (v:V) (σ0:L2.St) (m:GJ) (σ:L2.St) (H:Hp):Prop
 |mk (F:Gm (Fk×V)) (es:Pairs) (us:Gm V) (t:Gw) (f:GJ) (_:m=t.length) (_:σ=σ0) (_:once=Ix->es=[]) (_:us.length+t.length<Z.L) (_: ∀x∈es,x.1∈sg) (_: ∃i:GJ,F[i]?=GM (.e e,v)) (_:Paired (λ(x:Gv×Gz) u=> ∃i:GJ,F[i]?=GM (.e x.2,u)) es us) (_:16*t.length+c'<=f)
  (_:RS ((Z.mo A1 (v::us)).mo A2 (es.map λx=>V.str (dD x.1))) F Ix H t Kn (L.q f d Kn e es)):ChI L Z A1 A2 Kn d e v σ0 m σ H
theorem At (T:Txt K mg a) (XC:XT K a) (KT:Bb K a.Jx dN) (hk:8<=k)
  (G:T.VU.O P w base k (bv a IN Ie 7 (Lv j))):
  T.W7.O P w base (k+1) (w8 a IN 5 Ie 7 (Lv j)):=by
 refine agz T XC hk T.W7.F afE λIB A outer s H B t Kn d fuel Q E hr hd ho hf hm=>?_;intro X D Z Y R;exact aY (cA cu (bV 2 (BP Y KT #[IO,_,IO,dR (aD #[_,Y.call2 #[G,hr,T.VU.c,IO] (pv 1) [01] IO,R.tail hd ho hf])])))
theorem fR (T:Txt K mg a) (XC:XT K a) (KT:Bb K a.Jx dN) (hk:8<=k) (hs:sn<5) (h2:sn=2->w2=Ix) {p sub:GJ->GJ->GA->GH Gz}{res:Gz->Pairs->Gz}(VX:1<=c')
  (L:ChP p sub c c' sg once res) (N:qG sn sg once res) (row:dN[sn]?=GM (sg.map λo=>V.str (dD o))) (sgS: ∀o∈sg,o∈Ic) (X0:once=decide (sn=2))
  (G:T.W7.O P w base k (w8 a w2 (sn+1) sub c' (Lv j))):
  T.W7.O P w base (k+1) (w8 a Ix sn p c (Lv j)):=by
 refine agz T XC hk T.W7.F afE λIB A outer s H B t Kn d fuel Q E hr hd ho hf hm=>?_;intro X D Z Y R;have cb:CB X "read_chain" ["reader","depth","strength"] (w8 a w2 (sn+1) sub c' (Lv j)):=#[G,hr,T.W7.c,IO];refine aY (cA cu (bV 2 (BP Y KT #[IO,_,IO,?_])));rw[cS,Ha (by lia)];refine cQ ?_;obtain⟨f,hf1,hp⟩:=L.start (d:=12-d) (Kn:=Kn) (n:=t.length) hf;have z0:Fq Z:=enZ;refine aW 3 Y.nd (rE (aX (Y.XZ cb #[_,_,IO,(R.as (congrFun hp t)).Ui (λ_ e r b w=>z0.bad (L.PY _ _ _ _ _) b w) hd ho hf1 λe v H t1 _ R=>ca #[by show 1<=GV;decide,λA1 hA1=>?_]])));have N1:=R.nwl hA1;have l1:t1.length+1<=Z.L:=R.l;refine aW 4 Y.nd (rR λA2 hA2=>?_);have ne:A2≠A1:=λz=>by rw[z,aj] at hA2;cases hA2
 have N2:=R.nwl (L:=A2) (by rw[af ne] at hA2;exact hA2)
 have N2': ∀ {us:Gm V},wq (Z.mo A1 us) A2:=N2.mo ne
 have N1': ∀ {us:Gm V},wq (Z.mo A2 us) A1:=N1.mo ne.symm
 have R:=(R.more (us:=[v]) hA1).more (us:=[]) hA2
 have hm:Kn.values.length+Z.L<=4000:=hm
 have fin: ∀ {F:Gm (Fk×V)}{es:Pairs}{us:Gm V}{t:Gw}{f:GJ}{H:Hp},1<=f->GQ t≠ .bad->(once=Ix->es.length<=1)->(once=Ix/\es≠[]\/ ∀op,GQ t= .sign op->op∉sg)->(∀x∈es,x.1∈sg)->(∃i:GJ,F[i]?=GM (.e e,v))->Paired (λ(x:Gv×Gz) u=> ∃i:GJ,F[i]?=GM (.e x.2,u)) es us->
   RS ((Z.mo A1 (v::us)).mo A2 (es.map λx=>V.str (dD x.1))) F Ix H t Kn (L.q f (12-d) Kn e es)->Bd X ((bq s_E).drop 4) D [GM (.ref B.r),GM (.int d),GM (.int (sn:GJ)),GM (.ref A1),GM (.ref A2)] H:=by
  intro F es us t f H hf nb h1 Ms hsg m0 mp R;have R:=R.as (p':=Hz (res e es)) (L.stop hf h1 Ms);obtain⟨i0,m0⟩:=m0;refine aY (cA cu (rb T.LR R.QH (pv 4) [08] (gN #[IO,_,IO,?_])));rw[cS,GG];refine bi (λh=>?_) λh=>?_
  .obtain rfl:es=[]:=Oh.mp (by have:=Hn h;lia)
   have hA1:=(R.less N2').QH
   have R:=(R.less N2').less N1;rw[N.UH] at R;exact aD #[_,eS cX (pv 3) aG (λ_ _=>rfl),A1,_,0,v,IO,IO,cK.of hA1,ci (j:=0) IO,R.done (R.f m0) λ_=>nb]
  .have z1:es≠[]:=λz=>by rw[z] at h;cases h
   refine aD (kh Y (oQ T) (aX (bV 2 (aX (bV 3 (aX (bV 4 (ca (R.new IO λw H i R=>?_)))))))));have hA2:=R.QH;have hA1:=(R.less N2').QH;have R:=(R.less N2').less N1;exact R.done (N.at_ z1 hsg h1 (bQ.keep (λb o e m=>#[λz=>m (cR (cR z)),e]) i) #[A1,IO,N1.nm,hA1] #[A2,IO,N2.nm,hA2] (R.f m0) (Paired.Np mp λx u ⟨i,h⟩=>R.f h)) λ_=>nb
 refine ij Y.lv (ChI L Z A1 A2 Kn (12-d) e v [GM (.ref B.r),GM (.int d),GM (.int (sn:GJ)),GM (.ref A1),GM (.ref A2)]) _ #[_,[],[],t1,f,IO,IO,λ_=>rfl,(by show 0+t1.length<_;lia),(λ_ z=>nomatch z),#[0,IO], .nil,by lia,R] ?_
 rintro m σ H ⟨F,es,us,t,f,rfl,rfl,on0,ul,hsg,m0,mp,hf,R⟩;have z2:Fq ((Z.mo A1 (v::us)).mo A2 (es.map λx=>V.str (dD x.1))):=(z0.mo N1).mo N2'
 refine cA jE (xn Y R (λb=>z2.bad (L.PY _ _ _ _ _) b R.w) λnb=>p_R Y KT row (pv 2) [08] λc sq=>#[c,_,IO, .inr sq,AE _,xg sg,_,IO,bi (λein=>?_) λein=>?_]) IO
 .obtain⟨⟨x,xp⟩,r,rfl⟩:=R.cons
  obtain⟨op,Xn,rfl⟩:=Ct R.tok sgS ein;obtain⟨f6,hf6,h6⟩:=L.go (x:=(.sign op,xp)) (by rw[Gp] at hf;exact hf) on0 IO Xn;have lu:us.length=es.length:=(cn mp).symm;rw[Gp] at ul;refine sZ N2' R (pv 4) [08] (ji Y (R.as (p':=HR>>=λ_=>sub f6 (12-d) Kn>>=λe2=>L.q f6 (12-d) Kn e (es++[(op,e2)])) h6) nfS λH R=>#[_,_,_,_,_,by rw[GG];exact HE (show es.length<=4000 by lia) [01],R,λH R=>?_]);have R:=R.swap;have z3:Fq (((Z.mo A2 ((es.map λx=>V.str (dD x.1))++[i5 (.sign op)])).mo A1 (v::us)).at r.length):=(z0.mo N2).mo N1'
  refine sZ N1' R (pv 3) [08] (Y.XZ cb #[_,_,IO,RS.Ui (Z:=((Z.mo A2 ((es.map λx=>V.str (dD x.1))++[i5 (.sign op)])).mo A1 (v::us)).at r.length) R.at (λ_ e r b w=>z3.bad (L.PY _ _ _ _ _) b w) hd ho hf6 λe2 v2 H t2 nb2 R2=>#[_,_,_,_,_,HE (show(v::us).length<=4000 by rw[Gp];lia) [01],RS.back (Z:=(Z.mo A2 _).mo A1 _) (l:=r.length) (by show r.length<=Z.L;lia) R2,λH R=>?_]]);have l2:t2.length+1<=r.length:=R2.l;have R:RS ((Z.mo A1 (v::(us++[v2]))).mo A2 ((es++[(op,e2)]).map λx=>V.str (dD x.1))) ((.e e2,v2)::F) Ix H t2 Kn (L.q f6 (12-d) Kn e (es++[(op,e2)])):=by
   rw[IF];exact R.swap
  have agA: ∀x∈es++[(op,e2)],x.1∈sg:=λx hx=>(HG.mp hx).elim (hsg x) λz=>by rw[Ht.mp z];exact Xn
  have m0': ∃i:GJ,((.e e2,v2)::F)[i]?=GM (.e e,v):=m0.elim λi h=>#[i+1,h]
  have mp':Paired (λ(x:Gv×Gz) u=> ∃i:GJ,((.e e2,v2)::F)[i]?=GM (.e x.2,u)) (es++[(op,e2)]) (us++[v2]):=gM (Paired.Np mp λx u h=>h.elim λi h=>#[i+1,h]) #[0,IO]
  refine aY (cA cu (bV 2 #[_,bB (by rfl) T.RD,IO,_,IO,?_]));rw[cS];refine bi (λh=>?_) λh=>?_
  .have s2:sn=2:=by have:=Hn h;lia
   have on1:once=Ix:=by rw[X0,s2];rfl
   have es0:=on0 on1;exact uG (fin (by lia) (nb2 (h2 s2)) (λ_=>by rw[es0];exact GU _) (.inl #[on1,λz=>by rw[SG] at z;cases z.2]) agA m0' mp' R)
  .have on1:once≠Ix:=by rw[X0,Ha λz=>by have:=Hq h;rw[z] at this;exact this IO];exact Gn
   exact kW #[_,(show t2.length<r.length+1 by lia),_,_,us++[v2],t2,f6,IO,IO,λz=>GW z on1,(by rw[Gq,Kp];lia),agA,m0',mp',by lia,R]
 .exact fin (by lia) nb (λz=>by rw[on0 z];exact HB _) (.inr λop ho hm=>by
   rw[ho,D9 hm] at ein;cases ein) hsg m0 mp R
theorem AY (h:GI t "if"=IN):G9 (f+1) d Kn t=ors f d Kn t:=by
 rw[G9];show(if GI t "if"=Ix then _ else _)=_
 rw[GB (by rw[h];exact Gn)]
 rfl
theorem akb (T:Txt K mg a) (XC:XT K a) (hk:8<=k)
  (G1:T.Wi.O P w base k (bv a Ix G9 12 (LvW j (Gr "if"))))
  (G2:T.W7.O P w base k (w8 a Ix 0 ors 11 (Lv j))):
  T.Sa.O P w base (k+1) (bv a Ix G9 12 (Lv j)):=by
 refine wV T XC hk T.Sa.F afC λIB A outer s H B t Kn d fuel Q E hr hd ho hf hm=>?_;intro X D Z Y R;refine aY (du (jx Y R (mC _ _ _) λnb=>#[_,IO,?_]));rw[cz R.tok xQ];refine bi (λe=>?_) λe=>?_
 .exact aD #[_,Y.call2 #[G1,hr,T.Wi.c,IO] (pv 1) [01] IO,R.tail hd #[ho,beq_iff_eq.mp e] hf]
 .obtain⟨f,rfl⟩: ∃f,fuel=f+1:=#[fuel-1,by lia]
  exact aD #[_,aq G2 hr (by rfl) T.W7.c Y.up (aa Y.rd (aa (pv 1) (aa aG ac))),_,_,IO,RS.tail (R.as (AY e)) hd ho (by lia)]
theorem agB {CX:rl}{k:GJ}{sp1 sp2:Sp}(F1:b8 P w K mg base CX k f fd ps sp1) (F2:b8 P w K mg base CX k f fd ps sp2):b8 P w K mg base CX k f fd ps (λvs H Q E=>sp1 vs H Q E\/sp2 vs H Q E):=
 #[λvs H Q E h=>h.elim (F1.len vs H Q E) (F2.len vs H Q E),λA outer s H args us vs Q E hr he hb hv h=>h.elim (F1.run A outer s H args us vs Q E hr he hb hv) (F2.run A outer s H args us vs Q E hr he hb hv)]
theorem zP {p:GJ->GJ->GA->GH Gz}{ok1 ok2:GJ->GA->Gw->Prop}{H:Hp}{Q:VK}{E:XK}(h:bv a w2 p c (λd K t=>ok1 d K t\/ok2 d K t) vs H Q E):bv a w2 p c ok1 vs H Q E\/bv a w2 p c ok2 vs H Q E:=by
 obtain⟨B,n,t,Kn,d,fuel,e,hd,ok,S,hf,hW⟩:=h;rcases ok with ok|ok
 .exact .inl #[B,n,t,Kn,d,fuel,e,hd,ok,S,hf,hW]
 .exact .inr #[B,n,t,Kn,d,fuel,e,hd,ok,S,hf,hW]
theorem kY {p:GJ->GJ->GA->GH Gz}{H:Hp}{Q:VK}{E:XK}(h:bv a w2 p c (Lv 0) vs H Q E):False:=by
 obtain⟨B,n,t,Kn,d,fuel,e,hd,ok,S,hf,hW⟩:=h;have ok:13<=d+0:=ok;lia
theorem kM:(∀o∈S0,o∈Ic)/\(∀o∈S1,o∈Ic)/\(∀o∈S2,o∈Ic)/\(∀o∈S3,o∈Ic)/\(∀o∈S4,o∈Ic):=by decide+kernel
theorem akc:dN[0]?=GM (S0.map λo=>V.str (dD o)):=by decide+kernel
theorem akd:dN[1]?=GM (S1.map λo=>V.str (dD o)):=by decide+kernel
theorem ake:dN[2]?=GM (S2.map λo=>V.str (dD o)):=by decide+kernel
theorem akf:dN[3]?=GM (S3.map λo=>V.str (dD o)):=by decide+kernel
theorem akg:dN[4]?=GM (S4.map λo=>V.str (dD o)):=by decide+kernel
theorem akh (T:Txt K mg a) (XC:XT K a) (KT:Bb K a.Jx dN): ∀j:GJ,
  T.Sa.O P w base (8+11*j) (bv a Ix G9 12 (Lv j))/\
  T.VU.O P w base (8+11*j) (bv a IN Ie 7 (Lv j)):=by
 intro j
 induction j with
 |zero=>exact#[kr T.Sa.F afC (λ_ _ _ _ h=>(kY h).elim) (λ_ _ _ _ _ _ _ _ _ h=>(kY h).elim),kr T.VU.F aaf (λ_ _ _ _ h=>(kY h).elim) (λ_ _ _ _ _ _ _ _ _ h=>(kY h).elim)]
 |succ j ih=>
  obtain⟨E0,U0⟩:=ih;have hk:8<=8+11*j:=by lia
  rw[show 8+11*(j+1)=8+11*j+11 by lia];generalize 8+11*j=k at hk E0 U0 ⊢;have B:=agn T XC hk E0;have Su:=agm T XC hk E0;have Ca:=agx T XC hk E0;have Ch:=ago T XC hk E0;have Pr:=agu T XC (by lia) B Su Ca;have UF:T.VU.O P w base (k+1+1) (bv a IN Ie 7 (λ_ _ _=>False)):=
   kr T.VU.F aaf (λ_ _ _ _ h=>by obtain⟨B,n,t,Kn,d,fuel,e,hd,ok,_⟩:=h;exact ok.elim) (λ_ _ _ _ _ _ _ _ _ h=>by obtain⟨B,n,t,Kn,d,fuel,e,hd,ok,_⟩:=h;exact ok.elim)
  have UN:=hX (j:=j+1) (λd _ t=>13<=d+(j+1)/\ ∃m,GQ t= .num m) (λ_ _ _=>False) T XC (by lia) (λd Kn t h=>h.1) (λd Kn s xp t h _=>by obtain⟨_,m,z⟩:=h;cases z) (λd Kn s xp t m h _=>by obtain⟨_,m,z⟩:=h;cases z) Pr UF
  have UB:=(agB (U0.mono (by lia:k<=k+1+1+1)) UN).imp λvs H Q E h=>zP h
  have Un:=hX (j:=j+1) (Lv (j+1)) (λd K t=>Lv j d K t\/(13<=d+(j+1)/\ ∃m,GQ t= .num m)) T XC (by lia) (λd Kn t h=>h) (λd Kn s xp t h lt=> .inl (by have h:13<=d+(j+1):=h;show 13<=d+1+j;lia)) (λd Kn s xp t m h z=> .inr #[h,m,z]) (Pr.mono (by lia:k+1+1<=k+1+1+1)) UB
  have C5:=At T XC KT (by lia) Un
  have C4:=fR T XC KT (by lia) (sn:=4) [01] (λz=>by cases z) [01] agr FE akg kM.2.2.2.2 IO C5
  have C3:=fR T XC KT (by lia) (sn:=3) [01] (λz=>by cases z) [01] agq EQ akf kM.2.2.2.1 IO C4
  have C2:=fR T XC KT (by lia) (sn:=2) [01] (λ_=>rfl) [01] agt FV ake kM.2.2.1 IO C3
  have C1:=fR T XC KT (by lia) (sn:=1) [01] (λz=>by cases z) [01] agp ET akd kM.2.1 IO C2
  have C0:=fR T XC KT (by lia) (sn:=0) [01] (λz=>by cases z) [01] aj7 aaH akc kM.1 IO C1
  have Ex:=akb T XC (by lia) (Ch.mono (by lia)) C0;exact#[Ex.mono (by lia),Un.mono (by lia)]
end OS
namespace OS
open Vbemac
section
variable {K:Known}
theorem EE (h:Jg t "let"=Ix):stmt (k+1) d K B t=(next>>=λ_=>newName K>>=λx=>sign "=">>=λ_=>expr k DEEP K>>=λe=>sign ";">>=λ_=>Hz (.bind x e,K.with x,B):P (Stmt×Known×Blocks)) t:=by
 rw[stmt];show(if Jg t "let"=Ix then _ else _)=_
 rw[GD h]
theorem DZ (h1:Jg t "let"=IN) (h:Jg t "for"=Ix):stmt (k+1) d K B t=(deeper d>>=λn=>next>>=λ_=>newName K>>=λx=>key "in">>=λ_=>expr k DEEP K>>=λlo=>sign "..">>=λ_=>expr k DEEP K>>=λhi=>
  sign "{">>=λ_=>stmts k n (K.with x) B>>=λl=>Hz (.loop x lo hi l.1,K,l.2):P (Stmt×Known×Blocks)) t:=by
 rw[stmt];show(if Jg t "let"=Ix then _ else if Jg t "for"=Ix then _ else _)=_
 rw[GB (by rw[h1];exact Gn),GD h]
def mi (k n:GJ) (K:Known) (c:Exp) (a:Stmts×Blocks):P (Stmt×Known×Blocks):=ifKey "else">>=λm=>(if m=Ix then(sign "{">>=λ_=>stmts k n K a.2>>=λb=>Hz (.cond c a.1 b.1,K,b.2)) else Hz (.cond c a.1 .nil,K,a.2))
theorem FX (h1:Jg t "let"=IN) (h2:Jg t "for"=IN) (h:Jg t "if"=Ix):stmt (k+1) d K B t=(deeper d>>=λn=>next>>=λ_=>expr k DEEP K>>=λc=>sign "{">>=λ_=>stmts k n K B>>=λa=>mi k n K c a:P (Stmt×Known×Blocks)) t:=by
 rw[stmt];show(if Jg t "let"=Ix then _ else if Jg t "for"=Ix then _ else if Jg t "if"=Ix then _ else _)=_
 rw[GB (by rw[h1];exact Gn),GB (by rw[h2];exact Gn),GD h]
 rfl
def lB (m:GF HA) (B:Blocks):Blocks:=match m with
 |some w=>w::B
 |none=>B
theorem wW (h1:Jg t "let"=IN) (h2:Jg t "for"=IN) (h3:Jg t "if"=IN) (h:Jg t "block"=Ix):stmt (k+1) d K B t=(next>>=λ_=>maybeName B>>=λm=>side>>=λRI=>key "zone">>=λ_=>expr k DEEP K>>=λz=>
  key "price">>=λ_=>expr k DEEP K>>=λp=>key "amount">>=λ_=>newName K>>=λx=>sign ":">>=λ_=>expr k DEEP (K.with x)>>=λq=>behind "under" (knownBlock B)>>=λu=>behind "group" (expr k DEEP K)>>=λg=>sign ";">>=λ_=>
  Hz (.block m RI z p x q u g,K,lB m B):P (Stmt×Known×Blocks)) t:=by
 rw[stmt];show(if Jg t "let"=Ix then _ else if Jg t "for"=Ix then _ else if Jg t "if"=Ix then _ else if Jg t "block"=Ix then _ else _)=_
 rw[GB (by rw[h1];exact Gn),GB (by rw[h2];exact Gn),GB (by rw[h3];exact Gn),GD h]
 rfl
theorem zY (h1:Jg t "let"=IN) (h2:Jg t "for"=IN) (h3:Jg t "if"=IN) (h4:Jg t "block"=IN):stmt (k+1) d K B t=(side>>=λRI=>key "zone">>=λ_=>expr k DEEP K>>=λz=>
  key "quarter">>=λ_=>expr k DEEP K>>=λq=>key "price">>=λ_=>expr k DEEP K>>=λp=>behind "to" (expr k DEEP K)>>=λtop=>key "amount">>=λ_=>expr k DEEP K>>=λa=>sign ";">>=λ_=>
  Hz (.step RI z q p top a,K,B):P (Stmt×Known×Blocks)) t:=by
 rw[stmt];show(if Jg t "let"=Ix then _ else if Jg t "for"=Ix then _ else if Jg t "if"=Ix then _ else if Jg t "block"=Ix then _ else _)=_
 rw[GB (by rw[h1];exact Gn),GB (by rw[h2];exact Gn),GB (by rw[h3];exact Gn),GB (by rw[h4];exact Gn)]
theorem zA (h:Md t "}"=Ix):stmts (k+1) d K B t= .ok ((.nil,B),t.drop 1):=by
 rw[stmts];show(if Md t "}"=Ix then _ else _)=_
 rw[GD h]
theorem BR (h:Md t "}"=IN):stmts (k+1) d K B t=(stmt k d K B>>=λs=>stmts k d s.2.1 s.2.2>>=λl=>Hz (.cons s.1 l.1,l.2):P (Stmts×Blocks)) t:=by
 rw[stmts];show(if Md t "}"=Ix then _ else _)=_
 rw[GB (by rw[h];exact Gn)]
end
section
variable {K:Known}
theorem zO (h:n≠0):params (k+1) n K t=(newName K>>=λx=>ifSign ",">>=λm=>(if m=Ix then(params k (n-1) (K.with x)>>=λl=>Hz (x::l)) else(sign ")">>=λ_=>Hz [x])):P (Gm HA)) t:=by
 rw[params];show(if n=0 then _ else _)=_
 rw[GB h]
theorem wb (h:n=0):params (k+1) n K t=fail 7 t:=by
 rw[params];show(if n=0 then _ else _)=_
 rw[GD h]
theorem BY (h:peek t= .eof):tops (k+1) K n D t= .ok ([],t):=by
 rw[tops];show(if peek t= .eof then _ else _)=_
 rw[GD h]
theorem wG (h0:peek t≠ .eof) (h:Jg t "const"=Ix):tops (k+1) K n D t=(next>>=λ_=>newName K>>=λx=>sign "=">>=λ_=>expr k DEEP K>>=λe=>sign ";">>=λ_=>tops k (K.with x) n D>>=λl=>Hz (.const x e::l):P Sheet) t:=by
 rw[tops];show(if peek t= .eof then _ else if Jg t "const"=Ix then _ else _)=_
 rw[GB h0,GD h]
theorem C8 (h0:peek t≠ .eof) (h1:Jg t "const"=IN) (h:Jg t "fun"=Ix) (hn:n≠0):tops (k+1) K n D t=(next>>=λ_=>newName K>>=λx=>sign "(">>=λ_=>ifSign ")">>=λnone_=>
  (if none_=Ix then give [] else params k PARAMS (K.with x))>>=λps=>sign "=">>=λ_=>expr k DEEP { K with values:=ps++K.values } >>=λe=>sign ";">>=λ_=>tops k { K with funs:=(x,ps.length)::K.funs } (n-1) D>>=λl=>Hz (.func x ps e::l):P Sheet) t:=by
 rw[tops];show(if peek t= .eof then _ else if Jg t "const"=Ix then _ else if Jg t "fun"=Ix then(if n=0 then _ else _) else _)=_
 rw[GB h0,GB (by rw[h1];exact Gn),GD h,GB hn]
theorem AN (h0:peek t≠ .eof) (h1:Jg t "const"=IN) (h:Jg t "fun"=Ix) (hn:n=0):tops (k+1) K n D t=fail 7 t:=by
 rw[tops];show(if peek t= .eof then _ else if Jg t "const"=Ix then _ else if Jg t "fun"=Ix then(if n=0 then _ else _) else _)=_
 rw[GB h0,GB (by rw[h1];exact Gn),GD h,GD hn]
def eW (D:Gm HA):P HA:=λu=>match anyName u with
 | .error e=> .error e
 | .ok (w,r)=>if D.contains w=Ix then fail 4 u else .ok (w,r)
theorem zV (h0:peek t≠ .eof) (h1:Jg t "const"=IN) (h2:Jg t "fun"=IN) (h:Jg t "desk"=Ix):tops (k+1) K n D t=(next>>=λ_=>eW D>>=λx=>sign "{">>=λ_=>stmts k NEST K []>>=λl=>tops k K n (x::D)>>=λr=>Hz (.desk x l.1::r):P Sheet) t:=by
 rw[tops];show(if peek t= .eof then _ else if Jg t "const"=Ix then _ else if Jg t "fun"=Ix then _ else if Jg t "desk"=Ix then _ else _)=_
 rw[GB h0,GB (by rw[h1];exact Gn),GB (by rw[h2];exact Gn),GD h]
 rfl
theorem Ay (h0:peek t≠ .eof) (h1:Jg t "const"=IN) (h2:Jg t "fun"=IN) (h:Jg t "desk"=IN):tops (k+1) K n D t=fail 2 t:=by
 rw[tops];show(if peek t= .eof then _ else if Jg t "const"=Ix then _ else if Jg t "fun"=Ix then _ else if Jg t "desk"=Ix then _ else _)=_
 rw[GB h0,GB (by rw[h1];exact Gn),GB (by rw[h2];exact Gn),GB (by rw[h];exact Gn)]
theorem mW (D:Gm HA):a8 (eW D):=λt e=>by unfold eW;rw[fg t e]
end
end OS
namespace OS
open Vbemac
def mG:Stmt->GF HA
 | .bind x _=>GM x
 |_=>Id
def FC (K:Known) (s:Stmt) (K':Known):Prop:=match mG s with
 |some x=>K'=K.with x/\K.taken x=IN
 |none=>K'=K
def j8 (ss:Gm Stmt):Gm HA:=ss.filterMap mG
def Bj:Gm Stmt->Stmts->Stmts
 |[],l=>l
 |s::r,l=> .cons s (Bj r l)
theorem uL:Bj (ss++[x]) l=Bj ss (.cons x l):=by
 induction ss with
 |nil=>rfl
 |cons y r ih=>show Stmts.cons y (Bj (r++[x]) l)=_;rw[ih];rfl
structure iG (K:Known) (ss:Gm Stmt) (K':Known):Prop where
 funs:K'.funs=K.funs
 vals:K'.values=(j8 ss).reverse++K.values
 nodup:(j8 ss).Nodup
 free: ∀x∈j8 ss,x∉K.values
theorem iG.nil {K:Known} :iG K [] K:=#[IO,IO,Nq,λ_ z=>nomatch z]
theorem iG.snoc {K K1 K2:Known}(h:iG K ss K1) (h2:FC K1 s K2):iG K (ss++[s]) K2:=by
 unfold FC at h2;cases e:mG s with
 |none=>
  rw[e] at h2;have h2:K2=K1:=h2;have:j8 (ss++[s])=j8 ss:=by unfold j8;rw[Tc];simp [e]
  rw[h2];exact#[h.funs,by rw[this];exact h.vals,by rw[this];exact h.nodup,by rw[this];exact h.free]
 |some x=>
  rw[e] at h2;obtain⟨rfl,ht⟩:=h2;have:j8 (ss++[s])=j8 ss++[x]:=by unfold j8;rw[Tc];simp [e]
  unfold Known.taken at ht;rw[MN] at ht;have nc:x∉K1.values:=λz=>by rw[HV.mpr z] at ht;cases ht.1
  rw[h.vals] at nc;refine#[h.funs,?_,?_,?_]
  .rw[this]
   show x::K1.values=_
   rw[h.vals,Ul]
   rfl
  .rw[this,Qg]
   refine#[h.nodup,JW.mpr #[QC,Nq],λa ha b hb=>?_];rw[Ht.mp hb];intro z;exact nc (HG.mpr (.inl (KU.mpr (by rw[<-z];exact ha))))
  .rw[this]
   intro y hy z;rcases HG.mp hy with hy|hy
   .exact h.free y hy z
   .rw[Ht.mp hy] at z
    exact nc (HG.mpr (.inr z))
end OS
namespace OS
open Vbemac
abbrev iF:=Top×Known×GJ×Gm HA
def aaI (k:GJ) (K:Known) (n:GJ) (D:Gm HA):P iF:=newName K>>=λx=>sign "(">>=λ_=>ifSign ")">>=λnone_=>(if none_=Ix then give [] else params k PARAMS (K.with x))>>=λps=>sign "=">>=λ_=>
 expr k DEEP { K with values:=ps++K.values } >>=λe=>sign ";">>=λ_=>Hz (.func x ps e,{ K with funs:=(x,ps.length)::K.funs },n-1,D)
def xB (k:GJ) (K:Known) (n:GJ) (D:Gm HA):P iF:=newName K>>=λx=>sign "=">>=λ_=>expr k DEEP K>>=λe=>sign ";">>=λ_=>Hz (.const x e,K.with x,n,D)
def Cm (k:GJ) (K:Known) (n:GJ) (D:Gm HA):P iF:=eW D>>=λx=>sign "{">>=λ_=>stmts k NEST K []>>=λl=>Hz (.desk x l.1,K,n,x::D)
def i6 (k:GJ) (K:Known) (n:GJ) (D:Gm HA):P iF:=λt=>
 if Jg t "const"=Ix then(next>>=λ_=>xB k K n D:P iF) t
 else if Jg t "fun"=Ix then(if n=0 then fail 7 t else(next>>=λ_=>aaI k K n D:P iF) t)
 else if Jg t "desk"=Ix then(next>>=λ_=>Cm k K n D:P iF) t
 else fail 2 t
theorem mM (k:GJ) (K:Known) (n:GJ) (D:Gm HA):a8 (i6 k K n D):=λt e=>by
 unfold i6;rw[cN e,cN e,cN e,GB Gn,GB Gn,GB Gn];exact aU 2 t e
end OS
namespace OS
open PySem PySem.Spec L2
open PyProof.Rows hiding St
variable {P:Hm}{w:HS}{K:Gu}{mg:G0->GF Gy}{base:Ij}{a:bJ}
theorem agC:eV "=" (Gr "="):=#[by decide+kernel,by decide+kernel]
theorem B2:eV ";" (Gr ";"):=#[by decide+kernel,by decide+kernel]
theorem agD:eV "{" (Gr "{"):=#[by decide+kernel,by decide+kernel]
theorem X2:eV "}" (Gr "}"):=#[by decide+kernel,by decide+kernel]
theorem yc:dE "sell" (Gr "sell"):=#[by decide+kernel,by decide+kernel,by decide+kernel]
theorem C6:dE "buy" (Gr "buy"):=#[by decide+kernel,by decide+kernel,by decide+kernel]
theorem q0:dE "amount" (Gr "amount"):=#[by decide+kernel,by decide+kernel,by decide+kernel]
def eP (f:GJ) (Kn:GA):GH Gz:=Hs "=">>=λ_=>G9 f Jb Kn>>=λe=>Hs ";">>=λ_=>Hz e
def dP (s:String) (f:GJ) (Kn:GA):GH Gz:=IJ s>>=λ_=>G9 f Jb Kn
def jC (f:GJ) (Kn:GA):GH (Gv×Gz):=IJ "amount">>=λ_=>Ib Kn>>=λx=>Hs ":">>=λ_=>G9 f Jb (Kn.with x)>>=λe=>Hz (x,e)
def Eg {α β:Type}(Z:Zf β) (g:α->GH β):Prop:= ∀e r,GQ r= .bad->W (g e) r Z.Ro (QE Z.a Z.B Z.H0 Z.E)->QE Z.a Z.B Z.H0 Z.E 1 (JC r)
theorem FD {α β:Type}{Z:Zf β}{g:α->GH β}(h: ∀e,a8 (g e)):Eg Z g:=λe _ nb w=>(h e).Mm nb w
theorem aaJ {α β:Type}{Z:Zf β}{p:GH α}{g:α->GH β}{t:Gw}(h:Eg Z g) (hr:iO p) (b:GQ t= .bad) (w:W (p>>=g) t Z.Ro (QE Z.a Z.B Z.H0 Z.E)):QE Z.a Z.B Z.H0 Z.E 1 (JC t):=by
 rw[de] at w;rcases hr t b with e|⟨x,e⟩
 .rw[jO e] at w;exact w
 .rw[wS e] at w;exact h x t b w
inductive gT {α:Type}(a:bJ) (args:Gm V) (p:GJ->GA->GH α) (c:GJ) (en bt:HH) (mk:α->Fk) (vs:Gm V) (H:Hp) (Q:VK) (E:XK):Prop
 |mk {β:Type}(B:Rb) (L:GJ) (H0:Hp) (Ro:β->Gw->Prop) (F:Gm (Fk×V)) (b:HH) (t:Gw) (Kn:GA) (f:GJ) (g:α->GH β) (_:vs= .ref B.r::args) (_:16*t.length+c<=f) (_:en=Ix->Eg ⟨a,E,B,L,H0,Ro⟩ g) (_:RS ⟨a,E,B,L,H0,Ro⟩ F b H t Kn (p f Kn>>=g))
  (_: ∀x v H' t',RS #[a,E,B,L,H0,Ro] ((mk x,v)::F) (b||bt) H' t' Kn (g x)->Q v H'):gT a args p c en bt mk vs H Q E
inductive Fs {α:Type}(a:bJ) (pp:Rb->GH α->Prop) (val:α->V) (vs:Gm V) (H:Hp) (Q:VK) (E:XK):Prop
 |mk {β:Type}(B:Rb) (L:GJ) (H0:Hp) (Ro:β->Gw->Prop) (F:Gm (Fk×V)) (b:HH) (t:Gw) (Kn:GA) (p:GH α) (g:α->GH β) (_:vs=[.ref B.r]) (_:pp B p) (_:RS ⟨a,E,B,L,H0,Ro⟩ F b H t Kn (p>>=g))
  (_: ∀x H' t',RS #[a,E,B,L,H0,Ro] F Ix H' t' Kn (g x)->Q (val x) H'):Fs a pp val vs H Q E
section
variable {β:Type}{Z:Zf β}{H:Hp}{p:GH β}
theorem RS.room (R:RS Z F b H t Kn p):Kn.values.length+t.length<=4000:=by
 obtain⟨n,S⟩:=R.S;exact S.kn.len
theorem RS.lL (R:RS Z F b H t Kn p):t.length<=Z.L:=GX (J5 _ _) R.l
theorem RS.or {c:HH}(R:RS Z F Ix H t Kn p):RS Z F (c||true) H t Kn p:=by rw[Qm];exact R
theorem RS.cut (n:GJ) (R:RS Z F b H t Kn p):RS Z (F.drop n) b H t Kn p:=#[R.S,R.k,λ{i x} e=>R.f (i:=n+i) (by rw[<-Gm.getElem?_drop];exact e),R.l,R.w]
theorem RS.asf {α:Type}{q q':GH α}{g:α->GH β}(R:RS Z F b H t Kn (q>>=g)) (e:q t=q' t):RS Z F b H t Kn (q'>>=g):=R.as (bo e)
end
section
variable {k:GJ}{x IW:G0}{st:Stmt}{f:Gx}{fd:HX}{N ps:Gm G0}{α:Type}{args:Gm V}{p:GJ->GA->GH α}{c:GJ}{en bt:HH}{mk:α->Fk}{val:α->V}{pp:Rb->GH α->Prop}
theorem ER (T:Txt K mg a) (XC:XT K a) (hk:8<=k) (F:sN K x IW st f fd) (S:ax N ("reader"::ps) (ah st)) (hl:args.length=ps.length)
  (K6: ∀(IB:Gy) (A:IA) (outer:Gm Env) (s:GC) (H:Hp) {β:Type}(B:Rb) (L:GJ) (H0:Hp) (Ro:β->Gw->Prop) (F:Gm (Fk×V)) (b:HH) (t:Gw) (Kn:GA) (fu:GJ) (g:α->GH β) (Q:VK) (E:XK),cy k (A.deeper (Lc IW (ah st) s.heap.objs.size f IB))->16*t.length+c<=fu->
   let X:=gW (jF P w) P w K mg base N IW (ah st) f IB A outer s H E
   let D:dz:= { nx:=λ_ H'=>Q .Kk H',rt:=Q }
   let Z:Zf β:=#[a,E,B,L,H0,Ro]
   (en=Ix->Eg Z g)->RX X a E->RS Z F b H t Kn (p fu Kn>>=g)->(∀x v H' t',RS Z ((mk x,v)::F) (b||bt) H' t' Kn (g x)->Q v H')->Bd X (bq st) D (L2.start N (.ref B.r::args)) H):b8 P w K mg base (jF P w) (k+1) f fd ("reader"::ps) (gT a args p c en bt mk):=by
 refine kr F S (λvs H Q E h=>?_) [02]
 .obtain⟨B,L,H0,Ro,F,b,t,Kn,fu,g,rfl,_⟩:=h
  exact Hr Rw hl
 .obtain⟨B,L,H0,Ro,F,b,t,Kn,fu,g,rfl,h1,h2,R,q⟩:=h
  exact K6 IB A outer s H B L H0 Ro F b t Kn fu g Q E hr h1 h2 (kE T XC hk S hr) R q
theorem agE (T:Txt K mg a) (XC:XT K a) (hk:8<=k) (F:sN K x IW st f fd) (S:ax N ["reader"] (ah st))
  (K6: ∀(IB:Gy) (A:IA) (outer:Gm Env) (s:GC) (H:Hp) {β:Type}(B:Rb) (L:GJ) (H0:Hp) (Ro:β->Gw->Prop) (F:Gm (Fk×V)) (b:HH) (t:Gw) (Kn:GA) (p:GH α) (g:α->GH β) (Q:VK) (E:XK),cy k (A.deeper (Lc IW (ah st) s.heap.objs.size f IB))->pp B p->
   let X:=gW (jF P w) P w K mg base N IW (ah st) f IB A outer s H E
   let D:dz:= { nx:=λ_ H'=>Q .Kk H',rt:=Q }
   let Z:Zf β:=#[a,E,B,L,H0,Ro]
   RX X a E->RS Z F b H t Kn (p>>=g)->(∀x H' t',RS Z F Ix H' t' Kn (g x)->Q (val x) H')->Bd X (bq st) D (L2.start N [.ref B.r]) H):b8 P w K mg base (jF P w) (k+1) f fd ["reader"] (Fs a pp val):=by
 refine kr F S [03] [02];obtain⟨B,L,H0,Ro,F,b,t,Kn,p,g,rfl,h1,R,q⟩:=h;exact K6 IB A outer s H B L H0 Ro F b t Kn p g Q E hr h1 (kE T XC hk S hr) R q
end
section
variable {β:Type}{Z:Zf β}{H:Hp}{E:XK}{Q:VK}{sp:Sp}{p:GH β}
theorem fN (Y:RX X a E) (c:CB X x ["reader"] sp) (q:sp [.ref B] H Q E) (hx:(x == ("__debug__":G0))=IN:=by decide):Pe X (.Call (.Name x p1) [.Name "reader" p2] [] p4) (GM (.ref B)::σ) H Q:=by
 obtain⟨G,hr,d,hg⟩:=c;exact#[_,aq G hr hg d Y.up (aa Y.rd ac) hx,q]
theorem xP (Y:RX X a E) (c:CB X x ["reader","word"] sp) (q:sp [.ref B, .str v] H Q E) (hx:(x == ("__debug__":G0))=IN:=by decide):Pe X (.Call (.Name x p1) [.Name "reader" p2, .Constant (.str v) j p3] [] p4) (GM (.ref B)::σ) H Q:=by
 obtain⟨G,hr,d,hg⟩:=c;exact#[_,aq G hr hg d Y.up (aa Y.rd (aa aK ac)) hx,q]
end
abbrev pB (P:Hm) (w:HS) (K:Gu) (mg:G0->GF Gy) (base:Ij) (a:bJ) (k:GJ):Prop:=b8 P w K mg base (jF P w) k a.f_f a.adp ["reader","depth"] (bv a Ix G9 12 (Lv 13))
theorem zB {Kn:GA}{t:Gw} :Lv 13 0 Kn t:=by show 13<=0+13;decide
theorem agF (T:Txt K mg a) (XC:XT K a) (hk:8<=k) (G:pB P w K mg base a k):
  T.W8.O P w base (k+1) (gT a [] eP 12 IN Ix .e):=by
 refine ER T XC hk T.W8.F ajN IO λIB A outer s H β B L H0 Ro F b t Kn fu g Q E hr hf=>?_;intro X D Z _ Y R q;have c:CB X "read_exp" ["reader","depth"] (bv a Ix G9 12 (Lv 13)):=#[G,hr,T.Sa.c,IO];have lL:=R.lL;have hF:16*(Z.at t.length).L+12<=fu+16:=GX hf (J5 _ _);have R:RS (Z.at t.length) F IN H t Kn (Hs "=">>=λ_=>G9 fu Jb Kn>>=λe=>Hs ";">>=λ_=>g e):=by
  have:=R.at;simp only[eP,bind_assoc,pure_bind] at this;exact this
 refine c8 (Z:=Z.at t.length) Y agC R λH t R=>?_;refine e9 (Z:=Z.at _) (d:=0) 1 Y c aG [08] R (pd λx=>(bA ";").bind) (HB _) zB hF λe v H t R=>?_;refine c8 (Z:=Z.at _) Y B2 R λH t R=>?_;exact aD (bV 1 (q e v H t (R.back lL).or))
theorem aaK {v:G0}{s:String}(lit:dE v (Gr s)) (T:Txt K mg a) (XC:XT K a) (hk:8<=k) (G:pB P w K mg base a k):
  T.Wx.O P w base (k+1) (gT a [.str v] (dP s) 12 Ix Ix .e):=by
 refine ER T XC hk T.Wx.F ajO IO λIB A outer s0 H β B L H0 Ro F b t Kn fu g Q E hr hf=>?_;intro X D Z en Y R q;have lL:=R.lL;have R:RS (Z.at t.length) F IN H t Kn (IJ s>>=λ_=>G9 fu Jb Kn>>=g):=by
  have:=R.at;simp only[dP,bind_assoc] at this;exact this
 refine yu (Z:=Z.at t.length) Y R (pv 1) [08] (λr _ ok=>lit.p r ok) λH t1 R=>?_;have l1:t1.length+1<=t.length:=R.l;exact aD #[_,Y.call2 #[G,hr,T.Sa.c,IO] aG [01] IO,RS.call (Z:=Z.at _) (d:=0) R (en IO) (HB _) zB (by lia) λe v H t _ R=>q e v H t (R.back lL).or]
theorem qw {α:Type}{s:String}{p:GH α}{t:Gw}(h:GI t s=Ix):IH s p t=(IJ s>>=λ_=>p>>=λx=>Hz (GM x):GH (GF α)) t:=by
 unfold IH;rw[GD h];have e:(IJ s>>=λ_=>p>>=λx=>Hz (GM x):GH (GF α)) t=(p>>=λx=>Hz (GM x):GH (GF α)) (t.drop 1):=by
  show(Hd (IJ s) _) t=_
  unfold Hd IJ;rw[GD h]
  rfl
 rw[e];show _=(Hd p _) (t.drop 1);unfold Hd;cases p (t.drop 1) with
 |error e=>rfl
 |ok z=>rfl
theorem om {α:Type}{s:String}{p:GH α}{t:Gw}(h:GI t s=IN):IH s p t= .ok (Id,t):=by
 unfold IH;rw[GB (by rw[h];exact Gn)]
theorem agG {v:G0}{s:String}(lit:dE v (Gr s)) (T:Txt K mg a) (XC:XT K a) (hk:8<=k)
  (G:T.Wx.O P w base k (gT a [.str v] (dP s) 12 Ix Ix .e)):
  T.d_Q.O P w base (k+1) (gT a [.str v] (λf Kn=>IH s (G9 f Jb Kn)) 12 Ix IN .o):=by
 refine ER T XC hk T.d_Q.F ajP IO λIB A outer s0 H β B L H0 Ro F b t Kn fu g Q E hr hf=>?_;intro X D Z en Y R q;have en:=en IO;refine aY (lG (du (nj Y R (pv 1) [08] (λbd=>aaJ en (gR s _) bd R.w) λnb=>#[_,IO,?_])));rw[cz R.tok lit];cases WE:(GQ t == IZ (Gr s)) with
 |false=>
  refine dR (aD (cg (q Id .Kk H t (RS.and ?_ IO))));rw[PB];exact R.as (bU (om WE))
 |true=>
  have R:RS Z F b H t Kn (dP s fu Kn>>=λx=>g (GM x)):=by
   have:=R.asf (qw WE);simp only[dP,bind_assoc,pure_bind] at this ⊢;exact this
  refine cQ (aD #[_,aq G hr (by rfl) T.Wx.c Y.up (aa Y.rd (aa (pv 1) ac)),Z.B,Z.L,Z.H0,Z.Ro,F,b,t,Kn,fu,_,IO,hf,λ_ x r b w=>en (GM x) r b w,R,λx v H' t' R=>q (GM x) v H' t' ?_]);obtain⟨S,k,f,l,w⟩:=R;refine#[S,k,λ{i y} e=>?_,GX (Pu (by cases b<;>decide) _) l,w];cases i with
  |zero=>cases e;exact f (i:=0) (x:=(.e x,v)) IO
  |succ i=>exact f (i:=i+1) e
inductive yI (a:bJ) (vs:Gm V) (H:Hp) (Q:VK) (E:XK):Prop
 |mk (r q kd fn ds bl:Gx) (n:GJ) (x:HW×HJ) (t:Gw) (d:GJ) (_:vs=[.ref r, .int d]) (_:o3 a H r q kd fn ds bl n (x::t)) (_:(d=6->oo a.Jj E H (if x.1= .bad then 1 else 6) x.2)) (_:(d≠6->Q (.int ((d+1:GJ):Int)) H)):yI a vs H Q E
def Bk (bl:XH) (B:Jp):Prop:= ∀u,has bl.c u=B.contains u
theorem agH (T:Txt K mg a) (XC:XT K a):T.Zg.O P w base 6 (yI a):=by
 have UE:=gi (P:=P) (w:=w) (base:=base) T XC;refine kr T.Zg.F af2 [03] [02];obtain⟨r,q,kd,fn,ds,bl,n,x,t,d,rfl,R,hf,hg⟩:=h;obtain⟨dr,er⟩:=R.ins;refine#[_,(ai (bz (bg cu (pv 1) (bB (by rfl) T.Rg) (a0 _)) (ak (a6 (eX (pv 0) T.Ho T.Vu.c UE [05] bN (aa (bB (by rfl) T.QR) ac)))) aQ)
   (ak (aB (aZ d9 (pv 1) aG)))),?_]
 refine#[IO,_,IO,?_];rw[cS];refine bi (λe=>?_) λe=>?_
 .have:=Hn e
  exact#[r,dr,_,IO,er,IO,r,q,kd,fn,ds,bl,n,x,t,6,IO,R,hf (by lia)]
 .have:=Hq e
  exact#[_,_,IO,IO,hg (by lia)]
section
variable {β:Type}{Z:Zf β}{H:Hp}
theorem uU (i:GJ) {g:GJ->GH β}(Y:RX X Z.a Z.E) (hd:d<=6) (nb:GQ t≠ .bad) (R:RS Z F b H t Kn (IU (6-d)>>=g)) (q:d<6->RS Z F b H t Kn (g (6-(d+1)))->Bd X ss D ((GM (.ref Z.B.r)::GM (.int d)::σ).set i (GM (.int ((d+1:GJ):Int)))) H)
  (h:Sl X i y:=by exact#[IO,HD IO,IO]) (h1:X.N[1]?=GM ("depth":G0):=by rfl) (v1:tq X.env.scope "depth":=by exact HD IO) (hg:Gl X "deeper_braces":=by rfl):
  Bd X (.Assign [.Name y p0] (.Call (.Name "deeper_braces" p1) [.Name "reader" p2, .Name "depth" p3] [] p4) p5::ss) D (GM (.ref Z.B.r)::GM (.int d)::σ) H:=by
 obtain⟨n,S⟩:=R.S;obtain⟨⟨x,xp⟩,t',rfl,tok,QY,MS,_⟩:=S.wh.first;have hW:=R.w;rw[de] at hW;have nx:x≠ .bad:=nb;refine aW i Y.nd (h:=h) #[_,Y.call2 #[agH Y.T Y.C,Y.hr.mono [01],Y.T.Zg.c,hg] (iB h1 v1) [01] IO,Z.B.r,Z.B.q,Z.B.kd,Z.B.fn,Z.B.ds,Z.B.bl,n,(x,xp),t',d,IO,S.rd,λe=>?_,λe=>?_]
 .rw[GB nx]
  exact gk (p:=IU (6-d)) (n:=6) (by unfold IU;rw[GD (by lia)]) nb hW H R.k
 .have ed:IU (6-d) ((x,xp)::t')= .ok (6-(d+1),(x,xp)::t'):=by unfold IU;rw[GB (by lia),show 6-d-1=6-(d+1) by lia]
  rw[wS ed] at hW;exact q (by lia) #[R.S,R.k,R.f,R.l,hW]
theorem aaL {p:GH β}{C:HH->Hp->Prop}(Y:RX X Z.a Z.E) (R:RS Z F b H ((.word u,xp)::t) Kn p) (hB:Bk Z.B.bl Bs) (q:C (!Bs.contains u) H) (hp:jY p2 p4:=by rfl):
  Pt X (.Compare (.Attribute (.Call (.Attribute (.Name "reader" p1) "current" p2) [] [] p4) "value" p5) [.NotIn] [.Attribute (.Name "reader" p6) "blocks" p7] p3) (GM (.ref Z.B.r)::σ) H C:=by
 obtain⟨n,S⟩:=R.S;obtain⟨dr,er⟩:=S.rd.ins;refine#[_,fB (rc (gS Y.hr) eF (az Y.rd IO)),xn Y R (λb=>nomatch b) (λ_=>#[Z.B.r,_,dr,_,_,IO,er,Y.T.Ho,Y.T.KH,IO,Z.B.bl.p,_,IO,kG.k (k:=nk u) S.RY,_,IO,?_]) hp]
 have:=hB u;unfold has at this;rw[this];exact q
end
theorem Ap {t:Gw}(h:(x.1 == .word (Gr "sell"))=Ix):JU (x::t)= .ok (IN,t):=by
 unfold JU;rw[GD (show GI (x::t) "sell"=Ix from h)]
 rfl
theorem DN {t:Gw}(h0:(x.1 == .word (Gr "sell"))=IN) (h:(x.1 == .word (Gr "buy"))=Ix):JU (x::t)= .ok (Ix,t):=by
 unfold JU;rw[GB (by rw[show GI (x::t) "sell"=IN from h0];exact Gn),GD (show GI (x::t) "buy"=Ix from h)]
 rfl
theorem yb {t:Gw}(h0:(GQ t == .word (Gr "sell"))=IN) (h:(GQ t == .word (Gr "buy"))=IN):JU t=Hi 2 t:=by
 unfold JU;rw[GB (by rw[show GI t "sell"=IN from h0];exact Gn),GB (by rw[show GI t "buy"=IN from h];exact Gn)]
theorem agI (T:Txt K mg a) (XC:XT K a):T.Zh.O P w base 9 (Fs a (λ_ p=>p=JU) oZ):=by
 refine agE T XC (GU _) T.Zh.F af5 λIB A outer s0 H β B L H0 Ro F b t Kn p g Q E hr hp=>?_;intro X D Z Y R q;subst hp;obtain⟨⟨x,xp⟩,r,rfl⟩:=R.cons;have v1:m8 "sell" (GQ ((x,xp)::r))=(x == .word (Gr "sell")):=cz R.tok yc;have v2:m8 "buy" (GQ ((x,xp)::r))=(x == .word (Gr "buy")):=cz R.tok C6;refine aY (vv (lG (du (jx Y R mP.bind λnb=>#[_,IO,?_]))));rw[v1];cases e1:(x == IZ (Gr "sell")) with
 |true=>
  obtain rfl:=beq_iff_eq.mp e1;refine cQ (cQ (aD (ji Y (R.as (p':=HR>>=λ_=>g IN) (bU (Ap e1))) XX λH R=>?_)));show Q (.str (sb (Gr "sell"))) H;rw[<-yc.1];exact q IN H r R
 |false=>
  refine dR (lG (du (jI Y R nb #[_,IO,?_])));rw[v2];cases e2:(x == IZ (Gr "buy")) with
  |true=>
   obtain rfl:=beq_iff_eq.mp e2;refine cQ (aD (ji Y (R.as (p':=HR>>=λ_=>g Ix) (bU (DN e1 e2))) XX λH R=>?_));show Q (.str (sb (Gr "buy"))) H;rw[<-C6.1];exact q Ix H r R
  |false=>exact dR (dQ (sL Y (bB (by rfl) T.Ph) R nb ((bo (yb (t:=(x,xp)::r) e1 e2)).trans IO)))
theorem agJ (T:Txt K mg a) (XC:XT K a) (hk:8<=k) (G:pB P w K mg base a k):
  T.Wy.O P w base (k+1) (gT a [] jC 12 Ix Ix .am):=by
 refine ER T XC hk T.Wy.F af8 IO λIB A outer s0 H β B L H0 Ro F b t Kn fu g Q E hr hf=>?_;intro X D Z en Y R q;have lL:=R.lL;have hm:Kn.values.length+(Z.at t.length).L<=4000:=R.room;have R:RS (Z.at t.length) F IN H t Kn (IJ "amount">>=λ_=>Ib Kn>>=λx=>Hs ":">>=λ_=>G9 fu Jb (Kn.with x)>>=λe=>g (x,e)):=by
  have:=R.at;simp only[jC,bind_assoc,pure_bind] at this;exact this
 refine l0 (Z:=Z.at t.length) Y q0 R λH t1 R=>?_;refine jG (Z:=Z.at t.length) 1 Y R λu H t2 ft R=>?_;refine c8 (Z:=Z.at t.length) Y XW R λH t3 R=>?_;refine ig (Z:=Z.at t.length) Y (pv 1) [08] ft hm R λH R=>?_;refine e9 (Z:=Z.at t.length) (d:=0) 2 Y #[G,hr,T.Sa.c,IO] aG [08] R (λe r b w=>en IO (u,e) r b w) (HB _) zB (by show 16*t.length+12<=fu+16;lia) λe v H t4 R=>?_;refine mf (Z:=Z.at t.length) Y (pv 1) [08] ft R λH R=>?_;refine iN (Z:=Z.at t.length) Y (oW T) (aa (pv 1) (aa (pv 2) ac)) [08] R IO λw H i R=>?_;have R:=(RS.back (Z:=Z) lL R).or (c:=b);obtain⟨S,k,f,l,w'⟩:=R;have fe:=f (i:=0) IO;refine q (u,e) w H t4 #[S,k,λ{j y} z=>?_,l,w'];cases j with
 |zero=>cases z;exact#[v,i,fe]
 |succ j=>exact f (i:=j+1) z
theorem m5 {t:Gw}(hk:HQ.contains u=IN):Kc B ((.word u,xp)::t)=if B.contains u=Ix then .ok (u,t) else Hi 3 ((.word u,xp)::t):=by
 unfold Kc;rw[dC,GB (by rw[hk];exact Gn)]
theorem o6 {t:Gw}(h:dn x.1=IN):VN (x::t)=Hi 2 (x::t):=by
 obtain⟨x,xp⟩:=x;cases x with
 |word u=>
  have h:dn (.word u)=IN:=h;rw[dS] at h;rw[dC,GD (by cases e:HQ.contains u;rw[e] at h;cases h;rfl)]
 |_=>rfl
theorem agK (T:Txt K mg a) (XC:XT K a):T.Zk.O P w base 9 (Fs a (λB p=> ∃Bs,Bk B.bl Bs/\p=Kc Bs) λu=> .str (sb u)):=by
 refine agE T XC (GU _) T.Zk.F af9 λIB A outer s0 H β B L H0 Ro F b t Kn p g Q E hr hp=>?_;intro X D Z Y R q;obtain⟨Bs,hB,rfl⟩:=hp;obtain⟨⟨x,xp⟩,r,rfl⟩:=R.cons;refine dQ (p_L Y R (lh Bs).bind (λ_ e=>(bo (q:=Hi 2) ?_).trans IO) λnb e=>?_)
 .unfold Kc
  rw[o6 e]
  rfl
 obtain⟨u,rfl,hu⟩:=ik e;have ek:=m5 (xp:=xp) (t:=r) (B:=Bs) hu;refine aY (aaL Y R hB (bi (λh=>?_) λh=>?_))
 .rw[Ve] at h
  rw[h,GB Gn] at ek;exact dQ (sL Y (bB (by rfl) T.Qq) R nb ((bo (q:=Hi 3) ek).trans IO))
 .rw[UP] at h
  rw[h,GD IO] at ek;exact aD (ji Y (R.as (p':=HR>>=λ_=>g u) (bU ek)) XX λH R=>q u H r R)
theorem BJ:dE "let" (Gr "let"):=#[by decide+kernel,by decide+kernel,by decide+kernel]
theorem yH:dE "zone" (Gr "zone"):=#[by decide+kernel,by decide+kernel,by decide+kernel]
theorem wT:dE "quarter" (Gr "quarter"):=#[by decide+kernel,by decide+kernel,by decide+kernel]
theorem vt:dE "price" (Gr "price"):=#[by decide+kernel,by decide+kernel,by decide+kernel]
theorem X3:dE "to" (Gr "to"):=#[by decide+kernel,by decide+kernel,by decide+kernel]
theorem vj:dE "block" (Gr "block"):=#[by decide+kernel,by decide+kernel,by decide+kernel]
theorem ub:dE "under" (Gr "under"):=#[by decide+kernel,by decide+kernel,by decide+kernel]
theorem uT:dE "group" (Gr "group"):=#[by decide+kernel,by decide+kernel,by decide+kernel]
abbrev XH.at_ (bl:XH) (c:Gm (cf×V)):XH:=#[bl.p,c,bl.x]
abbrev Rb.bk (B:Rb) (c:Gm (cf×V)):Rb:= { B with bl:=B.bl.at_ c }
abbrev DI:=Jo×GA×Jp
inductive oj (a:bJ) (av:GJ->Gm V) (ok:GJ->Gw->Prop) (vs:Gm V) (H:Hp) (Q:VK) (E:XK):Prop
 |mk {β:Type}(B:Rb) (L:GJ) (H0:Hp) (Ro:β->Gw->Prop) (F:Gm (Fk×V)) (b:HH) (t:Gw) (Kn:GA) (Bs:Jp) (d f:GJ) (g:DI->GH β) (_:vs= .ref B.r::av d) (_:d<=6) (_:ok d t) (_:16*t.length+14<=f) (_:Bk B.bl Bs) (_:B.bl.c.length+t.length<=4000) (_:Eg ⟨a,E,B,L,H0,Ro⟩ g) (_:RS ⟨a,E,B,L,H0,Ro⟩ F b H t Kn (KZ f (6-d) Kn Bs>>=g))
  (_: ∀s v H' t' c',FC Kn s.1 s.2.1->Bk (B.bl.at_ c') s.2.2->c'.length+t'.length<=4000->RS #[a,E,B.bk c',L,H0,Ro] ((.st s.1,v)::F) Ix H' t' s.2.1 (g s)->Q v H'):oj a av ok vs H Q E
section
variable {k:GJ}{x IW:G0}{st:Stmt}{f:Gx}{fd:HX}{N ps:Gm G0}{av:GJ->Gm V}{ok:GJ->Gw->Prop}
theorem Al (T:Txt K mg a) (XC:XT K a) (hk:8<=k) (F:sN K x IW st f fd) (S:ax N ("reader"::ps) (ah st)) (hl: ∀d,(av d).length=ps.length)
  (K6: ∀(IB:Gy) (A:IA) (outer:Gm Env) (s:GC) (H:Hp) {β:Type}(B:Rb) (L:GJ) (H0:Hp) (Ro:β->Gw->Prop) (F:Gm (Fk×V)) (b:HH) (t:Gw) (Kn:GA) (Bs:Jp) (d fu:GJ) (g:DI->GH β) (Q:VK) (E:XK),cy k (A.deeper (Lc IW (ah st) s.heap.objs.size f IB))->d<=6->ok d t->16*t.length+14<=fu->Bk B.bl Bs->B.bl.c.length+t.length<=4000->
   let X:=gW (jF P w) P w K mg base N IW (ah st) f IB A outer s H E
   let D:dz:= { nx:=λ_ H'=>Q .Kk H',rt:=Q }
   let Z:Zf β:=#[a,E,B,L,H0,Ro]
   Eg Z g->RX X a E->RS Z F b H t Kn (KZ fu (6-d) Kn Bs>>=g)->(∀s v H' t' c',FC Kn s.1 s.2.1->Bk (B.bl.at_ c') s.2.2->c'.length+t'.length<=4000->RS #[a,E,B.bk c',L,H0,Ro] ((.st s.1,v)::F) Ix H' t' s.2.1 (g s)->Q v H')->Bd X (bq st) D (L2.start N (.ref B.r::av d)) H):b8 P w K mg base (jF P w) (k+1) f fd ("reader"::ps) (oj a av ok):=by
 refine kr F S (λvs H Q E h=>?_) [02]
 .obtain⟨B,L,H0,Ro,F,b,t,Kn,Bs,d,fu,g,rfl,_⟩:=h
  exact Hr Rw (hl d)
 .obtain⟨B,L,H0,Ro,F,b,t,Kn,Bs,d,fu,g,rfl,h1,h2,h3,h4,h5,h6,R,q⟩:=h
  exact K6 IB A outer s H B L H0 Ro F b t Kn Bs d fu g Q E hr h1 h2 h3 h4 h5 h6 (kE T XC hk S hr) R q
end
section
variable {β:Type}{Z:Zf β}{H:Hp}
theorem jL (i:GJ) {g:Gz->GH β}(Y:RX X Z.a Z.E) (c:CB X "read_part" ["reader","word"] (gT Z.a [.str v] (dP s) 12 Ix Ix .e)) (R:RS Z F Ix H t Kn (dP s f Kn>>=g)) (hf:16*Z.L+12<=f+16) (en: ∀e,a8 (g e)) (q: ∀e v H' t',RS Z ((.e e,v)::F) Ix H' t' Kn (g e)->Bd X ss D ((GM (.ref Z.B.r)::σ).set i (GM v)) H')
  (h:Sl X i y:=by exact#[IO,HD IO,IO]):Bd X (.Assign [.Name y p0] (.Call (.Name "read_part" p1) [.Name "reader" p2, .Constant (.str v) j p3] [] p4) p5::ss) D (GM (.ref Z.B.r)::σ) H:=by
 have l:t.length+1<=Z.L:=R.l;exact aW i Y.nd (xP Y c #[Z.B,Z.L,Z.H0,Z.Ro,F,Ix,t,Kn,f,g,IO,by lia,λ_=>FD en,R,q]) h
theorem qC (i:GJ) {g:GF Gz->GH β}(Y:RX X Z.a Z.E) (c:CB X "read_part_if_there" ["reader","word"] (gT Z.a [.str v] (λf Kn=>IH s (G9 f Jb Kn)) 12 Ix IN .o)) (R:RS Z F Ix H t Kn (IH s (G9 f Jb Kn)>>=g)) (hf:16*Z.L+12<=f+16) (en: ∀e,a8 (g e)) (q: ∀e v H' t',RS Z ((.o e,v)::F) Ix H' t' Kn (g e)->Bd X ss D ((GM (.ref Z.B.r)::σ).set i (GM v)) H')
  (h:Sl X i y:=by exact#[IO,HD IO,IO]):Bd X (.Assign [.Name y p0] (.Call (.Name "read_part_if_there" p1) [.Name "reader" p2, .Constant (.str v) j p3] [] p4) p5::ss) D (GM (.ref Z.B.r)::σ) H:=by
 have l:t.length+1<=Z.L:=R.l;exact aW i Y.nd (xP Y c #[Z.B,Z.L,Z.H0,Z.Ro,F,Ix,t,Kn,f,g,IO,by lia,λ_=>FD en,R,q]) h
theorem n8 (i:GJ) {g:Gz->GH β}(Y:RX X Z.a Z.E) (c:CB X "read_given" ["reader"] (gT Z.a [] eP 12 IN Ix .e)) (R:RS Z F Ix H t Kn (eP f Kn>>=g)) (hf:16*Z.L+12<=f+16) (q: ∀e v H' t',RS Z ((.e e,v)::F) Ix H' t' Kn (g e)->Bd X ss D ((GM (.ref Z.B.r)::σ).set i (GM v)) H')
  (h:Sl X i y:=by exact#[IO,HD IO,IO]):Bd X (.Assign [.Name y p0] (.Call (.Name "read_given" p1) [.Name "reader" p2] [] p4) p5::ss) D (GM (.ref Z.B.r)::σ) H:=by
 have l:t.length+1<=Z.L:=R.l;exact aW i Y.nd (fN Y c #[Z.B,Z.L,Z.H0,Z.Ro,F,Ix,t,Kn,f,g,IO,by lia,(λz=>nomatch z),R,q]) h
theorem yO (i:GJ) {g:HH->GH β}(Y:RX X Z.a Z.E) (R:RS Z F b H t Kn (JU>>=g)) (hr:cy 9 X.A) (q: ∀e H' t',RS Z F Ix H' t' Kn (g e)->Bd X ss D ((GM (.ref Z.B.r)::σ).set i (GM (oZ e))) H')
  (h:Sl X i y:=by exact#[IO,HD IO,IO]) (hg:Gl X "read_side":=by rfl):Bd X (.Assign [.Name y p0] (.Call (.Name "read_side" p1) [.Name "reader" p2] [] p4) p5::ss) D (GM (.ref Z.B.r)::σ) H:=
 aW i Y.nd (fN Y #[agI Y.T Y.C,hr,Y.T.Zh.c,hg] #[Z.B,Z.L,Z.H0,Z.Ro,F,b,t,Kn,_,g,IO,IO,R,q]) h
end
section
variable {K:GA}{β:Type}{g:DI->GH β}
theorem aaM (h:GI t "let"=Ix):(KZ (k+1) d K B>>=g) t=(HR>>=λ_=>Ib K>>=λx=>eP k K>>=λe=>g (.bind x e,K.with x,B)) t:=by
 rw[bo (EE h)];simp only[eP,bind_assoc,pure_bind]
theorem FR (h1:GI t "let"=IN) (h2:GI t "for"=IN) (h3:GI t "if"=IN) (h4:GI t "block"=IN):(KZ (k+1) d K B>>=g) t=(JU>>=λRI=>dP "zone" k K>>=λz=>dP "quarter" k K>>=λq=>dP "price" k K>>=λp=>IH "to" (G9 k Jb K)>>=λtop=>dP "amount" k K>>=λa=>Hs ";">>=λ_=>g (.step RI z q p top a,K,B)) t:=by
 rw[bo (zY h1 h2 h3 h4)];simp only[dP,bind_assoc,pure_bind]
end
theorem agL (T:Txt K mg a) (XC:XT K a) (hk:8<=k) (G:T.W8.O P w base k (gT a [] eP 12 IN Ix .e)):
  T.Ze.O P w base (k+1) (oj a (λ_=>[]) λ_ t=>GI t "let"=Ix):=by
 refine Al T XC hk T.Ze.F af1 (λ_=>rfl) λIB A outer s H β B L H0 Ro F b t Kn Bs d fu g Q E hr hd ho hf hB hc=>?_;intro X D Z en Y R q;have lL:=R.lL;have hm:Kn.values.length+(Z.at t.length).L<=4000:=R.room;obtain⟨xp,r,rfl⟩:=fO R (beq_iff_eq.mp ho);obtain⟨f,rfl⟩: ∃f,fu=f+1:=#[fu-1,by lia];have hF:16*(Z.at (((IZ (Gr "let"),xp)::r).length)).L+12<=f+16:=by show 16*((IZ (Gr "let"),xp)::r).length+12<=f+16;lia
 refine jd (Z:=Z.at _) Y BJ (R.at.as (aaM ho)) λH t R=>?_;refine jG (Z:=Z.at _) 1 Y R λu H t ft R=>?_;refine n8 (Z:=Z.at _) 2 Y #[G,hr,T.W8.c,IO] R hF λe v H t R=>?_;refine ig (Z:=Z.at _) Y (pv 1) [08] ft hm R λH R=>?_;refine iN (Z:=Z.at _) Y (Cz T) (aa (pv 1) (aa (pv 2) ac)) [08] R IO λw H i R=>?_;have l:t.length+1<=r.length+1:=R.l;have R:=RS.back (Z:=Z) lL R;refine q (.bind u e,Kn.with u,Bs) w H t B.bl.c ⟨rfl,ft⟩ hB (by rw[Gp] at hc;lia) ((R.cut 1).and ?_);show aO a (fG B) H (.bind u e) w;unfold aO;exact#[v,i,R.f (i:=0) IO]
theorem agM (T:Txt K mg a) (XC:XT K a) (hk:9<=k)
  (G1: ∀ {v:G0}{s:String},dE v (Gr s)->T.Wx.O P w base k (gT a [.str v] (dP s) 12 Ix Ix .e))
  (G2:T.d_Q.O P w base k (gT a [.str "to"] (λf Kn=>IH "to" (G9 f Jb Kn)) 12 Ix IN .o)):
  T.Zi.O P w base (k+1) (oj a (λ_=>[]) λ_ t=>GI t "let"=IN/\GI t "for"=IN/\GI t "if"=IN/\GI t "block"=IN):=by
 refine Al T XC (by lia) T.Zi.F af6 (λ_=>rfl) λIB A outer s H β B L H0 Ro F b t Kn Bs d fu g Q E hr hd ho hf hB hc=>?_;intro X D Z en Y R q;have lL:=R.lL;obtain⟨n1,n2,n3,n4⟩:=ho;obtain⟨f,rfl⟩: ∃f,fu=f+1:=#[fu-1,by lia];have hF:16*(Z.at t.length).L+12<=f+16:=by show 16*t.length+12<=f+16;lia
 have cp: ∀ {v:G0}{s:String},dE v (Gr s)->CB X "read_part" ["reader","word"] (gT a [.str v] (dP s) 12 Ix Ix .e):=λl=>#[G1 l,hr,T.Wx.c,IO]
 have ps: ∀ {γ:Type}{s:String}{f:GJ}{h:Gz->GH γ},a8 (dP s f Kn>>=h):=(fE _).bind.bind;refine yO (Z:=Z.at t.length) 1 Y (R.at.as (FR n1 n2 n3 n4)) (hr.mono hk) λbu H t1 R=>?_
 refine jL (Z:=Z.at t.length) 2 Y (cp yH) R hF (λ_=>ps) λe1 v1 H t2 R=>?_;refine jL (Z:=Z.at t.length) 3 Y (cp wT) R hF (λ_=>ps) λe2 v2 H t3 R=>?_;refine jL (Z:=Z.at t.length) 4 Y (cp vt) R hF (λ_=>(gR "to" _).strict λ_=>ps) λe3 v3 H t4 R=>?_;refine qC (Z:=Z.at t.length) 5 Y #[G2,hr,T.d_Q.c,IO] R hF (λ_=>ps) λe4 v4 H t5 R=>?_;refine jL (Z:=Z.at t.length) 6 Y (cp q0) R hF (λ_=>(bA ";").bind) λe5 v5 H t6 R=>?_;refine c8 (Z:=Z.at t.length) Y B2 R λH t7 R=>?_;refine iN (Z:=Z.at t.length) Y (xE T) (aa (pv 1) (aa (pv 2) (aa (pv 3) (aa (pv 4) (aa (pv 5) (aa (pv 6) ac)))))) [08] R IO λw H i R=>?_;have l:t7.length+1<=t.length:=R.l;have R:=RS.back (Z:=Z) lL R;refine q (.step bu e1 e2 e3 e4 e5,Kn,Bs) w H t7 B.bl.c IO hB (by lia) ((R.cut 5).and ?_);show aO a (fG B) H (.step bu e1 e2 e3 e4 e5) w;unfold aO;exact#[v1,v2,v3,v4,v5,i,R.f (i:=4) IO,R.f (i:=3) IO,R.f (i:=2) IO,R.f (i:=1) IO,R.f (i:=0) IO]
theorem Bx {B:Jp}{t:Gw}(RH:HQ.contains u=IN):KI B ((.word u,xp)::t)=if B.contains u=Ix then Hi 4 ((.word u,xp)::t) else .ok (GM u,t):=by
 have c: ¬(GI ((.word u,xp)::t) "sell"=Ix\/GI ((.word u,xp)::t) "buy"=Ix):=λz=>z.elim (λz=>by
  have:IZ u= .word (Gr "sell"):=beq_iff_eq.mp z;cases this;exact GW RH [00]) λz=>by
  have:IZ u= .word (Gr "buy"):=beq_iff_eq.mp z;cases this;exact GW RH [00]
 unfold KI;rw[GB c];unfold UU;rw[dC,GB (by rw[RH];exact Gn)];dsimp only;by_cases h:B.contains u=Ix
 .rw[GD h,GD h]
  rfl
 .rw[GB h,GB h]
theorem BT {γ:Type}{B:Jp}{t:Gw}(nb:x.1≠ .bad) (en:dn x.1=IN) {g:GF Gv->HH->GH γ} :(KI B>>=λm=>JU>>=λb=>g m b) (x::t)=(JU>>=λb=>g Id b) (x::t):=by
 by_cases c:GI (x::t) "sell"=Ix\/GI (x::t) "buy"=Ix
 .exact bU (by unfold KI;rw[GD c])
 .have e:KI B (x::t)= .error (2,JC (x::t)):=by
   unfold KI UU;rw[GB c,o6 en];unfold Hi;rw[GB (show¬GQ (x::t)= .bad from nb)]
  have e2:JU (x::t)= .error (2,JC (x::t)):=by
   rw[yb (t:=x::t) (by cases h:(GQ (x::t) == IZ (Gr "sell"));rfl;exact GW (.inl h) c) (by cases h:(GQ (x::t) == IZ (Gr "buy"));rfl;exact GW (.inr h) c)];unfold Hi;rw[GB (show¬GQ (x::t)= .bad from nb)]
  show Hd _ _ (x::t)=Hd _ _ (x::t)
  unfold Hd;rw[e,e2]
  rfl
theorem fU.aaN {a:bJ}{H:Hp}{B:Rb}{t:Gw}{Kn:GA}(S:fU a B H n t Kn):fU a (B.bk c) (bf H B.bl.p (.dK c)) n t Kn:=by
 obtain⟨dr,er⟩:=S.rd.ins;obtain⟨as,all,h1,h2,h3⟩:=S.rd.toks;obtain⟨kk,k1,k2,k3⟩:=S.kn.vals;obtain⟨ff,f1,f2⟩:=S.kn.funs;have hy:=S.Sz;have e:=S.RY;obtain⟨d1,d2,d3,d4,d5,d6⟩:=S.P9;have nr:B.r≠B.bl.p:=λw=>by rw[w,e] at er;cases er
 have nq:B.q≠B.bl.p:=λw=>by rw[w,e] at h1;cases h1
 refine#[#[#[dr,(by show bf H B.bl.p (.dK c) B.r=_;rw[af nr];exact er)],as,all,(by show bf H B.bl.p (.dK c) B.q=_;rw[af nq];exact h1),Paired.Np h2 λb x ⟨dx,ex⟩=>#[dx,?_],h3],S.wh,#[#[kk,(by show bf H B.bl.p (.dK c) B.kd=_;rw[af d3];exact k1),k2,k3],#[ff,(by show bf H B.bl.p (.dK c) B.fn=_;rw[af d5];exact f1),f2],S.kn.len,#[ff,(by show bf H B.bl.p (.dK c) B.fn=_;rw[af d5];exact f1),S.kn.fl f1]],(by show bf H B.bl.p (.dK c) B.ds.p=_;rw[af d6];exact hy),aj,S.P9,λb xs h=>?_]
 .rw[af λw=>by rw[w,e] at ex;cases ex]
  exact ex
 .have e2:=S.fr b xs h
  rw[af λw=>by rw[w,e] at e2;cases e2];exact e2
section
variable {β:Type}{Z:Zf β}{H:Hp}{Q:VK}{p:GH β}
theorem wM (Y:RX X Z.a Z.E) (R:RS Z F b H t Kn p) (hb:GQ t= .bad->QE Z.a Z.B Z.H0 Z.E 1 (JC t)) (no:GQ t≠ .bad->m8 v (GQ t)=IN->Q (.bl IN) H)
  (yes: ∀ {x:HW×HJ}{r:Gw},t=x::r->m8 v x.1=Ix->x.1≠ .bad-> ¬j2 x/\ ∃p',p (x::r)=(HR>>=λ_=>p') (x::r)/\ ∀H',RS Z F Ix H' r Kn p'->Q (.bl Ix) H') (hp:jY p2 p4:=by rfl):
  Pe X (.Call (.Attribute (.Name "reader" p1) "skips" p2) [.Constant (.str v) j p3] [] p4) (GM (.ref Z.B.r)::σ) H Q:=by
 obtain⟨n,S⟩:=R.S;obtain⟨x,t',rfl,tok,QY,MS,_⟩:=S.wh.first;refine Y.m1 Y.T.Y1.c (BG Y.T Y.C) [01] Y.up S IO (tW #[Z.B.r,Z.B.q,Z.B.kd,Z.B.fn,Z.B.ds,Z.B.bl,n,x,t',v,IO,S.rd,λb=>hb (QY.trans b) H R.k,no,λnb e H' hp=>?_]) hp IO;obtain⟨nf,p',e',q⟩:=yes IO e nb;exact q H' ((R.as e').past S nf hp (R.as e').w)
theorem yz (Y:RX X Z.a Z.E) (R:RS Z F b H t Kn p) (hf: ∀n,(sr Z.B.q Z.B.kd Z.B.fn Z.B.ds.p Z.B.bl.p n).lookup fld=GM (.ref gd)) (na:aH X.K Z.a.HL fld) (hg:H gd=GM (.dK gg)) (st:a8 p) (h2:GQ t≠ .bad->dn (GQ t)=IN->p t=Hi 2 t) (h4: ∀u,GQ t= .word u->HQ.contains u=IN->has gg u=Ix->p t=Hi 4 t)
  (q: ∀u xp r,t=(.word u,xp)::r->HQ.contains u=IN->has gg u=IN-> ∃p',p ((.word u,xp)::r)=(HR>>=λ_=>p') ((.word u,xp)::r)/\ ∀H',RS Z F Ix H' r Kn p'->Q (.str (sb u)) H') (hp:jY p2 p4:=by rfl):
  Pe X (.Call (.Attribute (.Name "reader" p1) "take_name_not_in" p2) [.Attribute (.Name "reader" p3) fld p6] [] p4) (GM (.ref Z.B.r)::σ) H Q:=by
 obtain⟨n,S⟩:=R.S;obtain⟨dr,er⟩:=S.rd.ins;obtain⟨⟨x,xp⟩,t',rfl,tok,QY,MS,_⟩:=S.wh.first;refine Y.m1 Y.T.Y3.c (jT Y.T Y.C) [01] Y.up S IO #[_,az Y.rd IO,Z.B.r,_,dr,_,_,IO,er,Y.T.Ho,na,hf n,Z.B.r,Z.B.q,Z.B.kd,Z.B.fn,Z.B.ds,Z.B.bl,gd,n,(x,xp),t',gg,IO,S.rd,hg,λb=>st.Mm (QY.trans b) R.w H R.k,λnb e=>gk (h2 nb e) nb R.w H R.k,λu ex e hu=>?_,λu ex e hu H' hp=>?_] hp IO
 .obtain⟨u',e1,e2⟩:=ik e
  obtain rfl:u=u':=by have:=ex.symm.trans e1;cases this;rfl
  exact gk (h4 u ex e2 hu) (by rw[show GQ ((x,xp)::t')= .word u from ex];intro z;cases z) R.w H R.k
 .obtain⟨u',e1,e2⟩:=ik e
  obtain rfl:u=u':=by have:=ex.symm.trans e1;cases this;rfl
  obtain rfl:x= .word u:=ex;obtain⟨p',e',q⟩:=q u xp t' IO e2 hu;exact q H' ((R.as e').past S XX hp (R.as e').w)
theorem RS.aaN {a:bJ}{E:XK}{B:Rb}{H0:Hp}{Ro:β->Gw->Prop}(R:RS #[a,E,B,L,H0,Ro] F b H t Kn p):RS #[a,E,B.bk c,L,H0,Ro] F b (bf H B.bl.p (.dK c)) t Kn p:=by
 obtain⟨n,S⟩:=R.S;have k:dh (fG B) H (bf H B.bl.p (.dK c)):=fH (.inr (.inr (.inr (.inr (.inl IO)))));exact#[#[n,S.aaN],R.k.trans k,λe=>jU.Ia k.two (R.f e),R.l,R.w]
end
section
variable {K:GA}{β:Type}{g:DI->GH β}
theorem DM (h1:GI t "let"=IN) (h2:GI t "for"=IN) (h3:GI t "if"=IN) (h:GI t "block"=Ix):(KZ (k+1) d K B>>=g) t=(HR>>=λ_=>KI B>>=λm=>JU>>=λRI=>dP "zone" k K>>=λz=>dP "price" k K>>=λp=>jC k K>>=λx=>
  IH "under" (Kc B)>>=λu=>IH "group" (G9 k Jb K)>>=λgr=>Hs ";">>=λ_=>g (.block m RI z p x.1 x.2 u gr,K,lB m B)) t:=by
 rw[bo (wW h1 h2 h3 h)];simp only[dP,jC,bind_assoc,pure_bind]
end
theorem agN (T:Txt K mg a) (XC:XT K a) (hk:9<=k)
  (G1: ∀ {v:G0}{s:String},dE v (Gr s)->T.Wx.O P w base k (gT a [.str v] (dP s) 12 Ix Ix .e))
  (G2:T.d_Q.O P w base k (gT a [.str "group"] (λf Kn=>IH "group" (G9 f Jb Kn)) 12 Ix IN .o))
  (G3:T.Wy.O P w base k (gT a [] jC 12 Ix Ix .am)):
  T.Zj.O P w base (k+1) (oj a (λ_=>[]) λ_ t=>GI t "let"=IN/\GI t "for"=IN/\GI t "if"=IN/\GI t "block"=Ix):=by
 refine Al T XC (by lia) T.Zj.F af7 (λ_=>rfl) λIB A outer s H β B L H0 Ro F b t Kn Bs d fu g Q E hr hd ho hf hB hc=>?_;intro X D Z en Y R q;have lL:=R.lL;have hm:Kn.values.length+(Z.at t.length).L<=4000:=R.room;obtain⟨n1,n2,n3,n4⟩:=ho;obtain⟨f,rfl⟩: ∃f,fu=f+1:=#[fu-1,by lia];have hF:16*(Z.at t.length).L+12<=f+16:=by show 16*t.length+12<=f+16;lia
 have cp: ∀ {v:G0}{s:String},dE v (Gr s)->CB X "read_part" ["reader","word"] (gT a [.str v] (dP s) 12 Ix Ix .e):=λl=>#[G1 l,hr,T.Wx.c,IO]
 have ps: ∀ {γ:Type}{s:String}{f:GJ}{h:Gz->GH γ},a8 (dP s f Kn>>=h):=(fE _).bind.bind;obtain⟨xp,r,e⟩:=fO R (beq_iff_eq.mp n4)
 have R:=R.at.as (DM n1 n2 n3 n4);generalize hl:t.length=l at R lL hF hm hc hf;subst e;refine jd (Z:=Z.at l) Y vj R λH t R=>?_
 refine aW 1 Y.nd (cg ?_);refine jR (λσ' H'=> ∃(m:GF Gv) (t:Gw),σ'=[GM (.ref B.r),GM (ja m),Id,Id,Id,Id,Id,Id]/\RS (Z.at l) F Ix H' t Kn (JU>>=λRI=>dP "zone" f Kn>>=λz=>dP "price" f Kn>>=λp=>jC f Kn>>=λx=>
  IH "under" (Kc Bs)>>=λu=>IH "group" (G9 f Jb Kn)>>=λgr=>Hs ";">>=λ_=>g (.block m RI z p x.1 x.2 u gr,Kn,lB m Bs))) ?_ ?_
 .rintro σ H ⟨m,t,rfl,R⟩
  refine yO (Z:=Z.at l) 2 Y R (hr.mono hk) λbu H t R=>?_;refine jL (Z:=Z.at l) 3 Y (cp yH) R hF (λ_=>ps) λe1 v1 H t R=>?_;refine jL (Z:=Z.at l) 4 Y (cp vt) R hF (λ_=>(fE _).bind.bind) λe2 v2 H t R=>?_;have l5:t.length+1<=l:=R.l;have en6: ∀x:Gv×Gz,a8 (IH "under" (Kc Bs)>>=λu=>IH "group" (G9 f Jb Kn)>>=λgr=>Hs ";">>=λ_=>g (.block m bu e1 e2 x.1 x.2 u gr,Kn,lB m Bs)):=λ_=>(gR "under" _).strict λ_=>(gR "group" _).strict λ_=>(bA ";").bind;refine aW 5 Y.nd (fN Y #[G3,hr,T.Wy.c,IO] #[B,l,H0,Ro,_,Ix,t,Kn,f,_,IO,(by have:16*l+12<=f+16:=hF;lia),λ_=>FD en6,R,λe3 v3 H t R=>?_]);have R:RS (Z.at l) _ Ix H t Kn _:=R;refine aW 6 Y.nd (cg ?_);refine jR (λσ' H'=> ∃(un:GF Gv) (t:Gw),σ'=[GM (.ref B.r),GM (ja m),GM (oZ bu),GM v1,GM v2,GM v3,GM (ja un),Id]/\RS (Z.at l) ((.am e3,v3)::(.e e2,v2)::(.e e1,v1)::F) Ix H' t Kn (IH "group" (G9 f Jb Kn)>>=λgr=>Hs ";">>=λ_=>g (.block m bu e1 e2 e3.1 e3.2 un gr,Kn,lB m Bs))) ?_ ?_
  .rintro σ H ⟨un,t,rfl,R⟩
   refine qC (Z:=Z.at l) 7 Y #[G2,hr,T.d_Q.c,IO] R hF (λ_=>(bA ";").bind) λe4 v4 H t R=>?_;refine c8 (Z:=Z.at l) Y B2 R λH t R=>?_;have l9:t.length+1<=l:=R.l;have R:=RS.back (Z:=Z) lL R;refine jR (λσ' H'=> ∃c',σ'=[GM (.ref B.r),GM (ja m),GM (oZ bu),GM v1,GM v2,GM v3,GM (ja un),GM v4]/\Bk (B.bl.at_ c') (lB m Bs)/\c'.length+t.length<=4000/\RS #[a,E,B.bk c',L,H0,Ro] ((.o e4,v4)::(.am e3,v3)::(.e e2,v2)::(.e e1,v1)::F) Ix H' t Kn (g (.block m bu e1 e2 e3.1 e3.2 un e4,Kn,lB m Bs))) ?_ ?_
   .rintro σ H ⟨c',rfl,hB',VX,R⟩
    refine iN (Z:=#[a,E,B.bk c',L,H0,Ro]) Y (ur T) (aa (pv 1) (aa (pv 2) (aa (pv 3) (aa (pv 4) (aa (pv 5) (aa (pv 6) (aa (pv 7) ac))))))) [08] R IO λw H i R=>?_;refine q (.block m bu e1 e2 e3.1 e3.2 un e4,Kn,lB m Bs) w H t c' IO hB' VX ((R.cut 4).and ?_);show aO a (fG B) H (.block m bu e1 e2 e3.1 e3.2 un e4) w;unfold aO;exact#[v1,v2,v3,v4,i,R.f (i:=3) IO,R.f (i:=2) IO,R.f (i:=1) IO,R.f (i:=0) IO]
   .refine#[_,fB (rL (pv 1)),_,IO,?_]
    cases m with
    |none=>exact cQ #[B.bl.c,IO,hB,by lia,R]
    |some u=>
     obtain⟨n,S⟩:=R.S;obtain⟨dr,er⟩:=S.rd.ins;refine dR (dB (nQ (gS hr) [07] (pv 1) uW IO) #[B.r,_,dr,_,_,IO,er,T.Ho,T.KH,IO,B.bl.p,_,IO, .inl #[B.bl.c,nk u,S.RY,IO,HE (show B.bl.c.length<=4000 by lia) [01],IO],eY #[fX B.bl.c (nk u) (.bl Ix),IO,λv=>?_,?_,R.aaN]])
     .show has (fX B.bl.c (nk u) (.bl Ix)) v=(u::Bs).contains v
      rw[sM,HP,hB v]
      congr 1
      rw[Ip,Ii,beq_iff_eq]
     .have:=fT B.bl.c (nk u) (.bl Ix)
      lia
  .refine du (wM (Z:=Z.at l) Y R (λb=>(en6 e3).Mm b R.w) (λnb e=>#[_,IO,cQ #[Id,t,IO,R.as (bU (om ((cz R.tok ub).symm.trans e)))]]) λ{x r} et e nb=>?_)
   subst et;have e:=(cz R.tok ub).symm.trans e;obtain⟨x,xp⟩:=x;obtain rfl:x=_:=beq_iff_eq.mp e;refine#[XX,Kc Bs>>=λu=>IH "group" (G9 f Jb Kn)>>=λgr=>Hs ";">>=λ_=>g (.block m bu e1 e2 e3.1 e3.2 (GM u) gr,Kn,lB m Bs),?_,λH R=>#[_,IO,dR (aW 6 Y.nd (fN Y #[agK T XC,hr.mono hk,T.Zk.c,IO] #[B,l,H0,Ro,_,Ix,r,Kn,_,_,IO,#[Bs,hB,IO],R,λu H t R=>eY #[GM u,t,IO,R]]))]];rw[bo (qw e),bind_assoc];simp only[bind_assoc,pure_bind];exact bU (by unfold IJ;rw[GD (show GI ((.word (Gr "under"),xp)::r) "under"=Ix from e)])
 .obtain⟨⟨x,xp⟩,r,rfl⟩:=R.cons
  refine du (XN (Z:=Z.at l) Y T.Wg.c (oU T XC) [01] (λ_=>rfl) R (ia Bs).bind λnb=>#[_,IO,bi (λe=>?_) λe=>?_])
  .obtain⟨u,rfl,hu⟩:=ik e
   have em:=Bx (B:=Bs) (xp:=xp) (t:=r) hu;obtain⟨n,S⟩:=R.S;refine aW 1 Y.nd (yz (Z:=Z.at l) Y R (λ_=>rfl) T.KH S.RY (ia Bs).bind (λ_ z=>GW e (by rw[z];exact Gn)) (λu' e1 _ hu'=>?_) λu' xp' r' e1 _ hu'=>?_)
   .cases e1
    rw[GD ((hB u).symm.trans hu')] at em;exact(bo (q:=Hi 4) em).trans IO
   .cases e1
    have hx:Bs.contains u=IN:=(hB u).symm.trans hu';rw[hx,GB Gn] at em;exact#[_,(bU em).trans IO,λH R=>eY #[GM u,r,IO,R]]
  .exact#[Id,_,IO,R.as (BT nb e)]
structure ql (K:Gu) (a:bJ):Prop where
 t1:Cl K a.Mr
 t2:Cl K a.NQ
 t3:Cl K a.Qy
 t4:Cl K a.LN
 t5:Cl K a.KC
 k1:Jh K (.ref a.Mr) (.ref a.Mr)=GM Ix
 k2:Jh K (.ref a.NQ) (.ref a.Mr)=GM IN
 k3:Jh K (.ref a.Qy) (.ref a.Mr)=GM IN
 k4:Jh K (.ref a.LN) (.ref a.Mr)=GM IN
 k5:Jh K (.ref a.KC) (.ref a.Mr)=GM IN
theorem ql.of {K:Gu}{a:bJ}{M:Gx->Prop}{H:Hp}(I:ql K a) (h:aO a M H s v): ∃C,js K H v (.ref C)/\Jh K (.ref C) (.ref a.Mr)=GM (mG s).isSome:=by
 cases s with
 |bind x e=>
  unfold aO at h;obtain⟨u,⟨p,dx,rfl,m,z⟩,_⟩:=h;exact#[_,I.t1.of z,I.k1]
 |loop x lo hi l=>
  unfold aO at h;obtain⟨u1,u2,q,us,⟨p,dx,rfl,m,z⟩,_⟩:=h;exact#[_,I.t2.of z,I.k2]
 |cond c x y=>
  unfold aO at h;obtain⟨u,q,us,g,ws,⟨p,dx,rfl,m,z⟩,_⟩:=h;exact#[_,I.t3.of z,I.k3]
 |step b z qu p top am=>
  unfold aO at h;obtain⟨u1,u2,u3,u4,u5,⟨p,dx,rfl,m,z⟩,_⟩:=h;exact#[_,I.t4.of z,I.k4]
 |block nm b z p x am un g=>
  unfold aO at h;obtain⟨u1,u2,u3,u4,⟨p,dx,rfl,m,z⟩,_⟩:=h;exact#[_,I.t5.of z,I.k5]
theorem fU.WM {a:bJ}{H:Hp}{t:Gw}{K1 K2:GA}(S:fU a B H n t K1) (hc:K1.values.contains u=Ix) (hf:K2.funs=K1.funs) (hl:K2.values.length+1=K1.values.length)
  (hv: ∀v,K2.values.contains v=(!decide (v=u)&&K1.values.contains v)) {kk:Gm (cf×V)}(e:H B.kd=GM (.dK kk)):has kk u=Ix/\fU a B (bf H B.kd (.dK (f7 kk (nk u)))) n t K2:=by
 obtain⟨dr,er⟩:=S.rd.ins;obtain⟨as,all,h1,h2,h3⟩:=S.rd.toks;obtain⟨UG,k1,k2,k3⟩:=S.kn.vals;obtain⟨ff,f1,f2⟩:=S.kn.funs;have hy:=S.Sz;have hz:=S.RY;obtain rfl:UG=kk:=by rw[e] at k1;cases k1;rfl
 obtain⟨d1,d2,d3,d4,d5,d6⟩:=S.P9;have nr:B.r≠B.kd:=λw=>by rw[w,e] at er;cases er
 have nq:B.q≠B.kd:=λw=>by rw[w,e] at h1;cases h1
 have hu:has UG u=Ix:=by rw[k3];exact hc
 have len:=S.kn.len;refine#[hu,#[#[dr,by rw[af nr];exact er],as,all,by rw[af nq];exact h1,Paired.Np h2 λb x ⟨dx,ex⟩=>#[dx,?_],h3],S.wh,#[#[_,aj,?_,λv=>?_],#[ff,by rw[af d1.symm];exact f1,by rw[hf];exact f2],by lia,#[ff,by rw[af d1.symm];exact f1,(by rw[hf];exact S.kn.fl f1)]],(by rw[af d2.symm];exact hy),(by rw[af d3.symm];exact hz),S.P9,λb xs h=>?_]
 .rw[af λw=>by rw[w,e] at ex;cases ex]
  exact ex
 .have:(f7 UG (nk u)).length<UG.length:=by
   unfold f7;refine Vb (OR _ _) λw=>?_;rw[Qb] at w;unfold has cW at hu;rw[JQ,NN] at hu;obtain⟨p,hp,e1⟩:=hu;have:=w p hp;simp only[Oq] at this e1;exact this e1
  lia
 .rw[tQ,k3,hv]
 .have e2:=S.fr b xs h
  rw[af λw=>by rw[w,e] at e2;cases e2];exact e2
def AT (Kn:GA) (ss:Gm Jo):GA:=#[(j8 ss).reverse++Kn.values,Kn.funs]
theorem tX {x:Gv}{rest V:Gm Gv}(h1:x∉rest) (h2:x∉V) (v:Gv):(rest.reverse++V).contains v=(!decide (v=x)&&((x::rest).reverse++V).contains v):=by
 by_cases e:v=x
 .subst e
  rw[Hy IO];show _=IN;rw[Vf];intro z;rcases HG.mp (HV.mp z) with z|z
  .exact h1 (KU.mp z)
  .exact h2 z
 .rw[Ha e]
  show _=((x::rest).reverse++V).contains v
  rw[Ip,HV,HV,HG,HG,KU,KU,Hc];constructor
  .rintro(z|z)
   .exact .inl (.inr z)
   .exact .inr z
  .rintro((z|z)|z)
   .exact GW z e
   .exact .inl z
   .exact .inr z
inductive kJ (a:bJ) (m:GJ) (vs:Gm V) (H:Hp) (Q:VK) (E:XK):Prop
 |mk {β:Type}(B:Rb) (L:GJ) (H0:Hp) (Ro:β->Gw->Prop) (F:Gm (Fk×V)) (b:HH) (t:Gw) (Kn:GA) (Bs:Jp) (d f:GJ) (g:Im×Jp->GH β) (_:vs=[.ref B.r, .int d]) (_:d<=6) (_:7<=d+m) (_:16*t.length<=f) (_:Bk B.bl Bs) (_:B.bl.c.length+t.length<=4000) (_:RS ⟨a,E,B,L,H0,Ro⟩ F b H t Kn (Hs "{">>=λ_=>J4 f (6-d) Kn Bs>>=g))
  (_: ∀l v H' t' c',Bk (B.bl.at_ c') l.2->c'.length+t'.length<=4000->RS #[a,E,B.bk c',L,H0,Ro] ((.sts l.1,v)::F) Ix H' t' Kn (g l)->Q v H'):kJ a m vs H Q E
abbrev qh (a:bJ) (m:GJ) (ok:Gw->Prop):Sp:=oj a (λd=>[.int d]) λd t=>7<=d+m/\ok t
section
variable {k m:GJ}{x IW:G0}{st:Stmt}{f:Gx}{fd:HX}{N:Gm G0}
theorem aki (T:Txt K mg a) (XC:XT K a) (hk:8<=k) (F:sN K x IW st f fd) (S:ax N ["reader","depth"] (ah st))
  (K6: ∀(IB:Gy) (A:IA) (outer:Gm Env) (s:GC) (H:Hp) {β:Type}(B:Rb) (L:GJ) (H0:Hp) (Ro:β->Gw->Prop) (F:Gm (Fk×V)) (b:HH) (t:Gw) (Kn:GA) (Bs:Jp) (d fu:GJ) (g:Im×Jp->GH β) (Q:VK) (E:XK),cy k (A.deeper (Lc IW (ah st) s.heap.objs.size f IB))->d<=6->7<=d+m->16*t.length<=fu->Bk B.bl Bs->B.bl.c.length+t.length<=4000->
   let X:=gW (jF P w) P w K mg base N IW (ah st) f IB A outer s H E
   let D:dz:= { nx:=λ_ H'=>Q .Kk H',rt:=Q }
   let Z:Zf β:=#[a,E,B,L,H0,Ro]
   RX X a E->RS Z F b H t Kn (Hs "{">>=λ_=>J4 fu (6-d) Kn Bs>>=g)->(∀l v H' t' c',Bk (B.bl.at_ c') l.2->c'.length+t'.length<=4000->RS #[a,E,B.bk c',L,H0,Ro] ((.sts l.1,v)::F) Ix H' t' Kn (g l)->Q v H')->Bd X (bq st) D (L2.start N [.ref B.r, .int d]) H):b8 P w K mg base (jF P w) (k+1) f fd ["reader","depth"] (kJ a m):=by
 refine kr F S [03] [02];obtain⟨B,L,H0,Ro,F,b,t,Kn,Bs,d,fu,g,rfl,h1,h2,h3,h4,h5,R,q⟩:=h;exact K6 IB A outer s H B L H0 Ro F b t Kn Bs d fu g Q E hr h1 h2 h3 h4 h5 (kE T XC hk S hr) R q
end
abbrev fkS (ps:Gm (Jo×V)) (F:Gm (Fk×V)):Gm (Fk×V):=(ps.map λx=>(Fk.st x.1,x.2))++F
theorem tN {a:bJ}{M:Gx->Prop}{H:Hp}{F:Gm (Fk×V)}{l:Im}{ws:Gm V}(hl:aT a M H l ws): ∀ {ps:Gm (Jo×V)},(∀ {i:GJ}{x:Fk×V},(fkS ps F)[i]?=GM x->jU a M H x)->aT a M H (Bj (ps.map (·.1)).reverse l) ((ps.map (·.2)).reverse++ws)
 |[],_=>hl
 | (e,v)::ps,h=>by
  rw[GZ,GZ,IT,IT,uL,Hf];refine tN (l:= .cons e l) ?_ λ{i x} q=>h (i:=i+1) q;unfold aT;exact#[v,ws,IO,h (i:=0) IO,hl]
theorem aaO {F:Gm (Fk×V)}{ps:Gm (Jo×V)}{i:GJ}{y:V}(h:((ps.map λx:Jo×V=>x.2).reverse)[i]?=GM y): ∃(s:Jo) (j:GJ),((ps.map λx:Jo×V=>x.1).reverse)[i]?=GM s/\(fkS ps F)[j]?=GM (Fk.st s,y):=by
 have hi:i<ps.length:=by
  obtain⟨h,_⟩:=Hk.mp h;rw[II,GG] at h;exact h
 rw[Td (by rw[GG];exact hi),GG,HF] at h;obtain⟨⟨s,v⟩,e,rfl⟩:=IM.mp h;refine#[s,ps.length-1-i,?_,?_]
 .rw[Td (by rw[GG];exact hi),GG,HF,e]
  rfl
 .rw[Rm (by rw[GG];lia),HF,e]
  rfl
theorem iG.drop {Kn K1:GA}{ss:Gm Jo}{x:Gv}(lo:iG Kn ss K1) (h:ss[i]?=GM (.bind x e)):(AT Kn (ss.drop i)).values.contains x=Ix/\(AT Kn (ss.drop (i+1))).values.length+1=(AT Kn (ss.drop i)).values.length/\ ∀v,(AT Kn (ss.drop (i+1))).values.contains v=(!decide (v=x)&&(AT Kn (ss.drop i)).values.contains v):=by
 have ed:ss.drop i= .bind x e::ss.drop (i+1):=by
  obtain⟨h,e⟩:=Hk.mp h;rw[<-e];exact Kw h
 have el:j8 (Jo.bind x e::ss.drop (i+1))=x::j8 (ss.drop (i+1)):=rfl
 have sub:(x::j8 (ss.drop (i+1))).Sublist (j8 ss):=by
  rw[<-el,<-ed];exact(Vg i ss).filterMap mG
 have nin:=(JW.mp (sub.nodup lo.nodup)).1
 have nV:=lo.free x (sub.subset (GP ..));unfold AT;rw[ed,el];refine#[HV.mpr (HG.mpr (.inl (KU.mpr (GP ..)))),?_,tX nin nV];simp only[Gq,II,Gp];lia
theorem Bz {Kn:GA}{ss:Gm Jo}(h:ss[i]?=GM s) (hl:mG s=Id):AT Kn (ss.drop i)=AT Kn (ss.drop (i+1)):=by
 have ed:ss.drop i=s::ss.drop (i+1):=by
  obtain⟨h,e⟩:=Hk.mp h;rw[<-e];exact Kw h
 rw[ed];unfold AT j8;rw[LI,hl]
theorem EB {x:Gv}(hl:mG s=GM x): ∃e1,s= .bind x e1:=by
 cases s with
 |bind y e1=>cases hl;exact#[e1,IO]
 |loop _ _ _ _=>cases hl
 |cond _ _ _=>cases hl
 |step _ _ _ _ _ _=>cases hl
 |block _ _ _ _ _ _ _ _=>cases hl
inductive BrI {β:Type}(Z:Zf β) (Ls:Gx) (F:Gm (Fk×V)) (Kn:GA) (d l:GJ) (g:Im×Jp->GH β) (σ0:L2.St) (m:GJ) (σ:L2.St) (H:Hp):Prop
 |mk (ps:Gm (Jo×V)) (K1:GA) (B1:Jp) (c:Gm (cf×V)) (t:Gw) (f:GJ) (_:m=t.length) (_:σ=σ0) (_:ps.length+t.length<l) (_:Bk (Z.B.bl.at_ c) B1) (_:c.length+t.length<=4000) (_:16*t.length+15<=f) (_:iG Kn (ps.map (·.1)).reverse K1)
  (_:RS (Zf.mo { Z with B:=Z.B.bk c } Ls (ps.map (·.2)).reverse) (fkS ps F) Ix H t K1 (J4 f d K1 B1>>=λx=>g (Bj (ps.map (·.1)).reverse x.1,x.2))):BrI Z Ls F Kn d l g σ0 m σ H
section
variable {β:Type}{Z:Zf β}{H:Hp}{p:GH β}
theorem pi {e f:IY}{te:TE}(hL:H L=GM (.lst us)) (he:PE X e te) (hv: ∀R:VK,R (.ref L) H->te σ H R) (q:Pe X f σ H λv H1=> ∃(Z:Zf β) (F':Gm (Fk×V)) (b':HH) (t':Gw) (WL:GA) (p':GH β),wq Z L/\us.length<GV/\RS (Z.mo L us) F' b' H1 t' WL p'/\(∀H2,RS (Z.mo L (us++[v])) F' b' H2 t' WL p'->Bd X ss D σ H2))
  (hb:JK e "append" X.env (eval e X.env)=eval e X.env:=by rfl) (Ms:Hb [f] X.env=[(IN,eval f X.env)]:=by rfl) (hp:jY p2 p4:=by rfl):
  Bd X (.Expr (.Call (.Attribute e "append" p2) [f] [] p4) p5::ss) D σ H:=by
 refine Ed he hv hL (q.mono λv H1 z=>?_) hb Ms hp;obtain⟨Z,F',b',t',WL,p',N,h1,R',h2⟩:=z;exact#[us,R'.QH,h1,h2 _ (R'.push N)]
theorem og {te:TE}(Y:RX X Z.a Z.E) (he:PE X e te) (hv: ∀Q:VK,Q (.str (sb u)) H->te (GM (.ref Z.B.r)::σ) H Q) (R:RS Z F b H t K1 p) (hc:K1.values.contains u=Ix) (hf:K2.funs=K1.funs) (hl:K2.values.length+1=K1.values.length) (hk: ∀v,K2.values.contains v=(!decide (v=u)&&K1.values.contains v))
  (q: ∀H',RS Z F b H' t K2 p->Bd X ss D (GM (.ref Z.B.r)::σ) H') (hp:jY p2 p4:=by rfl) (Ms:Hb [e] X.env=[(IN,eval e X.env)]:=by rfl):
  Bd X (.Expr (.Call (.Attribute (.Name "reader" p1) "forget" p2) [e] [] p4) p5::ss) D (GM (.ref Z.B.r)::σ) H:=by
 obtain⟨n,S⟩:=R.S;obtain⟨dr,er⟩:=S.rd.ins;obtain⟨kk,k1,k2,k3⟩:=S.kn.vals;obtain⟨hu,S'⟩:=S.WM hc hf hl hk k1;refine dQ (Y.m1 Y.T.Wh.c (rh Y.T) [01] aC S IO #[_,he,hv _ #[Z.B.r,dr,Z.B.q,Z.B.kd,Z.B.fn,Z.B.ds,Z.B.bl,n,u,kk,IO,er,k1,hu,?_]] hp Ms);exact q _ (R.go S' (fH (.inr (.inl IO))) R.l R.w)
end
theorem akj (T:Txt K mg a) (XC:XT K a) (IL:ql K a) (hk:8<=k)
  (G:T.Wu.O P w base k (qh a m λ_=>True)):
  T.VW.O P w base (k+1) (kJ a m):=by
 refine aki T XC hk T.VW.F afZ λIB A outer s H β B L H0 Ro F b t Kn Bs d fu g Q E hr hd hm hf hB hc=>?_;intro X D Z Y R q;have lL:=R.lL;have room:=R.room;refine c8 (Z:=Z.at t.length) Y agD R.at λH t1 R=>?_;have l1:t1.length+1<=t.length:=R.l;have R:=RS.back (Z:=Z) lL R;refine nB 2 Y R λLs H N R=>?_;refine ij Y.lv (BrI Z Ls F Kn (6-d) t.length g [GM (.ref B.r),GM (.int d),GM (.ref Ls),Id]) _ #[[],Kn,Bs,B.bl.c,t1,fu,IO,IO,by show 0+t1.length<_;lia,hB,by lia,by lia,iG.nil,R] ?_;rintro mm σ H ⟨ps,K1,B1,c,t2,f,rfl,rfl,ul,hB1,hc1,hf1,lo,R⟩;obtain⟨f,rfl⟩: ∃f',f=f'+1:=#[f-1,by lia];have N': ∀ {c:Gm (cf×V)},wq { Z with B:=Z.B.bk c } Ls:=#[N.n0,N.nm,N.nx,N.nq];have len:((ps.map (·.2)).reverse:Gm V).length=ps.length:=by rw[II,GG]
 refine lG (du (jx (Z:=Zf.mo { Z with B:=Z.B.bk c } Ls (ps.map (·.2)).reverse) Y R (lJ _ _ _ _).bind λnb=>#[_,IO,?_]));rw[dj R.tok X2];cases hs:(GQ t2 == J8 (Gr "}")) with
 |false=>
  have R1:RS (Zf.mo { Z with B:=Z.B.bk c } Ls (ps.map (·.2)).reverse) (fkS ps F) Ix H t2 K1 (KZ f (6-d) K1 B1>>=λs=>J4 f (6-d) s.2.1 s.2.2>>=λx=>g (Bj (ps.map (·.1)).reverse (.cons s.1 x.1),x.2)):=by
   have:=R.asf (BR hs);simp only[bind_assoc,pure_bind] at this;exact this
  refine dR (pi (β:=β) R.QH (pv 2) [08] #[_,Y.call2 #[G,hr,T.Wu.c,IO] (pv 1) [01] IO,(B.bk c).more Ls (ps.map (·.2)).reverse,t2.length,H0,Ro,fkS ps F,IN,t2,K1,B1,d,f,_,IO,hd,#[hm,IK],by lia,hB1,hc1,FD λs=>(lJ f (6-d) s.2.1 s.2.2).bind,R1.at,λs v H' t' c' kn hB' VX R2=>?_]);have l2:t'.length+1<=t2.length:=R2.l;have R2:=RS.back (Z:=Zf.mo { Z with B:=Z.B.bk c' } Ls (ps.map λx:Jo×V=>x.2).reverse) (l:=t2.length) (by show t2.length<=L;have:t.length<=L:=lL;lia) R2;refine#[{ Z with B:=Z.B.bk c' },_,_,_,_,_,N',by rw[len];exact HE (show ps.length<=4000 by lia) [01],R2,λH3 R3=>?_];refine kW #[_,l2,(s.1,v)::ps,s.2.1,s.2.2,c',t',f,IO,IO,(by rw[Gp];lia),hB',VX,(by lia),?_,?_]
  .rw[GZ,IT]
   exact lo.snoc kn
  .rw[GZ,GZ,IT,IT]
   simp only[uL];exact R3
 |true=>
  obtain⟨xp,r,rfl⟩:=zn R (beq_iff_eq.mp hs);refine cQ (Ee (Z:=Zf.at (Zf.mo { Z with B:=Z.B.bk c } Ls (ps.map (·.2)).reverse) ((J8 (Gr "}"),xp)::r).length) Y X2 (R.at.as (p':=HR>>=λ_=>g (Bj (ps.map (·.1)).reverse .nil,B1)) (bU (zA hs))) λH t5 R=>?_);have l5:t5.length+1<=((J8 (Gr "}"),xp)::r).length:=R.l;have R:=RS.back (Z:=Zf.mo { Z with B:=Z.B.bk c } Ls (ps.map λx:Jo×V=>x.2).reverse) (by show((J8 (Gr "}"),xp)::r).length<=L;have:t.length<=L:=lL;lia) R;have eK:K1=AT Kn (ps.map (·.1)).reverse:=by
   obtain⟨v1,f1⟩:=K1;unfold AT;rw[<-lo.vals,<-lo.funs]
  rw[eK] at R;generalize hss:(ps.map (·.1)).reverse=ss at R lo;generalize hus:(ps.map (·.2)).reverse=us at R len;refine yR 3 Y.lv Y.nd (pv 2) [08] (λi σ H=> ∃v:GF V,σ=[GM (.ref B.r),GM (.int d),GM (.ref Ls),v]/\RS (Zf.mo { Z with B:=Z.B.bk c } Ls us) (fkS ps F) Ix H t5 (AT Kn (ss.drop i)) (g (Bj ss .nil,B1))) #[Id,IO,R] (λ_ _ _ _ ⟨_,_,R⟩=>R.QH) ?_ ?_
  .rintro i y σ H hi ⟨v,rfl,R⟩
   rw[<-hus] at hi;obtain⟨s,j,hs,hj⟩:=aaO (F:=F) hi;rw[hss] at hs;have sa:aO a (fG (Zf.mo { Z with B:=Z.B.bk c } Ls us).B) H s y:=R.f hj;obtain⟨C,ty,Zq⟩:=IL.of sa;refine aY #[_,bS (aR bZ (by rfl) T.HN Iz (aa (pv 3) (aa (dg (by rfl) T.RA) ac))),_,_,_,_,IO,ty,Zq,_,IO,?_];cases hl:mG s with
   |none=>
    rw[Bz hs hl] at R;exact cQ (eY #[_,IO,R])
   |some x=>
    obtain⟨e1,rfl⟩:=EB hl;obtain⟨h1,h2,h3⟩:=lo.drop hs;unfold aO at sa;obtain⟨ue,⟨p,dx,rfl,mp,zp⟩,_⟩:=sa;exact dR (og (Z:=Zf.mo { Z with B:=Z.B.bk c } Ls us) Y (az (pv 3) IO) (λQ q=>#[p,_,dx,_,_,IO,zp,T.Pd,T.Nu,IO,q]) (K2:=AT Kn (ss.drop (i+1))) R h1 IO h2 h3 λH R=>eY (eY #[_,IO,R]))
  .rintro σ H ⟨v,rfl,R⟩
   have eL:us.length=ss.length:=by rw[len,<-hss,II,GG]
   rw[eL,VM] at R;have R1:=R.less N';refine aD #[_,pv 2,q (Bj ss .nil,B1) (.ref Ls) H t5 c hB1 (by lia) ?_];have R2:RS { Z with B:=Z.B.bk c } F Ix H t5 Kn (g (Bj ss .nil,B1)):=by
    have:=R1.cut ps.length;rw[show(fkS ps F).drop ps.length=F from Gm.drop_left' (by rw[GG])] at this;exact this
   refine R2.and #[us,#[Ls,IO,N.nm,R.QH],?_];rw[<-hss,<-hus,<-GY (Gm.reverse (ps.map (·.2)))];exact tN (F:=F) (by unfold aT;rfl) λe=>R1.f e
theorem BO:dE "for" (Gr "for"):=#[by decide+kernel,by decide+kernel,by decide+kernel]
section
variable {K:GA}{β:Type}{g:DI->GH β}{a:Im×Jp}
theorem aaP (h1:GI t "let"=IN) (h:GI t "for"=Ix):(KZ (k+1) d K B>>=g) t=(IU d>>=λn=>HR>>=λ_=>Ib K>>=λx=>IJ "in">>=λ_=>G9 k Jb K>>=λlo=>Hs "..">>=λ_=>G9 k Jb K>>=λhi=>
  Hs "{">>=λ_=>J4 k n (K.with x) B>>=λl=>g (.loop x lo hi l.1,K,l.2)) t:=by
 rw[bo (DZ h1 h)];simp only[bind_assoc,pure_bind]
theorem agO (h1:GI t "let"=IN) (h2:GI t "for"=IN) (h:GI t "if"=Ix):(KZ (k+1) d K B>>=g) t=(IU d>>=λn=>HR>>=λ_=>G9 k Jb K>>=λc=>Hs "{">>=λ_=>J4 k n K B>>=λa=>mi k n K c a>>=g) t:=by
 rw[bo (FX h1 h2 h)];simp only[bind_assoc]
theorem yX (h:GI t "else"=IN):(mi k n K c a>>=g) t=g (.cond c a.1 .nil,K,a.2) t:=by
 unfold mi;rw[bind_assoc];exact(bU (x:=IN) (r:=t) (by unfold WW;rw[GB (by rw[h];exact Gn)])).trans IO
theorem By (h:GI (x::r) "else"=Ix):(mi k n K c a>>=g) (x::r)=(HR>>=λ_=>Hs "{">>=λ_=>J4 k n K a.2>>=λb=>g (.cond c a.1 b.1,K,b.2)) (x::r):=by
 unfold mi;rw[bind_assoc];refine(bU (x:=Ix) (r:=r) (by unfold WW;rw[GD h];rfl)).trans ?_;rw[GD IO];simp only[bind_assoc,pure_bind]
 rfl
end
theorem agP (T:Txt K mg a) (XC:XT K a) (hk:8<=k) (G:pB P w K mg base a k)
  (G2:T.VW.O P w base k (kJ a m)):
  T.Wv.O P w base (k+1) (qh a (m+1) λt=>GI t "let"=IN/\GI t "for"=Ix):=by
 refine Al T XC hk T.Wv.F af3 (λ_=>rfl) λIB A outer s H β B L H0 Ro F b t Kn Bs d fu g Q E hr hd ho hf hB hc=>?_;intro X D Z en Y R q;have lL:=R.lL;have hm:Kn.values.length+(Z.at t.length).L<=4000:=R.room;obtain⟨dm,n1,n2⟩:=ho;obtain⟨xp,r,e⟩:=fO R (beq_iff_eq.mp n2);obtain⟨f,rfl⟩: ∃f,fu=f+1:=#[fu-1,by lia];have c:CB X "read_exp" ["reader","depth"] (bv a Ix G9 12 (Lv 13)):=#[G,hr,T.Sa.c,IO];have hF:16*(Z.at t.length).L+12<=f+16:=by show 16*t.length+12<=f+16;lia
 have R:=R.at.as (aaP n1 n2);generalize hl:t.length=l at R lL hF hm hc hf
 have nb:GQ t≠ .bad:=by rw[e];intro z;cases z
 subst e;refine uU (Z:=Z.at l) 2 Y hd nb R λlt R=>?_;refine jd (Z:=Z.at l) Y BO R λH t R=>?_;refine jG (Z:=Z.at l) 3 Y R λu H t ft R=>?_;refine l0 (Z:=Z.at l) Y XQ R λH t R=>?_;refine e9 (Z:=Z.at l) (d:=0) 4 Y c aG [08] R (pd λ_=>(bA "..").bind) (HB _) zB hF λe1 v1 H t R=>?_;refine c8 (Z:=Z.at l) Y XU R λH t R=>?_;refine e9 (Z:=Z.at l) (d:=0) 5 Y c aG [08] R (pd λ_=>(bA "{").bind) (HB _) zB hF λe2 v2 H t R=>?_;refine ig (Z:=Z.at l) Y (pv 3) [08] ft hm R λH R=>?_;have l7:t.length+1<=l:=R.l;refine aW 6 Y.nd #[_,Y.call2 #[G2,hr,T.VW.c,IO] (pv 2) [01] IO,B,l,H0,Ro,_,_,t,Kn.with u,Bs,d+1,f,_,IO,lt,by lia,by lia,hB,by lia,R,λx v3 H t c' hB' VX R=>?_];refine mf (Z:=#[a,E,B.bk c',l,H0,Ro]) Y (pv 3) [08] ft R λH R=>?_;refine iN (Z:=#[a,E,B.bk c',l,H0,Ro]) Y (Dp T) (aa (pv 3) (aa (pv 4) (aa (pv 5) (aa (pv 6) ac)))) [08] R IO λw H i R=>?_;have R:=RS.back (Z:=#[a,E,B.bk c',L,H0,Ro]) lL R;refine q (.loop u e1 e2 x.1,Kn,x.2) w H t c' IO hB' VX ((R.cut 3).and ?_);obtain⟨us,la,sa⟩:qI a (fG B) H x.1 v3:=R.f (i:=0) IO;show aO a (fG B) H (.loop u e1 e2 x.1) w;unfold aO;exact#[v1,v2,v3,us,i,R.f (i:=2) IO,R.f (i:=1) IO,la,sa]
theorem agQ (T:Txt K mg a) (XC:XT K a) (hk:8<=k) (G:pB P w K mg base a k)
  (G2:T.VW.O P w base k (kJ a m)):
  T.Ww.O P w base (k+1) (qh a (m+1) λt=>GI t "let"=IN/\GI t "for"=IN/\GI t "if"=Ix):=by
 refine Al T XC hk T.Ww.F af4 (λ_=>rfl) λIB A outer s H β B L H0 Ro F b t Kn Bs d fu g Q E hr hd ho hf hB hc=>?_;intro X D Z en Y R q;have lL:=R.lL;obtain⟨dm,n1,n2,n3⟩:=ho;obtain⟨xp,r,e⟩:=fO R (beq_iff_eq.mp n3);obtain⟨f,rfl⟩: ∃f,fu=f+1:=#[fu-1,by lia];have c:CB X "read_exp" ["reader","depth"] (bv a Ix G9 12 (Lv 13)):=#[G,hr,T.Sa.c,IO];have hF:16*(Z.at t.length).L+12<=f+16:=by show 16*t.length+12<=f+16;lia
 have R:=R.at.as (agO n1 n2 n3);generalize hl:t.length=l at R lL hF hc hf
 have nb:GQ t≠ .bad:=by rw[e];intro z;cases z
 subst e;refine uU (Z:=Z.at l) 2 Y hd nb R λlt R=>?_;refine jd (Z:=Z.at l) Y xQ R λH t R=>?_;refine e9 (Z:=Z.at l) (d:=0) 3 Y c aG [08] R (pd λ_=>(bA "{").bind) (HB _) zB hF λe1 v1 H t R=>?_;have l4:t.length+1<=l:=R.l;have cb:CB X "read_braces" ["reader","depth"] (kJ a m):=#[G2,hr,T.VW.c,IO];refine aW 4 Y.nd #[_,Y.call2 cb (pv 2) [01] IO,B,l,H0,Ro,_,_,t,Kn,Bs,d+1,f,_,IO,lt,by lia,by lia,hB,by lia,R,λx v3 H t c3 hB3 hc3 R=>?_];refine nB (Z:=#[a,E,B.bk c3,l,H0,Ro]) 5 Y R λLs H N R=>?_;have R:=(R.less N).and (e:=(.sts .nil, .ref Ls)) #[[],#[Ls,IO,N.nm,R.QH],by unfold aT;rfl];have l5:t.length+1<=l:=R.l;refine jR (λσ' H'=> ∃(y:Im) (B5:Jp) (v5:V) (c5:Gm (cf×V)) (t5:Gw),σ'=[GM (.ref B.r),GM (.int d),GM (.int ((d+1:GJ):Int)),GM v1,GM v3,GM v5]/\Bk (B.bl.at_ c5) B5/\c5.length+t5.length<=4000/\RS #[a,E,B.bk c5,l,H0,Ro] ((.sts y,v5)::(.sts x.1,v3)::(.e e1,v1)::F) Ix H' t5 Kn (g (.cond e1 x.1 y,Kn,B5))) ?_ ?_
 .rintro σ H ⟨y,B5,v5,c5,t5,rfl,hB5,hc5,R⟩
  refine iN (Z:=#[a,E,B.bk c5,l,H0,Ro]) Y (XG T) (aa (pv 3) (aa (pv 4) (aa (pv 5) ac))) [08] R IO λw H i R=>?_;have R:=RS.back (Z:=#[a,E,B.bk c5,L,H0,Ro]) lL R;refine q (.cond e1 x.1 y,Kn,B5) w H t5 c5 IO hB5 hc5 ((R.cut 3).and ?_);obtain⟨us,la,sa⟩:qI a (fG B) H x.1 v3:=R.f (i:=1) IO;obtain⟨us5,la5,sa5⟩:qI a (fG B) H y v5:=R.f (i:=0) IO;show aO a (fG B) H (.cond e1 x.1 y) w;unfold aO;exact#[v1,v3,us,v5,us5,i,R.f (i:=2) IO,la,sa,la5,sa5]
 .refine du (wM (Z:=#[a,E,B.bk c3,l,H0,Ro]) Y R (λb=>en _ t b (R.as (yX (cN b "else"))).w) (λnb e=>#[_,IO,cQ #[.nil,x.2, .ref Ls,c3,t,IO,hB3,hc3,R.as (yX ((cz R.tok sX).symm.trans e))]]) λ{y r} et e nb=>?_)
  subst et;have e:=(cz R.tok sX).symm.trans e;obtain⟨y,yp⟩:=y;obtain rfl:y=_:=beq_iff_eq.mp e;refine#[XX,_,By e,λH R=>#[_,IO,dR (aW 5 Y.nd #[_,Y.call2 cb (pv 2) [01] IO,B.bk c3,l,H0,Ro,_,_,r,Kn,x.2,d+1,f,_,IO,lt,by lia,by rw[Gp] at l5;lia,hB3,by rw[Gp] at hc3;show c3.length+_<=_;lia,R.cut 1,λy v5 H t c5 hB5 hc5 R=>eY #[y.1,y.2,v5,c5,t,IO,hB5,hc5,R]])]]
abbrev aaQ (P:Hm) (w:HS) (K:Gu) (mg:G0->GF Gy) (base:Ij) (a:bJ) (k:GJ) (f:Gx) (fd:HX) (ok:Gw->Prop):Prop:=b8 P w K mg base (jF P w) k f fd ["reader"] (oj a (λ_=>[]) λ_ t=>ok t)
theorem agR (T:Txt K mg a) (XC:XT K a) (hk:8<=k)
  (G1:aaQ P w K mg base a k a.acK a.W4 λt=>GI t "let"=Ix)
  (G2:T.Wv.O P w base k (qh a m λt=>GI t "let"=IN/\GI t "for"=Ix))
  (G3:T.Ww.O P w base k (qh a m λt=>GI t "let"=IN/\GI t "for"=IN/\GI t "if"=Ix))
  (G4:aaQ P w K mg base a k a.acM a.W6 λt=>GI t "let"=IN/\GI t "for"=IN/\GI t "if"=IN/\GI t "block"=Ix)
  (G5:aaQ P w K mg base a k a.acL a.W5 λt=>GI t "let"=IN/\GI t "for"=IN/\GI t "if"=IN/\GI t "block"=IN):
  T.Wu.O P w base (k+1) (qh a m λ_=>True):=by
 refine Al T XC hk T.Wu.F af0 (λ_=>rfl) λIB A outer s H β B L H0 Ro F b t Kn Bs d fu g Q E hr hd ho hf hB hc=>?_;intro X D Z en Y R q;have see: ∀ {ss:Gm Stmt}{A:Gm Stmt}{s:String}{v:G0}{j:GJ}{p1 p2 p3 p4 p5:Pos}(lit:dE v (Gr s)) (hp:jY p2 p4),(GI t s=Ix->Bd X A (D.to X ss) [GM (.ref B.r),GM (.int d)] H)->(GI t s=IN->Bd X ss D [GM (.ref B.r),GM (.int d)] H)->Bd X (.If (.Call (.Attribute (.Name "reader" p1) "sees" p2) [.Constant (.str v) j p3] [] p4) A [] p5::ss) D [GM (.ref B.r),GM (.int d)] H:=λlit hp yes no=>
  aY (du (jx (Z:=Z) Y R (mH _ _ _ _).bind (λnb=>#[_,IO,by rw[cz R.tok lit];exact bi yes no]) hp))
 refine see BJ IO (λe1=>aD (fN Y #[G1,hr,T.Ze.c,IO] #[B,L,H0,Ro,F,b,t,Kn,Bs,d,fu,g,IO,hd,e1,hf,hB,hc,en,R,q])) λe1=>?_;refine see BO IO (λe2=>aD #[_,Y.call2 #[G2,hr,T.Wv.c,IO] (pv 1) [01] IO,B,L,H0,Ro,F,b,t,Kn,Bs,d,fu,g,IO,hd,#[ho.1,e1,e2],hf,hB,hc,en,R,q]) λe2=>?_;refine see xQ IO (λe3=>aD #[_,Y.call2 #[G3,hr,T.Ww.c,IO] (pv 1) [01] IO,B,L,H0,Ro,F,b,t,Kn,Bs,d,fu,g,IO,hd,#[ho.1,e1,e2,e3],hf,hB,hc,en,R,q]) λe3=>?_;refine see vj IO (λe4=>aD (fN Y #[G4,hr,T.Zj.c,IO] #[B,L,H0,Ro,F,b,t,Kn,Bs,d,fu,g,IO,hd,#[e1,e2,e3,e4],hf,hB,hc,en,R,q])) λe4=>?_;exact aD (fN Y #[G5,hr,T.Zi.c,IO] #[B,L,H0,Ro,F,b,t,Kn,Bs,d,fu,g,IO,hd,#[e1,e2,e3,e4],hf,hB,hc,en,R,q])
theorem uY {H:Hp}{Q:VK}{E:XK}(h:kJ a 0 vs H Q E):False:=by
 obtain⟨B,L,H0,Ro,F,b,t,Kn,Bs,d,f,g,e,hd,hm,_⟩:=h;lia
theorem Aq (T:Txt K mg a) (XC:XT K a) (IL:ql K a) (hk:8<=k) (G:pB P w K mg base a k): ∀m:GJ,
  T.VW.O P w base (k+3+3*m) (kJ a m):=by
 intro m
 induction m with
 |zero=>exact kr T.VW.F afZ (λ_ _ _ _ h=>(uY h).elim) (λ_ _ _ _ _ _ _ _ _ h=>(uY h).elim)
 |succ m ih=>
  have Pa: ∀ {v:G0}{s:String},dE v (Gr s)->T.Wx.O P w base (k+2) (gT a [.str v] (dP s) 12 Ix Ix .e):=λl=>(aaK l T XC hk G).mono (by lia)
  have Am:=agJ T XC hk G
  have Le:=agL T XC (by lia) (agF T XC hk G)
  have St:=agM T XC (by lia) Pa (agG X3 T XC (by lia) (aaK X3 T XC hk G))
  have Bl:=agN T XC (by lia) Pa (agG uT T XC (by lia) (aaK uT T XC hk G)) (Am.mono (by lia))
  have Fo:=agP T XC (by lia) (G.mono (by lia:k<=k+3+3*m)) ih
  have If_:=agQ T XC (by lia) (G.mono (by lia:k<=k+3+3*m)) ih
  have Sm:=agR T XC (by lia) (Le.mono (by lia)) Fo If_ (Bl.mono (by lia)) (St.mono (by lia))
  have:=akj T XC IL (by lia) Sm;exact this.mono (by lia)
theorem vi:dE "const" (Gr "const"):=#[by decide+kernel,by decide+kernel,by decide+kernel]
abbrev Rb.tp (B:Rb) (dc:Gm (cf×V)) (bp:Gx) (bc:Gm (cf×V)):Rb:= { B with ds:=#[B.ds.p,dc,B.ds.x],bl:=#[bp,bc,B.bl.x] }
def EN (B:Rb) (H:Hp):Prop:= ∀b,fG B b->H b=Id
inductive pS (a:bJ) (ok:Gw->Prop) (vs:Gm V) (H:Hp) (Q:VK) (E:XK):Prop
 |mk {β:Type}(B:Rb) (L:GJ) (H0:Hp) (Ro:β->Gw->Prop) (F:Gm (Fk×V)) (b:HH) (t:Gw) (Kn:GA) (nf:GJ) (Ds:Gm Gv) (f:GJ) (g:iF->GH β) (_:vs=[.ref B.r]) (_:ok t) (_:16*t.length<=f) (_:Bk B.ds Ds) (_:B.ds.c.length+t.length<=4000) (_:Kn.funs.length+nf=9) (_:EN B H0) (_:RS ⟨a,E,B,L,H0,Ro⟩ F b H t Kn (i6 f Kn nf Ds>>=g))
  (_: ∀x v H' t' dc bp bc,(∀u,has dc u=x.2.2.2.contains u)->dc.length+t'.length<=4000->x.2.1.funs.length+x.2.2.1=9->EN (B.tp dc bp bc) H0->RS #[a,E,B.tp dc bp bc,L,H0,Ro] ((.top x.1,v)::F) Ix H' t' x.2.1 (g x)->Q v H'):pS a ok vs H Q E
inductive Gf (a:bJ) (vs:Gm V) (H:Hp) (Q:VK) (E:XK):Prop
 |mk {β:Type}(B:Rb) (L:GJ) (H0:Hp) (Ro:β->Gw->Prop) (F:Gm (Fk×V)) (b:HH) (t:Gw) (Kn Kf:GA) (JI:Gv) (g:Gv->GH β) (_:vs=[.ref B.r, .str (sb JI)]) (_:dE (sb JI) JI) (_:HQ.contains JI=IN) (_: ∀u,Kf.taken u=(decide (u=JI)||Kn.taken u)) (_:RS ⟨a,E,B,L,H0,Ro⟩ F b H t Kn (Ib Kf>>=g))
  (_: ∀u H' t',Kn.values.contains u=IN->RS #[a,E,B,L,H0,Ro] F Ix H' t' (Kn.with u) (g u)->Q (.str (sb u)) H'):Gf a vs H Q E
section
variable {k m:GJ}{x IW:G0}{st:Stmt}{f:Gx}{fd:HX}{N:Gm G0}{ok:Gw->Prop}
theorem F3 (T:Txt K mg a) (XC:XT K a) (hk:8<=k) (F:sN K x IW st f fd) (S:ax N ["reader"] (ah st))
  (K6: ∀(IB:Gy) (A:IA) (outer:Gm Env) (s:GC) (H:Hp) {β:Type}(B:Rb) (L:GJ) (H0:Hp) (Ro:β->Gw->Prop) (F:Gm (Fk×V)) (b:HH) (t:Gw) (Kn:GA) (nf:GJ) (Ds:Gm Gv) (fu:GJ) (g:iF->GH β) (Q:VK) (E:XK),cy k (A.deeper (Lc IW (ah st) s.heap.objs.size f IB))->ok t->16*t.length<=fu->Bk B.ds Ds->B.ds.c.length+t.length<=4000->Kn.funs.length+nf=9->EN B H0->
   let X:=gW (jF P w) P w K mg base N IW (ah st) f IB A outer s H E
   let D:dz:= { nx:=λ_ H'=>Q .Kk H',rt:=Q }
   let Z:Zf β:=#[a,E,B,L,H0,Ro]
   RX X a E->RS Z F b H t Kn (i6 fu Kn nf Ds>>=g)->(∀x v H' t' dc bp bc,(∀u,has dc u=x.2.2.2.contains u)->dc.length+t'.length<=4000->x.2.1.funs.length+x.2.2.1=9->EN (B.tp dc bp bc) H0->RS #[a,E,B.tp dc bp bc,L,H0,Ro] ((.top x.1,v)::F) Ix H' t' x.2.1 (g x)->Q v H')->Bd X (bq st) D (L2.start N [.ref B.r]) H):b8 P w K mg base (jF P w) (k+1) f fd ["reader"] (pS a ok):=by
 refine kr F S [03] [02];obtain⟨B,L,H0,Ro,F,b,t,Kn,nf,Ds,fu,g,rfl,h1,h2,h3,h4,h5,h6,R,q⟩:=h;exact K6 IB A outer s H B L H0 Ro F b t Kn nf Ds fu g Q E hr h1 h2 h3 h4 h5 h6 (kE T XC hk S hr) R q
theorem akk (T:Txt K mg a) (XC:XT K a) (hk:8<=k) (F:sN K x IW st f fd) (S:ax N ["reader","function"] (ah st))
  (K6: ∀(IB:Gy) (A:IA) (outer:Gm Env) (s:GC) (H:Hp) {β:Type}(B:Rb) (L:GJ) (H0:Hp) (Ro:β->Gw->Prop) (F:Gm (Fk×V)) (b:HH) (t:Gw) (Kn Kf:GA) (JI:Gv) (g:Gv->GH β) (Q:VK) (E:XK),cy k (A.deeper (Lc IW (ah st) s.heap.objs.size f IB))->dE (sb JI) JI->HQ.contains JI=IN->(∀u,Kf.taken u=(decide (u=JI)||Kn.taken u))->
   let X:=gW (jF P w) P w K mg base N IW (ah st) f IB A outer s H E
   let D:dz:= { nx:=λ_ H'=>Q .Kk H',rt:=Q }
   let Z:Zf β:=#[a,E,B,L,H0,Ro]
   RX X a E->RS Z F b H t Kn (Ib Kf>>=g)->(∀u H' t',Kn.values.contains u=IN->RS #[a,E,B,L,H0,Ro] F Ix H' t' (Kn.with u) (g u)->Q (.str (sb u)) H')->Bd X (bq st) D (L2.start N [.ref B.r, .str (sb JI)]) H):b8 P w K mg base (jF P w) (k+1) f fd ["reader","function"] (Gf a):=by
 refine kr F S [03] [02];obtain⟨B,L,H0,Ro,F,b,t,Kn,Kf,JI,g,rfl,h1,h2,h3,R,q⟩:=h;exact K6 IB A outer s H B L H0 Ro F b t Kn Kf JI g Q E hr h1 h2 h3 (kE T XC hk S hr) R q
end
section
variable {K:GA}{β:Type}{g:iF->GH β}
theorem vB (h:GI t "const"=Ix):(i6 k K n D>>=g) t=(HR>>=λ_=>Ib K>>=λx=>eP k K>>=λe=>g (.const x e,K.with x,n,D)) t:=by
 rw[bo (show i6 k K n D t=(HR>>=λ_=>xB k K n D:GH iF) t by unfold i6;rw[GD h])];simp only[xB,eP,bind_assoc,pure_bind]
end
theorem agS (T:Txt K mg a) (XC:XT K a) (hk:8<=k) (G:T.W8.O P w base k (gT a [] eP 12 IN Ix .e)):
  T.Wq.O P w base (k+1) (pS a λt=>GI t "const"=Ix):=by
 refine F3 T XC hk T.Wq.F afU λIB A outer s H β B L H0 Ro F b t Kn nf Ds fu g Q E hr ho hf hB hc hn hN=>?_;intro X D Z Y R q;have lL:=R.lL;have hm:Kn.values.length+(Z.at t.length).L<=4000:=R.room;obtain⟨xp,r,rfl⟩:=fO R (beq_iff_eq.mp ho);have hF:16*(Z.at (((IZ (Gr "const"),xp)::r).length)).L+12<=fu+16:=by show 16*((IZ (Gr "const"),xp)::r).length+12<=fu+16;lia
 refine jd (Z:=Z.at _) Y vi (R.at.as (vB ho)) λH t R=>?_;refine jG (Z:=Z.at _) 1 Y R λu H t ft R=>?_;refine n8 (Z:=Z.at _) 2 Y #[G,hr,T.W8.c,IO] R hF λe v H t R=>?_;refine ig (Z:=Z.at _) Y (pv 1) [08] ft hm R λH R=>?_;refine iN (Z:=Z.at _) Y (uw T) (aa (pv 1) (aa (pv 2) ac)) [08] R IO λw H i R=>?_;have l:t.length+1<=r.length+1:=R.l;have R:=RS.back (Z:=Z) lL R;refine q (.const u e,Kn.with u,nf,Ds) w H t B.ds.c B.bl.p B.bl.c hB (by rw[Gp] at hc;lia) hn hN ((R.cut 1).and ?_);exact#[v,i,R.f (i:=0) IO]
theorem agT (T:Txt K mg a) (XC:XT K a):T.Zd.O P w base 9 (Gf a):=by
 refine akk T XC (k:=8) [01] T.Zd.F afX λIB A outer s H β B L H0 Ro F b t Kn Kf JI g Q E hr lit UI hK=>?_;intro X D Z Y R q;have lL:=R.lL;have hm:Kn.values.length+(Z.at t.length).L<=4000:=R.room;refine aY (du (nj (Z:=Z) Y R (pv 1) [08] (λbd=>(gA Kf).bind.Mm bd R.w) λnb=>#[_,IO,?_]));rw[cz R.tok lit];refine bi (λe=>?_) λe=>?_
 .obtain⟨xp,r,rfl⟩:=fO R (beq_iff_eq.mp e)
  refine dQ (sL (Z:=Z) (i:=4) Y (bB (by rfl) T.Pj) R nb ?_);rw[bo (q:=(Hi 4:GH Gv)) (by rw[e7 UI,GD (by rw[hK,Hy IO];rfl)])]
  rfl
 .have en:Ib Kf t=Ib Kn t:=by
   obtain⟨⟨x,xp⟩,r,rfl⟩:=R.cons;cases x with
   |word u=>
    cases RH:HQ.contains u with
    |true=>rw[jr RH,jr RH]
    |false=>
     have nf:decide (u=JI)=IN:=Ha λz=>by
      have e:(IZ u == IZ JI)=IN:=e;rw[z,IG] at e;cases e
     rw[e7 RH,e7 RH,hK,nf];rfl
   |num m=>rfl
   |sign s=>rfl
   |eof=>rfl
   |bad=>rfl
  refine jG (Z:=Z.at t.length) 2 Y (R.at.asf en) λu H t ft R=>?_;refine ig (Z:=Z.at _) Y (pv 2) [08] ft hm R λH R=>?_;exact aD (bV 2 (q u H t (j6 ft) (RS.back (Z:=Z) lL R)))
def gb (f n:GJ) (K:GA):GH (Gm Gv):=LJ ",">>=λm=>(if m=Ix then Lf f n K else(Hs ")">>=λ_=>Hz []))
section
variable {K:GA}{β:Type}{g:Gm Gv->GH β}
theorem qO (hn:n≠0):(Lf (f+1) n K>>=g) t=(Ib K>>=λx=>gb f (n-1) (K.with x)>>=λl=>g (x::l)) t:=by
 rw[bo (zO hn),bind_assoc];have e: ∀x,((LJ ",">>=λm=>(if m=Ix then(Lf f (n-1) (K.with x)>>=λl=>Hz (x::l)) else(Hs ")">>=λ_=>Hz [x])):GH (Gm Gv))>>=g)=(gb f (n-1) (K.with x)>>=λl=>g (x::l)):=λx=>by
  unfold gb;rw[bind_assoc,bind_assoc]
  congr 1
  funext m
  cases m with
  |true=>rw[GD IO,GD IO,bind_assoc];simp only[pure_bind]
  |false=>rw[GB Gn,GB Gn,bind_assoc,bind_assoc];simp only[pure_bind]
 simp only[e]
theorem xo (no:Hu t ","=IN):(gb f n K>>=g) t=(Hs ")">>=λ_=>g []) t:=by
 unfold gb;rw[bind_assoc];refine(bU (x:=IN) (r:=t) (by unfold LJ;rw[GB (by rw[no];exact Gn)])).trans ?_;rw[GB Gn,bind_assoc];simp only[pure_bind]
theorem uh {x:HW×HJ}(yes:Hu (x::r) ","=Ix):(gb f n K>>=g) (x::r)=(HR>>=λ_=>Lf f n K>>=g) (x::r):=by
 unfold gb;rw[bind_assoc];refine(bU (x:=Ix) (r:=r) (by unfold LJ;rw[GD yes];rfl)).trans ?_;rw[GD IO]
 rfl
theorem oG (f n:GJ) (K:GA):a8 (gb f n K):=(mO ",").strict λm=>by
 cases m with
 |true=>
  rw[GD IO];exact jZ f n K
 |false=>
  rw[GB Gn];exact(bA ")").bind
end
theorem pR {K:GA}{f u:Gv} :(#[vs++f::K.values,K.funs]:GA).taken u=(decide (u=f)||(⟨vs++K.values,K.funs⟩:GA).taken u):=by
 unfold Ow;rw[<-HH.or_assoc]
 congr 1
 rw[Ip,Ox,Ii,HV,HV,HG,HG,Hc];constructor
 .rintro(h|h|h)
  .exact .inr (.inl h)
  .exact .inl h
  .exact .inr (.inr h)
 .rintro(h|h|h)
  .exact .inr (.inl h)
  .exact .inl h
  .exact .inr (.inr h)
theorem fJ {α β:Type}{g:α->GH β}(t:Gw):((Hi i:GH α)>>=g) t=Hi i t:=rfl
section
variable {β:Type}{Z:Zf β}{H:Hp}{Q:VK}{p:GH β}
theorem yr {e:IY}{i:GJ}(Y:RX X Z.a Z.E) (he:PE X e (tC (.int i))) (R:RS Z F b H t Kn p) (h:p t=Hi i t) (hp:jY p2 p4:=by rfl) (Ms:Hb [e] X.env=[(IN,eval e X.env)]:=by rfl):
  Pe X (.Call (.Attribute (.Name "reader" p1) "fail" p2) [e] [] p4) (GM (.ref Z.B.r)::σ) H Q:=by
 obtain⟨n,S⟩:=R.S;obtain⟨⟨x,xp⟩,t',rfl,tok,QY,MS,_⟩:=S.wh.first;refine Y.m1 Y.T.Vu.c (gi Y.T Y.C) [01] Y.up S IO #[_,he,Z.B.r,Z.B.q,Z.B.kd,Z.B.fn,Z.B.ds,Z.B.bl,n,(x,xp),t',i,IO,S.rd,?_] hp Ms;have w:=R.w;have w:=agj (p':=Hi i) h w;rw[aaz] at w;exact w H R.k
end
inductive aaR (a:bJ) (vs:Gm V) (H:Hp) (Q:VK) (E:XK):Prop
 |mk {β:Type}(B:Rb) (L:GJ) (H0:Hp) (Ro:β->Gw->Prop) (F:Gm (Fk×V)) (b:HH) (t:Gw) (Kn:GA) (JI:Gv) (f:GJ) (g:Gm Gv->GH β) (_:vs=[.ref B.r, .str (sb JI)]) (_:dE (sb JI) JI) (_:HQ.contains JI=IN) (_:t.length<f) (_:RS ⟨a,E,B,L,H0,Ro⟩ F b H t Kn (Lf f 6 (Kn.with JI)>>=g))
  (_: ∀ps v H' t',ps.length<=6->ps.Nodup->(∀x∈ps,x∉Kn.values)->RS #[a,E,B,L,H0,Ro] ((.ps ps,v)::F) Ix H' t' #[ps.reverse++Kn.values,Kn.funs] (Hs ")">>=λ_=>g ps)->Q v H'):aaR a vs H Q E
inductive PsI {β:Type}(Z:Zf β) (Ls:Gx) (F:Gm (Fk×V)) (Kn:GA) (JI:Gv) (g:Gm Gv->GH β) (σ0:L2.St) (m:GJ) (σ:L2.St) (H:Hp):Prop
 |mk (ps:Gm Gv) (t:Gw) (f:GJ) (_:m=t.length) (_:σ=σ0) (_:ps≠[]) (_:ps.length<=6) (_:ps.Nodup) (_: ∀x∈ps,x∉Kn.values) (_:t.length<f)
  (_:RS (Z.mo Ls (iY ps)) F Ix H t #[ps.reverse++Kn.values,Kn.funs] (gb f (6-ps.length) #[ps.reverse++JI::Kn.values,Kn.funs]>>=λl=>g (ps++l))):PsI Z Ls F Kn JI g σ0 m σ H
section
variable {k m:GJ}{x IW:G0}{st:Stmt}{f:Gx}{fd:HX}{N:Gm G0}
theorem akl (T:Txt K mg a) (XC:XT K a) (hk:8<=k) (F:sN K x IW st f fd) (S:ax N ["reader","function"] (ah st))
  (K6: ∀(IB:Gy) (A:IA) (outer:Gm Env) (s:GC) (H:Hp) {β:Type}(B:Rb) (L:GJ) (H0:Hp) (Ro:β->Gw->Prop) (F:Gm (Fk×V)) (b:HH) (t:Gw) (Kn:GA) (JI:Gv) (fu:GJ) (g:Gm Gv->GH β) (Q:VK) (E:XK),cy k (A.deeper (Lc IW (ah st) s.heap.objs.size f IB))->dE (sb JI) JI->HQ.contains JI=IN->t.length<fu->
   let X:=gW (jF P w) P w K mg base N IW (ah st) f IB A outer s H E
   let D:dz:= { nx:=λ_ H'=>Q .Kk H',rt:=Q }
   let Z:Zf β:=#[a,E,B,L,H0,Ro]
   RX X a E->RS Z F b H t Kn (Lf fu 6 (Kn.with JI)>>=g)->(∀ps v H' t',ps.length<=6->ps.Nodup->(∀x∈ps,x∉Kn.values)->RS ⟨a,E,B,L,H0,Ro⟩ ((.ps ps,v)::F) Ix H' t' ⟨ps.reverse++Kn.values,Kn.funs⟩ (Hs ")">>=λ_=>g ps)->Q v H')->Bd X (bq st) D (L2.start N [.ref B.r, .str (sb JI)]) H):b8 P w K mg base (jF P w) (k+1) f fd ["reader","function"] (aaR a):=by
 refine kr F S [03] [02];obtain⟨B,L,H0,Ro,F,b,t,Kn,JI,fu,g,rfl,h1,h2,h3,R,q⟩:=h;exact K6 IB A outer s H B L H0 Ro F b t Kn JI fu g Q E hr h1 h2 h3 (kE T XC hk S hr) R q
theorem agU (T:Txt K mg a) (XC:XT K a):T.Zc.O P w base 10 (aaR a):=by
 refine akl T XC (k:=9) [01] T.Zc.F afW λIB A outer s H β B L H0 Ro F b t Kn JI fu g Q E hr lit UI hf=>?_;intro X D Z Y R q;have lL:=R.lL;have one: ∀ {σ:L2.St}{H:Hp}{Q:VK}{p1 p2 p3 p4:Pos},Gf a [.ref B.r, .str (sb JI)] H Q E->Pe X (.Call (.Name "read_parameter" p1) [.Name "reader" p2, .Name "function" p3] [] p4) (GM (.ref B.r)::GM (.str (sb JI))::σ) H Q:=λh=>#[_,aq (agT T XC) hr (by rfl) T.Zd.c Y.up (aa Y.rd (aa (pv 1) ac)),h]
 obtain⟨f,rfl⟩: ∃f,fu=f+1:=#[fu-1,by lia];refine aW 2 Y.nd (rE (aX (one #[B,t.length,H0,Ro,F,IN,t,Kn,Kn.with JI,JI,_,IO,lit,UI,λu=>pR (vs:=[]),R.at.as (qO [01]),λu H t1 fv R=>ca #[by show 1<=GV;decide,λLs hL=>?_]])));have l1:t1.length+1<=t.length:=R.l;have R:=RS.back (Z:=Z) lL R;have N:=R.nwl hL;have fr: ∀ {vs:Gm Gv}{u:Gv},vs.contains u=IN->u∉vs:=λh z=>by rw[HV.mpr z] at h;cases h
 refine ij Y.lv (PsI Z Ls F Kn JI g [GM (.ref B.r),GM (.str (sb JI)),GM (.ref Ls)]) _ #[[u],t1,f,IO,IO,IQ _ _,(by show 1<=6;decide),JW.mpr #[QC,Nq],λx hx=>by rw[Ht.mp hx];exact fr fv,by lia,R.more hL] ?_;rintro mm σ H ⟨ps,t,f,rfl,rfl,pne,p6,pnd,pfr,hf1,R⟩;have lL:=R.lL;have sl:(iY ps).length=ps.length:=GG ..;refine du (wM (Z:=(Zf.mo Z Ls (iY ps)).at t.length) Y R.at (λb=>(oG _ _ _).bind.Mm b R.w) (λnb e=>#[_,IO,cQ ?_]) λ{x r} et e nb=>?_)
 .have R:=R.as (xo ((dj R.tok xT).symm.trans e))
  rw[GY] at R;exact aD (bV 2 (q ps (.ref Ls) H t p6 pnd pfr ((R.less N).and #[Ls,IO,N.nm,R.QH])))
 .subst et
  have e:=(dj R.tok xT).symm.trans e;obtain⟨x,xp⟩:=x;obtain rfl:x=_:=beq_iff_eq.mp e;refine#[nfS,_,uh e,λH R=>#[_,IO,dR ?_]]
  have l5:r.length+1<=_:=R.l;obtain⟨f,rfl⟩: ∃f',f=f'+1:=#[f-1,by lia]
  have hLs:H Ls=GM (.lst (iY ps)):=RS.QH (Z:=Z.at ((J8 (Gr ","),xp)::r).length) (L:=Ls) (us:=iY ps) R;refine aY (cA cu (rb T.LR hLs (pv 2) [08] #[_,bB (by rfl) T.PV,IO,_,IO,?_]));rw[cS,sl];refine bi (λe=>?_) λe=>?_
  .have p6':ps.length=6:=by have:=Hn e;lia
   exact dQ (yr (Z:=(Zf.mo Z Ls (iY ps)).at _) (i:=7) Y (bB (by rfl) T.QS) R ((bo (q:=(Hi 7:GH (Gm Gv))) (wb (by lia))).trans (fJ _)))
  .have p5:ps.length<6:=by have:=Hq e;lia
   refine pi (β:=β) hLs (pv 2) [08] (one #[B.more Ls (iY ps),_,H0,Ro,F,Ix,r,_,_,JI,_,IO,lit,UI,λu=>pR,R.as (qO (by lia)),λu H t5 fv R=>?_]);have l6:t5.length+1<=_:=R.l;have R:=RS.back (Z:=Zf.mo Z Ls (iY ps)) lL R;refine#[Z,_,_,_,_,_,N,HE (show(iY ps).length<=6 by rw[sl];exact p6) [01],R,λH R=>?_];have ns:iY ps++[V.str (sb u)]=iY (ps++[u]):=by unfold iY;rw[IF];rfl
   rw[ns] at R;have nu:=fr fv;have er: ∀(V:Gm Gv),(ps++[u]).reverse++V=u::(ps.reverse++V):=λV=>by rw[Ul];rfl
   refine kW #[_,l6,ps++[u],t5,f,IO,IO,(λz=>by rw[SG] at z;exact nomatch z.2),by rw[Gq,Kp];lia,?_,λx hx z=>?_,by lia,?_]
   .rw[Qg]
    refine#[pnd,JW.mpr #[QC,Nq],λx hx y hy z=>?_];rw[Ht.mp hy] at z;exact nu (HG.mpr (.inl (KU.mpr (by rw[<-z];exact hx))))
   .rcases HG.mp hx with hx|hx
    .exact pfr x hx z
    .rw[Ht.mp hx] at z
     exact nu (HG.mpr (.inr z))
   .rw[er,er,Gq,Kp]
    have e2: ∀l,g (ps++[u]++l)=g (ps++u::l):=λl=>by rw[Hf];rfl
    simp only[e2];exact R
end
theorem Cd:dE "fun" (Gr "fun"):=#[by decide+kernel,by decide+kernel,by decide+kernel]
theorem fU.TQ {a:bJ}{H:Hp}{n:GJ}{t:Gw}{K1 K2:GA}(S:fU a B H n t K1) (hc: ∀u,K2.values.contains u=K1.values.contains u) (hl:K2.values.length=K1.values.length) (hf:K2.funs=K1.funs):fU a B H n t K2:=by
 obtain⟨kk,k1,k2,k3⟩:=S.kn.vals;obtain⟨ff,f1,f2⟩:=S.kn.funs;refine#[S.rd,S.wh,#[#[kk,k1,by rw[hl];exact k2,λu=>by rw[hc];exact k3 u],#[ff,f1,by rw[hf];exact f2],by rw[hl];exact S.kn.len,#[ff,f1,by rw[hf];exact S.kn.fl f1]],S.Sz,S.RY,S.P9,S.fr]
theorem CZ {Iw:Gm (cf×V)}{j:cf}{v:V}(h:cW Iw j=Id):(fX Iw j v).length=Iw.length+1:=by
 unfold fX;rw[GB,Gq]
 .rfl
 .intro z
  rw[KS] at z;obtain⟨p,hp,e⟩:=z;have:(cW Iw j).isSome=Ix:=by
   unfold cW;rw[JQ,NN];exact#[p,hp,e]
  rw[h] at this;cases this
theorem fU.Lg {a:bJ}{H:Hp}{B:Rb}{n:GJ}{t:Gw}{Kn:GA}{x:Gv}{c:GJ}{ff:Gm (cf×V)}(S:fU a B H n t Kn) (hx:Kn.taken x=IN) (e:H B.fn=GM (.dK ff)):
  fU a B (bf H B.fn (.dK (fX ff (nk x) (.int (c:GJ))))) n t { Kn with funs:=(x,c)::Kn.funs } :=by
 obtain⟨dr,er⟩:=S.rd.ins;obtain⟨as,all,h1,h2,h3⟩:=S.rd.toks;obtain⟨kk,k1,k2,k3⟩:=S.kn.vals;obtain⟨ff',f1,f2⟩:=S.kn.funs;have hy:=S.Sz;have hz:=S.RY;have fl:=S.kn.fl e;obtain rfl:ff'=ff:=by rw[e] at f1;cases f1;rfl
 obtain⟨d1,d2,d3,d4,d5,d6⟩:=S.P9;have nr:B.r≠B.fn:=λw=>by rw[w,e] at er;cases er
 have nq:B.q≠B.fn:=λw=>by rw[w,e] at h1;cases h1
 unfold Ow at hx;rw[MN] at hx;have none_:cW ff' (nk x)=Id:=by
  rw[f2];have:Kn.funs.find? (λf=>f.1 == x)=Id:=by
   rw[UQ];intro y hy z;have:=hx.2;rw[Qc] at this;exact this y hy z
  rw[this]
  rfl
 refine#[#[#[dr,by rw[af nr];exact er],as,all,by rw[af nq];exact h1,Paired.Np h2 λb x ⟨dx,ex⟩=>#[dx,?_],h3],S.wh,#[#[kk,by rw[af d1];exact k1,k2,k3],#[_,aj,λu=>?_],S.kn.len,#[_,aj,?_]],(by rw[af d4.symm];exact hy),(by rw[af d5.symm];exact hz),S.P9,λb xs h=>?_]
 .rw[af λw=>by rw[w,e] at ex;cases ex]
  exact ex
 .rw[vJ,Iy]
  by_cases w:u=x
  .rw[GD (by rw[w]),w,show((x,c).1 == x)=Ix from IG x]
   rfl
  .rw[GB λz=>w (fZ (Mq z)),show((x,c).1 == u)=IN from beq_eq_false_iff_ne.mpr (KY w)]
   exact f2 u
 .rw[CZ none_,fl]
  rfl
 .have e2:=S.fr b xs h
  rw[af λw=>by rw[w,e] at e2;cases e2];exact e2
theorem w9:gB X (.builtin "len") (λxs H Q=> ∃a Iw,xs=[V.ref a]/\vU X.prog X.w X.K a Iw/\Q (.int Iw.length) H):=by
 intro pins s σ H xs us Q I r h;obtain⟨a,Iw,rfl,kd,q⟩:=h;obtain⟨u,rfl,ru⟩:=kD r;cases ru;obtain⟨vs,dd,rel⟩:=kd.at_;have z:=kd.len;refine call_len_dict kd.no (dd _ I.NV) (by rw[<-rel.length];rw[Ng] at z;lia) ?_;rw[<-rel.length];exact#[.int Iw.length,H,I.tok _,#[_,IO],q]
theorem bM.is {M:Gx->Prop}{H:Hp}(h:bM M H us (.ref L)):H L=GM (.lst us):=by
 obtain⟨p,e,_,h⟩:=h;cases e;exact h
section
variable {β:Type}{Z:Zf β}{H:Hp}{p:GH β}
theorem RS.TQ (R:RS Z F b H t Kn p) (hc: ∀u,K2.values.contains u=Kn.values.contains u) (hl:K2.values.length=Kn.values.length) (hf:K2.funs=Kn.funs):RS Z F b H t K2 p:=by
 obtain⟨n,S⟩:=R.S;exact R.go (S.TQ hc hl hf) dh.refl R.l R.w
theorem RS.Lg (R:RS Z F b H t Kn p) (hx:Kn.taken x=IN) (e:H Z.B.fn=GM (.dK ff)):RS Z F b (bf H Z.B.fn (.dK (fX ff (nk x) (.int (c:GJ))))) t { Kn with funs:=(x,c)::Kn.funs } p:=by
 obtain⟨n,S⟩:=R.S;exact R.go (S.Lg hx e) (fH (.inr (.inr (.inl IO)))) R.l R.w
end
section
variable {K:GA}{β:Type}{g:iF->GH β}
def lc (k n:GJ) (K:GA) (D:Gm Gv) (g:iF->GH β) (x:Gv) (ps:Gm Gv):GH β:=eP k { K with values:=ps++K.values } >>=λe=>g (.func x ps e,{ K with funs:=(x,ps.length)::K.funs },n-1,D)
def mJ (k n:GJ) (K:GA) (D:Gm Gv) (g:iF->GH β) (x:Gv):GH β:=LJ ")">>=λm=>(if m=Ix then Vbemac.give [] else Lf k 6 (K.with x))>>=λps=>lc k n K D g x ps
theorem BX (h1:GI t "const"=IN) (h2:GI t "fun"=Ix) (hn:n≠0):(i6 k K n D>>=g) t=(HR>>=λ_=>Ib K>>=λx=>Hs "(">>=λ_=>mJ k n K D g x) t:=by
 rw[bo (show i6 k K n D t=(HR>>=λ_=>aaI k K n D:GH iF) t by unfold i6;rw[GB (by rw[h1];exact Gn),GD h2,GB hn])];unfold aaI mJ;simp only[lc,eP,bind_assoc,pure_bind]
 rfl
theorem zh (h1:GI t "const"=IN) (h2:GI t "fun"=Ix) (hn:n=0):(i6 k K n D>>=g) t=Hi 7 t:=
 (bo (q:=(Hi 7:GH iF)) (by unfold i6;rw[GB (by rw[h1];exact Gn),GD h2,GD hn])).trans (fJ t)
theorem sj:a8 (lc k n K D g x ps):=(bA "=").bind.bind
theorem rO:a8 (mJ k n K D g x):=(mO ")").strict λm=>by
 cases m with
 |true=>rw[GD IO];exact sj
 |false=>rw[GB Gn];exact(jZ _ _ _).bind
theorem Cw (h:Hu t ")"=Ix):mJ k n K D g x t=(Hs ")">>=λ_=>lc k n K D g x []) t:=by
 unfold mJ;refine(bU (x:=Ix) (r:=t.drop 1) (by unfold LJ;rw[GD h])).trans ?_;rw[GD IO];refine Eq.trans (b:=lc k n K D g x [] (t.drop 1)) IO ?_;exact(bU (p:=Hs ")") (g:=λ_=>lc k n K D g x []) (x:=()) (r:=t.drop 1) (by unfold Hs;rw[GD h])).symm
theorem zX (h:Hu t ")"=IN):mJ k n K D g x t=(Lf k 6 (K.with x)>>=lc k n K D g x) t:=by
 unfold mJ;refine(bU (x:=IN) (r:=t) (by unfold LJ;rw[GB (by rw[h];exact Gn)])).trans ?_;rw[GB Gn]
end
theorem xi {ps V:Gm Gv}{i:GJ}{x:Gv}(h:ps[i]?=GM x) (nd:ps.Nodup) (fr: ∀x∈ps,x∉V):(ps.drop i++V).contains x=Ix/\(ps.drop (i+1)++V).length+1=(ps.drop i++V).length/\ ∀v,(ps.drop (i+1)++V).contains v=(!decide (v=x)&&(ps.drop i++V).contains v):=by
 have ed:ps.drop i=x::ps.drop (i+1):=by
  obtain⟨h,e⟩:=Hk.mp h;rw[<-e];exact Kw h
 have sub:(x::ps.drop (i+1)).Sublist ps:=by
  rw[<-ed];exact Vg i ps
 have nin:=(JW.mp (sub.nodup nd)).1
 have nV:=fr x (sub.subset (GP ..));rw[ed];refine#[HV.mpr (GP ..),IO,λz=>?_]
 rw[Jk,HP];by_cases e:z=x
 .subst e
  rw[Hy IO];show _=IN;rw[Vf];intro w;rcases HG.mp (HV.mp w) with w|w
  .exact nin w
  .exact nV w
 .rw[Ha e,show(z == x)=IN from beq_eq_false_iff_ne.mpr e]
  rfl
theorem agV (T:Txt K mg a) (XC:XT K a) (kF:vU P w K a.HM cv) (hk:10<=k) (G:T.W8.O P w base k (gT a [] eP 12 IN Ix .e)):
  T.Ws.O P w base (k+1) (pS a λt=>GI t "const"=IN/\GI t "fun"=Ix):=by
 refine F3 T XC (by lia) T.Ws.F afV λIB A outer s H β B L H0 Ro F b t Kn nf Ds fu g Q E hr ho hf hB hc hn hN=>?_;intro X D Z Y R q;have lL:=R.lL;obtain⟨n1,n2⟩:=ho;obtain⟨xp,r,ex⟩:=fO R (beq_iff_eq.mp n2);have hF:16*(Z.at t.length).L+12<=fu+16:=by show 16*t.length+12<=fu+16;lia
 obtain⟨n,S⟩:=R.S;obtain⟨dr,er⟩:=S.rd.ins;obtain⟨ff,f1,_⟩:=S.kn.funs;have fl:=S.kn.fl f1;refine aY #[_,bg cu (aR AA (by rfl) T.LR Jc (aa [07] ac)) (aZ d9 (aR w9 (by rfl) T.LR Jc (aa (dg (by rfl) T.L6) ac)) (bB (by rfl) T.P8)) (a0 _),B.r,_,dr,_,_,IO,er,T.Ho,T.JR,IO,B.fn,ff,IO,f1,a.HM,cv,IO,kF,_,_,IO,IO,IO,_,IO,?_];rw[cS];refine bi (λe=>?_) λe=>?_
 .have e:(ff.length:Int)=3+6:=Hn e
  exact dQ (yr (Z:=Z) (i:=7) Y (bB (by rfl) T.QS) R (zh n1 n2 (by lia)))
 have n0:nf≠0:=λz=>Hq e (by show(ff.length:Int)=3+6;lia)
 have R:=R.at.as (BX n1 n2 n0);generalize hl:t.length=l at R lL hF hc hf;subst ex;refine jd (Z:=Z.at l) Y Cd R λH t R=>?_
 refine vF (Z:=Z.at l) 1 Y R λu H t lit UI ft R=>?_;refine c8 (Z:=Z.at l) Y Ah R λH t R=>?_;refine nB (Z:=Z.at l) 2 Y R λLs H N R=>?_;have R:=(R.less N).and (e:=(.ps [], .ref Ls)) #[Ls,IO,N.nm,R.QH];have l5:t.length+1<=l:=R.l;refine jR (λσ' H'=> ∃(ps:Gm Gv) (v:V) (t:Gw),σ'=[GM (.ref B.r),GM (.str (sb u)),GM v,Id,Id]/\ps.length<=6/\ps.Nodup/\(∀x∈ps,x∉Kn.values)/\RS (Z.at l) ((.ps ps,v)::F) Ix H' t #[ps.reverse++Kn.values,Kn.funs] (Hs ")">>=λ_=>lc fu nf Kn Ds g u ps)) ?_ ?_
 .rintro σ H ⟨ps,v,t,rfl,p6,pnd,pfr,R⟩
  refine c8 (Z:=Z.at l) Y xh R λH t R=>?_;have R:=R.TQ (K2:= { Kn with values:=ps++Kn.values }) (λv=>by
   rw[Ip,HV,HV,HG,HG,KU]) (by
   show(ps++Kn.values).length=(ps.reverse++Kn.values).length
   rw[Gq,Gq,II]) IO
  refine n8 (Z:=Z.at l) 3 Y #[G,hr,T.W8.c,IO] R hF λe v3 H t R=>?_;obtain⟨Lp,rfl,nLp,hLp⟩:bM (fG B) H (iY ps) v:=R.f (i:=1) IO;refine yR 4 Y.lv Y.nd (pv 2) [08] (λi σ H=> ∃y:GF V,σ=[GM (.ref B.r),GM (.str (sb u)),GM (.ref Lp),GM v3,y]/\RS (Z.at l) ((.e e,v3)::(.ps ps, .ref Lp)::F) Ix H t { Kn with values:=ps.drop i++Kn.values } (g (.func u ps e,{ Kn with funs:=(u,ps.length)::Kn.funs },nf-1,Ds))) #[Id,IO,R] (λ_ _ _ _ ⟨_,_,R⟩=>bM.is (R.f (i:=1) IO)) ?_ ?_
  .rintro i y σ H hi ⟨y0,rfl,R⟩
   unfold iY at hi;rw[HF] at hi;obtain⟨x,hx,rfl⟩:=IM.mp hi;obtain⟨h1,h2,h3⟩:=xi hx pnd pfr;exact og (Z:=Z.at l) (K2:= { Kn with values:=ps.drop (i+1)++Kn.values }) Y (pv 4) [08] R h1 IO h2 h3 λH R=>eY #[_,IO,R]
  .rintro σ H ⟨y0,rfl,R⟩
   have sl:(iY ps).length=ps.length:=GG ..;rw[sl,VM] at R
   have R:RS (Z.at l) _ Ix H t Kn _:=R;obtain⟨n,S⟩:=R.S;obtain⟨dr,er⟩:=S.rd.ins;obtain⟨gg,g1,_⟩:=S.kn.funs
   have gl:=S.kn.fl g1;refine dB (nQ (gS hr) [07] (pv 1) (aR bL (by rfl) T.LR Jc (aa (pv 2) ac)) IO) #[_,_,IO, .inl (cK.of (bM.is (R.f (i:=1) IO))),B.r,_,dr,_,_,IO,er,T.Ho,T.JR,IO,B.fn,_,IO, .inl #[gg,nk u,g1,IO,HE (show gg.length<=9 by lia) [01],IO],?_]
   have R:=R.Lg (x:=u) (c:=(iY ps).length) ft g1;rw[sl] at R ⊢;refine iN (Z:=Z.at l) Y (DK T) (aa (pv 1) (aa (pv 2) (aa (pv 3) ac))) [08] R IO λw H i R=>?_
   have l9:t.length+1<=l:=R.l
   have R:=RS.back (Z:=Z) lL R;refine q (.func u ps e,{ Kn with funs:=(u,ps.length)::Kn.funs },nf-1,Ds) w H t B.ds.c B.bl.p B.bl.c hB (by lia) (by show Kn.funs.length+1+(nf-1)=9;lia) hN ((R.cut 2).and ?_);exact#[.ref Lp,v3,i,R.f (i:=1) IO,R.f (i:=0) IO]
 .refine lG (du (jx (Z:=Z.at l) Y R rO λnb=>#[_,IO,?_]))
  rw[dj R.tok xh];cases hs:(GQ t == J8 (Gr ")")) with
  |true=>exact cQ #[[], .ref Ls,t,IO,HB _,Nq,(λ_ z=>nomatch z),R.as (Cw hs)]
  |false=>exact dR (aW 2 Y.nd #[_,aq (agU T XC) (hr.mono hk) (by rfl) T.Zc.c Y.up (aa Y.rd (aa (pv 1) ac)),B,l,H0,Ro,F,Ix,t,Kn,u,fu,_,IO,lit,UI,by lia,(R.as (zX hs)).cut 1,λps v H t p6 pnd pfr R=>eY #[ps,v,t,IO,p6,pnd,pfr,R]])
theorem FO:dE "desk" (Gr "desk"):=#[by decide+kernel,by decide+kernel,by decide+kernel]
theorem gZ {α:Type}{o:GF α}{x:α}(h1:o=Id) (h2:o=GM x):False:=nomatch h1.symm.trans h2
theorem X4 {b:HH}(h:b=IN): ¬b=Ix:=λz=>Gn (h.symm.trans z)
abbrev Rb.nb (B:Rb) (nb:Gx):Rb:= { B with bl:=#[nb,[],B.bl.x] }
abbrev Rb.dk (B:Rb) (c:Gm (cf×V)):Rb:= { B with ds:=#[B.ds.p,c,B.ds.x] }
theorem fU.aaS {a:bJ}{H:Hp}{B:Rb}{n:GJ}{t:Gw}{Kn:GA}{nb:Gx}(S:fU a B H n t Kn) (UJ:H nb=Id) {dr:Gx}(er:H B.r=GM (.ins a.HL dr (sr B.q B.kd B.fn B.ds.p B.bl.p n))):
  fU a (B.nb nb) (bf (bf H nb (.dK [])) B.r (.ins a.HL dr (sr B.q B.kd B.fn B.ds.p nb n))) n t Kn/\dh (fG B) H (bf (bf H nb (.dK [])) B.r (.ins a.HL dr (sr B.q B.kd B.fn B.ds.p nb n))):=by
 obtain⟨as,all,h1,h2,h3⟩:=S.rd.toks;obtain⟨kk,k1,k2,k3⟩:=S.kn.vals;obtain⟨ff,f1,f2⟩:=S.kn.funs;have hy:=S.Sz;obtain⟨d1,d2,d3,d4,d5,d6⟩:=S.P9;have old: ∀ {b:Gx}{o:HO},H b=GM o->b≠B.r->bf (bf H nb (.dK [])) B.r (.ins a.HL dr (sr B.q B.kd B.fn B.ds.p nb n)) b=GM o:=λe w=>by
  rw[af w,af (aw e UJ)];exact e
 have nir: ∀ {b:Gx}{o:HO},H b=GM o->(∀C dx fs,o≠ .ins C dx fs)->b≠B.r:=λe no w=>by
  rw[w,er] at e;exact no _ _ _ (G7 e).symm
 have nbr:nb≠B.r:=(aw er UJ).symm
 have akm: ∀ {b:Gx}{x:HW×HJ},gw a.Ka H b x->b≠B.r:=λ{b x} ⟨dx,ex⟩ w=>by
  rw[w,er] at ex;have:=Hr (λo:HO=>match o with| .ins _ _ fs=>fs.length|_=>0) (G7 ex)
  exact GW this (by show¬(6=4);decide)
 refine#[#[#[#[dr,aj],as,all,old h1 (nir h1 λ_ _ _ z=>nomatch z),Paired.Np h2 λb x h=>?_,h3],S.wh,#[#[kk,old k1 (nir k1 λ_ _ _ z=>nomatch z),k2,k3],#[ff,old f1 (nir f1 λ_ _ _ z=>nomatch z),f2],S.kn.len,#[ff,old f1 (nir f1 λ_ _ _ z=>nomatch z),S.kn.fl f1]],old hy (nir hy λ_ _ _ z=>nomatch z),by show bf (bf H nb (.dK [])) B.r _ nb=GM (.dK []);rw[af nbr];exact aj,#[d1,d2,aw k1 UJ,d4,aw f1 UJ,aw hy UJ],λb xs h=>?_],λb o e m=>old e λz=>m (.inl z)]
 .have w:=akm h
  obtain⟨dx,ex⟩:=h;exact#[dx,old ex w]
 .have e2:=S.fr b xs h
  exact old e2 (nir e2 λ_ _ _ z=>nomatch z)
theorem tK {q kd fn ds bl nb:Gx}{n:GJ} :Lg "blocks" (.ref nb) (sr q kd fn ds bl n)=sr q kd fn ds nb n:=by
 unfold sr;simp only[Lg]
 rfl
theorem fU.putD {a:bJ}{H:Hp}{B:Rb}{n:GJ}{t:Gw}{Kn:GA}(S:fU a B H n t Kn):fU a (B.dk c) (bf H B.ds.p (.dK c)) n t Kn:=by
 obtain⟨dr,er⟩:=S.rd.ins;obtain⟨as,all,h1,h2,h3⟩:=S.rd.toks;obtain⟨kk,k1,k2,k3⟩:=S.kn.vals;obtain⟨ff,f1,f2⟩:=S.kn.funs;have hy:=S.RY;have e:=S.Sz;obtain⟨d1,d2,d3,d4,d5,d6⟩:=S.P9;have nr:B.r≠B.ds.p:=λw=>by rw[w,e] at er;cases er
 have nq:B.q≠B.ds.p:=λw=>by rw[w,e] at h1;cases h1
 refine#[#[#[dr,(by show bf H B.ds.p (.dK c) B.r=_;rw[af nr];exact er)],as,all,(by show bf H B.ds.p (.dK c) B.q=_;rw[af nq];exact h1),Paired.Np h2 λb x ⟨dx,ex⟩=>#[dx,?_],h3],S.wh,#[#[kk,(by show bf H B.ds.p (.dK c) B.kd=_;rw[af d2];exact k1),k2,k3],#[ff,(by show bf H B.ds.p (.dK c) B.fn=_;rw[af d4];exact f1),f2],S.kn.len,#[ff,(by show bf H B.ds.p (.dK c) B.fn=_;rw[af d4];exact f1),S.kn.fl f1]],aj,(by show bf H B.ds.p (.dK c) B.bl.p=_;rw[af d6.symm];exact hy),S.P9,λb xs h=>?_]
 .rw[af λw=>by rw[w,e] at ex;cases ex]
  exact ex
 .have e2:=S.fr b xs h
  rw[af λw=>by rw[w,e] at e2;cases e2];exact e2
section
variable {β:Type}{H H0:Hp}{p:GH β}{E:XK}{Ro:β->Gw->Prop}
theorem RS.putD (R:RS #[a,E,B,L,H0,Ro] F b H t Kn p):RS #[a,E,B.dk c,L,H0,Ro] F b (bf H B.ds.p (.dK c)) t Kn p:=by
 obtain⟨n,S⟩:=R.S;have k:dh (fG B) H (bf H B.ds.p (.dK c)):=fH (.inr (.inr (.inr (.inl IO))));exact#[#[n,S.putD],R.k.trans k,λe=>jU.Ia k.two (R.f e),R.l,R.w]
theorem RS.aaS {n:GJ}{nb dr:Gx}(R:RS #[a,E,B,L,H0,Ro] F b H t Kn p) (hN:EN B H0) (S:fU a B H n t Kn) (UJ:H nb=Id) (er:H B.r=GM (.ins a.HL dr (sr B.q B.kd B.fn B.ds.p B.bl.p n))):
  EN (B.nb nb) H0/\RS #[a,E,B.nb nb,L,H0,Ro] F b (bf (bf H nb (.dK [])) B.r (.ins a.HL dr (sr B.q B.kd B.fn B.ds.p nb n))) t Kn p:=by
 obtain⟨S',k⟩:=S.aaS UJ er;have m: ∀ {b},fG (B.nb nb) b->fG B b\/b=nb:=λ{b} z=>by
  rcases z with z|z|z|z|z|z
  .exact .inl (.inl z)
  .exact .inl (.inr (.inl z))
  .exact .inl (.inr (.inr (.inl z)))
  .exact .inl (.inr (.inr (.inr (.inl z))))
  .exact .inr z
  .exact .inl (.inr (.inr (.inr (.inr (.inr z)))))
 have h0:H0 nb=Id:=by
  cases e:H0 nb with
  |none=>rfl
  |some o=>
   have:=R.k nb o e λz=>by rw[hN nb z] at e;cases e
   rw[UJ] at this;cases this
 have N':EN (B.nb nb) H0:=λb z=>(m z).elim (hN b) λz=>by rw[z];exact h0
 refine#[N',#[n,S'],λb o e _=>?_,λe=>jU.Ia (λb o e w=>#[λz=>(m z).elim w (λz=>gZ (by rw[z];exact UJ) e),k b o e w]) (R.f e),R.l,R.w.mono (λ_ _ z=>z) λ_ _ z H' k'=>z H' λb o e _=>k' b o e λz=>gZ (N' b z) e];have w: ¬fG B b:=λz=>gZ (hN b z) e
 exact k b o (R.k b o e w) w
end
section
variable {K:GA}{β:Type}{g:iF->GH β}
theorem yL (h1:GI t "const"=IN) (h2:GI t "fun"=IN):(i6 k K n D>>=g) t=(IJ "desk">>=λ_=>eW D>>=λx=>Hs "{">>=λ_=>J4 k 6 K []>>=λl=>g (.desk x l.1,K,n,x::D)) t:=by
 have c1: ¬GI t "const"=Ix:=by rw[h1];exact Gn
 have c2: ¬GI t "fun"=Ix:=by rw[h2];exact Gn
 cases hd:GI t "desk" with
 |true=>
  rw[bo (show i6 k K n D t=(HR>>=λ_=>Cm k K n D:GH iF) t by unfold i6;rw[GB c1,GB c2,GD hd])];refine Eq.trans ?_ (bU (p:=IJ "desk") (x:=()) (r:=t.drop 1) (by unfold IJ;rw[GD hd])).symm;unfold Cm;simp only[bind_assoc,pure_bind]
  rfl
 |false=>
  have c3: ¬GI t "desk"=Ix:=by rw[hd];exact Gn
  refine(bo (q:=(Hi 2:GH iF)) (by unfold i6;rw[GB c1,GB c2,GB c3])).trans ?_;exact((fJ t).trans (fJ t).symm).trans (bo (p:=IJ "desk") (q:=(Hi 2:GH Nl)) (by unfold IJ;rw[GB c3])).symm
theorem uq (nb:x≠ .bad) (en:dn x=IN):eW D ((x,xp)::t)=Hi 2 ((x,xp)::t):=by
 cases x with
 |word u=>
  rw[dS] at en;have RH:HQ.contains u=Ix:=by cases h:HQ.contains u;rw[h] at en;cases en;rfl
  unfold eW;rw[dC,GD RH]
  rfl
 |num m=>rfl
 |sign s=>rfl
 |eof=>rfl
 |bad=>exact GW IO nb
theorem mQ (RH:HQ.contains u=IN):eW D ((.word u,xp)::t)=if D.contains u=Ix then Hi 4 ((.word u,xp)::t) else .ok (u,t):=by
 unfold eW;rw[dC,GB (by rw[RH];exact Gn)]
end
theorem agW (T:Txt K mg a) (XC:XT K a) (hk:8<=k)
  (G:T.VW.O P w base k (kJ a 7)):
  T.Wt.O P w base (k+1) (pS a λt=>GI t "const"=IN/\GI t "fun"=IN):=by
 refine F3 T XC hk T.Wt.F afY λIB A outer s H β B L H0 Ro F b t Kn nf Ds fu g Q E hr ho hf hB hc hn hN=>?_;intro X D Z Y R q;have lL:=R.lL;have hm:Kn.values.length+t.length<=4000:=R.room;have R:=R.at.as (yL ho.1 ho.2);generalize hl:t.length=l at R lL hc hf hm;refine l0 (Z:=Z.at l) Y FO R λH t R=>?_;have l1:t.length+1<=l:=R.l;obtain⟨n,S⟩:=R.S;refine aW 1 Y.nd (yz (Z:=Z.at l) Y R (λ_=>rfl) T.MJ S.Sz (mW Ds).bind (λnb en=>?_) (λu e1 hk hu=>?_) λu xp r e1 hk hu=>#[Hs "{">>=λ_=>J4 fu 6 Kn []>>=λl=>g (.desk u l.1,Kn,nf,u::Ds),(bU (x:=u) (r:=r) ((mQ hk).trans (GB (X4 ((hB u).symm.trans hu))))).trans IO,λH R=>?_])
 .obtain⟨⟨x,xp⟩,r,rfl⟩:=R.cons
  exact(bo (q:=Hi 2) (uq nb en)).trans (fJ _)
 .obtain⟨⟨x,xp⟩,r,rfl⟩:=R.cons
  obtain rfl:x= .word u:=e1;exact(bo (q:=Hi 4) ((mQ hk).trans (GD ((hB u).symm.trans hu)))).trans (fJ _)
 rw[e1,Gp] at l1;obtain⟨n,S⟩:=R.S;obtain⟨dr,er⟩:=S.rd.ins;refine dB (nQ (gS hr) [07] (pv 1) uW IO) #[B.r,_,dr,_,_,IO,er,T.Ho,T.MJ,IO,B.ds.p,_,IO, .inl #[B.ds.c,nk u,S.Sz,IO,HE (show B.ds.c.length<=4000 by lia) [01],IO],?_];have hD: ∀v,has (fX B.ds.c (nk u) (.bl Ix)) v=(u::Ds).contains v:=λv=>by
  rw[sM,HP,hB v]
  congr 1
  rw[Ip,Ii,beq_iff_eq]
 have hDl:=fT B.ds.c (nk u) (.bl Ix)
 have R:=R.putD (c:=fX B.ds.c (nk u) (.bl Ix));generalize fX B.ds.c (nk u) (.bl Ix)=c3 at R hD hDl ⊢;generalize bf H B.ds.p (.dK c3)=H at R ⊢;obtain⟨n,S⟩:=R.S;obtain⟨dr,er⟩:=S.rd.ins;refine dB (fY (pv 0) lz IO) λnb UJ=>#[B.r,_,dr,_,IO,(by rw[af λz=>by rw[<-z,er] at UJ;cases UJ];exact er),T.Ho,T.KH,(by show 6<1000;decide),?_]
 rw[tK];obtain⟨hN,R⟩:=R.aaS hN S UJ er;refine aD (kh Y (yg T) (aX (bV 1 (aX #[_,Y.call2 #[G,hr,T.VW.c,IO] aG [01] IO,(B.dk c3).nb nb,l,H0,Ro,F,_,r,Kn,[],0,fu,_,IO,HB _,by decide,by lia,(λv=>rfl),(by show 0+r.length<=4000;lia),R,λx v H t c' hB' VX R=>ca (R.new IO λw H i R=>?_)]))));have l9:t.length+1<=l:=R.l;have R:=RS.back (Z:=#[a,E,B.tp c3 nb c',L,H0,Ro]) lL R;obtain⟨us,la,sa⟩:qI a (fG (B.tp c3 nb c')) H x.1 v:=R.f (i:=0) IO;exact q (.desk u x.1,Kn,nf,u::Ds) w H t c3 nb c' hD (by lia) hn hN ((R.cut 1).and #[v,us,i,la,sa])
theorem agX (T:Txt K mg a) (XC:XT K a) (hk:8<=k)
  (G1:T.Wq.O P w base k (pS a λt=>GI t "const"=Ix))
  (G2:T.Ws.O P w base k (pS a λt=>GI t "const"=IN/\GI t "fun"=Ix))
  (G3:T.Wt.O P w base k (pS a λt=>GI t "const"=IN/\GI t "fun"=IN)):
  T.Wo.O P w base (k+1) (pS a λ_=>True):=by
 refine F3 T XC hk T.Wo.F afT λIB A outer s H β B L H0 Ro F b t Kn nf Ds fu g Q E hr ho hf hB hc hn hN=>?_;intro X D Z Y R q;refine aY (du (jx (Z:=Z) Y R (mM _ _ _ _).bind λnb=>#[_,IO,?_]));rw[cz R.tok vi];refine bi (λe1=>aD (fN Y #[G1,hr,T.Wq.c,IO] #[B,L,H0,Ro,F,b,t,Kn,nf,Ds,fu,g,IO,e1,hf,hB,hc,hn,hN,R,q])) λe1=>?_;refine aY (du (jx (Z:=Z) Y R (mM _ _ _ _).bind λnb=>#[_,IO,?_]));rw[cz R.tok Cd];refine bi (λe2=>aD (fN Y #[G2,hr,T.Ws.c,IO] #[B,L,H0,Ro,F,b,t,Kn,nf,Ds,fu,g,IO,#[e1,e2],hf,hB,hc,hn,hN,R,q])) λe2=>?_;exact aD (fN Y #[G3,hr,T.Wt.c,IO] #[B,L,H0,Ro,F,b,t,Kn,nf,Ds,fu,g,IO,#[e1,e2],hf,hB,hc,hn,hN,R,q])
section
open Vbemac (tokens)
theorem wD (u:Gv):cW cv (nk u)=(Kh.funs.find? λf=>f.1 == u).map λf=>V.int (f.2:GJ):=by
 have h1:(Js "min":cf)=nk (Gr "min"):=by show(Js "min":cf)=Js (sb (Gr "min"));congr 1
 have h2:(Js "max":cf)=nk (Gr "max"):=by show(Js "max":cf)=Js (sb (Gr "max"));congr 1
 have h3:(Js "abs":cf)=nk (Gr "abs"):=by show(Js "abs":cf)=Js (sb (Gr "abs"));congr 1
 unfold cv Kh Lz;rw[h1,h2,h3];have ne: ∀ {v:Gv},¬v=u-> ¬nk v=nk u:=λh z=>h (fZ (Mq z))
 have st: ∀(v:Gv) (x:V) (r:Gm (cf×V)),cW ((nk v,x)::r) (nk u)=if v=u then GM x else cW r (nk u):=λv x r=>by
  by_cases e:v=u
  .rw[GD e];exact cT (by rw[e])
  .rw[GB e];exact cF (ne e)
 rw[st,st,st,Iy,Iy,Iy];dsimp only;by_cases e1:Gr "min"=u
 .rw[GD e1,show(Gr "min" == u)=Ix from beq_iff_eq.mpr e1];rfl
 .rw[GB e1,show(Gr "min" == u)=IN from beq_eq_false_iff_ne.mpr e1]
  dsimp only;by_cases e2:Gr "max"=u
  .rw[GD e2,show(Gr "max" == u)=Ix from beq_iff_eq.mpr e2];rfl
  .rw[GB e2,show(Gr "max" == u)=IN from beq_eq_false_iff_ne.mpr e2]
   dsimp only;by_cases e3:Gr "abs"=u
   .rw[GD e3,show(Gr "abs" == u)=Ix from beq_iff_eq.mpr e3];rfl
   .rw[GB e3,show(Gr "abs" == u)=IN from beq_eq_false_iff_ne.mpr e3];rfl
abbrev F0:Gx->Gm V->Prop:=λ_ _=>False
theorem aay.st {a:bJ}{H H':Hp}(N:aay a H H' r dr q kd fn ds bl) (hq:H q=GM (.lst (as.map V.ref))) (nq:q≠r) (tk:Paired (gw a.Ka H) as (tokens bs)) (nt: ∀b∈as,b≠r) (hl:bs.length<=3000):
  fU a #[r,q,kd,fn,#[ds,[],F0],#[bl,[],F0]] H' 0 (tokens bs) Kh:=by
 have len:(tokens bs).length<=4000:=by
  have:=dW (bs.length+1) (1,1) bs;unfold tokens;lia
 refine#[#[#[dr,N.ins],as,tokens bs,N.kept _ _ hq nq,?_,IO],gn _ _ _,#[#[[],N.kd1,GU _,λu=>rfl],#[cv,N.fn1,wD],by show 0+(tokens bs).length<=4000;lia,#[cv,N.fn1,IO]],N.ds1,N.bl1,#[N.P9.1,N.P9.2.1,N.P9.2.2.1,N.P9.2.2.2.1,N.P9.2.2.2.2.1,N.P9.2.2.2.2.2],λ_ _ z=>z.elim];clear len hq;revert nt;generalize tokens bs=ts at tk ⊢
 induction tk with
 |nil=>exact λ_=> .nil
 |cons h t ih=>exact λnt=> .cons (by obtain⟨dx,e⟩:=h;exact#[dx,N.kept _ _ e (nt _ (GP ..))]) (ih λb hb=>nt b (G8 _ hb))
end
abbrev wL (a:bJ) (M:Gx->Prop) (H:Hp) (ss:Gm Ir) (us:Gm V):Prop:=Paired (λs v=>f9 a M H s v) ss us
inductive nA (K:Gu) (a:bJ) (vs:Gm V) (H:Hp) (Q:VK) (E:XK):Prop
 |mk (l:Gx) (bs:Gv) (_:vs=[.ref l]) (_:cK K H l (lF bs)) (_:bs.length<=3000) (_:W (K0 (Mx (HY bs)) Kh NA []) (HY bs) (λss _=> ∀H' (L:Gx) (us:Gm V) (M:Gx->Prop),aI H H'->H L=Id-> ¬M L->H' L=GM (.lst us)->wL a M H' ss us->Q (.ref L) H') (λk x=> ∀H',aI H H'->oo a.Jj E H' k x)):nA K a vs H Q E
theorem EO {k n:GJ}{K:GA}{β:Type}{g:MV->GH β}(h0:GQ t≠ .eof):(K0 (k+1) K n D>>=g) t=(i6 k K n D>>=λx=>K0 k x.2.1 x.2.2.1 x.2.2.2>>=λl=>g (x.1::l)) t:=by
 have e:K0 (k+1) K n D t=(i6 k K n D>>=λx=>K0 k x.2.1 x.2.2.1 x.2.2.2>>=λl=>Hz (x.1::l):GH MV) t:=by
  cases h1:GI t "const" with
  |true=>
   rw[wG h0 h1,vB h1];simp only[eP,bind_assoc,pure_bind]
  |false=>
   cases h2:GI t "fun" with
   |true=>
    by_cases hn:n=0
    .rw[AN h0 h1 h2 hn,zh h1 h2 hn]
    .rw[C8 h0 h1 h2 hn,BX h1 h2 hn]
     unfold mJ;simp only[lc,eP,bind_assoc,pure_bind]
     rfl
   |false=>
    rw[yL h1 h2];cases h3:GI t "desk" with
    |true=>
     rw[zV h0 h1 h2 h3];refine Eq.trans ?_ (bU (p:=IJ "desk") (x:=()) (r:=t.drop 1) (by unfold IJ;rw[GD h3])).symm
     rfl
    |false=>
     rw[Ay h0 h1 h2 h3];exact((bo (p:=IJ "desk") (q:=(Hi 2:GH Nl)) (by unfold IJ;rw[GB (X4 h3)])).trans (fJ t)).symm
 rw[bo e];simp only[bind_assoc,pure_bind]
abbrev fkT (ps:Gm (Ir×V)):Gm (Fk×V):=ps.map λx=>(Fk.top x.1,x.2)
theorem ym {a:bJ}{M:Gx->Prop}{H:Hp}{l:Gm Ir}{ws:Gm V}(hl:wL a M H l ws): ∀ {ps:Gm (Ir×V)},(∀ {i:GJ}{x:Fk×V},(fkT ps)[i]?=GM x->jU a M H x)->wL a M H ((ps.map λx:Ir×V=>x.1).reverse++l) ((ps.map λx:Ir×V=>x.2).reverse++ws)
 |[],_=>hl
 | (e,v)::ps,h=>by
  rw[GZ,GZ,IT,IT,Hf,Hf];exact ym (.cons (h (i:=0) IO) hl) λ{i x} q=>h (i:=i+1) q
inductive ShI (a:bJ) (E:XK) (B:Rb) (H0:Hp) (Ro:MV->Gw->Prop) (Ls:Gx) (l:GJ) (σ0:L2.St) (m:GJ) (σ:L2.St) (H:Hp):Prop
 |mk (ps:Gm (Ir×V)) (K1:GA) (nf:GJ) (D:Gm Gv) (dc:Gm (cf×V)) (bp:Gx) (bc:Gm (cf×V)) (t:Gw) (f:GJ) (_:m=t.length) (_:σ=σ0) (_:ps.length+t.length<=l) (_: ∀u,has dc u=D.contains u) (_:dc.length+t.length<=4000) (_:K1.funs.length+nf=9) (_:16*t.length+1<=f) (_:EN (B.tp dc bp bc) H0)
  (_:wq #[a,E,B.tp dc bp bc,l,H0,Ro] Ls) (_:RS (Zf.mo #[a,E,B.tp dc bp bc,l,H0,Ro] Ls (ps.map λx:Ir×V=>x.2).reverse) (fkT ps) IN H t K1 (K0 f K1 nf D>>=λx=>Hz ((ps.map λx:Ir×V=>x.1).reverse++x))):ShI a E B H0 Ro Ls l σ0 m σ H
theorem akn (T:Txt K mg a) (XC:XT K a) (kS:Be P w K a.K3 eN) (kF:vU P w K a.HM cv) (hk:8<=k)
  (G:T.Wo.O P w base k (pS a λ_=>True)):
  T.d_z.O P w base (k+1) (nA K a):=by
 have G1:=oM (P:=P) (w:=w) (base:=base) T kF
 have G2:=ajZ (P:=P) (w:=w) (base:=base) T kS
 have G3:=zz (P:=P) (w:=w) (base:=base) T XC;refine kr T.d_z.F aam (λvs H Q E h=>?_) [02]
 .obtain⟨l,bs,rfl,_⟩:=h
  rfl
 obtain⟨l,bs,rfl,hS,hl,hW⟩:=h;refine aW 1 aam.nd #[_,kK T.Uy G1 [05] (by rfl) T.Uv T.YW.c.b .nil aC (aa (aq G2 [05] (by rfl) T.d_m.c aC (aa (pv 0) ac)) ac),l,bs,IO,hS,hl,λH1 q as s1 hq0 hq1 tk=>?_];intro r dr hr0 hdr ne;refine#[r,dr,q,IO,aj,λH2 kd fn ds bl N=>#[IO,?_]];have qr:q≠r:=(aw hq1 hr0);have up1: ∀ {b:Gx}{o:HO},H1 b=GM o->bf (bf H1 dr (.own r)) r (.ins a.HL dr []) b=GM o:=λe=>by
  rw[af (aw e hr0),af (aw e hdr)];exact e
 have agY: ∀ {as:Gm Gx}{ts:Gw},Paired (gw a.Ka H1) as ts-> ∀b∈as,b≠r:=λtk=>by
  induction tk with
  |nil=>exact λb hb=>nomatch hb
  |cons h t ih=>
   intro b hb;rcases Hc.mp hb with hb|hb
   .obtain⟨dx,e⟩:=h
    rw[hb];exact aw e hr0
   .exact ih b hb
 have S2:=N.st (up1 hq1) qr (Paired.Np tk λb x ⟨dx,e⟩=>#[dx,up1 e]) (agY tk) hl
 have s02:aI H H2:=λb o e=>N.kept b o (up1 (s1 b o e)) (aw (s1 b o e) hr0)
 have upn: ∀ {b:Gx},bf (bf H1 dr (.own r)) r (.ins a.HL dr []) b=Id->H b=Id:=λ{b} e=>by
  cases z:H b with
  |none=>rfl
  |some o=>rw[up1 (s1 b o z)] at e;cases e
 have hN:EN ⟨r,q,kd,fn,⟨ds,[],F0⟩,⟨bl,[],F0⟩⟩ H:=λb z=>by
  rcases z with z|z|z|z|z|⟨_,z⟩
  .rw[z]
   cases e:H r with
   |none=>rfl
   |some o=>exact(gZ hr0 (s1 r o e)).elim
  .rw[z];exact upn N.kd0
  .rw[z];exact upn N.fn0
  .rw[z];exact upn N.ds0
  .rw[z];exact upn N.bl0
  .exact z.elim
 clear N agY up1 upn;have tl:(HY bs).length<=3002:=by
  have:=dW (bs.length+1) (1,1) bs;unfold HY;lia
 generalize hRo:(λ(ss:MV) (_:Gw)=> ∀H' (L:Gx) (us:Gm V) (M:Gx->Prop),aI H H'->H L=Id-> ¬M L->H' L=GM (.lst us)->wL a M H' ss us->Q (.ref L) H')=Ro at hW;generalize hB:(#[r,q,kd,fn,#[ds,[],F0],#[bl,[],F0]]:Rb)=B at S2 hN;have Br:B.r=r:=by rw[<-hB]
 have same: ∀ {dc bp bc} {H':Hp},EN (B.tp dc bp bc) H->dh (fG (B.tp dc bp bc)) H H'->aI H H':=λn k b o e=>k b o e λz=>gZ (n b z) e
 have R:RS ⟨a,E,B,(HY bs).length,H,Ro⟩ (fkT []) IN H2 (HY bs) Kh (K0 (Mx (HY bs)) Kh NA []>>=λx=>Hz ([]++x)):=#[#[_,S2],λb o e _=>s02 b o e,(λe=>nomatch e),GU _,by
  rw[de];exact hW.mono (λ_ _ z=>z) λ_ _ z H' k'=>z H' λb o e=>k' b o e λz=>gZ (hN b z) e]
 rw[<-Br];refine aW 2 aam.nd (rR λLs hL=>?_);have hx: ∀b zs,¬B.bl.x b zs:=λb zs=>by rw[<-hB];exact λz=>z
 have hdc:B.ds.c=[]:=by rw[<-hB]
 refine ij S8 (ShI a E B H Ro Ls (HY bs).length [GM (.ref l),GM (.ref B.r),GM (.ref Ls)]) _ #[[],Kh,NA,[],B.ds.c,B.bl.p,B.bl.c,HY bs,Mx (HY bs),IO,IO,by show 0+_<=_;lia,(λ_=>by rw[hdc];rfl),by rw[hdc];show 0+_<=_;lia,IO,by unfold Mx;lia,hN,R.nwl hL,R.more hL] ?_;rintro mm σ H4 ⟨ps,K1,nf,D,dc,bp,bc,t,f,rfl,rfl,ul,hD,hDl,hn,hf,hN',N,R⟩;obtain⟨f,rfl⟩: ∃f',f=f'+1:=#[f-1,by lia];obtain⟨n4,S⟩:=R.S;obtain⟨⟨x,xp⟩,t5,rfl,tok,QY,MS,_⟩:=S.wh.first;obtain⟨dr4,er4⟩:=S.rd.ins;refine#[_,my (bS (cU (pv 1) T.Ho T.YX.c G3 [05] bN)),B.r,dr4,_,IO,er4,IO,B.r,B.q,B.kd,B.fn,B.ds.p,bp,n4,(x,xp),t5,IO,S.rd,(λb=>(vH _ _ _ _).bind.Mm (QY.trans b) R.w H4 R.k),λnb=>#[_,IO,?_]];have len:((ps.map λx:Ir×V=>x.2).reverse:Gm V).length=ps.length:=by rw[II,GG]
 cases he:CV x with
 |true=>
  have ex:x= .eof:=by cases x<;>first|rfl|cases he
  subst ex;refine cQ (aD (bV 2 ?_));have w:=(R.as (p':=Hz ((ps.map λx:Ir×V=>x.1).reverse++[])) ((bU (BY IO)).trans IO)).w
  have w:Ro ((ps.map λx:Ir×V=>x.1).reverse++[]) ((.eof,xp)::t5):=w
  rw[<-hRo] at w;refine w H4 Ls _ (fG (B.tp dc bp bc)) (same hN' (R.less N).k) N.n0 N.nm R.QH ?_;rw[<-GY (ps.map λx:Ir×V=>x.2).reverse];exact ym .nil λe=>(R.less N).f e
 |false=>
  have ne:GQ ((x,xp)::t5)≠ .eof:=λz=>by
   have z:x= .eof:=z;rw[z] at he;cases he
  refine dR (pi (β:=MV) R.QH (pv 2) [08] #[_,aq G hr (by rfl) T.Wo.c bN (aa (pv 1) ac),(B.tp dc bp bc).more Ls (ps.map λx:Ir×V=>x.2).reverse,((x,xp)::t5).length,H,Ro,fkT ps,IN,(x,xp)::t5,K1,nf,D,f,_,IO,IK,by lia,hD,hDl,hn,λb z=>(dJ z).elim (λz=>by rw[z];exact N.n0) (hN' b),R.at.as (EO ne),λy v H' t' dc' bp' bc' Sy ako hn' hN2 R2=>?_]);have l2:t'.length+1<=((x,xp)::t5).length:=R2.l;have R2:=RS.back (Z:=Zf.mo #[a,E,B.tp dc' bp' bc',(HY bs).length,H,Ro] Ls (ps.map λx:Ir×V=>x.2).reverse) (by show((x,xp)::t5).length<=(HY bs).length;lia) R2;have N2:wq ⟨a,E,B.tp dc' bp' bc',(HY bs).length,H,Ro⟩ Ls:=by
   refine#[N.n0,λz=>?_,N.nx,N.nq];rcases z with z|z|z|z|z|⟨zs,z⟩
   .exact N.nm (.inl z)
   .exact N.nm (.inr (.inl z))
   .exact N.nm (.inr (.inr (.inl z)))
   .exact N.nm (.inr (.inr (.inr (.inl z))))
   .obtain⟨n5,S5⟩:=R2.S
    have h1:=R2.QH
    have h2:=S5.RY
    have z:Ls=bp':=z;rw[z] at h1;cases h1.symm.trans h2
   .exact hx _ _ z
  refine#[_,_,_,_,_,_,N2,by rw[len];exact HE (show ps.length<=4000 by lia) [01],R2,λH3 R3=>?_];refine kW #[_,l2,(y.1,v)::ps,y.2.1,y.2.2.1,y.2.2.2,dc',bp',bc',t',f,IO,IO,(by rw[Gp];lia),Sy,ako,hn',(by lia),λb z=>hN2 b (cR z),N2,?_];rw[GZ,GZ,IT,IT];simp only[Hf];exact#[R3.S,R3.k,R3.f,GX (J5 _ _) R3.l,R3.w]
theorem BZ {P:Hm}{w:HS}{K:Gu}{mg:G0->GF Gy}{base:Ij}{a:bJ}(T:Txt K mg a) (XC:XT K a) (IL:ql K a) (KT:Bb K a.Jx dN) (kS:Be P w K a.K3 eN) (kF:vU P w K a.HM cv):
  T.d_z.O P w base 178 (nA K a):=by
 have E:pB P w K mg base a 151:=(akh T XC KT 13).1
 have Br:=Aq T XC IL [01] E 7
 have Gi:=agF T XC [01] E
 have Co:=agS T XC [01] Gi
 have Fu:=agV T XC kF [01] Gi
 have De:=agW T XC [01] Br
 have To:=agX T XC [01] (Co.mono (by decide:153<=176)) (Fu.mono [01]) De;exact akn T XC kS kF [01] To
end OS
namespace OS
open Vbemac
open PySem (Str)
def bO (p:G0):Gm Int:=if p=lS then [37] else p.cps.toList.map ME
def bF (ps:Gm G0):Gm Int:=ps.flatMap bO
def mS (ps:Gm G0):GJ:=(ps.map λp=>p.cps.size+1).sum
theorem eO:bF []=[]:=rfl
theorem aA (p:G0) (ps:Gm G0):bF (p::ps)=bO p++bF ps:=rfl
theorem bw (a b:Gm G0):bF (a++b)=bF a++bF b:=KO
theorem cx:mS []=0:=rfl
theorem ae (p:G0) (ps:Gm G0):mS (p::ps)=p.cps.size+1+mS ps:=by unfold mS;rw[GZ,RL]
theorem au (a b:Gm G0):mS (a++b)=mS a+mS b:=by unfold mS;rw[IF,Gm.sum_append]
theorem xt (ps:Gm G0):ps.length<=mS ps:=by
 induction ps with
 |nil=>exact GU _
 |cons p r ih=>rw[ae,Gp];lia
theorem CY (ps:Gm G0):(bF ps).length<=mS ps:=by
 induction ps with
 |nil=>exact GU _
 |cons p r ih=>
  rw[ae,aA,Gq];have:(bO p).length<=p.cps.size+1:=by
   unfold bO;split
   .simp
   .simp
  lia
structure Wd (x:HA):Prop where
 ne:x≠[]
 ok: ∀c∈x,b6 c=Ix
 len:x.length<=24
def TB (t:JH):Prop:= ∀x∈t,(∀w,x.1= .word w->Wd w)/\ ∀n,x.1= .num n->n<1000000000000000000
theorem TB.drop {t:JH}(h:TB t) (k:GJ):TB (t.drop k):=λx hx=>h x (Gm.mem_of_mem_drop hx)
theorem pI {t:JH}{k:Tok}(h:peek t=k) (hk:k≠ .eof): ∃p r,t=(k,p)::r:=by
 cases t with
 |nil=>exact GW h.symm hk
 |cons x r=>obtain⟨a,p⟩:=x;cases h;exact#[p,r,IO]
theorem TB.word {t:JH}(h:TB t) {w:HA}(e:peek t= .word w):Wd w:=by
 obtain⟨p,r,rfl⟩:=pI e (by intro z;cases z);exact(h _ GP).1 w IO
theorem TB.num {t:JH}(h:TB t) {n:GJ}(e:peek t= .num n):n<1000000000000000000:=by
 obtain⟨p,r,rfl⟩:=pI e (by intro z;cases z);exact(h _ GP).2 n IO
theorem xj {t:JH}{k:Tok}(e:peek t=k) (hk:k≠ .eof):(t.drop 1).length+1=t.length:=by
 obtain⟨p,r,rfl⟩:=pI e hk
 rfl
theorem jt {x:HA}(h:Wd x):bO (sb x)=«ints» x:=by
 unfold bO;rw[GB]
 .show(x.map Kz).toArray.toList.map ME=_
  unfold «ints»;rw[JT]
  rfl
 .intro z
  rw[qW] at z;have z:=fZ z;have:=h.ok 47 (by rw[z];exact GP);exact GW this [01]
theorem eZ {x:HA}(h:Wd x):(sb x).cps.size<=24:=by
 show(x.map Kz).toArray.size<=24
 rw[Hv,GG];exact h.len
theorem Dq: ∀s∈SIGNS,bO (dD s)=«ints» s:=by decide+kernel
theorem vM: ∀s∈SIGNS,(dD s).cps.size<=5:=by decide+kernel
theorem on (n:GJ):(kg n).cps.toList=(Ti 10 n).map U4:=by
 unfold kg;rw[G0.ofString_eq_toList];show(((toString n:String).toList.map U4).toArray).toList=_;rw[QA,SI]
theorem DA {n:GJ}{c:Char}(h:c∈Ti 10 n):c.toNat<58/\48<=c.toNat:=by
 have:=GJ.isDigit_of_mem_toDigits [01] [01] h;unfold Char.isDigit at this;rw[Jt,Ii,Ii] at this
 have h1:=RJ.mp this.1
 have h2:=RJ.mp this.2
 have e1:(48:UInt32).toNat=48:=rfl
 have e2:(57:UInt32).toNat=57:=rfl
 show c.val.toNat<58/\48<=c.val.toNat
 constructor
 .have:c.val.toNat<=57:=h2
  lia
 .exact h1
theorem aaT (n:GJ):bO (kg n)=«ints» (decimal n):=by
 unfold bO;rw[GB,on]
 .unfold «ints» decimal text
  rw[QA,SI,JT,JT];refine Pn λc hc=>?_;have:=(DA hc).1;show ME c.toNat=ME (MC c.toNat).toNat;rw[show(MC c.toNat).toNat=c.toNat from JV.toNat_ofNat_of_lt' (by show c.toNat<256;lia)]
 .intro z
  have:(kg n).cps.toList=lS.cps.toList:=Hr (λx=>x.cps.toList) z
  rw[on] at this;have m:(115:GJ)∈(Ti 10 n).map U4:=by rw[this];decide
  obtain⟨c,hc,e⟩:=Na.mp m;have:=(DA hc).1;lia
theorem lw {n:GJ}(h:n<1000000000000000000):(kg n).cps.size<=18:=by
 rw[<-Pb,on,GG];exact(GJ.length_toDigits_le_iff [01] [01]).mpr h
theorem aV (a b:HA):«ints» (a++b)=«ints» a++«ints» b:=IF
end OS
namespace OS
open Vbemac
open PySem (Str)
abbrev T0:GJ->Pos->Prop:=λ_ _=>True
section
variable {α β:Type}{p:P α}{f:α->P β}{t:JH}{Qo:α->JH->Prop}{Ro:β->JH->Prop}
theorem W.then (h:W p t Qo T0) (g: ∀a r,Qo a r->W (f a) r Ro T0):W (p>>=f) t Ro T0:=by
 rw[de];exact h.mono g λ_ _ z=>z
theorem W.of (h: ∀a r,p t= .ok (a,r)->Qo a r):W p t Qo T0:=by
 unfold W;split
 .rename_i a r e
  exact h a r e
 .trivial
theorem W.to (h:W p t Qo T0) {a:α}{r:JH}(e:p t= .ok (a,r)):Qo a r:=by
 rw[wS e] at h;exact h
theorem c7 {n:GJ} :W (fail n:P α) t Qo T0:=trivial
end
def Go (t r:JH):Prop:=TB r/\r.length+1=t.length
section
variable {t:JH}(h:TB t)
include h
theorem go1 {k:Tok}(e:peek t=k) (hk:k≠ .eof):Go t (t.drop 1):=#[h.drop 1,xj e hk]
theorem zW {w:String}(e:Jg t w=Ix):Go t (t.drop 1):=go1 h (beq_iff_eq.mp e) (by intro z;cases z)
theorem goS {w:String}(e:Md t w=Ix):Go t (t.drop 1):=go1 h (beq_iff_eq.mp e) (by intro z;cases z)
theorem jh (w:String):W (key w) t (λ_ r=>Go t r) T0:=by
 unfold key;rw[md (p:=λt=> .ok ((),t.drop 1)) (q:=fail 2)];split
 .rename_i e
  exact zW h e
 .exact c7
theorem cD (w:String):W (sign w) t (λ_ r=>Go t r) T0:=by
 unfold sign;rw[md (p:=λt=> .ok ((),t.drop 1)) (q:=fail 2)];split
 .rename_i e
  exact goS h e
 .exact c7
theorem lC (w:String):W (ifSign w) t (λb r=>if b=Ix then Go t r else r=t) T0:=by
 unfold ifSign;rw[md (p:=λt=> .ok (Ix,t.drop 1)) (q:=λt=> .ok (IN,t))];split
 .rename_i e
  exact goS h e
 .exact IO
theorem FK (w:String):W (ifKey w) t (λb r=>if b=Ix then Go t r else r=t) T0:=by
 unfold ifKey;rw[md (p:=λt=> .ok (Ix,t.drop 1)) (q:=λt=> .ok (IN,t))];split
 .rename_i e
  exact zW h e
 .exact IO
theorem X5 (d:GJ):W (deeper d) t (λe r=>r=t/\e+1=d) T0:=by
 unfold deeper;rw[md (c:=λ_=>d=0) (p:=fail 6) (q:=λt=> .ok (d-1,t))];split
 .exact c7
 .exact#[IO,by lia]
theorem jP:W anyName t (λx r=>Wd x/\Go t r) T0:=by
 unfold W anyName;cases e:peek t with
 |word w=>
  dsimp only;split
  .rename_i z
   split at z
   .cases z
   .cases z
    exact#[h.word e,go1 h e (by intro z;cases z)]
  .trivial
 |_=>trivial
theorem fF (K:Known):W (newName K) t (λx r=>Wd x/\Go t r) T0:=by
 have q:=jP h;unfold W at q ⊢;unfold newName;cases e:anyName t with
 |error z=>trivial
 |ok z=>
  rw[e] at q;dsimp only;split
  .rename_i y
   split at y
   .cases y
   .cases y
    exact q
  .trivial
theorem oR (l:Gm String):W (Me l) t (λo r=>match o with
  |some s=>s∈l.map text/\Go t r
  |none=>r=t) T0:=by
 unfold W Me;cases e:peek t with
 |sign s=>
  dsimp only;by_cases c:(l.map text).contains s=Ix
  .rw[GD c]
   exact#[HV.mp c,go1 h e (by intro z;cases z)]
  .rw[GB c]
 |_=>exact IO
end
def kL:Exps->GJ
 | .nil=>0
 |_=>8
def AR:Gm HA:=["+","-","*","/","%"].map text
def CM:Gm HA:=["==","!=","<=",">=","<",">"].map text
def Bf:Exps->GJ
 | .nil=>0
 | .cons _ l=>Bf l+1
def BC (F:Gm (HA×GJ)):Prop:= ∀f k,(BUILT.find? λg=>g.1 == f)=GM k->(F.find? λg=>g.1 == f)=GM k
mutual
def GE:Exp->Prop
 | .num n=>n<1000000000000000000
 | .name x=>Wd x
 | .call f l=>Wd f/\GL l/\ ∀k,(BUILT.find? λg=>g.1 == f)=GM k->Bf l=k.2
 | .neg e=>GE e
 | .not e=>GE e
 | .sums e r=>GE e/\GR r
 | .prods e r=>GE e/\GR r
 | .cmp op a b=>op∈CM/\GE a/\GE b
 | .both e l=>GE e/\GL l/\kL l=8
 | .either e l=>GE e/\GL l/\kL l=8
 | .pick c a b=>GE c/\GE a/\GE b
 | .sum x lo hi e=>Wd x/\GE lo/\GE hi/\GE e
def GL:Exps->Prop
 | .nil=>True
 | .cons e l=>GE e/\GL l
def GR:Rest->Prop
 | .nil=>True
 | .cons op e r=>op∈AR/\GE e/\GR r
end
structure Gd (c d:GJ) (t:JH) (e:Exp) (r:JH):Prop where
 tb:TB r
 fr:fr e<=c+19*d
 ms:mS (xF e)+8+64*r.length<=64*t.length
 ok:GE e
structure xU (c d:GJ) (t:JH) (f m:GJ) (ps:Gm G0) (g:Prop) (r:JH):Prop where
 tb:TB r
 fr:f<=c+19*d
 ms:mS ps+m+64*r.length<=64*t.length
 ok:g
def kR:Rest->GJ
 | .nil=>0
 |_=>8
theorem Gd.up {c c' d:GJ}{t t1 r:JH}{e:Exp}(g:Gd c d t e r) (h:c<=c'):Gd c' d t e r:=#[g.tb,by have:=g.fr;lia,g.ms,g.ok]
theorem jW {w:GJ}{e:Exp}{ps:Gm G0}{b:HA}(h:bF ps=«ints» b):bF (pF w e ps)=«ints» (guarded w e b):=by
 unfold pF guarded;split
 .rw[aA,bw,h,aV,aV]
  rfl
 .exact h
theorem iP (w:GJ) (e:Exp) (ps:Gm G0):mS (pF w e ps)<=mS ps+4:=by
 unfold pF;split
 .rw[ae,au]
  show 1+1+(mS ps+(1+1+0))<=_
  lia
 .lia
theorem sz (s:String) (n:GJ) (h:(tx s).cps.size=n:=by decide+kernel):(tx s).cps.size=n:=h
theorem bP (s:String) (b:HA) (h:bO (tx s)=«ints» b:=by decide+kernel):bO (tx s)=«ints» b:=h
theorem W.ite {α:Type}{t:JH}{c:JH->HH}{p q:P α}{Qo:α->JH->Prop}(h1:c t=Ix->W p t Qo T0) (h2:W q t Qo T0):W (λt=>if c t=Ix then p t else q t) t Qo T0:=by
 rw[md];split
 .rename_i e
  exact h1 e
 .exact h2
theorem E4 {w:GJ}{g:G0}{e:Exp}{l:Exps} :mS (mF w g (.cons e l))<=9+g.cps.size+mS (xF e)+mS (mF w g l):=by
 rw[mF];have:=iP w e (xF e);rw[ae,ae,ae,au];show 1+1+(_+1+(1+1+_))<=_;lia
theorem yh {w:GJ}{op:HA}{e:Exp}{r:Rest} :mS (rF w (.cons op e r))<=9+(dD op).cps.size+mS (xF e)+mS (rF w r):=by
 rw[rF];have:=iP w e (xF e);rw[ae,ae,ae,au];show 1+1+(_+1+(1+1+_))<=_;lia
structure PF (k:GJ):Prop where
 expr: ∀d K t,BC K.funs->TB t->W (expr k d K) t (Gd 21 d t) T0
 moreOr: ∀d K t,BC K.funs->TB t->W (moreOr k d K) t (λl=>xU 18 d t (ke l) (kL l) (mF 1 (tx "||") l) (GL l)) T0
 ands: ∀d K t,BC K.funs->TB t->W (ands k d K) t (Gd 18 d t) T0
 moreAnd: ∀d K t,BC K.funs->TB t->W (moreAnd k d K) t (λl=>xU 15 d t (ke l) (kL l) (mF 2 (tx "&&") l) (GL l)) T0
 compared: ∀d K t,BC K.funs->TB t->W (compared k d K) t (Gd 15 d t) T0
 added: ∀d K t,BC K.funs->TB t->W (added k d K) t (Gd 12 d t) T0
 moreAdded: ∀d K t,BC K.funs->TB t->W (moreAdded k d K) t (λl=>xU 9 d t (pG l) (kR l) (rF 4 l) (GR l)) T0
 times: ∀d K t,BC K.funs->TB t->W (times k d K) t (Gd 9 d t) T0
 moreTimes: ∀d K t,BC K.funs->TB t->W (moreTimes k d K) t (λl=>xU 6 d t (pG l) (kR l) (rF 5 l) (GR l)) T0
 unary: ∀d K t,BC K.funs->TB t->W (unary k d K) t (Gd 6 d t) T0
 primary: ∀d K t,BC K.funs->TB t->W (primary k d K) t (Gd 6 d t) T0
 arguments: ∀d K n t,BC K.funs->TB t->W (arguments k d K n) t (λl=>xU 21 d t (ke l) 64 (aF l) (GL l/\(n≠0->Bf l=n))) T0
theorem Bp: ∀s∈AR,s∈SIGNS:=by decide+kernel
theorem ye: ∀s∈CM,s∈SIGNS/\s∉AR:=by decide+kernel
theorem ze {c d w:GJ}{g:String}{t t1 t2 t3:JH}{e:Exp}{l:Exps}(hs:(tx g).cps.size=2) (G:Go t t1) (a:Gd c d t1 e t2) (b:xU c d t2 (ke l) (kL l) (mF w (tx g) l) (GL l) t3):
  xU c d t (ke (.cons e l)) (kL (.cons e l)) (mF w (tx g) (.cons e l)) (GL (.cons e l)) t3:=by
 have h1:=a.fr
 have h2:=a.ms
 have h3:=b.fr
 have h4:=b.ms
 have h5:=G.2
 have h6:=E4 (w:=w) (g:=tx g) (e:=e) (l:=l);refine#[b.tb,?_,?_,by rw[GL];exact#[a.ok,b.ok]]
 .unfold ke;exact Jd.mpr #[h1,h3]
 .rw[hs] at h6
  show _+8+_<=_
  lia
theorem yJ {c d w:GJ}{op:HA}{t t1 t2 t3:JH}{e:Exp}{l:Rest}(ho:op∈AR) (G:Go t t1) (a:Gd c d t1 e t2) (b:xU c d t2 (pG l) (kR l) (rF w l) (GR l) t3):
  xU c d t (pG (.cons op e l)) (kR (.cons op e l)) (rF w (.cons op e l)) (GR (.cons op e l)) t3:=by
 have h1:=a.fr
 have h2:=a.ms
 have h3:=b.fr
 have h4:=b.ms
 have h5:=G.2
 have h6:=yh (w:=w) (op:=op) (e:=e) (r:=l)
 have h7:=vM op (Bp op ho);refine#[b.tb,?_,?_,by rw[GR];exact#[ho,a.ok,b.ok]]
 .unfold pG;exact Jd.mpr #[h1,h3]
 .show _+8+_<=_
  lia
theorem pJ {c d:GJ}{t:JH}{g:Prop}(h:TB t) (q:g):xU c d t 0 0 [] g t:=#[h,by lia,by show 0+0+_<=_;lia,q]
theorem jc {c d w f:GJ}{t t1 t2:JH}{e x:Exp}{ps:Gm G0}{b:Prop}(a:Gd c d t e t1) (g:xU c d t1 f 8 ps b t2) (h1:fr x=3+max (fr e) f) (h2:xF x=pF w e (xF e)++ps) (h3:GE e->b->GE x):Gd (c+3) d t x t2:=by
 have q1:=a.fr
 have q2:=a.ms
 have q3:=g.fr
 have q4:=g.ms
 have q5:=iP w e (xF e);refine#[g.tb,?_,?_,h3 a.ok g.ok]
 .rw[h1]
  have:max (fr e) f<=c+19*d:=Jd.mpr #[q1,q3];lia
 .rw[h2,au]
  lia
theorem sd {c d f:GJ}{t t1 t2:JH}{e:Exp}{ps:Gm G0}{b:Prop}(a:Gd c d t e t1) (g:xU c d t1 f 0 ps b t2):Gd (c+3) d t e t2:=#[g.tb,by have:=a.fr;lia,by have:=a.ms;have:=g.ms;lia,a.ok]
theorem X6 {d d':GJ}{c:String}{t t1 t2:JH}{e x:Exp}(hd:d'+1=d) (G:Go t t1) (a:Gd 6 d' t1 e t2) (h1:fr x=2+fr e) (h2:xF x=tx c::pF 5 e (xF e)) (h3:GE x=GE e) (hs:(tx c).cps.size=1):Gd 6 d t x t2:=by
 have q1:=a.fr
 have q2:=a.ms
 have q3:=G.2
 have q5:=iP 5 e (xF e);refine#[a.tb,by rw[h1];lia,?_,by rw[h3];exact a.ok];rw[h2,ae,hs];lia
theorem sO: ∀k,PF k
 |0=>by
  refine#[?_,?_,?_,?_,?_,?_,?_,?_,?_,?_,?_,?_]<;>intros<;>first|(unfold G9;exact c7)|(unfold Wa;exact c7)|(unfold YB;exact c7)|(unfold VO;exact c7)|(unfold Vj;exact c7)|(unfold WX;exact c7)|(unfold UW;exact c7)|(unfold WY;exact c7)|(unfold UX;exact c7)|(unfold Ie;exact c7)|(unfold HZ;exact c7)|(unfold Qi;exact c7)
 |k+1=>by
  have I:=sO k;refine#[λd K t b h=>?_,λd K t b h=>?_,λd K t b h=>?_,λd K t b h=>?_,λd K t b h=>?_,λd K t b h=>?_,λd K t b h=>?_,λd K t b h=>?_,λd K t b h=>?_,λd K t b h=>?_,λd K t b h=>?_,λd K n t b h=>?_]
  .unfold G9
   refine W.ite (λe=>?_) ?_
   .refine(X5 h d).then λd' r ⟨hr,hd⟩=>?_
    subst hr;rw[de,fC];obtain⟨h1,l1⟩:=zW h e;refine(I.expr d' K _ b h1).then λc t2 gc=>(jh gc.tb _).then λ_ t3 ⟨h3,l3⟩=>(I.expr d' K _ b h3).then λx t4 gx=>(jh gx.tb _).then λ_ t5 ⟨h5,l5⟩=>(I.expr d' K _ b h5).then λy t6 gy=>?_;rw[c6];have a1:=gc.ms;have a2:=gx.ms;have a3:=gy.ms;have b1:=gc.fr;have b2:=gx.fr;have b3:=gy.fr;refine#[gy.tb,?_,?_,by rw[GE];exact#[gc.ok,gx.ok,gy.ok]]
    .unfold fr
     have:max (fr c) (max (fr x) (fr y))<=21+19*d':=Jd.mpr #[b1,Jd.mpr #[b2,b3]];lia
    .unfold xF
     rw[ae,au,ae,au,ae,sz "if " 3,sz " then " 6,sz " else " 6];lia
   .refine(I.ands d K t b h).then λx t1 gx=>(I.moreOr d K t1 b gx.tb).then λl t2 gl=>?_
    rw[c6];cases l with
    |nil=>exact sd gx gl
    |cons y s=>exact jc gx gl (by rw[fr]) (by rw[xF]) (λp q=>by rw[GE];first|exact#[p,q]|exact#[p,q,IO])
  .unfold Wa
   refine(lC h _).then λm t1 hm=>?_;split
   .rename_i e
    rw[GD e] at hm;refine(I.ands d K t1 b hm.1).then λx t2 gx=>(I.moreOr d K t2 b gx.tb).then λl t3 gl=>?_;exact ze (g:="||") [00] hm gx gl
   .rename_i e
    rw[GB e] at hm;subst hm;exact pJ h (by first|rw[GL];trivial|rw[GR];trivial)
  .unfold YB
   refine(I.compared d K t b h).then λx t1 gx=>(I.moreAnd d K t1 b gx.tb).then λl t2 gl=>?_;rw[c6];cases l with
   |nil=>exact sd gx gl
   |cons y s=>exact jc gx gl (by rw[fr]) (by rw[xF]) (λp q=>by rw[GE];first|exact#[p,q]|exact#[p,q,IO])
  .unfold VO
   refine(lC h _).then λm t1 hm=>?_;split
   .rename_i e
    rw[GD e] at hm;refine(I.compared d K t1 b hm.1).then λx t2 gx=>(I.moreAnd d K t2 b gx.tb).then λl t3 gl=>?_;exact ze (g:="&&") [00] hm gx gl
   .rename_i e
    rw[GB e] at hm;subst hm;exact pJ h (by first|rw[GL];trivial|rw[GR];trivial)
  .unfold Vj
   refine(I.added d K t b h).then λx t1 gx=>(oR gx.tb _).then λs t2 hs=>?_;cases s with
   |none=>
    subst hs;exact gx.up (t1:=[]) [01]
   |some op=>
    obtain⟨ho,hg⟩:=hs;refine(I.added d K t2 b hg.1).then λy t3 gy=>?_;rw[c6];have q1:=gy.fr;have q2:=gy.ms;have q3:=hg.2;have q4:=vM op (ye op ho).1;have q6:=yh (w:=3) (op:=op) (e:=y) (r:= .nil);refine jc (w:=3) gx (f:=fr y) (ps:=rF 3 (.cons op y .nil)) (b:=GE y) #[gy.tb,q1,?_,gy.ok] ?_ ?_ ?_
    .rw[show mS (rF 3 Rest.nil)=0 by rw[rF,cx]] at q6
     lia
    .rw[fr]
    .rw[xF,rF,rF,GY]
    .intro p q
     rw[GE];exact#[ho,p,q]
  .unfold WX
   refine(I.times d K t b h).then λx t1 gx=>(I.moreAdded d K t1 b gx.tb).then λl t2 gl=>?_;rw[c6];cases l with
   |nil=>exact sd gx gl
   |cons op y s=>exact jc gx gl (by rw[fr]) (by rw[xF]) (λp q=>by rw[GE];first|exact#[p,q]|exact#[p,q,IO])
  .unfold UW
   refine(oR h _).then λs t1 hs=>?_;cases s with
   |none=>
    subst hs;exact pJ h (by first|rw[GL];trivial|rw[GR];trivial)
   |some op=>
    obtain⟨ho,hg⟩:=hs;exact(I.times d K t1 b hg.1).then λy t2 gy=>(I.moreAdded d K t2 b gy.tb).then λr t3 gr=>yJ ((by decide+kernel: ∀s∈W0 text _,s∈AR) op ho) hg gy gr
  .unfold WY
   refine(I.unary d K t b h).then λx t1 gx=>(I.moreTimes d K t1 b gx.tb).then λl t2 gl=>?_;rw[c6];cases l with
   |nil=>exact sd gx gl
   |cons op y s=>exact jc gx gl (by rw[fr]) (by rw[xF]) (λp q=>by rw[GE];first|exact#[p,q]|exact#[p,q,IO])
  .unfold UX
   refine(oR h _).then λs t1 hs=>?_;cases s with
   |none=>
    subst hs;exact pJ h (by first|rw[GL];trivial|rw[GR];trivial)
   |some op=>
    obtain⟨ho,hg⟩:=hs;exact(I.unary d K t1 b hg.1).then λy t2 gy=>(I.moreTimes d K t2 b gy.tb).then λr t3 gr=>yJ ((by decide+kernel: ∀s∈W0 text _,s∈AR) op ho) hg gy gr
  .unfold Ie
   refine W.ite (λe=>?_) (W.ite (λe=>?_) (I.primary d K t b h))
   .obtain⟨h1,l1⟩:=goS h e
    show W (λt=>match peek (t.drop 1) with
     | .num n=> .ok (.neg (.num n),t.drop 2)
     |_=>(deeper d>>=λe=>next>>=λ_=>Ie k e K>>=λa=>Hz (.neg a):P Exp) t) t _ _
    have un:W (deeper d>>=λe=>next>>=λ_=>Ie k e K>>=λa=>Hz (.neg a):P Exp) t (Gd 6 d t) T0:=by
     refine(X5 h d).then λd' r ⟨hr,hd⟩=>?_;subst hr;rw[de,fC];refine(I.unary d' K _ b h1).then λx t2 gx=>?_;exact X6 hd #[h1,l1] gx (by rw[fr]) (by rw[xF]) (by rw[GE]) [00]
    unfold W at un ⊢;dsimp only;split
    .rename_i z
     split at z
     .rename_i n hn
      cases z;have nn:=h1.num hn;have l2:=xj hn (by intro z;cases z);rw[O6] at l2;refine#[h.drop 2,by rw[fr,fr,GD nn];lia,?_,by rw[GE,GE];exact nn]
      .rw[xF,xF,ae,sz "-" 1]
       have:=iP 5 (.num n) [kg n]
       have:mS [kg n]=(kg n).cps.size+1+0:=ae _ _
       have:=lw nn
       have:(R5 (1+1) t).length+1=(R5 1 t).length:=l2
       show _+8+64*(R5 (1+1) t).length<=_
       lia
     .rename_i z'
      rw[z] at un;exact un
    .trivial
   .obtain⟨h1,l1⟩:=goS h e
    refine(X5 h d).then λd' r ⟨hr,hd⟩=>?_;subst hr;rw[de,fC];refine(I.unary d' K _ b h1).then λx t2 gx=>?_;exact X6 hd #[h1,l1] gx (by rw[fr]) (by rw[xF]) (by rw[GE]) [00]
  .unfold HZ
   refine W.of λa r e=>?_;split at e
   .rename_i n hn
    cases e;have nn:=h.num hn;have l1:=xj hn (by intro z;cases z);refine#[h.drop 1,by rw[fr,GD nn];lia,?_,by rw[GE];exact nn];rw[xF,ae,cx];have:=lw nn;lia
   .split at e
    .rename_i hp
     refine W.to (show W (deeper d>>=λe=>next>>=λ_=>G9 k e K>>=λa=>sign ")">>=λ_=>Hz a:P Exp) t (Gd 6 d t) T0 from ?_) e
     obtain⟨h1,l1⟩:=goS h hp;refine(X5 h d).then λd' r ⟨hr,hd⟩=>?_;subst hr;rw[de,fC];refine(I.expr d' K _ b h1).then λx t2 gx=>(cD gx.tb _).then λ_ t3 ⟨h3,l3⟩=>?_;exact#[h3,by have:=gx.fr;lia,by have:=gx.ms;lia,gx.ok]
    .cases e
   .rename_i w hw
    have ww:=h.word hw;obtain⟨h1,l1⟩:=go1 h hw (by intro z;cases z);split at e
    .refine W.to (show W (deeper d>>=λe=>next>>=λ_=>sign "(">>=λ_=>newName K>>=λx=>key "in">>=λ_=>G9 k e K>>=λlo=>sign "..">>=λ_=>G9 k e K>>=λhi=>sign ":">>=λ_=>G9 k e (K.with x)>>=λa=>sign ")">>=λ_=>Hz (.sum x lo hi a):P Exp) t (Gd 6 d t) T0 from ?_) e
     refine(X5 h d).then λd' r ⟨hr,hd⟩=>?_;subst hr;rw[de,fC];refine(cD h1 _).then λ_ t2 ⟨h2,l2⟩=>(fF h2 K).then λx t3 ⟨wx,h3,l3⟩=>(jh h3 _).then λ_ t4 ⟨h4,l4⟩=>(I.expr d' K _ b h4).then λlo t5 g5=>(cD g5.tb _).then λ_ t6 ⟨h6,l6⟩=>(I.expr d' K _ b h6).then λhi t7 g7=>(cD g7.tb _).then λ_ t8 ⟨h8,l8⟩=>(I.expr d' (K.with x) _ b h8).then λy t9 g9=>(cD g9.tb _).then λ_ t10 ⟨h10,l10⟩=>?_;rw[c6];have a1:=g5.ms;have a2:=g7.ms;have a3:=g9.ms;have a4:=eZ wx;refine#[h10,?_,?_,by rw[GE];exact#[wx,g5.ok,g7.ok,g9.ok]]
     .rw[fr]
      have:=Jd.mpr #[g5.fr,Jd.mpr #[g7.fr,g9.fr]];lia
     .rw[xF,ae,ae,ae,au,ae,au,ae,au,ae,cx,sz "sum(" 4,sz " in " 4,sz " .. " 4,sz ": " 2,sz ")" 1]
      lia
    split at e
    .cases e
    split at e
    .rename_i f hf
     refine W.to (show W (deeper d>>=λe=>next>>=λ_=>sign "(">>=λ_=>(if f.2=0 then(sign ")">>=λ_=>Hz (.call w .nil)) else(Qi k e K f.2>>=λl=>Hz (.call w l)):P Exp)) t (Gd 6 d t) T0 from ?_) e
     refine(X5 h d).then λd' r ⟨hr,hd⟩=>?_;subst hr;rw[de,fC];refine(cD h1 _).then λ_ t2 ⟨h2,l2⟩=>?_;have end_: ∀(l:Exps) (t3:JH),xU 21 d' t2 (ke l) 64 (aF l) (GL l/\Bf l=f.2) t3->Gd 6 d r (.call w l) t3:=λl t3 g=>by
      have a1:=g.ms
      have a2:=g.fr
      have a4:=eZ ww;refine#[g.tb,by rw[fr];lia,?_,?_]
      .rw[xF,ae,ae,au,ae,cx,sz "(" 1,sz ")" 1]
       lia
      .rw[GE]
       exact#[ww,g.ok.1,λk hk=>by rw[b _ _ hk] at hf;cases hf;exact g.ok.2]
     split
     .rename_i f0
      refine(cD h2 _).then λ_ t3 ⟨h3,l3⟩=>?_;rw[c6];exact end_ _ _ #[h3,by rw[ke];lia,by rw[aF,cx];lia,by rw[GL];trivial,by rw[f0];rfl]
     .refine(I.arguments d' K f.2 t2 b h2).then λl t3 gl=>?_
      rename_i f0;exact end_ _ _ #[gl.tb,gl.fr,gl.ms,gl.ok.1,gl.ok.2 f0]
    .split at e
     .cases e
      have a4:=eZ ww;refine#[h1,by rw[fr];lia,?_,by rw[GE];exact ww];rw[xF,ae,cx];lia
     .cases e
   .cases e
  .unfold Qi
   refine W.ite (λ_=>c7) ((I.expr d K t b h).then λx t1 gx=>?_);split
   .rename_i n1
    refine W.ite (λ_=>c7) ((cD gx.tb _).then λ_ t2 ⟨h2,l2⟩=>?_);rw[c6];refine#[h2,?_,?_,by rw[GL,GL];exact#[gx.ok,trivial],λn0=>by rw[Bf,Bf];lia]
    .rw[ke,ke,GJ.max_zero];exact gx.fr
    .rw[aF]
     have:=gx.ms;lia
   .rename_i n1
    refine W.ite (λ_=>c7) ((cD gx.tb _).then λ_ t2 ⟨h2,l2⟩=>(I.arguments d K _ t2 b h2).then λl t3 gl=>?_);rw[c6];have b1:=gl.ms;have b2:=gx.ms;refine#[gl.tb,?_,?_,by rw[GL];exact#[gx.ok,gl.ok.1],λn0=>by rw[Bf,gl.ok.2 (by lia)];lia]
    .rw[ke];exact Jd.mpr #[gx.fr,gl.fr]
    .cases l with
     |nil=>
      rw[aF];lia
     |cons y s=>
      rw[aF,au,ae,sz ", " 2]
      .lia
      .intro z;cases z
end OS
namespace OS
open Vbemac
open PySem (Str)
def gE (n:GJ):G0:=#[Ot (2*n) 32]
def mT (b:HH):G0:=if b=Ix then tx "buy" else tx "sell"
def nmF:GF HA->Gm G0
 |none=>[]
 |some x=>[sb x,tx " "]
def nmB:GF HA->HA
 |none=>[]
 |some x=>x++text " "
def unF:GF HA->Gm G0
 |none=>[]
 |some x=>[tx " under ",sb x]
def qH (n:GJ) (ls:Gm G0):Gm G0:=tx " {\n"::(ls++[gE n,tx "}"])
mutual
def fj (n:GJ):Stmt->Gm G0
 | .bind x e=>tx "let "::sb x::tx " = "::(xF e++[tx ";"])
 | .loop x lo hi l=>tx "for "::sb x::tx " in "::(xF lo++(tx " .. "::(xF hi++qH n (iX (n+1) l))))
 | .cond c a .nil=>tx "if "::(xF c++qH n (iX (n+1) a))
 | .cond c a b=>tx "if "::(xF c++(qH n (iX (n+1) a)++(tx " else"::qH n (iX (n+1) b))))
 | .step RI z q p top a=>mT RI::(tw "zone" z++(tw "quarter" q++(tw "price" p++(vR "to" top++(tw "amount" a++[tx ";"])))))
 | .block m RI z p x q u g=>tx "block "::(nmF m++(mT RI::(tw "zone" z++(tw "price" p++(tx " amount "::sb x::tx ": "::(xF q++(unF u++(vR "group" g++[tx ";"]))))))))
def iX (n:GJ):Stmts->Gm G0
 | .nil=>[]
 | .cons s l=>gE n::(fj n s++(tx "\n"::iX n l))
end
def wz:GF Exp->GJ
 |none=>0
 |some e=>fr e
mutual
def gX:Stmt->GJ
 | .bind _ e=>2+fr e
 | .loop _ lo hi l=>max (3+fr lo) (max (3+fr hi) (1+iy l))
 | .cond c a b=>max (3+fr c) (max (2+iy a) (2+iy b))
 | .step _ z q p top a=>4+max (fr z) (max (fr q) (max (fr p) (max (wz top) (fr a))))
 | .block _ _ z p _ q _ g=>4+max (fr z) (max (fr p) (max (fr q) (wz g)))
def iy:Stmts->GJ
 | .nil=>1
 | .cons s l=>max (1+gX s) (iy l)
end
def GO:GF Exp->Prop
 |none=>True
 |some e=>GE e
def WO:GF HA->Prop
 |none=>True
 |some x=>Wd x
mutual
def GS:Stmt->Prop
 | .bind x e=>Wd x/\GE e
 | .loop x lo hi l=>Wd x/\GE lo/\GE hi/\qN l
 | .cond c a b=>GE c/\qN a/\qN b
 | .step _ z q p top am=>GE z/\GE q/\GE p/\GO top/\GE am
 | .block m _ z p x q u g=>WO m/\GE z/\GE p/\Wd x/\GE q/\WO u/\GO g
def qN:Stmts->Prop
 | .nil=>True
 | .cons s l=>GS s/\qN l
end
theorem CW (n:GJ):bO (gE n)=«ints» (indent n):=by
 unfold bO;rw[GB]
 .show(Ot (2*n) 32).toList.map ME=(Jr (2*n) (32:JV)).map _
  rw[Ol,UR,UR]
  rfl
 .intro z
  have e:(Ot (2*n) 32).toList=lS.cps.toList:=Hr (λx=>x.cps.toList) z
  have m:(47:GJ)∈(Ot (2*n) 32).toList:=by rw[e];decide
  rw[Ol] at m;have:=(Gm.mem_replicate.mp m).2;lia
theorem tJ (n:GJ):(gE n).cps.size=2*n:=Ky.size_replicate
theorem zb (b:HH):bO (mT b)=«ints» (sideWord b):=by cases b<;>decide+kernel
theorem qy (b:HH):(mT b).cps.size<=4:=by cases b<;>decide+kernel
theorem oX {w:String}{e:Exp}(hw:bO (tx w)=«ints» (text w)) (h:bF (xF e)=«ints» (shown e)):bF (tw w e)=«ints» (text " "++(text w++(text " "++shown e))):=by
 unfold tw;rw[aA,aA,aA,h,hw,aV,aV,aV]
 rfl
theorem dU {w:String}{n:GJ}{e:Exp}(hw:(tx w).cps.size=n):mS (tw w e)=n+5+mS (xF e):=by
 unfold tw;rw[ae,ae,ae,hw,sz " " 1];lia
section
variable {t:JH}(h:TB t)
include h
theorem Do:W side t (λ_ r=>Go t r) T0:=by
 refine W.of λa r e=>?_;unfold side at e;split at e
 .rename_i k
  cases e;exact zW h k
 split at e
 .rename_i k
  cases e;exact zW h k
 .cases e
theorem ux {α:Type}{p:P α}{Q:JH->α->JH->Prop}{w:String}(hp: ∀t1,Go t t1->W p t1 (Q t1) T0):W (behind w p) t (λo r=>match o with
  |none=>r=t
  |some a=> ∃t1,Go t t1/\Q t1 a r) T0:=by
 refine W.of λo r e=>?_;unfold behind at e;split at e
 .rename_i k
  have g:=zW h k;split at e
  .cases e
  .rename_i z
   cases e;exact#[_,g,(hp _ g).to z]
 .cases e
  exact IO
theorem tP (B:Blocks):W (blockName B) t (λx r=>Wd x/\Go t r) T0:=by
 refine W.of λo r e=>?_;unfold blockName at e;split at e
 .cases e
 .rename_i z
  split at e
  .cases e
  .cases e
   exact(jP h).to z
theorem r9 (B:Blocks):W (knownBlock B) t (λx r=>Wd x/\Go t r) T0:=by
 refine W.of λo r e=>?_;unfold knownBlock at e;split at e
 .cases e
 .rename_i z
  split at e
  .cases e
   exact(jP h).to z
  .cases e
theorem vA (B:Blocks):W (maybeName B) t (λo r=>match o with
  |none=>r=t
  |some x=>Wd x/\Go t r) T0:=by
 refine W.of λo r e=>?_;unfold maybeName at e;split at e
 .cases e
  exact IO
 split at e
 .cases e
 .rename_i z
  cases e;exact(tP h B).to z
theorem CI {w:String}{k:GJ}{K:Known}(b:BC K.funs) (hs:(tx w).cps.size<=8):W (behind w (expr k DEEP K)) t (λo=>xU 21 12 t (wz o) 0 (vR w o) (GO o)) T0:=by
 refine(ux h (λt1 g=>(sO k).expr DEEP K t1 b g.1)).mono (λo r q=>?_) λ_ _ z=>z;cases o with
 |none=>
  cases q;exact pJ h trivial
 |some e=>
  obtain⟨t1,g,q⟩:=q;have a1:=q.ms;have a2:=g.2;refine#[q.tb,q.fr,?_,q.ok];have:mS (vR w (GM e))=_:=dU (e:=e) (rfl:(tx w).cps.size=_);lia
end
structure Gs (n d:GJ) (t:JH) (f m:GJ) (ps:Gm G0) (g:Prop) (r:JH):Prop where
 tb:TB r
 fr:f<=253+3*d
 ms:mS ps+m+64*r.length<=64*t.length
 ok:g
structure PS (k:GJ):Prop where
 stmts: ∀n d K B t,BC K.funs->n+d<=7->TB t->W (stmts k d K B) t (λl r=>Gs n d t (iy l.1-1) 64 (iX n l.1) (qN l.1) r) T0
 stmt: ∀n d K B t,BC K.funs->n+d<=7->TB t->W (stmt k d K B) t (λs r=>Gs n d t (gX s.1) 0 (gE n::(fj n s.1++[tx "\n"])) (GS s.1/\s.2.1.funs=K.funs) r) T0
theorem gK (n:GJ) (ls:Gm G0):mS (qH n ls)=7+2*n+mS ls:=by
 unfold qH;rw[ae,au,ae,ae,cx,tJ,sz " {\n" 3,sz "}" 1];lia
theorem tZ {n:GJ}{ls:Gm G0}{b:HA}(h:bF ls=«ints» b):bF (qH n ls)=«ints» (text " {\n"++(b++(indent n++text "}"))):=by
 unfold qH;rw[aA,bw,aA,aA,eO,h,CW,bP " {\n" (text " {\n"),bP "}" (text "}")];simp only[aV,GY]
theorem line {n d f:GJ}{t r:JH}{s:Stmt}{g:Prop}(tb:TB r) (hn:n+d<=7) (hf:gX s=f) (h1:f<=253+3*d) (h2:mS (fj n s)+17+64*r.length<=64*t.length) (h3:g):Gs n d t (gX s) 0 (gE n::(fj n s++[tx "\n"])) g r:=by
 refine#[tb,by rw[hf];exact h1,?_,h3];rw[ae,au,ae,cx,tJ,sz "\n" 1];lia
theorem Eu: ∀k,PS k
 |0=>by
  refine#[?_,?_]<;>intros<;>first|(unfold J4;exact c7)|(unfold KZ;exact c7)
 |k+1=>by
  have I:=Eu k
  have X: ∀K t,BC K.funs->TB t->W (G9 k DEEP K) t (Gd 21 12 t) T0:=(sO k).expr 12;refine#[λn d K B t b hn h=>?_,λn d K B t b hn h=>?_]
  .unfold J4
   refine W.ite (p:=λt=> .ok ((Stmts.nil,B),t.drop 1)) (λe=>?_) ?_
   .obtain⟨h1,l1⟩:=goS h e
    refine#[h1,by show iy .nil-1<=_;rw[iy];lia,?_,by show qN .nil;rw[qN];trivial];show mS (iX n .nil)+64+64*(t.drop 1).length<=_;rw[iX,cx];lia
   .refine(I.stmt n d K B t b hn h).then λs t1 gs=>(I.stmts n d s.2.1 s.2.2 t1 (by rw[gs.ok.2];exact b) hn gs.tb).then λl t2 gl=>?_
    rw[c6];have a1:=gs.ms;have a2:=gl.ms;have a3:=gs.fr;have a4:=gl.fr;refine#[gl.tb,?_,?_,by show qN (.cons s.1 l.1);rw[qN];exact#[gs.ok.1,gl.ok]]
    .show iy (.cons s.1 l.1)-1<=_
     rw[iy];have:max (1+gX s.1) (iy l.1)<=254+3*d:=Jd.mpr #[by lia,by lia];lia
    .show mS (iX n (.cons s.1 l.1))+64+_<=_
     rw[iX,ae,au,ae];rw[ae,au,ae,cx] at a1;lia
  .unfold KZ
   refine W.ite (λe=>?_) (W.ite (λe=>?_) (W.ite (λe=>?_) (W.ite (λe=>?_) ?_)))
   .rw[de,fC]
    obtain⟨h1,l1⟩:=zW h e;refine(fF h1 K).then λx t2 ⟨wx,h2,l2⟩=>(cD h2 _).then λ_ t3 ⟨h3,l3⟩=>(X K t3 b h3).then λy t4 gy=>(cD gy.tb _).then λ_ t5 ⟨h5,l5⟩=>?_;rw[c6];have a1:=gy.ms;have a2:=gy.fr;have a3:=eZ wx;refine line h5 hn (by rw[gX]) (by lia) ?_ (by rw[GS];exact#[#[wx,gy.ok],IO])
    .rw[fj,ae,ae,ae,au,ae,cx,sz "let " 4,sz " = " 3,sz ";" 1]
     lia
   .refine(X5 h d).then λd' r ⟨hr,hd⟩=>?_
    subst hr;rw[de,fC];obtain⟨h1,l1⟩:=zW h e;refine(fF h1 K).then λx t2 ⟨wx,h2,l2⟩=>(jh h2 _).then λ_ t3 ⟨h3,l3⟩=>(X K t3 b h3).then λlo t4 g4=>(cD g4.tb _).then λ_ t5 ⟨h5,l5⟩=>(X K t5 b h5).then λhi t6 g6=>(cD g6.tb _).then λ_ t7 ⟨h7,l7⟩=>(I.stmts (n+1) d' (K.with x) B t7 b (by lia) h7).then λl t8 g8=>?_;rw[c6];have a1:=g4.ms;have a2:=g6.ms;have a3:=g8.ms;have a4:=eZ wx;have b1:=g4.fr;have b2:=g6.fr;have b3:=g8.fr;refine line g8.tb hn (by rw[gX]) (Jd.mpr #[by lia,Jd.mpr #[by lia,by lia]]) ?_ (by rw[GS];exact#[#[wx,g4.ok,g6.ok,g8.ok],IO])
    .rw[fj,ae,ae,ae,au,ae,au,gK,sz "for " 4,sz " in " 4,sz " .. " 4]
     lia
   .refine(X5 h d).then λd' r ⟨hr,hd⟩=>?_
    subst hr;rw[de,fC];obtain⟨h1,l1⟩:=zW h e;refine(X K _ b h1).then λc t2 g2=>(cD g2.tb _).then λ_ t3 ⟨h3,l3⟩=>(I.stmts (n+1) d' K B t3 b (by lia) h3).then λx t4 g4=>(FK g4.tb _).then λm t5 hm=>?_;have a1:=g2.ms;have a2:=g4.ms;have b1:=g2.fr;have b2:=g4.fr;have one: ∀ {t5:JH},TB t5->t5.length<=t4.length->Gs n d r (gX (.cond c x.1 .nil)) 0 (gE n::(fj n (.cond c x.1 .nil)++[tx "\n"])) (GS (.cond c x.1 .nil)/\K.funs=K.funs) t5:=λh5 l5=>by
     refine line h5 hn (by rw[gX,iy]) (Jd.mpr #[by lia,Jd.mpr #[by lia,by lia]]) ?_ (by rw[GS,qN];exact#[#[g2.ok,g4.ok,trivial],IO])
     .rw[fj,ae,au,gK,sz "if " 3]
      lia
    split
    .rename_i em
     rw[GD em] at hm;obtain⟨h5,l5⟩:=hm;refine(cD h5 _).then λ_ t6 ⟨h6,l6⟩=>(I.stmts (n+1) d' K x.2 t6 b (by lia) h6).then λy t7 g7=>?_;rw[c6];have a3:=g7.ms;have b3:=g7.fr;show Gs n d r (gX (.cond c x.1 y.1)) 0 (gE n::(fj n (.cond c x.1 y.1)++[tx "\n"])) (GS (.cond c x.1 y.1)/\K.funs=K.funs) t7;cases hy:y.1 with
     |nil=>exact one g7.tb (by lia)
     |cons s l=>
      rw[hy] at a3 b3;have g7b:=g7.ok;rw[hy] at g7b;refine line g7.tb hn (by rw[gX]) (Jd.mpr #[by lia,Jd.mpr #[by lia,by lia]]) ?_ (by rw[GS];exact#[#[g2.ok,g4.ok,g7b],IO])
      .rw[fj,ae,au,au,gK,ae,gK,sz "if " 3,sz " else" 5]
       .lia
       .intro z;cases z
    .rename_i em
     rw[GB em] at hm;subst hm;rw[c6];exact one g4.tb (GU _)
   .rw[de,fC]
    obtain⟨h1,l1⟩:=zW h e;refine(vA h1 B).then λm t2 hm=>?_;have m2:TB t2/\mS (nmF m)+64*t2.length<=64*(t.drop 1).length/\WO m:=by
     cases m with
     |none=>
      cases hm;exact#[h1,by show 0+_<=_;lia,trivial]
     |some x=>
      obtain⟨wx,h2,l2⟩:=hm;have:=eZ wx;refine#[h2,?_,wx];show mS [sb x,tx " "]+_<=_;rw[ae,ae,cx,sz " " 1];lia
    obtain⟨h2,l2,wm⟩:=m2;refine(Do h2).then λX7 t3 ⟨h3,l3⟩=>(jh h3 _).then λ_ t4 ⟨h4,l4⟩=>(X K t4 b h4).then λz t5 g5=>(jh g5.tb _).then λ_ t6 ⟨h6,l6⟩=>(X K t6 b h6).then λp t7 g7=>(jh g7.tb _).then λ_ t8 ⟨h8,l8⟩=>(fF h8 K).then λx t9 ⟨wx,h9,l9⟩=>(cD h9 _).then λ_ t10 ⟨h10,l10⟩=>(X (K.with x) t10 b h10).then λq t11 g11=>?_;refine(ux g11.tb (w:="under") (λt1 g=>r9 g.1 B)).then λu t12 hu=>?_;have u2:TB t12/\mS (unF u)+64*t12.length<=64*t11.length/\WO u:=by
     cases u with
     |none=>
      cases hu;exact#[g11.tb,by show 0+_<=_;lia,trivial]
     |some y=>
      obtain⟨t1,q1,wy,q2⟩:=hu;have:=eZ wy;have:=q1.2;have:=q2.2;refine#[q2.1,?_,wy];show mS [tx " under ",sb y]+_<=_;rw[ae,ae,cx,sz " under " 7];lia
    obtain⟨h12,l12,wu⟩:=u2;refine(CI h12 (w:="group") b [00]).then λg t13 g13=>(cD g13.tb _).then λ_ t14 ⟨h14,l14⟩=>?_;rw[c6];have a5:=g5.ms;have a7:=g7.ms;have a11:=g11.ms;have a13:=g13.ms;have b5:=g5.fr;have b7:=g7.fr;have b11:=g11.fr;have b13:=g13.fr;have s1:=eZ wx;have s2:=qy X7;refine line h14 hn (f:=4+max (fr z) (max (fr p) (max (fr q) (wz g)))) (by rw[gX]) ?_ ?_ (by rw[GS];exact#[#[wm,g5.ok,g7.ok,wx,g11.ok,wu,g13.ok],IO])
    .have:max (fr z) (max (fr p) (max (fr q) (wz g)))<=249:=Jd.mpr #[b5,Jd.mpr #[b7,Jd.mpr #[b11,b13]]]
     lia
    .rw[fj,ae,au,ae,au,au,dU (sz "zone" 4),dU (sz "price" 5),ae,ae,ae,au,au,au,ae,cx,sz "block " 6,sz " amount " 8,sz ": " 2,sz ";" 1]
     lia
   .refine(Do h).then λX7 t3 ⟨h3,l3⟩=>(jh h3 _).then λ_ t4 ⟨h4,l4⟩=>(X K t4 b h4).then λz t5 g5=>(jh g5.tb _).then λ_ t6 ⟨h6,l6⟩=>(X K t6 b h6).then λq t7 g7=>(jh g7.tb _).then λ_ t8 ⟨h8,l8⟩=>(X K t8 b h8).then λp t9 g9=>(CI g9.tb (w:="to") b [00]).then λu t10 g10=>(jh g10.tb _).then λ_ t11 ⟨h11,l11⟩=>(X K t11 b h11).then λy t12 g12=>(cD g12.tb _).then λ_ t14 ⟨h14,l14⟩=>?_
    rw[c6];have a5:=g5.ms;have a7:=g7.ms;have a9:=g9.ms;have a10:=g10.ms;have a12:=g12.ms;have b5:=g5.fr;have b7:=g7.fr;have b9:=g9.fr;have b10:=g10.fr;have b12:=g12.fr;have s2:=qy X7;refine line h14 hn (f:=4+max (fr z) (max (fr q) (max (fr p) (max (wz u) (fr y))))) (by rw[gX]) ?_ ?_ (by rw[GS];exact#[#[g5.ok,g7.ok,g9.ok,g10.ok,g12.ok],IO])
    .have:max (fr z) (max (fr q) (max (fr p) (max (wz u) (fr y))))<=249:=Jd.mpr #[b5,Jd.mpr #[b7,Jd.mpr #[b9,Jd.mpr #[b10,b12]]]]
     lia
    .rw[fj,ae,au,au,au,au,au,dU (sz "zone" 4),dU (sz "quarter" 7),dU (sz "price" 5),dU (sz "amount" 6),ae,cx,sz ";" 1]
     lia
end OS
namespace OS
open Vbemac
open PySem (Str)
def i4:Top->Gm G0
 | .const x e=>tx "const "::sb x::tx " = "::(xF e++[tx ";\n"])
 | .func x ps e=>tx "fun "::sb x::tx "("::sb (commas ps)::tx ") = "::(xF e++[tx ";\n"])
 | .desk x l=>tx "desk "::sb x::(qH 0 (iX 1 l)++[tx "\n"])
def ku (s:Sheet):Gm G0:=s.flatMap i4
def pY:Top->GJ
 | .const _ e=>2+fr e
 | .func _ _ e=>2+fr e
 | .desk _ l=>1+iy l
theorem jl (x y:HA) (l:Gm HA):commas (x::y::l)=x++(text ", "++commas (y::l)):=rfl
theorem lN: ∀(ps:Gm HA),(∀x∈ps,Wd x)->(∀c∈commas ps,b6 c=Ix\/c=44\/c=32)/\(commas ps).length<=26*ps.length
 |[],_=>#[λ_ h=>(nomatch h),GU _]
 |[x],h=>by
  have w:=h x GP
  have e:commas [x]=x:=by unfold commas;simp
  rw[e];exact#[λc hc=> .inl (w.ok c hc),by have:=w.len;show _<=26*1;lia]
 |x::y::l,h=>by
  have w:=h x GP
  have i:=lN (y::l) λz hz=>h z (G8 _ hz)
  rw[jl];constructor
  .intro c hc
   rcases HG.mp hc with z|z
   .exact .inl (w.ok c z)
   rcases HG.mp z with z|z
   .have:c∈[44,32]:=z
    rcases Hc.mp this with q|q
    .exact .inr (.inl q)
    .exact .inr (.inr (Ht.mp q))
   .exact i.1 c z
  .rw[Gq,Gq]
   have:=w.len
   have:=i.2
   have:(text ", ").length=2:=by decide+kernel
   rw[Gp];lia
theorem aaU {ps:Gm HA}(h: ∀x∈ps,Wd x):bO (sb (commas ps))=«ints» (commas ps):=by
 unfold bO;rw[GB]
 .show((commas ps).map Kz).toArray.toList.map ME=_
  unfold «ints»;rw[JT]
  rfl
 .intro z
  rw[qW] at z;have z:=fZ z;have:=(lN ps h).1 47 (by rw[z];exact GP);exact GW this [01]
theorem BB {ps:Gm HA}(h: ∀x∈ps,Wd x) (h6:ps.length<=6):(sb (commas ps)).cps.size<=156:=by
 show((commas ps).map Kz).toArray.size<=156
 rw[Hv,GG];have:=(lN ps h).2;lia
theorem tD: ∀(k n:GJ) (K:Known) (t:JH),TB t->W (params k n K) t (λps r=>TB r/\r.length<=t.length/\ps.length<=n/\ ∀x∈ps,Wd x) T0
 |0,n,K,t,h=>by unfold params;exact c7
 |k+1,n,K,t,h=>by
  refine W.of λa r e=>?_;unfold params at e;split at e
  .cases e
  .rename_i n0
   refine W.to (Qo:=λps r=>TB r/\r.length<=t.length/\ps.length<=n/\ ∀x∈ps,Wd x) (show W (newName K>>=λx=>ifSign ",">>=λm=>(if m=Ix then(params k (n-1) (K.with x)>>=λl=>Hz (x::l)) else(sign ")">>=λ_=>Hz [x]):P (Gm HA))) t _ T0 from ?_) e
   refine(fF h K).then λx t1 ⟨wx,h1,l1⟩=>(lC h1 _).then λm t2 hm=>?_;split
   .rename_i em
    rw[GD em] at hm;refine(tD k (n-1) (K.with x) t2 hm.1).then λl t3 ⟨h3,l3,q,w⟩=>?_;have:=hm.2;refine#[h3,by lia,by rw[Gp];lia,λy hy=>?_];rcases Hc.mp hy with z|z
    .rw[z];exact wx
    .exact w y z
   .rename_i em
    rw[GB em] at hm;subst hm;refine(cD h1 _).then λ_ t3 ⟨h3,l3⟩=>?_;exact#[h3,by lia,by show 1<=n;lia,λy hy=>by rw[Ht.mp hy];exact wx]
def GT:Top->Prop
 | .const x e=>Wd x/\GE e
 | .func x ps e=>Wd x/\(∀y∈ps,Wd y)/\GE e
 | .desk x l=>Wd x/\qN l
theorem aaV {t:JH}(h:TB t) (K:Known):W (newName K) t (λx r=>(Wd x/\K.taken x=IN)/\Go t r) T0:=by
 have q:=fF h K;unfold W newName at q ⊢;cases e:anyName t with
 |error z=>trivial
 |ok z=>
  rw[e] at q;dsimp only at q ⊢;cases y:K.taken z.1 with
  |true=>rw[GD IO];trivial
  |false=>
   rw[y,GB Gn] at q;rw[GB Gn];exact#[#[q.1,y],q.2]
theorem EV {K:Known}{x:HA}{n:GJ}(b:BC K.funs) (h:K.taken x=IN):BC ((x,n)::K.funs):=by
 intro f k hk;have z:=b f k hk;rw[Iy];cases e:x == f with
 |false=>exact z
 |true=>
  unfold Known.taken at h;rw[MN] at h;have e:=beq_iff_eq.mp e;have m:=Rn z;have p:=V5 z;rw[<-e] at p;have:=KS (p:=λg:HA×GJ=>g.1 == x).mpr #[k,m,p]
  rw[h.2] at this;cases this
structure Gt (t:JH) (ss:Sheet):Prop where
 fr: ∀s∈ss,pY s<=273
 ms:mS (ku ss)<=64*t.length
 ok: ∀s∈ss,GT s
theorem sP {t t1:JH}{s:Top}{l:Sheet}(h1:pY s<=273) (h2:mS (i4 s)+64*t1.length<=64*t.length) (h3:GT s) (g:Gt t1 l):Gt t (s::l):=by
 refine#[Iv.mpr #[h1,g.fr],?_,Iv.mpr #[h3,g.ok]];have:=g.ms;show mS (i4 s++ku l)<=_;rw[au];lia
theorem sk: ∀(k:GJ) (K:Known) (f:GJ) (D:Gm HA) (t:JH),BC K.funs->TB t->W (tops k K f D) t (λss _=>Gt t ss) T0
 |0,K,f,D,t,b,h=>by unfold tops;exact c7
 |k+1,K,f,D,t,b,h=>by
  have X: ∀K t,BC K.funs->TB t->W (G9 k DEEP K) t (Gd 21 12 t) T0:=(sO k).expr 12;refine W.of λa r e=>?_
  unfold tops at e;split at e
  .cases e
   exact#[λ_ z=>(nomatch z),HB _,λ_ z=>nomatch z]
  split at e
  .rename_i ek
   refine W.to (Qo:=λss _=>Gt t ss) (show W (next>>=λ_=>newName K>>=λx=>sign "=">>=λ_=>G9 k DEEP K>>=λe=>sign ";">>=λ_=>tops k (K.with x) f D>>=λl=>Hz (.const x e::l):P Sheet) t _ T0 from ?_) e
   rw[de,fC];obtain⟨h1,l1⟩:=zW h ek;refine(fF h1 K).then λx t2 ⟨wx,h2,l2⟩=>(cD h2 _).then λ_ t3 ⟨h3,l3⟩=>(X K t3 b h3).then λy t4 gy=>(cD gy.tb _).then λ_ t5 ⟨h5,l5⟩=>(sk k (K.with x) _ _ t5 b h5).then λl t6 gl=>?_;rw[c6];have a1:=gy.ms;have a2:=gy.fr;have a3:=eZ wx;refine sP (by rw[pY];lia) ?_ #[wx,gy.ok] gl
   .rw[i4,ae,ae,ae,au,ae,cx,sz "const " 6,sz " = " 3,sz ";\n" 2]
    lia
  split at e
  .rename_i ek
   split at e
   .cases e
   refine W.to (Qo:=λss _=>Gt t ss) (show W (next>>=λ_=>newName K>>=λx=>sign "(">>=λ_=>ifSign ")">>=λnone_=>(if none_=Ix then give [] else params k PARAMS (K.with x))>>=λps=>sign "=">>=λ_=>G9 k DEEP { K with values:=ps++K.values } >>=λe=>sign ";">>=λ_=>tops k { K with funs:=(x,ps.length)::K.funs } (f-1) D>>=λl=>Hz (.func x ps e::l):P Sheet) t _ T0 from ?_) e
   rw[de,fC];obtain⟨h1,l1⟩:=zW h ek;refine(aaV h1 K).then λx t2 ⟨⟨wx,fx⟩,h2,l2⟩=>(cD h2 _).then λ_ t3 ⟨h3,l3⟩=>(lC h3 _).then λm t4 hm=>?_;have hp:W (if m=Ix then give [] else params k PARAMS (K.with x)) t4 (λps r=>TB r/\r.length<=t3.length/\ps.length<=6/\ ∀x∈ps,Wd x) T0:=by
    split
    .rename_i em
     rw[GD em] at hm;have:=hm.2;exact#[hm.1,by lia,HB _,λ_ z=>nomatch z]
    .rename_i em
     rw[GB em] at hm;subst hm;exact tD k 6 (K.with x) t4 h3
   refine hp.then λps t5 ⟨h5,l5,p6,wp⟩=>(cD h5 _).then λ_ t6 ⟨h6,l6⟩=>(X { K with values:=ps++K.values } t6 b h6).then λy t7 gy=>(cD gy.tb _).then λ_ t8 ⟨h8,l8⟩=>(sk k { K with funs:=(x,ps.length)::K.funs } _ _ t8 (EV b fx) h8).then λl t9 gl=>?_;rw[c6];have a1:=gy.ms;have a2:=gy.fr;have a3:=eZ wx;have a4:=BB wp p6;refine sP (by rw[pY];lia) ?_ #[wx,wp,gy.ok] gl
   .rw[i4,ae,ae,ae,ae,ae,au,ae,cx,sz "fun " 4,sz "(" 1,sz ") = " 4,sz ";\n" 2]
    lia
  split at e
  .rename_i ek
   refine W.to (Qo:=λss _=>Gt t ss) (show W (next>>=λ_=>(λu=>match anyName u with
    | .error e=> .error e
    | .ok (w,r)=>if D.contains w=Ix then fail 4 u else .ok (w,r):P HA)>>=λx=>sign "{">>=λ_=>J4 k NEST K []>>=λl=>tops k K f (x::D)>>=λr=>Hz (.desk x l.1::r):P Sheet) t _ T0 from ?_) e
   rw[de,fC];obtain⟨h1,l1⟩:=zW h ek;have hx:W (λu=>match anyName u with
    | .error e=> .error e
    | .ok (w,r)=>if D.contains w=Ix then fail 4 u else .ok (w,r):P HA) (t.drop 1) (λx r=>Wd x/\Go (t.drop 1) r) T0:=by
    refine W.of λo r e=>?_;split at e
    .cases e
    .rename_i z
     split at e
     .cases e
     .cases e
      exact(jP h1).to z
   refine hx.then λx t2 ⟨wx,h2,l2⟩=>(cD h2 _).then λ_ t3 ⟨h3,l3⟩=>((Eu k).stmts 1 6 K [] t3 b [01] h3).then λl t4 gl=>(sk k _ _ _ t4 b gl.tb).then λs t5 gs=>?_;rw[c6];have a1:=gl.ms;have a2:=gl.fr;have a3:=eZ wx;refine sP (by rw[pY];lia) ?_ #[wx,gl.ok] gs
   .rw[i4,ae,ae,au,gK,ae,cx,sz "desk " 5,sz "\n" 1]
    lia
  .cases e
theorem D5 {p:JV->HH} : ∀(l:HA),∀c∈l.takeWhile p,p c=Ix
 |[],_,h=>nomatch h
 |x::l,c,h=>by
  rw[Kg] at h;split at h
  .rename_i hx
   rcases Hc.mp h with z|z
   .rw[z];exact hx
   .exact D5 l c z
  .cases h
theorem DY: ∀(w:HA) (n k:GJ),(∀c∈w,digit c=Ix)->n<10 ^ k->w.foldl (λn c=>10*n+(c.toNat-48)) n<10 ^ (k+w.length)
 |[],n,k,_,h=>h
 |c::w,n,k,hd,h=>by
  rw[V6];have hc:c.toNat<=57:=by
   have:=hd c (GP ..);unfold digit at this;rw[Jt,Ii,Ii] at this;exact JV.le_iff_toNat_le.mp this.2
  have z:=DY w (10*n+(c.toNat-48)) (k+1) (λx hx=>hd x (G8 _ hx)) (by rw[GJ.pow_succ];lia)
  rw[show k+(c::w).length=k+1+w.length by rw[Gp];lia];exact z
theorem lK: ∀(k:GJ) (p:Pos) (b:HA),TB (lex k p b)
 |0,p,b=>by intro x hx;unfold lex at hx;rw[Ht.mp hx];exact#[λ_ e=>(nomatch e),λ_ e=>nomatch e]
 |k+1,p,[]=>by intro x hx;unfold lex at hx;rw[Ht.mp hx];exact#[λ_ e=>(nomatch e),λ_ e=>nomatch e]
 |k+1,p,c::r=>by
  have one: ∀ {y:Tok}{t:JH},((∀w,y= .word w->Wd w)/\ ∀n,y= .num n->n<1000000000000000000)->TB t->TB ((y,p)::t):=λh1 h2 x hx=>by
   rcases Hc.mp hx with z|z
   .rw[z];exact h1
   .exact h2 x z
  have nil:TB []:=λx hx=>nomatch hx
  unfold lex;split
  .exact lK k _ _
  split
  .exact lK k _ _
  split
  .rename_i hl
   dsimp only;split
   .exact one #[λ_ e=>(nomatch e),λ_ e=>nomatch e] nil
   .rename_i hn
    refine one #[λw e=>?_,λ_ e=>nomatch e] (lK k _ _)
    cases e;refine#[?_,λc hc=>D5 (p:=λx=>letter x||digit x) _ c hc,by lia]
    rw[Kg,GD (by rw[hl];rfl)];exact IQ _ _
  split
  .dsimp only
   split
   .exact one #[λ_ e=>(nomatch e),λ_ e=>nomatch e] nil
   .rename_i h
    refine one #[λ_ e=>(nomatch e),λn e=>?_] (lK k _ _)
    cases e;have z:=DY ((c::r).takeWhile digit) 0 0 (D5 _) [01];rw[not_or] at h;exact Hh z (GJ.pow_le_pow_right [01] (show 0+((c::r).takeWhile digit).length<=18 by lia))
  .split
   .exact one #[λ_ e=>(nomatch e),λ_ e=>nomatch e] (lK k _ _)
   .exact one #[λ_ e=>(nomatch e),λ_ e=>nomatch e] nil
theorem qP {b:HA}{ss:Sheet}(h:My b= .ok ss):Gt (tokens b) ss:=by
 unfold My at h;dsimp only at h;split at h
 .cases h
 .rename_i z
  cases h;exact(sk _ _ _ _ _ (λ_ _ z=>z) (lK _ _ _)).to z
end OS
namespace OS
open Vbemac
open PySem (Str)
mutual
theorem d8: ∀e:Exp,GE e->bF (xF e)=«ints» (shown e)
 | .num n,h=>by rw[xF,shown,aA,eO,GY,aaT]
 | .name x,h=>by rw[GE] at h;rw[xF,shown,aA,eO,GY,jt h]
 | .call f l,h=>by
  rw[GE] at h;rw[xF,shown,aA,aA,bw,aA,eO,agZ l h.2.1,jt h.1,bP "(" (text "("),bP ")" (text ")")];simp only[aV,GY]
 | .neg e,h=>by rw[GE] at h;rw[xF,shown,aA,jW (d8 e h),bP "-" (text "-"),aV]
 | .not e,h=>by rw[GE] at h;rw[xF,shown,aA,jW (d8 e h),bP "!" (text "!"),aV]
 | .sums e r,h=>by rw[GE] at h;rw[xF,shown,bw,jW (d8 e h.1),aaW 4 r h.2,aV]
 | .prods e r,h=>by rw[GE] at h;rw[xF,shown,bw,jW (d8 e h.1),aaW 5 r h.2,aV]
 | .cmp op a b,h=>by
  rw[GE] at h;rw[xF,shown,bw,aA,aA,aA,jW (d8 a h.2.1),jW (d8 b h.2.2),Dq _ (ye _ h.1).1,bP " " (text " ")];simp only[aV]
 | .both e l,h=>by rw[GE] at h;rw[xF,shown,bw,jW (d8 e h.1),aaX 2 "&&" (text " && ") (by decide+kernel) l h.2.1,aV]
 | .either e l,h=>by rw[GE] at h;rw[xF,shown,bw,jW (d8 e h.1),aaX 1 "||" (text " || ") (by decide+kernel) l h.2.1,aV]
 | .pick c a b,h=>by
  rw[GE] at h;rw[xF,shown,aA,bw,aA,bw,aA,d8 c h.1,d8 a h.2.1,d8 b h.2.2,bP "if " (text "if "),bP " then " (text " then "),bP " else " (text " else ")];simp only[aV]
 | .sum x lo hi e,h=>by
  rw[GE] at h;rw[xF,shown,aA,aA,aA,bw,aA,bw,aA,bw,aA,eO,d8 lo h.2.1,d8 hi h.2.2.1,d8 e h.2.2.2,jt h.1,bP "sum(" (text "sum("),bP " in " (text " in "),bP " .. " (text " .. "),bP ": " (text ": "),bP ")" (text ")")];simp only[aV,GY]
theorem agZ: ∀l:Exps,GL l->bF (aF l)=«ints» (V9 l)
 | .nil,_=>by rw[aF,V9];rfl
 | .cons e .nil,h=>by rw[GL] at h;rw[aF,V9];exact d8 e h.1
 | .cons e (.cons f l),h=>by
  rw[GL] at h;rw[aF,V9,bw,aA,d8 e h.1,agZ (.cons f l) h.2,bP ", " (text ", "),aV,aV]
  all_goals intro z;cases z
theorem aaX (w:GJ) (g:String) (s:HA) (hs:bO (tx " ")++(bO (tx g)++bO (tx " "))=«ints» s): ∀l:Exps,GL l->bF (mF w (tx g) l)=«ints» (shownMore w s l)
 | .nil,_=>by rw[mF,shownMore];rfl
 | .cons e l,h=>by
  rw[GL] at h;rw[mF,shownMore,aA,aA,aA,bw,jW (d8 e h.1),aaX w g s hs l h.2,aV,aV,<-hs];simp only[Hf]
theorem aaW (w:GJ): ∀r:Rest,GR r->bF (rF w r)=«ints» (shownRest w r)
 | .nil,_=>by rw[rF,shownRest];rfl
 | .cons op e r,h=>by
  rw[GR] at h;rw[rF,shownRest,aA,aA,aA,bw,jW (d8 e h.2.1),aaW w r h.2.2,Dq _ (Bp _ h.1),bP " " (text " ")];simp only[aV]
end
theorem ag0: ∀(w:String) (o:GF Exp),bO (tx w)=«ints» (text w)->GO o->bF (vR w o)=«ints» (opt w shown o)
 |w,none,_,_=>rfl
 |w,some e,hw,h=>oX hw (d8 e h)
theorem akp: ∀o:GF HA,WO o->bF (nmF o)=«ints» (nmB o)
 |none,_=>rfl
 |some x,h=>by
  show bF [sb x,tx " "]=«ints» (x++text " ")
  rw[aA,aA,eO,jt h,bP " " (text " "),aV,GY]
theorem akq: ∀o:GF HA,WO o->bF (unF o)=«ints» (opt "under" (λw=>w) o)
 |none,_=>rfl
 |some y,h=>by
  show bF [tx " under ",sb y]=«ints» (text " "++(text "under"++(text " "++y)))
  rw[aA,aA,eO,jt h,bP " under " (text " "++(text "under"++text " "))];simp only[aV,Hf,GY]
theorem lU {n:GJ}{s:Stmt}{b:HA}(h3:bF (fj n s)=«ints» b) (h4:N3 n s=indent n++(b++[10])):bF (gE n::(fj n s++[tx "\n"]))=«ints» (N3 n s):=by
 rw[aA,bw,aA,eO,h3,h4,CW,aV,aV,bP "\n" [10]];simp only[GY]
mutual
theorem aaY: ∀(s:Stmt) (n:GJ),GS s->bF (gE n::(fj n s++[tx "\n"]))=«ints» (N3 n s)
 | .bind x e,n,h=>by
  rw[GS] at h;refine lU (b:=text "let "++(x++(text " = "++(shown e++[59])))) ?_ ?_
  .rw[fj,aA,aA,aA,bw,aA,eO,d8 e h.2,jt h.1,bP "let " (text "let "),bP " = " (text " = "),bP ";" [59]]
   simp only[aV,GY]
  .rw[N3]
   simp only[cat,Lo,LD,Hf,GY]
   rfl
 | .loop x lo hi l,n,h=>by
  rw[GS] at h;refine lU (b:=text "for "++(x++(text " in "++(shown lo++(text " .. "++(shown hi++(text " {\n"++(N5 (n+1) l++(indent n++text "}"))))))))) ?_ ?_
  .rw[fj,aA,aA,aA,bw,aA,bw,tZ (jJ l (n+1) h.2.2.2),d8 lo h.2.1,d8 hi h.2.2.1,jt h.1,bP "for " (text "for "),bP " in " (text " in "),bP " .. " (text " .. ")]
   simp only[aV]
  .rw[N3]
   simp only[cat,Lo,LD,Hf,GY]
   rfl
 | .cond c x .nil,n,h=>by
  rw[GS] at h;refine lU (b:=text "if "++(shown c++(text " {\n"++(N5 (n+1) x++(indent n++text "}"))))) ?_ ?_
  .rw[fj,aA,bw,tZ (jJ x (n+1) h.2.1),d8 c h.1,bP "if " (text "if ")]
   simp only[aV]
  .rw[N3]
   simp only[cat,Lo,LD,Hf,GY]
   rfl
 | .cond c x (.cons s l),n,h=>by
  rw[GS] at h;refine lU (b:=text "if "++(shown c++((text " {\n"++(N5 (n+1) x++(indent n++text "}")))++(text " else"++(text " {\n"++(N5 (n+1) (.cons s l)++(indent n++text "}"))))))) ?_ ?_
  .rw[fj,aA,bw,bw,tZ (jJ x (n+1) h.2.1),aA,tZ (jJ (.cons s l) (n+1) h.2.2),d8 c h.1,bP "if " (text "if "),bP " else" (text " else")]
   .simp only[aV]
   .intro z;cases z
  .rw[N3]
   .simp only[cat,Lo,LD,Hf,GY]
    rfl
   .intro z;cases z
 | .step RI z q p top am,n,h=>by
  rw[GS] at h;refine lU (b:=sideWord RI++((text " "++(text "zone"++(text " "++shown z)))++((text " "++(text "quarter"++(text " "++shown q)))++((text " "++(text "price"++(text " "++shown p)))++(opt "to" shown top++((text " "++(text "amount"++(text " "++shown am)))++[59])))))) ?_ ?_
  .rw[fj,aA,bw,bw,bw,bw,bw,oX (w:="zone") [00] (d8 z h.1),oX (w:="quarter") [00] (d8 q h.2.1),oX (w:="price") [00] (d8 p h.2.2.1),oX (w:="amount") [00] (d8 am h.2.2.2.2),aA,eO,ag0 _ _ [00] h.2.2.2.1,zb,bP ";" [59]]
   simp only[aV,GY]
  .rw[N3]
   simp only[cat,Lo,LD,Hf,GY]
   rfl
 | .block m RI z p x q u g,n,h=>by
  rw[GS] at h;refine lU (b:=text "block "++(nmB m++(sideWord RI++((text " "++(text "zone"++(text " "++shown z)))++((text " "++(text "price"++(text " "++shown p)))++(text " amount "++(x++(text ": "++(shown q++(opt "under" (λw=>w) u++(opt "group" shown g++[59]))))))))))) ?_ ?_
  .rw[fj,aA,bw,aA,bw,bw,oX (w:="zone") [00] (d8 z h.2.1),oX (w:="price") [00] (d8 p h.2.2.1),aA,aA,aA,bw,bw,bw,aA,eO,akp m h.1,akq u h.2.2.2.2.2.1,d8 q h.2.2.2.2.1,ag0 _ _ [00] h.2.2.2.2.2.2,zb,jt h.2.2.2.1,bP "block " (text "block "),bP " amount " (text " amount "),bP ": " (text ": "),bP ";" [59]]
   simp only[aV,GY]
  .rw[N3.eq_def]
   cases m<;>simp only[nmB,cat,Lo,LD,Hf,GY]<;>rfl
theorem jJ: ∀(l:Stmts) (n:GJ),qN l->bF (iX n l)=«ints» (N5 n l)
 | .nil,n,_=>by rw[iX,N5];rfl
 | .cons s l,n,h=>by
  rw[qN] at h;rw[iX,N5,aV,<-aaY s n h.1,<-jJ l n h.2];simp only[aA,bw,eO,Hf,GY]
end
theorem ag1: ∀s:Top,GT s->bF (i4 s)=«ints» (Tj s)
 | .const x e,h=>by
  rw[i4,Tj,aA,aA,aA,bw,aA,eO,d8 e h.2,jt h.1,bP "const " (text "const "),bP " = " (text " = "),bP ";\n" [59,10]];simp only[aV,GY]
 | .func x ps e,h=>by
  rw[i4,Tj,aA,aA,aA,aA,aA,bw,aA,eO,d8 e h.2.2,jt h.1,aaU h.2.1,bP "fun " (text "fun "),bP "(" (text "("),bP ") = " (text ") = "),bP ";\n" [59,10]];simp only[aV,GY]
 | .desk x l,h=>by
  rw[i4,Tj,aA,aA,bw,tZ (jJ l 1 h.2),aA,eO,jt h.1,bP "desk " (text "desk "),bP "\n" (text "\n")];simp only[aV,GY,Hf]
  rfl
theorem yV: ∀ss:Sheet,(∀s∈ss,GT s)->bF (ku ss)=«ints» (print ss)
 |[],_=>rfl
 |s::l,h=>by
  have h:=Iv.mp h
  show bF (i4 s++ku l)=«ints» (Tj s++print l)
  rw[bw,aV,ag1 s h.1,yV l h.2]
end OS
namespace OS
open Vbemac
open PySem (Str)
theorem eE: ∀e:Exp,4<=fr e
 | .num n=>by rw[fr];split<;>lia
 | .name _=>by rw[fr];exact GU _
 | .call _ l=>by rw[fr];lia
 | .neg e=>by rw[fr];have:=eE e;lia
 | .not e=>by rw[fr];have:=eE e;lia
 | .sums e r=>by rw[fr];have:=eE e;lia
 | .prods e r=>by rw[fr];have:=eE e;lia
 | .cmp _ e b=>by rw[fr];have:=eE e;lia
 | .both e r=>by rw[fr];have:=eE e;lia
 | .either e r=>by rw[fr];have:=eE e;lia
 | .pick c _ _=>by rw[fr];lia
 | .sum _ _ _ _=>by rw[fr];lia
theorem fk (w:GJ) (e:Exp) (ps:Gm G0):mS ps<=mS (pF w e ps):=by
 unfold pF;split
 .rw[ae,au];lia
 .exact GU _
theorem lf: ∀e:Exp,1<=mS (xF e)
 | .num n=>by rw[xF,ae];lia
 | .name _=>by rw[xF,ae];lia
 | .call _ l=>by rw[xF,ae];lia
 | .neg e=>by rw[xF,ae];lia
 | .not e=>by rw[xF,ae];lia
 | .sums e r=>by rw[xF,au];have:=lf e;have:=fk 4 e (xF e);lia
 | .prods e r=>by rw[xF,au];have:=lf e;have:=fk 5 e (xF e);lia
 | .cmp _ e b=>by rw[xF,au];have:=lf e;have:=fk 3 e (xF e);lia
 | .both e r=>by rw[xF,au];have:=lf e;have:=fk 2 e (xF e);lia
 | .either e r=>by rw[xF,au];have:=lf e;have:=fk 1 e (xF e);lia
 | .pick c _ _=>by rw[xF,ae];lia
 | .sum _ _ _ _=>by rw[xF,ae];lia
abbrev Wr (v:Int):Prop:= -1000000000000000000<v/\v<1000000000000000000
theorem sw: ∀ {e:Exp}{v:Int},GE e->lit e=GM v->Wr v
 | .num n,v,h,e=>by rw[GE] at h;cases e;show _/\_;lia
 | .neg (.num n),v,h,e=>by rw[GE,GE] at h;cases e;show _/\_;lia
theorem xI: ∀ {l:Exps}{vs:Gm Int},GL l->lits l=GM vs-> ∀v∈vs,Wr v
 | .nil,vs,_,e=>by cases e;exact λ_ z=>nomatch z
 | .cons x l,vs,h,e=>by
  rw[GL] at h;rw[lits] at e;split at e
  .rename_i e1 e2
   cases e;exact Iv.mpr #[sw h.1 e1,xI h.2 e2]
  .cases e
structure SM (e e':Exp):Prop where
 ok:GE e'
 fr:fr e'<=fr e+2
 ms:mS (xF e')<=21*mS (xF e)
structure SL (l l':Exps):Prop where
 ok:GL l'
 fr:ke l'<=ke l+2
 ms:mS (aF l')<=21*mS (aF l)
 mm: ∀w g,mS (mF w g l')+kL l<=21*mS (mF w g l)
 k:kL l'=kL l
 ln:Bf l'=Bf l
structure SR (r r':Rest):Prop where
 ok:GR r'
 fr:pG r'<=pG r+2
 ms: ∀w,mS (rF w r')+kR r<=21*mS (rF w r)
 k:kR r'=kR r
structure MK (e:Exp):Prop where
 ok:GE e
 fr:fr e<=6
 ms:mS (xF e)<=21
theorem qo {v:Int}(h:Wr v):MK (mk v):=by
 unfold mk;have one: ∀n:GJ,mS [kg n]=(kg n).cps.size+1:=λn=>ae _ _
 split
 .have z:(-v).toNat<1000000000000000000:=by lia
  refine#[by rw[GE,GE];exact z,by rw[OS.fr,OS.fr,GD z];decide,?_];rw[xF,xF,ae,sz "-" 1,show pF 5 (.num (-v).toNat) [kg (-v).toNat]=[kg (-v).toNat] from IO,one];have:=lw z;lia
 .have z:v.toNat<1000000000000000000:=by lia
  refine#[by rw[GE];exact z,by rw[OS.fr,GD z];decide,?_];rw[xF,one];have:=lw z;lia
theorem MK.sm {e e':Exp}(h:MK e'):SM e e':=#[h.ok,by have:=h.fr;have:=eE e;lia,by have:=h.ms;have:=lf e;lia]
theorem uM (b:HH):Wr (truth b):=by cases b<;>decide
theorem rW (b:HH):MK (mk (truth b)):=qo (uM b)
theorem wY (h:n<2):MK (.num n):=by
 have e:Exp.num n=mk (n:GJ):=by
  unfold mk;rw[GB (by lia)]
  rfl
 rw[e];exact qo (by show _/\_;lia)
theorem ag2 {v:Int}(h:writable v=Ix):Wr v:=by
 unfold writable BIG at h
 simpa using h
theorem ED {f:HA}{l:Gm Int}(h: ∀v∈l,Wr v):Wr (builtIn f l):=by
 have d: ∀i,Wr (l.getD i 0):=λi=>by
  rw[Ri];cases e:l[i]? with
  |none=>decide
  |some v=>exact h v (Iu e)
 have d0:=d 0
 have d1:=d 1;unfold builtIn;dsimp only;split
 .show _/\_;lia
 split
 .show _/\_;lia
 split
 .show _/\_;lia
 .exact d0
theorem zt (w:GJ): ∀ {r:Rest}{e:Exp},GE e->GR r->GE (lead e r).1/\GR (lead e r).2/\fr (lead e r).1<=max (fr e) 6/\pG (lead e r).2<=pG r/\mS (xF (lead e r).1)<=max (mS (xF e)) 21/\mS (rF w (lead e r).2)<=mS (rF w r)
 | .nil,e,h1,h2=>by rw[lead];exact#[h1,h2,Iq _ _,GU _,Iq _ _,GU _]
 | .cons op f r,e,h1,h2=>by
  have st:GE e/\GR (.cons op f r)/\fr e<=max (fr e) 6/\pG (.cons op f r)<=pG (.cons op f r)/\mS (xF e)<=max (mS (xF e)) 21/\mS (rF w (.cons op f r))<=mS (rF w (.cons op f r)):=#[h1,h2,Iq _ _,GU _,Iq _ _,GU _];rw[lead];split
  .split
   .split
    .rename_i hw
     have m:=qo (ag2 hw);rw[GR] at h2;obtain⟨q1,q2,q3,q4,q5,q6⟩:=zt w m.ok h2.2.2
     have:=m.fr
     have:=m.ms;refine#[q1,q2,by lia,by rw[pG];lia,by lia,?_];rw[rF,ae,ae,ae,au];lia
    .exact st
   .exact st
  .exact st
theorem uR {c:Exp->Rest->Exp}{w:GJ}{e e':Exp}{r r':Rest}(g: ∀e r,GE (c e r)=(GE e/\GR r)) (f: ∀e r,fr (c e r)=3+max (fr e) (pG r)) (x: ∀e r,xF (c e r)=pF w e (xF e)++rF w r) (he:SM e e') (hr:SR r r'):SM (c e r) (match lead e' r' with
  | (a, .nil)=>a
  | (a,s)=>c a s):=by
 have q:=zt w he.ok hr.ok
 have f1:=he.fr
 have f2:=hr.fr
 have m1:=he.ms
 have m2:=hr.ms w
 have m3:=eE e
 have m4:=lf e
 have p1:=fk w e (xF e);split
 .rename_i h
  rw[h] at q;obtain⟨q1,q2,q3,q4,q5,q6⟩:=q;dsimp only at q1 q3 q5;refine#[q1,by rw[f];lia,?_];rw[x,au];lia
 .rename_i a s hn h
  rw[h] at q;obtain⟨q1,q2,q3,q4,q5,q6⟩:=q;dsimp only at q1 q2 q3 q4 q5 q6;refine#[by rw[g];exact#[q1,q2],by rw[f,f];lia,?_];rw[x,x,au,au];have p2:=iP w a (xF a);have:kR r=8:=by
   cases hr':r' with
   |nil=>
    rw[hr',lead] at h;cases h;exact(hn IO).elim
   |cons=>rw[<-hr.k,hr'];rfl
  lia
theorem yw {w:GJ}{g:G0}{c:Exp->Exps->Exp}{e e':Exp}{l l':Exps}(g1: ∀e l,GE (c e l)=(GE e/\GL l/\kL l=8)) (f: ∀e r,fr (c e r)=3+max (fr e) (ke r)) (x: ∀e r,xF (c e r)=pF w e (xF e)++mF w g r) (hk:kL l=8) (he:SM e e') (hl:SL l l'):SM (c e l) (c e' l'):=by
 have f1:=he.fr
 have f2:=hl.fr
 have m1:=he.ms
 have m2:=hl.mm w g
 have p1:=fk w e (xF e)
 have p2:=iP w e' (xF e');refine#[by rw[g1];exact#[he.ok,hl.ok,by rw[hl.k,hk]],by rw[f,f];lia,?_];rw[x,x,au,au];lia
theorem X8 {c:Exp->Exp}{s:String}{e e':Exp}(g1: ∀e,GE (c e)=GE e) (f: ∀e,fr (c e)=2+fr e) (x: ∀e,xF (c e)=tx s::pF 5 e (xF e)) (he:SM e e'):SM (c e) (c e'):=by
 have f1:=he.fr
 have m1:=he.ms
 have p1:=fk 5 e (xF e)
 have p2:=iP 5 e' (xF e');refine#[by rw[g1];exact he.ok,by rw[f,f];lia,?_];rw[x,x,ae,ae];lia
theorem wc (e:Exp): ∀ {l:Exps},kL l=8->mS (aF (.cons e l))=mS (xF e)+(3+mS (aF l))
 | .nil,h=>by cases h
 | .cons y s,_=>by
  rw[aF,au,ae,sz ", " 2];intro z;cases z
mutual
theorem eD: ∀e:Exp,GE e->SM e (fold e)
 | .num n,h=>by rw[fold];exact#[h,by lia,by lia]
 | .name n,h=>by rw[fold];exact#[h,by lia,by lia]
 | .call f l,h=>by
  rw[GE] at h;have q:=FI l h.2.1;rw[fold];split
  .rename_i e1 e2
   exact(qo (ED (xI q.ok e2))).sm
  .refine#[by rw[GE];exact#[h.1,q.ok,by rw[q.ln];exact h.2.2],by rw[OS.fr,OS.fr];have:=q.fr;lia,?_]
   simp only[xF,ae,au,cx];have:=q.ms;lia
 | .neg e,h=>by
  rw[GE] at h;have q:=eD e h;rw[fold];split
  .rename_i v e1
   have:=sw q.ok e1;exact(qo (by show _/\_;lia)).sm
  .exact X8 (s:="-") (λ_=>by rw[GE]) (λ_=>by rw[OS.fr]) (λ_=>by rw[xF]) q
 | .not e,h=>by
  rw[GE] at h;have q:=eD e h;rw[fold];split
  .exact(rW _).sm
  .exact X8 (s:="!") (λ_=>by rw[GE]) (λ_=>by rw[OS.fr]) (λ_=>by rw[xF]) q
 | .sums e r,h=>by
  rw[GE] at h;rw[fold];exact uR (w:=4) (λ_ _=>by rw[GE]) (λ_ _=>by rw[OS.fr]) (λ_ _=>by rw[xF]) (eD e h.1) (C7 r h.2)
 | .prods e r,h=>by
  rw[GE] at h;rw[fold];exact uR (w:=5) (λ_ _=>by rw[GE]) (λ_ _=>by rw[OS.fr]) (λ_ _=>by rw[xF]) (eD e h.1) (C7 r h.2)
 | .cmp op a b,h=>by
  rw[GE] at h;have q1:=eD a h.2.1;have q2:=eD b h.2.2;rw[fold];split
  .exact(rW _).sm
  .have:=q1.fr
   have:=q2.fr
   have:=q1.ms
   have:=q2.ms
   have:=fk 3 a (xF a)
   have:=fk 3 b (xF b)
   have:=iP 3 (fold a) (xF (fold a))
   have:=iP 3 (fold b) (xF (fold b));refine#[by rw[GE];exact#[h.1,q1.ok,q2.ok],by rw[OS.fr,OS.fr];lia,?_];simp only[xF,ae,au,cx];lia
 | .both e l,h=>by
  rw[GE] at h;have q1:=eD e h.1;have q2:=FI l h.2.1;rw[fold];split
  .exact(wY [01]).sm
  .exact(rW _).sm
  .exact yw (λ_ _=>by rw[GE]) (λ_ _=>by rw[OS.fr]) (λ_ _=>by rw[xF]) h.2.2 q1 q2
 | .either e l,h=>by
  rw[GE] at h;have q1:=eD e h.1;have q2:=FI l h.2.1;have k:SM (.either e l) (.either (fold e) (foldAll l)):=yw (λ_ _=>by rw[GE]) (λ_ _=>by rw[OS.fr]) (λ_ _=>by rw[xF]) h.2.2 q1 q2
  rw[fold];split
  .exact(rW _).sm
  .exact k
  .exact(wY [01]).sm
  .exact k
 | .pick c a b,h=>by
  rw[GE] at h;have q1:=eD c h.1;have q2:=eD a h.2.1;have q3:=eD b h.2.2;have:=q1.fr;have:=q2.fr;have:=q3.fr;have:=q1.ms;have:=q2.ms;have:=q3.ms;rw[fold];split
  .split
   .exact#[q2.ok,by simp only[OS.fr];lia,by simp only[xF,ae,au];lia]
   .exact#[q3.ok,by simp only[OS.fr];lia,by simp only[xF,ae,au];lia]
  .refine#[by rw[GE];exact#[q1.ok,q2.ok,q3.ok],by rw[OS.fr,OS.fr];lia,?_]
   simp only[xF,ae,au,cx];lia
 | .sum x lo hi e,h=>by
  rw[GE] at h;have q1:=eD lo h.2.1;have q2:=eD hi h.2.2.1;have q3:=eD e h.2.2.2;have:=q1.fr;have:=q2.fr;have:=q3.fr;have:=q1.ms;have:=q2.ms;have:=q3.ms;have k:SM (.sum x lo hi e) (.sum x (fold lo) (fold hi) (fold e)):=by
   refine#[by rw[GE];exact#[h.1,q1.ok,q2.ok,q3.ok],by rw[OS.fr,OS.fr];lia,?_];simp only[xF,ae,au,cx];lia
  rw[fold];split
  .split
   .exact(wY [01]).sm
   .exact k
  .exact k
theorem FI: ∀l:Exps,GL l->SL l (foldAll l)
 | .nil,h=>by rw[foldAll];exact#[h,by lia,by lia,λw g=>by rw[mF,cx];exact GU _,IO,IO]
 | .cons e l,h=>by
  rw[GL] at h;have q1:=eD e h.1;have q2:=FI l h.2;have:=q1.fr;have:=q2.fr;have:=q1.ms;have:=q2.ms;have kk:=q2.k;rw[foldAll];refine#[by rw[GL];exact#[q1.ok,q2.ok],by rw[ke,ke];lia,?_,λw g=>?_,IO,by rw[Bf,Bf,q2.ln]]
  .cases l with
   |nil=>rw[foldAll,aF,aF];exact q1.ms
   |cons y s=>
    have e1:=wc (fold e) (l:=foldAll (.cons y s)) kk
    have e2:=wc e (l:= .cons y s) IO;lia
  .have m:=q2.mm w g
   have:=fk w e (xF e)
   have:=iP w (fold e) (xF (fold e));rw[mF,mF,ae,ae,ae,au,ae,ae,ae,au]
   show _+8<=_
   lia
theorem C7: ∀r:Rest,GR r->SR r (N8 r)
 | .nil,h=>by rw[N8];exact#[h,by lia,λw=>by rw[rF,cx];exact GU _,IO]
 | .cons op e r,h=>by
  rw[GR] at h;have q1:=eD e h.2.1;have q2:=C7 r h.2.2;have:=q1.fr;have:=q2.fr;have:=q1.ms;rw[N8];refine#[by rw[GR];exact#[h.1,q1.ok,q2.ok],by rw[pG,pG];lia,λw=>?_,IO];have m:=q2.ms w;have:=fk w e (xF e);have:=iP w (fold e) (xF (fold e));rw[rF,rF,ae,ae,ae,au,ae,ae,ae,au];show _+8<=_;lia
end
end OS
namespace OS
open Vbemac
open PySem (Str)
structure SO (o o':GF Exp):Prop where
 ok:GO o'
 fr:wz o'<=wz o+2
 ms: ∀w,mS (vR w o')<=21*mS (vR w o)
theorem ag3: ∀o:GF Exp,GO o->SO o (o.map fold)
 |none,h=>#[trivial,HB _,λ_=>HB _]
 |some e,h=>by
  have q:=eD e h;refine#[q.ok,q.fr,λw=>?_]
  have:=q.ms
  show mS (tw w _)<=21*mS (tw w _)
  rw[dU IO,dU IO];lia
structure SS (s s':Stmt):Prop where
 ok:GS s'
 fr:gX s'<=gX s+2
 ms: ∀n,mS (fj n s')<=21*mS (fj n s)
structure SB (l l':Stmts):Prop where
 ok:qN l'
 fr:iy l'<=iy l+2
 ms: ∀n,mS (iX n l')<=21*mS (iX n l)
mutual
theorem akr: ∀s:Stmt,GS s->SS s (foldStmt s)
 | .bind x e,h=>by
  rw[GS] at h;have q:=eD e h.2;have:=q.fr;have:=q.ms;rw[foldStmt];exact#[by rw[GS];exact#[h.1,q.ok],by simp only[gX];lia,λn=>by simp only[fj,ae,au];lia]
 | .loop x lo hi l,h=>by
  rw[GS] at h;have q1:=eD lo h.2.1;have q2:=eD hi h.2.2.1;have q3:=A9 l h.2.2.2;have:=q1.fr;have:=q2.fr;have:=q3.fr;have:=q1.ms;have:=q2.ms;rw[foldStmt];exact#[by rw[GS];exact#[h.1,q1.ok,q2.ok,q3.ok],by simp only[gX];lia,λn=>by have:=q3.ms (n+1);simp only[fj,ae,au,gK];lia]
 | .cond c a .nil,h=>by
  rw[GS] at h;have q1:=eD c h.1;have q2:=A9 a h.2.1;have:=q1.fr;have:=q2.fr;have:=q1.ms;rw[foldStmt,foldStmts];exact#[by rw[GS];exact#[q1.ok,q2.ok,h.2.2],by simp only[gX];lia,λn=>by have:=q2.ms (n+1);simp only[fj,ae,au,gK];lia]
 | .cond c a (.cons s l),h=>by
  rw[GS] at h;have q1:=eD c h.1;have q2:=A9 a h.2.1;have q3:=A9 (.cons s l) h.2.2;have:=q1.fr;have:=q2.fr;have:=q3.fr;have:=q1.ms;rw[foldStmt];refine#[by rw[GS];exact#[q1.ok,q2.ok,q3.ok],by simp only[gX];lia,λn=>?_];have:=q2.ms (n+1);have:=q3.ms (n+1);rw[foldStmts] at this ⊢;rw[fj,fj]
  .simp only[ae,au,gK];lia
  all_goals intro z;cases z
 | .step RI z q p top am,h=>by
  rw[GS] at h;have q1:=eD z h.1;have q2:=eD q h.2.1;have q3:=eD p h.2.2.1;have q4:=ag3 top h.2.2.2.1;have q5:=eD am h.2.2.2.2;have:=q1.fr;have:=q2.fr;have:=q3.fr;have:=q4.fr;have:=q5.fr;have:=q1.ms;have:=q2.ms;have:=q3.ms;have:=q4.ms "to";have:=q5.ms;rw[foldStmt];exact#[by rw[GS];exact#[q1.ok,q2.ok,q3.ok,q4.ok,q5.ok],by simp only[gX];lia,λn=>by simp only[fj,ae,au,dU (sz "zone" 4),dU (sz "quarter" 7),dU (sz "price" 5),dU (sz "amount" 6)];lia]
 | .block m RI z p x q u g,h=>by
  rw[GS] at h;have q1:=eD z h.2.1;have q2:=eD p h.2.2.1;have q3:=eD q h.2.2.2.2.1;have q4:=ag3 g h.2.2.2.2.2.2;have:=q1.fr;have:=q2.fr;have:=q3.fr;have:=q4.fr;have:=q1.ms;have:=q2.ms;have:=q3.ms;have:=q4.ms "group";rw[foldStmt];exact#[by rw[GS];exact#[h.1,q1.ok,q2.ok,h.2.2.2.1,q3.ok,h.2.2.2.2.2.1,q4.ok],by simp only[gX];lia,λn=>by simp only[fj,ae,au,dU (sz "zone" 4),dU (sz "price" 5)];lia]
theorem A9: ∀l:Stmts,qN l->SB l (foldStmts l)
 | .nil,h=>by rw[foldStmts];exact#[h,by lia,λn=>by lia]
 | .cons s l,h=>by
  rw[qN] at h;have q1:=akr s h.1;have q2:=A9 l h.2;have:=q1.fr;have:=q2.fr;rw[foldStmts];exact#[by rw[qN];exact#[q1.ok,q2.ok],by simp only[iy];lia,λn=>by have:=q1.ms n;have:=q2.ms n;simp only[iX,ae,au];lia]
end
def cC:Top->Top
 | .const x e=> .const x (fold e)
 | .func x ps e=> .func x ps (fold e)
 | .desk x l=> .desk x (foldStmts l)
theorem A5 (l:Sheet):folded l=l.map cC:=Pn λt _=>by cases t<;>rfl
theorem aaZ: ∀t:Top,GT t->GT (cC t)/\pY (cC t)<=pY t+2/\mS (i4 (cC t))<=21*mS (i4 t)
 | .const x e,h=>by
  have q:=eD e h.2
  have:=q.fr
  have:=q.ms;exact#[#[h.1,q.ok],by simp only[cC,pY];lia,by simp only[cC,i4,ae,au];lia]
 | .func x ps e,h=>by
  have q:=eD e h.2.2
  have:=q.fr
  have:=q.ms;exact#[#[h.1,h.2.1,q.ok],by simp only[cC,pY];lia,by simp only[cC,i4,ae,au];lia]
 | .desk x l,h=>by
  have q:=A9 l h.2
  have:=q.fr
  have:=q.ms 1;exact#[#[h.1,q.ok],by simp only[cC,pY];lia,by simp only[cC,i4,ae,au,gK];lia]
theorem X9: ∀ss:Sheet,(∀s∈ss,GT s)->mS (ku (ss.map cC))<=21*mS (ku ss)
 |[],_=>HB _
 |s::l,h=>by
  have h:=Iv.mp h
  have:=(aaZ s h.1).2.2
  have:=X9 l h.2
  show mS (i4 (cC s)++ku (l.map cC))<=21*mS (i4 s++ku l)
  rw[au,au];lia
theorem AK {b:HA}{ss:Sheet}(h:My b= .ok ss):(∀s∈ss.map cC,pY s<=275)/\mS (ku (ss.map cC))<=1344*(tokens b).length/\bF (ku (ss.map cC))=«ints» (print (folded ss)):=by
 have g:=qP h;refine#[λs hs=>?_,?_,?_]
 .obtain⟨t,ht,rfl⟩:=Na.mp hs
  have:=g.fr t ht
  have:=(aaZ t (g.ok t ht)).2.1;lia
 .have:=g.ms
  have:=X9 ss g.ok;lia
 .rw[A5]
  refine yV _ λs hs=>?_;obtain⟨t,ht,rfl⟩:=Na.mp hs;exact(aaZ t (g.ok t ht)).1
end OS
namespace OS
open PySem PySem.Spec L2
open PyProof.Rows hiding St
variable {P:Hm}{w:HS}{K:Gu}{mg:G0->GF Gy}{base:Ij}{a:bJ}
section
open Vbemac (strength)
theorem fh {b:HH}{A B:Prop}(e:b=IN) (h:B):if b=Ix then A else B:=by rw[GB (by rw[e];exact Gn)];exact h
def vb:Gz->GJ
 | .num _=>0
 | .name _=>1
 | .call _ _=>2
 | .neg _=>3
 | .not _=>3
 | .pick _ _ _=>5
 | .sum _ _ _ _=>6
 |_=>4
theorem jQ.is {K:Gu}{a:bJ}{H:Hp}(I:jQ K a) {i j:GJ}{C D q dx:Gx}{fs:Gm (G0×V)}(hi:(tj a)[i]?=GM C) (hj:(tj a)[j]?=GM D) (z:H q=GM (.ins C dx fs)):js K H (.ref q) (.ref C)/\Jh K (.ref C) (.ref D)=GM (decide (i=j)):=by
 refine#[(I.ty C (Iu hi)).of z,?_];have i7:i<15:=(Hk.mp hi).1;have j7:j<15:=(Hk.mp hj).1;have:=Hr (λl:Gm (Gm (GF HH))=>(l[i]?.bind λr=>r[j]?)) I.Zq
 simpa [hi,hj,KP i7,KP j7] using this
abbrev Ya (K:Gu):Gm V->Hp->VK->Prop:=λxs H Q=> ∃(x:V) (C:Gx) (t:Gy) (b:HH),xs=[x, .ref C]/\js K H x t/\Jh K t (.ref C)=GM b/\Q (.bl b) H
theorem yj {K:Gu}{a:bJ}{H:Hp}{σ:L2.St}{t u:TS}{Z:dz}(I:jQ K a) {i j n:GJ}{C D q dx:Gx}{fs:Gm (G0×V)}(hi:(tj a)[i]?=GM C) (hj:(tj a)[j]?=GM D) (z:H q=GM (.ins C dx fs)) (hv:σ[n]?=GM (GM (.ref q)))
  (h1:i=j->t Z σ H) (h2:i≠j->u Z σ H):ZH (tB (tCB (Ya K) (fz (d7 n) (fz (tC (.ref D)) kq)))) t u Z σ H:=by
 obtain⟨q1,q2⟩:=I.is hi hj z;refine gY #[_,D,_,_,IO,q1,q2,_,IO,?_] hv;by_cases e:i=j
 .exact eR (Hy e) (h1 e)
 .exact fh (Ha e) (h2 e)
abbrev gG (ps:Gm G0):Gm V:=ps.map V.str
def Nw (H:Hp) (ps:Gm G0) (Q:VK):Prop:= ∀(H':Hp) (p:Gx),aI H H'->H p=Id->H' p=GM (.lst (gG ps))->Q (.ref p) H'
def Ev (te:TE) (σ:L2.St) (H:Hp) (v:V):Prop:= ∀Q:VK,Q v H->te σ H Q
def Dy (ta:TA) (σ:L2.St) (H:Hp) (vs:Gm V):Prop:= ∀Q:Gm V->Hp->Prop,Q vs H->ta σ H Q
def Fr (te:TE) (σ:L2.St) (H:Hp) (ps:Gm G0):Prop:= ∀Q:VK,Nw H ps Q->te σ H Q
structure fi (H0:Hp) (L:Gx) (H:Hp) (ps:Gm G0):Prop where
 nw:H0 L=Id
 sm:aI H0 H
 at_:H L=GM (.lst (gG ps))
section
variable {σ:L2.St}{H H0:Hp}{te ta' tb':TE}{ta:TA}{v:V}{vs:Gm V}{ps qs:Gm G0}{L:Gx}
theorem gm {H H':Hp}(s:aI H H') {p:Gx}(h:H' p=Id):H p=Id:=by
 cases e:H p with
 |none=>rfl
 |some o=>rw[s p o e] at h;cases h
theorem cj:Ev (tC v) σ H v:=λ_ q=>q
theorem bE {i:GJ}(h:σ[i]?=GM (GM v)):Ev (d7 i) σ H v:=λ_ q=>gY q h
theorem cM {p C dx:Gx}{fs:Gm (G0×V)}{f:G0}(h:Ev te σ H (.ref p)) (e:H p=GM (.ins C dx fs)) (c:i8 K C) (n:aH K C f) (l:fs.lookup f=GM v):Ev (m6 K te f) σ H v:=λQ q=>h _ #[p,C,dx,fs,v,IO,e,c,n,l,q]
theorem aE:Dy kq σ H []:=λ_ q=>q
theorem ao (h1:Ev te σ H v) (h2:Dy ta σ H vs):Dy (fz te ta) σ H (v::vs):=λQ q=>h1 _ (h2 _ q)
theorem Fr.eq (h:Fr te σ H ps) (e:ps=qs):Fr te σ H qs:=e▸h
theorem jn (h:Dy ta σ H vs) (e:vs=gG ps) (hl:ps.length<=GV):Fr (ZO ta) σ H ps:=λQ q=>h _ #[by rw[e,GG];exact hl,λp hp=>q _ p (be hp) hp (by rw[<-e];exact aj)]
theorem bW (h1:Fr ta' σ H ps) (h2: ∀H',aI H H'->Fr tb' σ H' qs) (hl:ps.length+qs.length<=GV):Fr (Bc FN ta' tb') σ H (ps++qs):=λQ q=>
 h1 _ λH1 l s1 n1 e1=>h2 H1 s1 _ λH2 b s2 n2 e2=>#[l,b,_,_,IO,IO,s2 _ _ e1,e2,by rw[GG,GG];exact hl,λp hp=>
  q _ p ((s1.trans s2).trans (be hp)) (gm (s1.trans s2) hp) (by rw[show gG (ps++qs)=gG ps++gG qs from IF];exact aj)]
theorem rC (h1:Ev ta' σ H (.ref L)) (e1:H L=GM (.lst (gG ps))) (h2:Fr tb' σ H qs) (hl:ps.length+qs.length<=GV):Fr (Bc FN ta' tb') σ H (ps++qs):=λQ q=>
 h1 _ (h2 _ λH2 b s2 n2 e2=>#[L,b,_,_,IO,IO,s2 _ _ e1,e2,by rw[GG,GG];exact hl,λp hp=>
  q _ p (s2.trans (be hp)) (gm s2 hp) (by rw[show gG (ps++qs)=gG ps++gG qs from IF];exact aj)])
theorem Nw.up {Q:VK}(s:aI H0 H) (q:Nw H0 ps Q):Nw H ps Q:=λH' p s' n e=>q H' p (s.trans s') (gm s n) e
theorem dA {sp:Sp}{E:XK}(h:Dy ta σ H vs) (hs: ∀Q,Nw H ps Q->sp (vs++[]) H Q E):Fr (iS sp [] E ta) σ H ps:=λQ q=>h _ (hs Q q)
theorem fi.of {H':Hp}(s:aI H H') (n:H L=Id) (e:H' L=GM (.lst (gG ps))):fi H L H' ps:=#[n,s,e]
theorem fi.put (g:fi H0 L H ps) {H':Hp}(s:aI H H'):fi H0 L (bf H' L (.lst (gG qs))) qs:=
 #[g.nw,λb o e=>by rw[af (aw e g.nw)];exact s b o (g.sm b o e),aj]
theorem fi.end_ (g:fi H0 L H ps) {Q:VK}(q:Nw H0 ps Q):Q (.ref L) H:=q H L g.sm g.nw g.at_
theorem seq {t u:TS}{Z:dz}(h:t { Z with nx:=u Z } σ H):tM t u Z σ H:=h
theorem aa0 {i:GJ}{Z:dz}(h:Fr te σ H ps) (q: ∀H1 L,fi H L H1 ps->Z.nx (σ.set i (GM (.ref L))) H1):B4 te (gI i) Z σ H:=h _ λH1 L s1 n1 e1=>q H1 L (fi.of s1 n1 e1)
theorem dF {Z:dz}(h:Fr te σ H ps) (q:Nw H ps Z.rt):ZG te Z σ H:=h _ q
theorem kc {i:GJ}{Z:dz}(g:fi H0 L H ps) (hv:σ[i]?=GM (GM (.ref L))) (h:Fr te σ H qs) (hl:ps.length+qs.length<=GV) (q: ∀H',fi H0 L H' (ps++qs)->Z.nx σ H'):ut (tBM K "list" nO (d7 i) (fz te kq)) Z σ H:=
 gY #[.inl #[IO,_,cK.of g.at_],h _ λH1 b s1 n1 e1=>#[L,b,_,_,IO,IO,s1 _ _ g.at_,e1,by rw[GG,GG];exact hl,by
  rw[<-IF];exact q _ (g.put s1)]] hv
theorem wv {i:GJ}{p:G0}{Z:dz}(g:fi H0 L H ps) (hv:σ[i]?=GM (GM (.ref L))) (h:Ev te σ H (.str p)) (hl:ps.length+1<=GV) (q: ∀H',fi H0 L H' (ps++[p])->Z.nx σ H'):ut (tBM K "list" nH (d7 i) (fz te kq)) Z σ H:=
 gY #[.inl #[IO,_,cK.of g.at_],h _ #[L,_,_,IO,IO,g.at_,by rw[GG];exact hl,by
  rw[show ps.map V.str++[V.str p]=(ps++[p]).map V.str by simp];exact q _ (g.put λ_ _ e=>e)]] hv
theorem iI {i:GJ}{u:TS}{Z:dz}(h:Fr te σ H ps) (q: ∀H1 L,fi H L H1 ps->u Z (σ.set i (GM (.ref L))) H1):tM (B4 te (gI i)) u Z σ H:=aa0 (Z:= { Z with nx:=u Z }) h q
theorem fM {i:GJ}{u:TS}{Z:dz}(g:fi H0 L H ps) (hv:σ[i]?=GM (GM (.ref L))) (h:Fr te σ H qs) (hl:ps.length+qs.length<=GV) (q: ∀H',fi H0 L H' (ps++qs)->u Z σ H'):tM (ut (tBM K "list" nO (d7 i) (fz te kq))) u Z σ H:=kc (Z:= { Z with nx:=u Z }) g hv h hl q
theorem lE {i:GJ}{p:G0}{u:TS}{Z:dz}(g:fi H0 L H ps) (hv:σ[i]?=GM (GM (.ref L))) (h:Ev te σ H (.str p)) (hl:ps.length+1<=GV) (q: ∀H',fi H0 L H' (ps++[p])->u Z σ H'):tM (ut (tBM K "list" nH (d7 i) (fz te kq))) u Z σ H:=wv (Z:= { Z with nx:=u Z }) g hv h hl q
theorem oh {t u:TS}{Z:dz}(J:L2.St->Hp->Prop) (h:t { Z with nx:=J } σ H) (q: ∀σ' H',J σ' H'->u Z σ' H'):tM (Xv t) u Z σ H:=#[J,h,q]
theorem cE {a:bJ}{t v:TS}{Z:dz}(I:jQ K a) {i j n:GJ}{C D q dx:Gx}{fs:Gm (G0×V)}(hi:(tj a)[i]?=GM C) (hj:(tj a)[j]?=GM D) (z:H q=GM (.ins C dx fs)) (hv:σ[n]?=GM (GM (.ref q)))
  (h1:i=j->t { Z with nx:=v Z } σ H) (h2:i≠j->v Z σ H):tM (ZH (tB (tCB (Ya K) (fz (d7 n) (fz (tC (.ref D)) kq)))) t Xg) v Z σ H:=yj (Z:= { Z with nx:=v Z }) I hi hj z hv h1 h2
end
theorem rJ {a:bJ}{M:Gx->Prop}{H:Hp}{e:Gz}{v:V}(h:ag a M H e v): ∃C q dx fs,(tj a)[vb e]?=GM C/\v= .ref q/\H q=GM (.ins C dx fs)/\(vb e=4->fs.lookup ("strength":G0)=GM (V.int (strength e:GJ))):=by
 cases e<;>unfold ag at h
 .obtain⟨p,dx,rfl,_,z⟩:=h;exact#[_,p,dx,_,IO,IO,z,λz=>nomatch z]
 .obtain⟨p,dx,rfl,_,z⟩:=h;exact#[_,p,dx,_,IO,IO,z,λz=>nomatch z]
 .obtain⟨_,_,⟨p,dx,rfl,_,z⟩,_⟩:=h;exact#[_,p,dx,_,IO,IO,z,λz=>nomatch z]
 .obtain⟨_,⟨p,dx,rfl,_,z⟩,_⟩:=h;exact#[_,p,dx,_,IO,IO,z,λz=>nomatch z]
 .obtain⟨_,⟨p,dx,rfl,_,z⟩,_⟩:=h;exact#[_,p,dx,_,IO,IO,z,λz=>nomatch z]
 .obtain⟨_,_,_,_,_,⟨p,dx,rfl,_,z⟩,_⟩:=h;exact#[_,p,dx,_,IO,IO,z,λ_=>rfl]
 .obtain⟨_,_,_,_,_,⟨p,dx,rfl,_,z⟩,_⟩:=h;exact#[_,p,dx,_,IO,IO,z,λ_=>rfl]
 .obtain⟨_,_,_,_,⟨p,dx,rfl,_,z⟩,_⟩:=h;exact#[_,p,dx,_,IO,IO,z,λ_=>rfl]
 .obtain⟨_,_,_,_,⟨p,dx,rfl,_,z⟩,_⟩:=h;exact#[_,p,dx,_,IO,IO,z,λ_=>rfl]
 .obtain⟨_,_,_,_,⟨p,dx,rfl,_,z⟩,_⟩:=h;exact#[_,p,dx,_,IO,IO,z,λ_=>rfl]
 .obtain⟨_,_,_,⟨p,dx,rfl,_,z⟩,_⟩:=h;exact#[_,p,dx,_,IO,IO,z,λz=>nomatch z]
 .obtain⟨_,_,_,⟨p,dx,rfl,_,z⟩,_⟩:=h;exact#[_,p,dx,_,IO,IO,z,λz=>nomatch z]
inductive Yb (a:bJ) (vs:Gm V) (H:Hp) (Q:VK) (_E:XK):Prop
 |mk (e:Gz) (v:V) (M:Gx->Prop) (_:vs=[v]) (_:ag a M H e v) (_:Q (.int (strength e:GJ)) H):Yb a vs H Q _E
inductive zI (a:bJ) (k:GJ) (vs:Gm V) (H:Hp) (Q:VK) (_E:XK):Prop
 |mk (e:Gz) (v:V) (M:Gx->Prop) (w:GJ) (_:vs=[v, .int (w:GJ)]) (_:ag a M H e v) (_:fr e<=k) (_:(pF w e (xF e)).length<=GV) (_:Nw H (pF w e (xF e)) Q):zI a k vs H Q _E
inductive tE (a:bJ) (ok:Gz->Prop) (vs:Gm V) (H:Hp) (Q:VK) (_E:XK):Prop
 |mk (e:Gz) (v:V) (M:Gx->Prop) (_:vs=[v]) (_:ag a M H e v) (_:ok e) (_:(xF e).length<=GV) (_:Nw H (xF e) Q):tE a ok vs H Q _E
section
variable {k:GJ}
theorem ag4 (T:Txt K mg a) (I:jQ K a):T.Y7.U P w base 1 (Yb a):=by
 refine T.Y7.F.ok afO [03] [02];obtain⟨e,v,M,rfl,he,hQ⟩:=h;refine#[_,(ai (bz (bS (aR bZ (by rfl) T.HN Iz (aa (pv 0) (aa (dg (by rfl) T.PL) ac)))) (ak (aB [07])) aQ)
   (ai (bz (bS (aR bZ (by rfl) T.HN Iz (aa (pv 0) (aa (dg (by rfl) T.OW) ac)))) (ak (aB aG)) aQ)
   (ai (bz (bS (aR bZ (by rfl) T.HN Iz (aa (pv 0) (aa (dg (by rfl) T.OD) ac)))) (ak (aB (bB (by rfl) T.NU))) aQ)
   (ak (aB (bB (by rfl) T.Qz)))))),?_]
 obtain⟨C,q,dx,fs,hC,rfl,z,l⟩:=rJ he;refine yj I hC (j:=4) IO z IO (λe4=>?_) (λn4=>?_)
 .rw[e4] at hC
  cases hC;exact cM (bE IO) z T.K4 T.Kb (l e4) _ hQ
 refine yj I hC (j:=5) IO z IO (λe4=>?_) (λn5=>?_)
 .have:strength e=0:=by cases e<;>first|rfl|cases e4
  rw[this] at hQ;exact hQ
 refine yj I hC (j:=3) IO z IO (λe4=>?_) (λn3=>?_)
 .have:strength e=5:=by cases e<;>first|rfl|cases e4
  rw[this] at hQ;exact hQ
 have:strength e=6:=by cases e<;>first|rfl|exact GW IO n4|exact GW IO n5|exact GW IO n3
 rw[this] at hQ;exact hQ
theorem aks (T:Txt K mg a) (I:jQ K a) (G_G:T.d_G.U P w base k (tE a λe=>fr e<=k+1)):T.Y6.U P w base (k+1) (zI a (k+1)):=by
 have akt:=ag4 (P:=P) (w:=w) (base:=base) T I;refine T.Y6.F.ok ajJ [03] [02];obtain⟨e,v,M,w',rfl,he,hf,hl,hQ⟩:=h
 have:=eE e;refine#[_,(ai (bz (bg iR (aq akt [05] (by rfl) T.Y7.c aC (aa (pv 0) ac)) (pv 1) (a0 _)) (ak (aB (aZ bC (aZ bC (bj (aa aK ac)) (aq G_G [05] (by rfl) T.d_G.c aC (aa (pv 0) ac))) (bj (aa aK ac))))) aQ)
   (ak (aB (aq G_G [05] (by rfl) T.d_G.c aC (aa (pv 0) ac))))),?_]
 refine#[e,v,M,IO,he,_,_,IO,IO,_,IO,?_];unfold pF at hl hQ;have lx:(xF e).length<=GV:=by
  split at hl
  .rw[Gp,Gq] at hl;lia
  .exact hl
 by_cases c:strength e<w'
 .rw[GD c] at hl hQ
  rw[Gp,Gq] at hl;refine eR (Hy (by lia)) ?_;refine((bW (bW (jn (ps:=[tx "("]) (ao cj aE) IO [01]) (λH1 s1=>dA (ao (bE IO) aE) λQ1 q1=>#[e,v,M,IO,ag.keep (aI.keeps s1) e he,hf,lx,q1]) ?_) (λH1 s1=>jn (ps:=[tx ")"]) (ao cj aE) IO [01]) ?_).eq ?_) _ hQ
  .show 1+_<=_;lia
  .rw[Gq];show 1+_+1<=_;have:[tx ")"].length=1:=rfl;lia
  .rfl
 .rw[GB c] at hl hQ
  refine fh (Ha (by lia)) ?_;exact dA (ps:=xF e) (ao (bE IO) aE) (λQ1 q1=>#[e,v,M,IO,he,hf,lx,q1]) _ hQ
theorem CP (T:Txt K mg a) (G_k:T.Y6.U P w base k (zI a k)):T.Tv.U P w base (k+1) (tE a λe=>fr e<=k):=by
 refine T.Tv.F.ok ajI [03] [02];obtain⟨e,v,M,rfl,he,hf,hl,hQ⟩:=h;refine#[_,(ak (aB (aq G_k [05] (by rfl) T.Y6.c aC (aa (pv 0) (aa aG ac))))),?_];have e0:pF 0 e (xF e)=xF e:=GB (GJ.not_lt_zero _);exact dA (ps:=xF e) (ao (bE IO) (ao cj aE)) (λQ1 q1=>#[e,v,M,0,IO,he,hf,by rw[e0];exact hl,by rw[e0];exact q1]) _ hQ
end
end
theorem Ce:mz X (N6 .FloorDiv) (rI (λ_ j=>j≠0/\j.natAbs.log2<9000) λi j=> .int (i.fdiv j)):=opI λ_ _ _ _ _ _ _ hc q=>floordiv_int hc.1 q (.inl (PyProof.noPylong_of_log2 hc.2))
theorem zC {l:Gm Int} : ∀ {us:Gm Gy},bH (l.map V.int) us-> ∃xs:Ky (Int×Tok),us.toArray=L7 xs/\xs.toList.map (·.1)=l:=by
 induction l with
 |nil=>intro us h;cases h;exact#[[].toArray,by simp [L7],IO]
 |cons i l ih=>
  intro us h;cases h with
  |cons h1 h2=>
   obtain⟨t,rfl⟩:=h1;obtain⟨xs,e1,e2⟩:=ih h2;refine#[#[(i,t)::xs.toList],?_,by rw[<-e2];rfl];unfold L7 at e1 ⊢;have e1:=Hr R4 e1;rw[Vi] at e1;apply Ky.ext';rw[Vi];simp only[GZ];rw[<-e1]
theorem vQ {pins:Gm (Gx×Kd)}{σ:L2.St}{H:Hp}{s:GC}{p:Gx}{l:Gm Int}(I:aP X pins σ H s) (h:H p=GM (.lst (l.map V.int))): ∃xs:Ky (Int×Tok),s.heap.IsList p (L7 xs)/\xs.toList.map (·.1)=l:=by
 obtain⟨z,Ji,n,r,hl,e⟩:=I.UC h;obtain⟨xs,e1,e2⟩:=zC r;exact#[xs,#[_,e,IO,n,by rw[<-e1]],e2]
theorem Ae (hc:X.calm=Ix):gB X (.builtin "min") (λxs H Q=> ∃p i j,xs=[.ref p]/\H p=GM (.lst [.int i, .int j])/\Q (.int (min i j)) H):=by
 intro pins s σ H xs us Q I r h;obtain⟨p,i,j,rfl,hp,q⟩:=h;obtain⟨u,rfl,r1⟩:=kD r;cases r1;obtain⟨as,l,e⟩:=vQ (l:=[i,j]) I hp;obtain⟨as⟩:=as;obtain⟨⟨i',t⟩,⟨j',t'⟩,rfl⟩: ∃x y,as=[x,y]:=by
  match as,e with
  |[x,y],_=>exact#[x,y,IO]
 obtain⟨rfl,rfl⟩:i=i'/\j=j':=by simpa [eq_comm] using e
 refine min_intList (I.ok.hd hc) l (by show 0<2;decide) λv h' tk hv k=>#[.int (min i j),H,I.kept k,?_,q];by_cases hij:j<i
 .have e:Nb (λx y=>decide (MW [(i,t),(j,t')].toArray x<MW [(i,t),(j,t')].toArray y)) 1=1:=by simp [Nb,MW,hij]
  have hv:(L7 [(i,t),(j,t')].toArray)[Nb (λx y=>decide (MW [(i,t),(j,t')].toArray x<MW [(i,t),(j,t')].toArray y)) 1]?=GM v:=hv
  rw[e] at hv;have hv:Lh j t'=v:=by simpa [L7] using hv
  exact#[t',by rw[<-hv,Int.min_def,GB (by lia)]]
 .have e:Nb (λx y=>decide (MW [(i,t),(j,t')].toArray x<MW [(i,t),(j,t')].toArray y)) 1=0:=by simp [Nb,MW,hij]
  have hv:(L7 [(i,t),(j,t')].toArray)[Nb (λx y=>decide (MW [(i,t),(j,t')].toArray x<MW [(i,t),(j,t')].toArray y)) 1]?=GM v:=hv
  rw[e] at hv;have hv:Lh i t=v:=by simpa [L7] using hv
  exact#[t,by rw[<-hv,Int.min_def,GD (by lia)]]
theorem An (hc:X.calm=Ix):gB X (.builtin "max") (λxs H Q=> ∃p i j,xs=[.ref p]/\H p=GM (.lst [.int i, .int j])/\Q (.int (max i j)) H):=by
 intro pins s σ H xs us Q I r h;obtain⟨p,i,j,rfl,hp,q⟩:=h;obtain⟨u,rfl,r1⟩:=kD r;cases r1;obtain⟨as,l,e⟩:=vQ (l:=[i,j]) I hp;obtain⟨as⟩:=as;obtain⟨⟨i',t⟩,⟨j',t'⟩,rfl⟩: ∃x y,as=[x,y]:=by
  match as,e with
  |[x,y],_=>exact#[x,y,IO]
 obtain⟨rfl,rfl⟩:i=i'/\j=j':=by simpa [eq_comm] using e
 refine max_intList (I.ok.hd hc) l (by show 0<2;decide) λv h' tk hv k=>#[.int (max i j),H,I.kept k,?_,q];by_cases hij:j>i
 .have e:Nb (λx y=>decide (MW [(i,t),(j,t')].toArray x>MW [(i,t),(j,t')].toArray y)) 1=1:=by simp [Nb,MW,hij]
  have hv:(L7 [(i,t),(j,t')].toArray)[Nb (λx y=>decide (MW [(i,t),(j,t')].toArray x>MW [(i,t),(j,t')].toArray y)) 1]?=GM v:=hv
  rw[e] at hv;have hv:Lh j t'=v:=by simpa [L7] using hv
  exact#[t',by rw[<-hv,Int.max_def,GD (by lia)]]
 .have e:Nb (λx y=>decide (MW [(i,t),(j,t')].toArray x>MW [(i,t),(j,t')].toArray y)) 1=0:=by simp [Nb,MW,hij]
  have hv:(L7 [(i,t),(j,t')].toArray)[Nb (λx y=>decide (MW [(i,t),(j,t')].toArray x>MW [(i,t),(j,t')].toArray y)) 1]?=GM v:=hv
  rw[e] at hv;have hv:Lh i t=v:=by simpa [L7] using hv
  refine#[t,?_];rw[<-hv,Int.max_def];by_cases z:i<=j
  .rw[GD z,show j=i by lia]
  .rw[GB z]
theorem Bv (ho:op∈Ic) (h:eV x s):decide (V.str (dD op)=V.str x)=decide (op=s):=by
 obtain⟨rfl,hs⟩:=h;exact decide_eq_decide.mpr #[λz=>yN op ho s hs (V.str.inj z),λz=>by rw[z]]
theorem jX {X:Cx}{H:Hp}(ho:op∈Ic) (l:eV v s) (yes:op=s->Pe X e (GM (.str (dD op))::σ) H D.rt) (no:op≠s->Bd X ss D (GM (.str (dD op))::σ) H) (n0:X.N[0]?=GM ("sign":G0):=by rfl) (v0:tq X.env.scope "sign":=by exact HD IO):
  Bd X (.If (.Compare (.Name "sign" p1) [.Eq] [.Constant (.str v) j p2] p3) [.Return (GM e) p4] [] p5::ss) D (GM (.str (dD op))::σ) H:=
 aY (cA cu (bV 0 (tW #[IO,_,IO,by rw[Bv ho l];exact eU (λz=>aD (yes z)) no]) n0 v0))
theorem EM {α:Type}{Q:α->Prop}{c:Prop} [Decidable c] {x y:α}(q:Q (if c then x else y)):(c->Q x)/\(¬c->Q y):=#[λh=>by rw[GD h] at q;exact q,λh=>by rw[GB h] at q;exact q]
def iL (op:Gv) (b:Int):HH:=b !=0||!(decide (op=Gr "/")||decide (op=Gr "%"))
def fm (op:Gv) (a b:Int):Int:=if op=Gr "+" then a+b else if op=Gr "-" then a-b else if op=Gr "*" then a*b else if op=Gr "/" then a.fdiv b else if op=Gr "%" then a.fmod b else Oi (Nc op a b)
def zS (a:Int):Prop:= -(2 ^ 64)<a/\a<2 ^ 64
theorem yF:eV "+" (Gr "+")/\eV "-" (Gr "-")/\eV "*" (Gr "*")/\eV "/" (Gr "/")/\eV "/rest" (Gr "%")/\eV "==" (Gr "==")/\eV "!=" (Gr "!=")/\eV "<=" (Gr "<=")/\eV ">=" (Gr ">=")/\eV "<" (Gr "<"):=#[#[by decide+kernel,by decide+kernel],#[by decide+kernel,by decide+kernel],#[by decide+kernel,by decide+kernel],#[by decide+kernel,by decide+kernel],#[by decide+kernel,by decide+kernel],#[by decide+kernel,by decide+kernel],#[by decide+kernel,by decide+kernel],#[by decide+kernel,by decide+kernel],#[by decide+kernel,by decide+kernel],#[by decide+kernel,by decide+kernel]]
inductive BI (vs:Gm V) (H:Hp) (Q:VK) (_E:XK):Prop
 |mk (op:Gv) (b:Int) (_:vs=[.str (dD op), .int b]) (_:op∈Ic) (_: ∀H',aI H H'->Q (.bl (iL op b)) H'):BI vs H Q _E
theorem ag5 (T:Txt K mg a):T.YQ.U P w base 1 BI:=by
 refine T.YQ.F.ok afe [03] [02];obtain⟨op,b,rfl,ho,q⟩:=h;refine#[_,(ak (aB (Du (cH uy (pv 1) aG (a0 _)) (nU (cH iz (pv 0) (Db (aa aK (aa aK ac))) IO))))),?_];refine#[IO,_,IO,?_];rw[cS];unfold iL at q;by_cases hb:b=0
 .subst hb
  refine cQ ?_;refine#[by show 2<=GV;decide,λp hp=>#[p,_,IO, .inr (pV.of aj),IO,IO,?_]];have e:uD (.str (dD op)) [.str "/", .str "/rest"]=(decide (op=Gr "/")||decide (op=Gr "%")):=by
   rw[<-Bv ho yF.2.2.2.1,<-Bv ho yF.2.2.2.2.1];show(("/":G0) == dD op||(("/rest":G0) == dD op||false))=_
   have b: ∀x:G0,(x == dD op)=decide (V.str (dD op)=V.str x):=λx=>by
    rw[Ip,beq_iff_eq,Ii];exact#[λz=>by rw[z],λz=>(V.str.inj z).symm]
   rw[PB,b,b]
  show Q (.bl (!uD (.str (dD op)) [.str "/", .str "/rest"])) _
  rw[e];exact q _ (be hp)
 .rw[Ha hb]
  refine dR ?_;have z:=q H λ_ _ e=>e
  rw[show(b !=0)=Ix from bne_iff_ne.mpr hb] at z;exact z
inductive Ei (vs:Gm V) (H:Hp) (Q:VK) (_E:XK):Prop
 |mk (op:Gv) (x y:Int) (_:vs=[.str (dD op), .int x, .int y]) (_:op∈Ic) (_:Q (.bl (Nc op x y)) H):Ei vs H Q _E
theorem ag6 (T:Txt K mg a):T.YS.U P w base 1 Ei:=by
 refine T.YS.F.ok afg [03] [02];obtain⟨op,x,y,rfl,ho,q⟩:=h;obtain⟨_,_,_,_,_,l1,l2,l3,l4,l5⟩:=yF;unfold Nc at q;have q:=EM (Q:=λz=>Q (.bl z) H) q
 refine jX ho l1 (λe=>#[_,cH cu (pv 1) (pv 2) (a0 _),IO,by rw[cS];exact q.1 e]) λe=>?_;have q:=EM (Q:=λz=>Q (.bl z) H) (q.2 e)
 refine jX ho l2 (λe=>#[_,cH uy (pv 1) (pv 2) (a0 _),IO,by rw[cS,<-Yw];exact q.1 e]) λe=>?_;have q:=EM (Q:=λz=>Q (.bl z) H) (q.2 e)
 refine jX ho l3 (λe=>#[_,cH jb (pv 1) (pv 2) (a0 _),_,_,IO,IO,q.1 e]) λe=>?_;have q:=EM (Q:=λz=>Q (.bl z) H) (q.2 e)
 refine jX ho l4 (λe=>#[_,cH aet (pv 1) (pv 2) (a0 _),_,_,IO,IO,q.1 e]) λe=>?_;have q:=EM (Q:=λz=>Q (.bl z) H) (q.2 e)
 exact jX ho l5 (λe=>#[_,cH iR (pv 1) (pv 2) (a0 _),_,_,IO,IO,q.1 e]) λe=>aD #[_,cH qD (pv 1) (pv 2) (a0 _),_,_,IO,IO,q.2 e]
theorem wt (h:zS j):j.natAbs.log2<9000:=by
 by_cases z:j.natAbs=0
 .rw[z];decide
 .refine GJ.lt_trans ((GJ.log2_lt z).mpr (show j.natAbs<2 ^ 65 by unfold zS at h;lia)) [01]
inductive Yc (vs:Gm V) (H:Hp) (Q:VK) (_E:XK):Prop
 |mk (op:Gv) (x y:Int) (_:vs=[.str (dD op), .int x, .int y]) (_:op∈Ic) (_:zS x) (_:zS y) (_:iL op y=Ix) (_:Q (.int (fm op x y)) H):Yc vs H Q _E
theorem ag7 (T:Txt K mg a):T.YR.U P w base 2 Yc:=by
 have aku:=ag6 (P:=P) (w:=w) (base:=base) T;refine T.YR.F.ok aff [03] [02];obtain⟨op,x,y,rfl,ho,bx,b_y,hh,q⟩:=h;obtain⟨l1,l2,l3,l4,l5,_⟩:=yF
 have y0:op=Gr "/"\/op=Gr "%"->y≠0:=λo z=>by
  rw[z] at hh;rcases o with o|o
  .rw[o] at hh;exact GW hh [00]
  .rw[o] at hh;exact GW hh [00]
 unfold fm at q;have q:=EM (Q:=λz=>Q (.int z) H) q
 refine jX ho l1 (λe=>#[_,aZ d9 (pv 1) (pv 2),_,_,IO,IO,q.1 e]) λe=>?_;have q:=EM (Q:=λz=>Q (.int z) H) (q.2 e)
 refine jX ho l2 (λe=>#[_,aZ eQ (pv 1) (pv 2),_,_,IO,IO,q.1 e]) λe=>?_;have q:=EM (Q:=λz=>Q (.int z) H) (q.2 e)
 refine jX ho l3 (λe=>#[_,aZ Bq (pv 1) (pv 2),_,_,IO,IO, .inl bx,q.1 e]) λe=>?_;have q:=EM (Q:=λz=>Q (.int z) H) (q.2 e)
 refine jX ho l4 (λe=>#[_,aZ Ce (pv 1) (pv 2),_,_,IO,IO,#[y0 (.inl e),wt b_y],q.1 e]) λe=>?_;have q:=EM (Q:=λz=>Q (.int z) H) (q.2 e)
 refine jX ho l5 (λe=>#[_,aZ Fg (pv 1) (pv 2),_,_,IO,IO,y0 (.inr e),q.1 e]) λe=>?_;refine aD #[_,dL (bS (aq aku hr (by rfl) T.YS.c aC (aa (pv 0) (aa (pv 1) (aa (pv 2) ac))))) aG aG,op,x,y,IO,ho,_,IO,?_];have q:=q.2 e;unfold Oi at q;cases hc:Nc op x y with
 |true=>rw[hc] at q;exact dR q
 |false=>rw[hc] at q;exact cQ q
inductive aa1 (vs:Gm V) (H:Hp) (Q:VK) (_E:XK):Prop
 |mk (x:Int) (_:(vs=[.str "-", .int x]/\Q (.int (-x)) H)\/(vs=[.str "!", .int x]/\Q (.int (Oi (x == 0))) H)):aa1 vs H Q _E
theorem ag8 (T:Txt K mg a):T.YT.U P w base 1 aa1:=by
 refine T.YT.F.ok afh (λvs H Q E h=>?_) [02]
 .obtain⟨x,⟨rfl,_⟩|⟨rfl,_⟩⟩:=h
  .rfl
  .rfl
 .obtain⟨x,⟨rfl,q⟩|⟨rfl,q⟩⟩:=h
  .refine#[_,(ai (bz (bg cu (pv 0) aK (a0 _)) (ak (aB (aZ eQ aG (pv 1)))) aQ)
    (ak (aB (dL (bg cu (pv 1) aG (a0 _)) aG aG)))),?_]
   refine#[IO,_,IO,bi (λ_=>?_) λe=>GW e [00]];exact#[_,_,IO,IO,by show Q (.int (0-x)) H;rw[Tn];exact q]
  .refine#[_,(ai (bz (bg cu (pv 0) aK (a0 _)) (ak (aB (aZ eQ aG (pv 1)))) aQ)
    (ak (aB (dL (bg cu (pv 1) aG (a0 _)) aG aG)))),?_]
   refine#[IO,_,IO,bi (λe=>GW e [00]) λ_=>?_];refine#[IO,_,IO,?_];rw[cS];unfold Oi at q;by_cases hx:x=0
   .rw[show(x == 0)=Ix from beq_iff_eq.mpr hx] at q
    rw[Hy hx];exact dR q
   .rw[show(x == 0)=IN from beq_eq_false_iff_ne.mpr hx] at q
    rw[Ha hx];exact cQ q
inductive lO (vs:Gm V) (H:Hp) (Q:VK) (_E:XK):Prop
 |mk (s:GJ) (x:Int) (_:vs=[.int s, .int x]) (_:Q (.bl (o0 s x)) H):lO vs H Q _E
theorem Yd (T:Txt K mg a):T.Wf.U P w base 1 lO:=by
 refine T.Wf.F.ok afj [03] [02];obtain⟨st,x,rfl,q⟩:=h;refine#[_,(ai (bz (bg cu (pv 0) (bB (by rfl) T.Tx) (a0 _)) (ak (aB (cH cu (pv 1) aG (a0 _)))) aQ)
   (ak (aB (cH uy (pv 1) aG (a0 _))))),?_]
 refine#[IO,_,IO,?_];rw[cS];unfold o0 at q;refine bi (λe=>?_) λe=>?_
 .rw[GD (by have:=Hn e;lia)] at q
  exact#[IO,by rw[cS];exact q]
 .rw[GB (by have:=Hq e;lia)] at q
  exact#[IO,by rw[cS];exact q]
inductive Dh (vs:Gm V) (H:Hp) (Q:VK) (_E:XK):Prop
 |mk (s:GJ) (_:vs=[.int s]) (_:Q (.int (ka s)) H):Dh vs H Q _E
theorem ag9 (T:Txt K mg a):T.YV.U P w base 1 Dh:=by
 refine T.YV.F.ok afk [03] [02];obtain⟨st,rfl,q⟩:=h;refine#[_,(ak (aB (dL (bg cu (pv 0) (bB (by rfl) T.Tx) (a0 _)) aG aG))),?_];refine#[IO,_,IO,?_];rw[cS];unfold ka at q;refine bi (λe=>?_) λe=>?_
 .rw[GD (by have:=Hn e;lia)] at q
  exact q
 .rw[GB (by have:=Hq e;lia)] at q
  exact q
inductive Df (vs:Gm V) (H:Hp) (Q:VK) (_E:XK):Prop
 |mk (f:Gv) (p:Gx) (l:Gm Int) (k:Gv×GJ) (_:vs=[.str (sb f), .ref p]) (_:H p=GM (.lst (l.map V.int))) (_:(Lz.find? λg=>g.1 == f)=GM k) (_:l.length=k.2) (_:Q (.int (VP f l)) H):Df vs H Q _E
theorem Ye (h:x=sb s):decide (V.str (sb f)=V.str x)=decide (f=s):=by
 rw[h];exact decide_eq_decide.mpr #[λz=>fZ (V.str.inj z),λz=>by rw[z]]
theorem aha (T:Txt K mg a):T.YU.U P w base 1 Df:=by
 refine T.YU.F.ok afi [03] [02];obtain⟨f,p,l,k,rfl,hp,hk,hl,q⟩:=h;refine#[_,(ai (bz (bg cu (pv 0) aK (a0 _)) (ak (aB (aR (Ae IO) (by rfl) T.aeg boot_min (aa (pv 1) ac)))) aQ)
   (ai (bz (bg cu (pv 0) aK (a0 _)) (ak (aB (aR (An IO) (by rfl) T.aef boot_max (aa (pv 1) ac)))) aQ)
   (ak (aB (aR uP (by rfl) T.Xa boot_abs (aa (eS cX (pv 1) aG (λ_ _=>rfl)) ac)))))),?_]
 unfold VP at q;dsimp only at q;have kf:k.1=f:=by have:=V5 hk;exact beq_iff_eq.mp this
 have km:=Rn hk
 have kk:k=(Gr "min",2)\/k=(Gr "max",2)\/k=(Gr "abs",1):=by
  unfold Lz at km
  simpa using km
 refine#[IO,_,IO,?_];rw[Ye (s:=Gr "min") [00]];refine bi (λe=>?_) λe=>?_
 .have e:=Hn e
  rw[GD e] at q;have:l.length=2:=by
   rcases kk with z|z|z
   .rw[hl,z]
   .rw[hl,z]
   .rw[z] at kf;rw[e] at kf;exact GW kf [00]
  match l,this with
  |[i,j],_=>exact#[p,i,j,IO,hp,q]
 have e1:=Hq e;rw[GB e1] at q;refine#[IO,_,IO,?_];rw[Ye (s:=Gr "max") [00]];refine bi (λe=>?_) λe=>?_
 .have e:=Hn e
  rw[GD e] at q;have:l.length=2:=by
   rcases kk with z|z|z
   .rw[hl,z]
   .rw[hl,z]
   .rw[z] at kf;rw[e] at kf;exact GW kf [00]
  match l,this with
  |[i,j],_=>exact#[p,i,j,IO,hp,q]
 have e2:=Hq e;rw[GB e2] at q
 have:l.length=1:=by
  rcases kk with z|z|z
  .rw[z] at kf;exact GW kf.symm e1
  .rw[z] at kf;exact GW kf.symm e2
  .rw[hl,z]
 match l,this with
 |[i],_=>exact#[p,_,_,V.int i,IO,IO,cK.of hp,ci (j:=0) IO,i,IO,q]
end OS
namespace OS
open Vbemac
def j3:Exp->GF (GJ×Gm Exp×Gm HA)
 | .sums e r=>GM (3,e::tu r,vT r)
 | .prods e r=>GM (4,e::tu r,vT r)
 | .cmp op x y=>GM (2,[x,y],[op])
 | .both e l=>GM (1,e::kt l,(kt l).map λ_=>text "&&")
 | .either e l=>GM (0,e::kt l,(kt l).map λ_=>text "||")
 |_=>Id
def ud (op:HA) (e f:Exp):GF Int:=match lit e,lit f with
 |some x,some y=>if iL op y=Ix then(if Wr (fm op x y) then GM (fm op x y) else Id) else Id
 |_,_=>Id
def Ba:Exp->Gm (HA×Exp)->Exp×Gm (HA×Exp)
 |e,[]=>(e,[])
 |e,(op,f)::r=>match ud op e f with
  |some v=>Ba (mk v) r
  |none=>(e,(op,f)::r)
def BA:Gm (HA×Exp)->Rest
 |[]=> .nil
 | (op,e)::r=> .cons op e (BA r)
def Fe:Gm Exp->Exps
 |[]=> .nil
 |e::r=> .cons e (Fe r)
theorem rY: ∀l:Exps,Fe (kt l)=l
 | .nil=>rfl
 | .cons e l=>Hr (Exps.cons e) (rY l)
theorem yl: ∀r:Rest,BA ((vT r).zip (tu r))=r
 | .nil=>rfl
 | .cons op e r=>Hr (Rest.cons op e) (yl r)
theorem vX: ∀l:Exps,kt (foldAll l)=(kt l).map fold
 | .nil=>by rw[foldAll];rfl
 | .cons e l=>by rw[foldAll];exact Hr (fold e:: ·) (vX l)
theorem AS: ∀r:Rest,tu (N8 r)=(tu r).map fold/\vT (N8 r)=vT r
 | .nil=>by rw[N8];exact#[IO,IO]
 | .cons op e r=>by rw[N8];exact#[Hr (fold e:: ·) (AS r).1,Hr (op:: ·) (AS r).2]
theorem A6:text "-"≠text "+"/\text "*"≠text "+"/\text "*"≠text "-"/\text "/"≠text "+"/\text "/"≠text "-"/\text "/"≠text "*"/\text "%"≠text "+"/\text "%"≠text "-"/\text "%"≠text "*"/\text "%"≠text "/"/\text "+"≠text "/"/\text "+"≠text "%"/\text "-"≠text "/"/\text "-"≠text "%"/\text "*"≠text "/"/\text "*"≠text "%":=by decide+kernel
theorem D8 {op:HA}(ho:op∈AR) (x y:Int):(match arith op x y 0 with
  | .ok (v,_)=>if writable v=Ix then GM v else Id
  | .error _=>Id)=if iL op y=Ix then(if Wr (fm op x y) then GM (fm op x y) else Id) else Id:=by
 have ck: ∀v:Int,(match checked v 0 with
  | .ok (v,_)=>if writable v=Ix then GM v else Id
  | .error _=>Id)=if Wr v then GM v else Id:=λv=>by
  have e:writable v=decide (Wr v):=by
   unfold writable BIG;rw[Ip];simp [Wr]
  unfold checked BIG;by_cases w:Wr v
  .rw[GD w]
   split
   .rename_i h
    split at h
    .cases h;rw[e,Hy w];rfl
    .cases h
   .rename_i h
    split at h
    .cases h
    .rename_i c
     exact(c (by show _/\_;lia)).elim
  .rw[GB w]
   split
   .rename_i h
    split at h
    .cases h;rw[e,Ha w];rfl
    .cases h
   .rfl
 have a5:op=text "+"\/op=text "-"\/op=text "*"\/op=text "/"\/op=text "%":=by
  unfold AR at ho
  simpa using ho
 have ok: ∀ {o:HA}{v:Int},arith o x y 0=checked v 0->fm o x y=v->iL o y=Ix->(match arith o x y 0 with
  | .ok (v,_)=>if writable v=Ix then GM v else Id
  | .error _=>Id)=if iL o y=Ix then(if Wr (fm o x y) then GM (fm o x y) else Id) else Id:=λh1 h2 h3=>by
  rw[h1,h2,GD h3];exact ck _
 have no: ∀ {o:HA},y=0->arith o x y 0= .error (-11)->iL o y=IN->(match arith o x y 0 with
  | .ok (v,_)=>if writable v=Ix then GM v else Id
  | .error _=>Id)=if iL o y=Ix then(if Wr (fm o x y) then GM (fm o x y) else Id) else Id:=λ_ h1 h3=>by
  rw[h1,GB (by rw[h3];exact Gn)]
 rcases a5 with rfl|rfl|rfl|rfl|rfl
 .exact ok (v:=x+y) (by simp [arith]) (by simp [fm]) (by simp [iL,A6])
 .exact ok (v:=x-y) (by simp [arith,A6]) (by simp [fm,A6]) (by simp [iL,A6])
 .exact ok (v:=x*y) (by simp [arith,A6]) (by simp [fm,A6]) (by simp [iL,A6])
 .by_cases h:y=0
  .exact no h (by simp [arith,A6,h]) (by simp [iL,h])
  .exact ok (v:=x.fdiv y) (by simp [arith,A6,h]) (by simp [fm,A6]) (by simp [iL,h])
 .by_cases h:y=0
  .exact no h (by simp [arith,A6,h]) (by simp [iL,h])
  .exact ok (v:=x.fmod y) (by simp [arith,A6,h]) (by simp [fm,A6]) (by simp [iL,h])
theorem zr: ∀(r:Rest) (e:Exp),GR r->Ba e ((vT r).zip (tu r))=((lead e r).1,(vT (lead e r).2).zip (tu (lead e r).2))
 | .nil,e,_=>by rw[lead];rfl
 | .cons op f r,e,h=>by
  rw[GR] at h;show Ba e ((op,f)::(vT r).zip (tu r))=_;rw[Ba,lead];unfold ud;cases e1:lit e with
  |none=>rfl
  |some x=>
   cases e2:lit f with
   |none=>rfl
   |some y=>
    dsimp only;rw[<-D8 h.1 x y];cases e3:arith op x y 0 with
    |error c=>rfl
    |ok v=>
     dsimp only;cases e4:writable v.1 with
     |true=>rw[GD IO,GD IO];exact zr r (mk v.1) h.2.2
     |false=>rw[GB Gn,GB Gn];rfl
theorem Cs {op:HA}(h:op∈CM):op≠text "+"/\op≠text "-"/\op≠text "*"/\op≠text "/"/\op≠text "%":=by
 have n:=(ye op h).2;unfold AR at n
 simpa using n
theorem DL {op:HA}(h:op∈CM) (y:Int):iL op y=Ix:=by
 obtain⟨_,_,_,h4,h5⟩:=Cs h;simp [iL,h4,h5]
theorem AL {op:HA}{x y:Int}(h:op∈CM):fm op x y=truth (Nc op x y):=by
 obtain⟨h1,h2,h3,h4,h5⟩:=Cs h;simp [fm,h1,h2,h3,h4,h5]
def chB (s:GJ) (e:Exp) (ps:Gm (HA×Exp)):Exp:=if s=3 then .sums e (BA ps) else if s=4 then .prods e (BA ps) else match ps with
 | (op,f)::_=> .cmp op e f
 |[]=>e
theorem Cb {e o:Exp}{s:GJ}{os:Gm Exp}{Qa:Gm HA}(g:GE e) (hc:j3 e=GM (s,o::os,Qa)) (h2: ¬s<=1):fold e=(match Ba (fold o) (Qa.zip (os.map fold)) with
  | (x,[])=>x
  | (x,ps)=>chB s x ps):=by
 have rk: ∀(e:Exp) (r:Rest) (c:Exp->Rest->Exp),GR r->(match lead e r with
   | (a, .nil)=>a
   | (a,s)=>c a s)=(match Ba e ((vT r).zip (tu r)) with
   | (x,[])=>x
   | (x,ps)=>c x (BA ps)):=λe r c h=>by
  rw[zr r e h];rcases lead e r with⟨x,_|⟨op,f,r'⟩⟩
  .rfl
  .show c x _=c x (BA ((op,f)::(vT r').zip (tu r')))
   rw[show(op,f)::(vT r').zip (tu r')=(vT (.cons op f r')).zip (tu (.cons op f r')) from IO,yl]
 cases e with
 |sums e r=>
  cases hc;rw[GE] at g;have z:=rk (fold o) (N8 r) Exp.sums (C7 r g.2).ok;rw[(AS r).1,(AS r).2] at z;rw[fold];exact z
 |prods e r=>
  cases hc;rw[GE] at g;have z:=rk (fold o) (N8 r) Exp.prods (C7 r g.2).ok;rw[(AS r).1,(AS r).2] at z;rw[fold];exact z
 |cmp op x y=>
  cases hc;rw[GE] at g;rw[fold];show _=(match Ba (fold o) [(op,fold y)] with
   | (x,[])=>x
   | (x,ps)=>chB 2 x ps)
  rw[Ba];unfold ud;cases e1:lit (fold o) with
  |none=>rfl
  |some u=>
   cases e2:lit (fold y) with
   |none=>rfl
   |some v=>
    dsimp only;rw[GD (DL g.1 _),AL g.1,GD (uM _)]
    rfl
 |both e l=>cases hc;exact GW (GU 1) h2
 |either e l=>cases hc;exact GW (HB 1) h2
 |_=>cases hc
def chD (s:GJ):Gm Exp->Exp
 |[]=> .num 0
 |o::os=>if s=1 then .both o (Fe os) else .either o (Fe os)
def F4 (s:GJ) (ops:Gm Exp):Exp:=
 if(ops.head?.bind lit).any (o0 s)=Ix then .num (ka s).toNat
 else if Id∈ops.map lit then chD s ops
 else if(ops.filterMap lit).any (o0 s)=Ix then .num (ka s).toNat else .num (1-ka s).toNat
theorem nN: ∀l:Exps,lits l=if Id∈(kt l).map lit then Id else GM ((kt l).filterMap lit)
 | .nil=>rfl
 | .cons e l=>by
  rw[lits,nN l];show _=if Id∈lit e::(kt l).map lit then Id else GM ((e::kt l).filterMap lit)
  cases h:lit e with
  |none=>rw[GD (c:=Id∈Id::(kt l).map lit) (.head _)]
  |some v=>
   rw[NX h];by_cases c:Id∈(kt l).map lit
   .rw[GD c,GD (.tail _ c)]
   .rw[GB c,GB (λz=>by cases z with|tail _ z=>exact c z)]
theorem zl {s:GJ}{p:Int->HH}{o:Exp}{os:Gm Exp}(hp: ∀v,o0 s v=p v):F4 s (o::os)=(match lit o,(if Id∈os.map lit then Id else GM (os.filterMap lit)) with
  |some v,w=>if p v=Ix then .num (ka s).toNat else(match w with
   |some w=>if w.any p=Ix then .num (ka s).toNat else .num (1-ka s).toNat
   |none=>chD s (o::os))
  |none,_=>chD s (o::os)):=by
 have e:o0 s=p:=funext hp;unfold F4;rw[e,V7,GZ,Qj];cases h:lit o with
 |none=>rw[GB (by rw[GF.any_none];exact Gn),GD (.head _)]
 |some v=>
  rw[NX h,GF.any_some];dsimp only;cases hv:p v with
  |true=>rfl
  |false=>
   rw[GB Gn,GB Gn];by_cases c:Id∈os.map lit
   .rw[GD (.tail _ c),GD c]
   .rw[GB (λz=>by cases z with|tail _ z=>exact c z),GB c,J7,hv,PH]
theorem Dt {e:Exp}{s:GJ}{ops:Gm Exp}{Qa:Gm HA}(hc:j3 e=GM (s,ops,Qa)) (h1:s<=1):fold e=F4 s (ops.map fold):=by
 have tr: ∀b:HH,mk (truth b)= .num (if b=Ix then 1 else 0):=by intro b;cases b<;>rfl
 cases e with
 |both e l=>
  cases hc;have e2:chD 1 (fold e::(kt l).map fold)= .both (fold e) (foldAll l):=by rw[<-vX];show Exp.both _ _=_;rw[rY]
  rw[fold,nN,vX,GZ,zl (p:=λv=>v == 0) (λv=>rfl),e2];split
  .rename_i h;rw[h];rfl
  .rename_i v w h1 h2 h3
   rw[h2,h3,tr];dsimp only;rw[GB (c:=(v == 0)=Ix) (by rw[beq_iff_eq];exact h1)];cases ha:w.any λv=>v == 0 with
   |true=>
    rw[GD (c:=Ix=Ix) IO,GB (c:=(w.all λx=>x !=0)=Ix)]
    .rfl
    .intro z
     obtain⟨y,hy,hz⟩:=KS.mp ha;have:=LC.mp z y hy;rw[beq_iff_eq.mp hz] at this;cases this
   |false=>
    rw[GB (c:=IN=Ix) Gn,GD (c:=(w.all λx=>x !=0)=Ix)]
    .rfl
    .refine LC.mpr λy hy=>?_
     have:=Qc.mp ha y hy;exact bne_iff_ne.mpr λz=>this (beq_iff_eq.mpr z)
  .rename_i h1 h2
   cases h3:lit (fold e) with
   |none=>rfl
   |some v=>
    dsimp only;cases h4:(if Id∈((kt l).map fold).map lit then Id else GM (((kt l).map fold).filterMap lit)) with
    |none=>
     rw[GB];intro z;exact h1 (by rw[h3,beq_iff_eq.mp z])
    |some w=>exact(h2 v w h3 h4).elim
 |either e l=>
  cases hc;have e2:chD 0 (fold e::(kt l).map fold)= .either (fold e) (foldAll l):=by rw[<-vX];show Exp.either _ _=_;rw[rY]
  rw[fold,nN,vX,GZ,zl (p:=λv=>v !=0) (λv=>rfl),e2];split
  .rename_i w h1 h2
   rw[h1,h2,tr];dsimp only;rw[GB (c:=(0 !=(0:Int))=Ix) [01]];cases w.any λv=>v !=0<;>rfl
  .rename_i h1 h2
   rw[h1,h2]
   rfl
  .rename_i v h0 h1 h2
   rw[h0];dsimp only;rw[GD]
   .rfl
   .refine bne_iff_ne.mpr λz=>?_
    cases h4:(if Id∈((kt l).map fold).map lit then Id else GM (((kt l).map fold).filterMap lit)) with
    |none=>exact h2 h4 z
    |some w=>exact h1 w h4 z
  .rename_i h1
   rw[h1]
 |sums e r=>cases hc;exact GW h1 (by decide)
 |prods e r=>cases hc;exact GW h1 (by decide)
 |cmp op x y=>cases hc;exact GW h1 (by decide)
 |_=>cases hc
end OS
namespace OS
open PySem PySem.Spec L2
open PyProof.Rows hiding St
variable {P:Hm}{w:HS}{K:Gu}{mg:G0->GF Gy}{base:Ij}{a:bJ}
section
variable {M:Gx->Prop}{H:Hp}
theorem nJ: ∀ {l:Ja}{us:Gm V},bn a M H l us->Paired (λu e=>ag a M H e u) us (kt l)
 | .nil,us,h=>by unfold bn at h;rw[h];exact .nil
 | .cons e l,us,h=>by
  unfold bn at h;obtain⟨u,vs,rfl,h1,h2⟩:=h;exact .cons h1 (nJ h2)
theorem sJ: ∀ {l:Nz}{us ss:Gm V},cP a M H l us ss->Paired (λu e=>ag a M H e u) us (tu l)/\ss=(vT l).map λo=>V.str (dD o)
 | .nil,us,ss,h=>by unfold cP at h;rw[h.1,h.2];exact#[.nil,IO]
 | .cons op e l,us,ss,h=>by
  unfold cP at h;obtain⟨u,vs,ts,rfl,rfl,h1,h2⟩:=h;obtain⟨g1,g2⟩:=sJ h2;exact#[.cons h1 g1,by rw[g2];rfl]
inductive E8 (a:bJ) (M:Gx->Prop) (H:Hp) (s:GJ) (ops:Gm Gz) (Qa:Gm Gv) (v:V):Prop
 |mk (oq gq:V) (us:Gm V) (_:bQ M H a.Kv [("strength", .int s),("operands",oq),("signs",gq)] v) (_:bM M H us oq) (_:Paired (λu e=>ag a M H e u) us ops) (_:bM M H (Qa.map λo=>V.str (dD o)) gq):E8 a M H s ops Qa v
theorem oB {e:Gz}{v:V}{s:GJ}{ops:Gm Gz}{Qa:Gm Gv}(h:ag a M H e v) (hc:j3 e=GM (s,ops,Qa)):E8 a M H s ops Qa v:=by
 have sg: ∀(t:Gv) (x:G0) (l:Ja) (us:Gm V),dD t=x->us.length=(kt l).length->us.map (λ_=>V.str x)=((kt l).map λ_=>t).map λo=>V.str (dD o):=λt x l us e hl=>by
  rw[JT,<-e,Oy,hl];exact(Oy ..).symm
 cases e with
 |sums e r=>
  unfold ag at h;cases hc;obtain⟨_,_,u,us,ss,h1,h2,h3,h4,h5⟩:=h;obtain⟨g1,g2⟩:=sJ h5;exact#[_,_,_,h1,h2, .cons h4 g1,by rw[<-g2];exact h3]
 |prods e r=>
  unfold ag at h;cases hc;obtain⟨_,_,u,us,ss,h1,h2,h3,h4,h5⟩:=h;obtain⟨g1,g2⟩:=sJ h5;exact#[_,_,_,h1,h2, .cons h4 g1,by rw[<-g2];exact h3]
 |cmp op x y=>
  unfold ag at h;cases hc;obtain⟨_,_,u1,u2,h1,h2,h3,h4,h5⟩:=h;exact#[_,_,_,h1,h2, .cons h4 (.cons h5 .nil),h3]
 |both e l=>
  unfold ag at h;cases hc;obtain⟨_,_,u,us,h1,h2,h3,h4,h5⟩:=h;have g1:=nJ h5;exact#[_,_,_,h1,h2, .cons h4 g1,by rw[<-sg (Gr "&&") "&&" l us [00] (cn g1)];exact h3]
 |either e l=>
  unfold ag at h;cases hc;obtain⟨_,_,u,us,h1,h2,h3,h4,h5⟩:=h;have g1:=nJ h5;exact#[_,_,_,h1,h2, .cons h4 g1,by rw[<-sg (Gr "||") "||" l us [00] (cn g1)];exact h3]
 |_=>cases hc
theorem kU: ∀ {l:Gm Gz}{us:Gm V},Paired (λu e=>ag a M H e u) us l->bn a M H (Fe l) us
 |_,_, .nil=>by unfold Fe bn;rfl
 |_,_, .cons h t=>by unfold Fe bn;exact#[_,_,IO,h,kU t]
theorem rA: ∀ {ps:Gm (Gv×Gz)}{us:Gm V},Paired (λu e=>ag a M H e u) us (ps.map λp=>p.2)->cP a M H (BA ps) us ((ps.map λp=>p.1).map λo=>V.str (dD o))
 |[],_, .nil=>by unfold BA cP;exact#[IO,IO]
 |p::ps,_, .cons h t=>by unfold BA cP;exact#[_,_,_,IO,IO,h,rA t]
theorem aa2 {x:Gz}{ps:Gm (Gv×Gz)}(h:E8 a M H s (x::ps.map λp=>p.2) (ps.map λp=>p.1) v) (hs:s=3\/s=4\/(s=2/\ps.length=1)):ag a M H (chB s x ps) v:=by
 obtain⟨oq,gq,us,i,l1,pr,l2⟩:=h;cases pr with
 |cons h1 pr=>
  rcases hs with rfl|rfl|⟨rfl,hl⟩
  .show ag a M H (.sums x (BA ps)) v
   unfold ag;exact#[_,_,_,_,_,i,l1,l2,h1,rA pr]
  .show ag a M H (.prods x (BA ps)) v
   unfold ag;exact#[_,_,_,_,_,i,l1,l2,h1,rA pr]
  .match ps,hl with
   |[(op,f)],_=>
    show ag a M H (.cmp op x f) v
    unfold ag;cases pr with
    |cons h2 pr=>
     cases pr;exact#[_,_,_,_,i,l1,l2,h1,h2]
theorem aa3 {o:Gz}{os:Gm Gz}{t:Gv}(h:E8 a M H s (o::os) (os.map λ_=>t) v) (hs:(s=1/\t=Gr "&&")\/(s=0/\t=Gr "||")):ag a M H (chD s (o::os)) v:=by
 obtain⟨oq,gq,us,i,l1,pr,l2⟩:=h;cases pr with
 | @cons u _ us _ h1 pr=>
  have e:((os.map λ_=>t).map λo=>V.str (dD o))=us.map λ_=>V.str (dD t):=by
   rw[JT,Oy,cn pr];exact Oy ..
  rw[e] at l2;rcases hs with⟨rfl,rfl⟩|⟨rfl,rfl⟩
  .show ag a M H (.both o (Fe os)) v
   unfold ag;exact#[_,_,_,_,i,l1,l2,h1,kU pr]
  .show ag a M H (.either o (Fe os)) v
   unfold ag;exact#[_,_,_,_,i,l1,l2,h1,kU pr]
end
inductive Nd1 (a:bJ) (M:Gx->Prop) (H:Hp) (i:GJ) (v:V):Prop
 |mk {C:Gx}{fs:Gm (G0×V)}(_:bQ M H C fs v) (_:(tj a)[i]?=GM C):Nd1 a M H i v
theorem sf {a:bJ}{M:Gx->Prop}{H:Hp}{e:Gz}{v:V}(h:ag a M H e v):Nd1 a M H (vb e) v:=by
 cases e<;>unfold ag at h
 .exact#[h,IO]
 .exact#[h,IO]
 .obtain⟨_,_,h,_⟩:=h;exact#[h,IO]
 .obtain⟨_,h,_⟩:=h;exact#[h,IO]
 .obtain⟨_,h,_⟩:=h;exact#[h,IO]
 .obtain⟨_,_,_,_,_,h,_⟩:=h;exact#[h,IO]
 .obtain⟨_,_,_,_,_,h,_⟩:=h;exact#[h,IO]
 .obtain⟨_,_,_,_,h,_⟩:=h;exact#[h,IO]
 .obtain⟨_,_,_,_,h,_⟩:=h;exact#[h,IO]
 .obtain⟨_,_,_,_,h,_⟩:=h;exact#[h,IO]
 .obtain⟨_,_,_,h,_⟩:=h;exact#[h,IO]
 .obtain⟨_,_,_,h,_⟩:=h;exact#[h,IO]
section
variable {M:Gx->Prop}{B H:Hp}{te:TE}{R:HH->Hp->Prop}
theorem Pa.mono {X:Cx}{σ:L2.St}{Q Q':Gm V->Hp->Prop}(h:Pa X es σ H Q) (im: ∀b H,Q b H->Q' b H):Pa X es σ H Q':=by
 obtain⟨t,ht,q⟩:=h;refine#[λσ H Q'=> ∃Q:Gm V->Hp->Prop,(∀b H,Q b H->Q' b H)/\t σ H Q,λpos pins s σ H Q' I h=>?_,Q,im,q];obtain⟨Q,im,q⟩:=h;exact cG (ht pos pins s σ H Q I q) λc s' ⟨v,H',I',r,q⟩=>#[v,H',I',r,im _ _ q]
theorem gV {X:Cx}{σ:L2.St}(N:jQ X.K a) (n:X.mg "isinstance"=Id) (h:Nd1 a M B i v) (sm:aI B H) (hj:(tj a)[j]?=GM C) (hm:X.mg c=GM (.ref C)) (he:PE X e te) (hv: ∀Q:VK,Q v H->te σ H Q) (q:R (decide (i=j)) H) (hg:Gl X "isinstance":=by rfl) (hc:Gl X c:=by rfl) (hx:(c == ("__debug__":G0))=IN:=by decide) (Ms:Hb [e, .Name c p2] X.env=(IN,eval e X.env)::Hb [.Name c p2] X.env:=by rfl):
  Pt X (.Call (.Name "isinstance" p1) [e, .Name c p2] [] p3) σ H R:=by
 obtain @⟨C',fs,⟨p,dx,rfl,_,z⟩,hC⟩:=h;have i7:i<15:=(Hk.mp hC).1;have j7:j<15:=(Hk.mp hj).1;have k:=Hr (λl:Gm (Gm (GF HH))=>(l[i]?.bind λr=>r[j]?)) N.Zq
 have k:Jh X.K (.ref C') (.ref C)=GM (decide (i=j)):=by simpa [hC,hj,KP i7,KP j7] using k
 exact du #[_,aR bZ hg n Iz (aa he (aa (dg hc hm hx) ac) Ms) [01] [01] Ms IO,hv _ #[_,C,_,_,IO,(N.ty _ (Iu hC)).of (sm _ _ z),k,_,IO,q]]
theorem hZ {X:Cx}{σ:L2.St}{Q:VK}{C:Gx}{fs:Gm G0}(nb:NB X c C fs) (hr:cy 2 X.A) (q:Pa X (e::es) σ H λws H1=>ws.length=fs.length/\ ∀x dx H2,H1 x=Id->aI H1 H2->H2 x=GM (.ins C dx (fs.zip ws))->Q (.ref x) H2)
  (hg:Gl X c:=by rfl) (hx:(c == ("__debug__":G0))=IN:=by decide) (he:Hb (e::es) X.env=(IN,eval e X.env)::Hb es X.env:=by rfl) (MS:(J6 p4 (Hb es X.env)).any (·.1)=IN:=by rfl):Pe X (.Call (.Name c p1) (e::es) [] p4) σ H Q:=by
 obtain⟨M,G,b,hm⟩:=nb;refine#[_,kK M G hr hg hm b .nil aC ua hx he MS,q.mono λws H1 ⟨hl,q⟩ x dx h1 h2 ne=>?_];rw[GY];exact#[x,dx,ws,IO,hl,aj,λH2 e k=>#[IO,q x dx H2 h1 (λb o e=>k b o (by rw[af (aw e h1),af (aw e h2)];exact e) (aw e h1)) e]]
end
abbrev iZ (M:Gx->Prop) (H:Hp):Prop:= ∀p,M p->H p≠Id
theorem iZ.up {M:Gx->Prop}{H H':Hp}(h:iZ M H) (s:aI H H'):iZ M H':=λp m z=>by
 cases e:H p with
 |none=>exact h p m e
 |some o=>rw[s _ _ e] at z;cases z
theorem bQ.Ll {M:Gx->Prop}{B H:Hp}{X:Cx}{Q:VK}(h:bQ M B C fs v) (s:aI B H) (cl:i8 X.K C) (no:aH X.K C f) (l:fs.lookup f=GM u) (q:Q u H):pQ X.K f Q v H:=by
 obtain⟨p,dx,rfl,_,z⟩:=h;exact#[p,C,dx,fs,u,IO,s _ _ z,cl,no,l,q]
theorem aJ {H:Hp} :aI H H:=λ_ _ e=>e
theorem tI {K:Gu}{A B:Type}{F:(Gx->Prop)->Hp->B->V->Prop}{M:Gx->Prop}{L:Gx}{xs:Gm V}{l:Gm A}{g:A->B}{te ti:TE}{σ:L2.St}{H:Hp}{Q:VK}{i:GJ}
  (kp: ∀ {M M':Gx->Prop}{H H':Hp}{b:B}{v:V},eu M M' H H'->F M H b v->F M' H' b v)
  (hL:H L=GM (.lst xs)) (hl:xs.length=l.length) (hn:l.length<=6000000) (hM:iZ M H) (hv: ∀Q:VK,Q (.ref L) H->ti σ H Q)
  (step: ∀(j:GJ) (x:V) (o:A) (H':Hp) (M1:Gx->Prop),xs[j]?=GM x->l[j]?=GM o->aI H H'->eu M M1 H H'->iZ M1 H'-> ∀Q:VK,(∀H2 u,aI H' H2->F M1 H2 (g o) u->Q u H2)->te ((dM σ [i]).set i (GM x)) H' Q)
  (q: ∀H' D us,aI H H'-> ¬M D->H' D=GM (.lst us)->Paired (λu b=>F M H' b u) us (l.map g)->Q (.ref D) H')
  (hw: ∀x,dM ((dM σ [i]).set i (GM x)) [i]=dM σ [i]):FY (qg K ti) (gI i) qc te [i] σ H Q:=by
 refine hv _ #[L,IO,#[_,cK.of hL],λD hD=>?_];refine si (K:=K) (a:=L) (xs:=xs) (λj H'=>aI H H'/\ ∃us,H' D=GM (.lst us)/\Paired (λu b=>F (λp=>M p\/p=D) H' b u) us ((l.map g).take j)) #[be hD,[],aj,by rw[Gm.take_zero];exact .nil] (λj H' _ z=>cK.of (z.1 _ _ hL)) ?_ ?_
 .rintro j x H' hj ⟨s1,us,Sy,pr⟩
  have lt:j<l.length:=by rw[<-hl];exact(Hk.mp hj).1
  refine#[hw x,?_];unfold qc;dsimp only;rw[GD IO];refine step j x l[j] H' (λp=>M p\/p=D) hj (IX lt) s1 (λb o e m=>#[λz=>z.elim m (λz=>by rw[z,hD] at e;cases e),s1 _ _ e]) (λp m=>m.elim (hM.up s1 p) λz=>by rw[z,Sy];exact GF.some_ne_none _) _ λH2 u s2 hu=>#[us,s2 _ _ Sy,?_,λb o e=>by rw[af (aw e hD)];exact s2 _ _ (s1 b o e),us++[u],aj,?_]
  .rw[cn pr,Mv]
   exact HE (GX (GJ.min_le_right _ _) (by rw[GG];exact hn)) [01]
  .rw[NM,HF,IX lt]
   refine gM (Paired.Np pr λv b h=>kp (λb o e m=>#[m,by rw[af λz=>m (.inr z)];exact s2 _ _ e]) h) (kp (λb o e m=>#[m,by rw[af λz=>m (.inr z)];exact e]) hu)
 .rintro H' ⟨s1,us,Sy,pr⟩
  rw[hl,Ki (by rw[GG];exact GU _)] at pr;exact q H' D us s1 (λm=>hM D m hD) Sy (Paired.Np pr λv b h=>kp (λb o e m=>#[λz=>m (.inl z),e]) h)
section
variable {X:Cx}{y:G0}{elt it:IY}{scope:Scope}{te ti:TE}{σ:L2.St}{H:Hp}{Q:VK}{i:GJ}{p1 p2 p5 py:Pos}{D:dz}{ss:Gm Stmt}
theorem BV (nd:X.N.Nodup) (hi:PE X it ti) (ok:pE X.N X.env.scope scope [(y,i)])
  (he: ∀(s:GC) (H:Hp) (C:Gx) (cl:Gm (G0×Gx)) (fp:Gm Gx),PE (X.QX s H scope (Kx scope cl C X.env) fp) elt te)
  (q:FY (qg X.K ti) (gI i) qc te [i] σ H Q) (hg: ∀(s:GC) (H:Hp) (C:Gx) (cl:Gm (G0×Gx)) (fp:Gm Gx),PG (X.QX s H scope (Kx scope cl C X.env) fp) (.Name y p1) (gI i))
  (hc:X.calm=Ix:=by rfl) (hs: ∀x,KN it X.env x=Hz x:=by intro _;rfl):
  Pe X (.ListComp elt [#[.Name y p1,it,[],0]] scope p2) σ H Q:=#[_,zw hc nd (fL hi) ok hg (λ_ _ _ _ _=>kT) he hs,q]
theorem rN (j:GJ) {x:G0}(nd:X.N.Nodup) (hi:PE X it ti) (ok:pE X.N X.env.scope scope [(y,i)])
  (he: ∀(s:GC) (H:Hp) (C:Gx) (cl:Gm (G0×Gx)) (fp:Gm Gx),PE (X.QX s H scope (Kx scope cl C X.env) fp) elt te)
  (q:FY (qg X.K ti) (gI i) qc te [i] σ H λv H'=>Bd X ss D (σ.set j (GM v)) H') (hg: ∀(s:GC) (H:Hp) (C:Gx) (cl:Gm (G0×Gx)) (fp:Gm Gx),PG (X.QX s H scope (Kx scope cl C X.env) fp) (.Name y p1) (gI i))
  (hsw:Lb (.ListComp elt [#[.Name y p1,it,[],0]] scope p2) (GM (.Name x py)) p5.line X.env=Hz Ix)
  (hy:X.N[j]?=GM x:=by rfl) (hyl:X.env.scope.names.lookup x=GM .local:=by rfl) (hc:X.calm=Ix:=by rfl) (hs: ∀x,KN it X.env x=Hz x:=by intro _;rfl):
  Bd X (.Assign [.Name x py] (.ListComp elt [#[.Name y p1,it,[],0]] scope p2) p5::ss) D σ H:=dB (Ej hc nd hy hyl hsw (fL hi) ok hg (λ_ _ _ _ _=>kT) he hs) q
end
def ahb (P:Hm) (w:HS) (K:Gu) (ty td:TE):TE:=λσ H Q=>ty σ H λy H1=>td σ H1 λx H2=> ∃a k Iw,x= .ref a/\vU P w K a Iw/\y=kV k/\Q (.bl (cW Iw k).isSome) H2
theorem Fi {X:Cx}(hi:PE X i ty) (ho:PE X o td):PC X .In i o (ahb X.prog X.w X.K ty td):=by
 intro pins s σ H Q I h;refine bin hi ho I h λv u s2 x y H2 I2 rx ry q=>?_;obtain⟨a,k,Iw,ey,kd,ex,q⟩:=q;subst ex;subst ey;cases ry;obtain⟨vs,dd,rel⟩:=kd.at_;refine wpAny_in_of (pz rx) kd.no (dd _ I2.NV).mapOf ?_;rw[<-(rel.val k).Ml];exact#[.bl _,H2,I2.tok _,IO,q]
theorem pT {x IW:G0}{st:Stmt}{f:Gx}{fd:HX}{N ps:Gm G0}{k:GJ}{sp:Sp}(F:sN K x IW st f fd)
  (S:ax N ps (ah st)) (len: ∀vs H Q E,sp vs H Q E->vs.length=ps.length)
  (K6: ∀(IB:Gy) (A:IA) (outer:Gm Env) (s:GC) (H:Hp) (vs:Gm V) (Q:VK) (E:XK),cy k (A.deeper (Lc IW (ah st) s.heap.objs.size f IB))->sp vs H Q E->
   let X:=(gW nF P w K mg base N IW (ah st) f IB A outer s H E).nox
   let D:dz:= { nx:=λ_ H'=>Q .Kk H',rt:=Q }
   Bd X (bq st) D (start N vs) H):b8 P w K mg base nF (k+1) f fd ps sp:=F.ok S len K6
def mn:GF Int->V
 |none=> .Kk
 |some z=> .int z
inductive aa4 (a:bJ) (vs:Gm V) (H:Hp) (Q:VK) (_E:XK):Prop
 |Mo {e:Gz}{v:V}{M:Gx->Prop}(_:vs=[v]) (_:ag a M H e v) (_:Q (mn (IV e)) H):aa4 a vs H Q _E
theorem rp {X:Cx}{σ:L2.St}{H:Hp}{R:HH->Hp->Prop}{e f g:IY}(q:Pt X e σ H λb H'=>if b=Ix then(Pt X f σ H' λb H'=>if b=Ix then Pt X g σ H' R else R IN H') else R IN H'):Pt X (.BoolOp .And [e,f,g] p1) σ H R:=
 #[_,(lZ gO (lZ gO (lm gO))).pt,q.mono λb H' q=>by
  cases b with
  |false=>exact q
  |true=>exact Pt.mono q λb H' q=>by cases b<;>exact q]
theorem Cu {X:Cx}{σ:L2.St}{H:Hp}{R:HH->Hp->Prop}{e f g:IY}(q:Pt X e σ H λb H'=>if b=Ix then R Ix H' else(Pt X f σ H' λb H'=>if b=Ix then R Ix H' else Pt X g σ H' R)):Pt X (.BoolOp .Or [e,f,g] p1) σ H R:=
 #[_,(qK gO (qK gO (oy gO))).pt,q.mono λb H' q=>by
  cases b with
  |true=>exact q
  |false=>exact Pt.mono q λb H' q=>by cases b<;>exact q]
theorem vc (T:Txt K mg a) (I:jQ K a):T.VV.U P w base 1 (aa4 a):=by
 refine pT T.VV.F ajL [03] [02];intro X D;obtain @⟨e,v,M,rfl,ev,q⟩:=h;have nd:=sf ev;refine aY (gV I T.HN nd aJ (j:=0) IO T.OV (pv 0) [08] (eU (λz=>?_) λz=>?_))
 .obtain⟨n,rfl⟩: ∃x,e= .num x:=by cases e<;>first|exact#[_,IO]|cases z
  unfold ag at ev;exact aD (cB (bV 0 (ev.Ll aJ T.NS T.LK IO q)) IO)
 refine aY (rp (gV I T.HN nd aJ (j:=3) IO T.OD (pv 0) [08] (eU (λz3=>?_) λz3=>cQ (aD (cg ?_)))))
 .have un:(∃x,e= .neg x)\/ ∃x,e= .not x:=by cases e<;>first|exact .inl #[_,IO]|exact .inr #[_,IO]|cases z3
  rcases un with⟨x,rfl⟩|⟨x,rfl⟩
  .unfold ag at ev
   obtain⟨u,i,ex⟩:=ev;refine cA cu (cB (bV 0 (i.Ll aJ T.Lq T.K8 IO (tW #[IO,_,IO,eR (Hy IO) (gV I T.HN (sf ex) aJ (j:=0) IO T.OV [07] (λ_ q=>i.Ll aJ T.Lq T.KG IO q) (eU (λz=>?_) λz=>aD (cg ?_)))]))) IO)
   .obtain⟨n,rfl⟩: ∃y,x= .num y:=by cases x<;>first|exact#[_,IO]|cases z
    unfold ag at ex;exact aD (DT eQ (gN (cB (cB (bV 0 (i.Ll aJ T.Lq T.KG IO (ex.Ll aJ T.NS T.LK IO #[_,_,IO,IO,by rw[Tn];exact q]))) IO) IO)))
   .have:IV (.neg x)=Id:=by cases x<;>first|rfl|exact GW IO z
    rw[this] at q;exact q
  .unfold ag at ev
   obtain⟨u,i,ex⟩:=ev;exact cA cu (cB (bV 0 (i.Ll aJ T.Lq T.K8 IO (tW #[IO,_,IO,fh [00] (cQ (aD (cg q)))]))) IO)
 .have:IV e=Id:=by cases e<;>first|rfl|exact GW IO z|exact GW IO z3
  rw[this] at q;exact q
inductive ahc (a:bJ) (vs:Gm V) (H:Hp) (Q:VK) (_E:XK):Prop
 |Mo {z:Int}(_:vs=[.int z]) (_: ∀H' u,aI H H'->(∀M,iZ M H->ag a M H' (Mo z) u)->Q u H'):ahc a vs H Q _E
theorem nh {a:bJ}{M:Gx->Prop}{H H2:Hp}{n:GJ}(hM:iZ M H) (h:H x=Id) (e:H2 x=GM (.ins a.LX dx [("worth", .int (n:GJ))])):ag a M H2 (.num n) (.ref x):=by
 unfold ag;exact#[x,dx,IO,λm=>hM x m h,e]
theorem aa5 (T:Txt K mg a):T.d_P.U P w base 3 (ahc a):=by
 refine pT T.d_P.F ajM [03] [02];intro X D;obtain @⟨z,rfl,q⟩:=h;unfold Mo at q;refine aY (cA iR (bV 0 (gN #[_,_,IO,IO,_,IO,eU (λhz=>?_) λhz=>?_])))
 .rw[GD hz] at q
  refine aD (hZ (oS T) hr (aX (tW (aX (hZ (hU T) hr (aX (DT eQ (gN (bV 0 #[_,_,IO,IO,ca #[IO,λx dx H2 hx s2 e2=>ca #[IO,λy dy H3 hy s3 e3=>q H3 _ (s2.trans s3) λM hM=>?_]]])))))))));unfold ag;refine#[_,#[y,dy,IO,λm=>hM.up s2 y m hy,e3],nh (x:=x) (dx:=dx) hM hx (s3 _ _ ?_)];rw[e2];show GM (HO.ins _ _ [(_,V.int (0-z))])=_;rw[Tn,UK (by lia)]
 .rw[GB hz] at q
  refine aD (hZ (hU T) hr (aX (bV 0 (ca #[IO,λx dx H2 hx s2 e2=>q H2 _ s2 λM hM=>nh (dx:=dx) hM hx ?_]))));rw[e2,UK (by lia)]
  rfl
inductive ahd (a:bJ) (vs:Gm V) (H:Hp) (Q:VK) (_E:XK):Prop
 |Mo {op:Gv}{e f:Gz}{u v:V}{M:Gx->Prop}(_:vs=[.str (dD op),u,v]) (_:op∈Ic) (_:ag a M H e u) (_:ag a M H f v) (_:GE e) (_:GE f) (_: ∀H',aI H H'->Q (mn (ud op e f)) H'):ahd a vs H Q _E
theorem ahe (T:Txt K mg a) (I:jQ K a):T.Za.U P w base 3 (ahd a):=by
 refine pT T.Za.F yM [03] [02];intro X D;obtain @⟨op,e,f,u,v,M,rfl,ho,he,hf,ge,gf,q⟩:=h;unfold ud at q;refine aW 3 yM.nd (cq (aX (bV 1 (ca (.mk IO he ?_)))) (vc T I) (hr.mono [01]) T.VV.c aC);refine aW 4 yM.nd (cq (aX (bV 2 (ca (.mk IO hf ?_)))) (vc T I) (hr.mono [01]) T.VV.c aC);cases h1:IV e with
 |none=>rw[h1] at q;exact aY (Cu (cA fW (bV 3 (cg #[IO,_,IO,eR (Hy IO) (dR (aD (cg (q H aJ))))]))))
 |some x=>
  cases h2:IV f with
  |none=>rw[h1,h2] at q;exact aY (Cu (cA fW (bV 3 (cg #[IO,_,IO,fh (Ha nofun) (cA fW (bV 4 (cg #[IO,_,IO,eR (Hy IO) (dR (aD (cg (q H aJ))))])))]))))
  |some y=>
   rw[h1,h2] at q;dsimp only at q;refine aY (Cu (cA fW (bV 3 (cg #[IO,_,IO,fh (Ha nofun) (cA fW (bV 4 (cg #[IO,_,IO,fh (Ha nofun) (lG (du (cq (aX (bV 0 (aX (bV 4 (ca (.mk op y IO ho λH1 s1=>#[_,IO,?_])))))) (ag5 T) (hr.mono [01]) T.YQ.c aC)))])))]))));cases hh:iL op y with
   |false=>
    rw[hh,GB Gn] at q;exact dR (aD (cg (q H1 s1)))
   |true=>
    rw[hh,GD IO] at q;have b1:=sw ge h1;have b2:=sw gf h2;refine cQ (aW 5 yM.nd (cq (aX (bV 0 (aX (bV 3 (aX (bV 4 (ca (.mk op x y IO ho (by unfold zS;lia) (by unfold zS;lia) hh ?_)))))))) (ag7 T) (hr.mono [01]) T.YR.c aC));refine aD #[_,dL (bg iR (aR uP (by rfl) T.Xa boot_abs (aa (pv 5) ac)) (bB (by rfl) T.Tz) (a0 _)) (pv 5) mw,_,IO,_,_,IO,IO,_,IO,eU (λz=>?_) λz=>?_]
    .rw[GD (by show _/\_;split at z<;>lia)] at q
     exact q H1 s1
    .rw[GB (by intro y;have y:_/\_:=y;split at z<;>lia)] at q
     exact q H1 s1
structure qQ (a:bJ) (k:GJ) (M:Gx->Prop) (H:Hp) (e:Gz) (v:V):Prop where
 at_:ag a M H e v
 ok:GE e
 ms:mS (xF e)<=300000
 fr:fr e+2<=k
theorem qQ.up {a:bJ}{M:Gx->Prop}{H H':Hp}{e:Gz}{v:V}(r:qQ a k M H e v) (s:aI H H'):qQ a k M H' e v:=#[ag.keep (aI.keeps s) e r.at_,r.ok,r.ms,r.fr]
inductive sx (a:bJ) (k:GJ) (ok:Gz->Prop) (vs:Gm V) (H:Hp) (Q:VK) (_E:XK):Prop
 |Mo {e:Gz}{v:V}{M:Gx->Prop}(_:vs=[v]) (_:iZ M H) (_:qQ a k M H e v) (_:ok e) (_: ∀H' u,aI H H'->ag a M H' (HI e) u->Q u H'):sx a k ok vs H Q _E
abbrev f8 (P:Hm) (w:HS) (K:Gu) (mg:G0->GF Gy) (base:Ij) (a:bJ) (k:GJ):Prop:=b8 P w K mg base nF k a.f_u a.adG ["exp"] (sx a k λ_=>True)
theorem eA {X:Cx}{a:bJ}{σ:L2.St}{M:Gx->Prop}{B H:Hp}{Q:VK}{x:Gz}{u:V}(T:Txt X.K X.mg a) (S:f8 X.prog X.w X.K X.mg X.base a k) (hr:cy k X.A) (i:bQ M B C fs v) (s:aI B H) (cl:i8 X.K C) (no:aH X.K C f) (hl:fs.lookup f=GM u) (hM:iZ M B) (r:qQ a k M B x u) (hv:σ[0]?=GM (GM v)) (q: ∀H' u',aI B H'->aI H H'->ag a M H' (HI x) u'->Q u' H')
  (n0:X.N[0]?=GM y:=by rfl) (v0:tq X.env.scope y:=by exact HD IO) (hd:(y == ("__debug__":G0))=IN:=by decide) (Rx:(y == ("__classdict__":G0))=IN:=by decide) (hg:Gl X "simpler":=by rfl) (hb:JK (.Name y p2) f X.env (eval (.Name y p2) X.env)=eval (.Name y p2) X.env:=by rfl) (he:Hb [.Attribute (.Name y p2) f p3] X.env=[(IN,eval (.Attribute (.Name y p2) f p3) X.env)]:=by rfl) (MS:(J6 p4 (Hb [] X.env)).any (·.1)=IN:=by rfl):
  Pe X (.Call (.Name "simpler" p1) [.Attribute (.Name y p2) f p3] [] p4) σ H Q:=
 cq (aX (cB (bV 0 (gY (i.Ll s cl no hl (ca (.mk IO (hM.up s) (r.up s) trivial λH' u' s' e'=>q H' u' (s.trans s') s' e'))) hv) n0 v0 hd Rx) hb) he) S hr T.Y9.c aC hg [01] he MS
theorem akv (T:Txt K mg a) (I:jQ K a) (S:f8 P w K mg base a k):T.d_8.U P w base (k+1) (sx a (k+2) λe=>(∃x,e= .neg x)\/ ∃x,e= .not x):=by
 refine pT T.d_8.F aak [03] [02];intro X D;obtain @⟨e,v,M,rfl,hM,r,un,q⟩:=h;have go: ∀ {sg:G0}{x:Gz}{u:V},bQ M H a.Li [("sign", .str sg),("operand",u)] v->qQ a k M H x u->(∀z,IV (HI x)=GM z-> ∃n,HI e=Mo n/\ ∀(H:Hp) (Q:VK) (E:XK),Q (.int n) H->aa1 [.str sg, .int z] H Q E)->(IV (HI x)=Id-> ∀H' u y,bQ M H' a.Li [("sign", .str sg),("operand",u)] y->ag a M H' (HI x) u->ag a M H' (HI e) y)->Bd X (bq s_8) D (start ["unary","operand","value"] [v]) H:=λ{sg x u} i rx h1 h2=>by
  have:=rx.fr
  have:=eE x;refine aW 1 aak.nd (eA T S hr i aJ T.Lq T.KG IO hM rx IO λH1 u1 s1 _ e1=>?_)
  refine aW 2 aak.nd (cq (aX (bV 1 (ca (.mk IO e1 ?_)))) (vc T I) [05] T.VV.c aC);cases hz:IV (HI x) with
  |none=>
   refine aY (cA fW (bV 2 (cg #[IO,_,IO,eR (Hy IO) (aD (hZ (oS T) [05] (aX (cB (bV 0 (i.Ll s1 T.Lq T.K8 IO (aX (bV 1 (ca #[IO,λy dy H2 hy s2 e2=>q H2 _ (s1.trans s2) ?_]))))) IO))))])));exact h2 hz H2 u1 _ #[y,dy,IO,λm=>hM.up s1 y m hy,e2] (ag.keep (aI.keeps s2) _ e1)
  |some z=>
   obtain⟨n,en,hn⟩:=h1 z hz;rw[en] at q;exact aY (cA fW (bV 2 (cg #[IO,_,IO,fh (Ha nofun) (aD (cq (aX (cq (aX (cB (bV 0 (i.Ll s1 T.Lq T.K8 IO (aX (bV 2 (ca (hn _ _ _ (ca (.mk IO λH2 u2 s2 e2=>q H2 u2 (s1.trans s2) (e2 M (hM.up s1)))))))))) IO)) (ag8 T) [05] T.YT.c aC)) (aa5 T) [05] T.d_P.c aC))])))
 have rf:=r.fr
 have rm:=r.ms
 have rg:=r.ok
 have ra:=r.at_;rcases un with⟨x,rfl⟩|⟨x,rfl⟩
 .unfold ag at ra
  obtain⟨u,i,ex⟩:=ra;rw[GE] at rg;rw[OS.fr] at rf;have:=fk 5 x (xF x);rw[xF,ae] at rm;refine go i #[ex,rg,by lia,by lia] (λz hz=>#[-z,?_,λH Q E q=>#[z, .inl #[IO,q]]]) λhz H' u' y i' e'=>?_
  .rw[HI,hz]
  .rw[HI,hz];unfold ag;exact#[u',i',e']
 .unfold ag at ra
  obtain⟨u,i,ex⟩:=ra;rw[GE] at rg;rw[OS.fr] at rf;have:=fk 5 x (xF x);rw[xF,ae] at rm;refine go i #[ex,rg,by lia,by lia] (λz hz=>#[Oi (z == 0),?_,λH Q E q=>#[z, .inr #[IO,q]]]) λhz H' u' y i' e'=>?_
  .rw[HI,hz]
  .rw[HI,hz];unfold ag;exact#[u',i',e']
theorem ahf (T:Txt K mg a) (I:jQ K a) (S:f8 P w K mg base a k):T.Zb.U P w base (k+1) (sx a (k+2) λe=> ∃x y z,e= .pick x y z):=by
 refine pT T.Zb.F D0 [03] [02];intro X D;obtain @⟨_,v,M,rfl,hM,r,⟨x,y,z,rfl⟩,q⟩:=h;obtain⟨ra,rg,rm,rf⟩:=r;unfold ag at ra;obtain⟨u1,u2,u3,i,e1,e2,e3⟩:=ra;rw[GE] at rg;rw[OS.fr] at rf;rw[xF,ae,au,ae,au,ae] at rm;have:=eE x;have r1:qQ a k M H x u1:=#[e1,rg.1,by lia,by lia];have r2:qQ a k M H y u2:=#[e2,rg.2.1,by lia,by lia];have r3:qQ a k M H z u3:=#[e3,rg.2.2,by lia,by lia];rw[HI] at q;refine aW 1 D0.nd (eA T S hr i aJ T.K9 T.LB IO hM r1 IO λH1 v1 s1 _ f1=>?_);refine aW 2 D0.nd (cq (aX (bV 1 (ca (.mk IO f1 ?_)))) (vc T I) [05] T.VV.c aC);cases hz:IV (HI x) with
 |none=>
  rw[hz] at q;refine aY (cA fW (bV 2 (cg #[IO,_,IO,eR (Hy IO) (aD (hZ (qj T) [05] (aX (bV 1 (aX (eA T S hr i s1 T.K9 T.Lw IO hM r2 IO λH2 v2 s2 t2 f2=>aX (eA T S hr i s2 T.K9 T.KD IO hM r3 IO λH3 v3 s3 t3 f3=>ca #[IO,λp dx H4 hp s4 e4=>q H4 _ (s3.trans s4) ?_])))))))])));unfold ag;exact#[v1,v2,v3,#[p,dx,IO,λm=>hM.up s3 p m hp,e4],ag.keep (aI.keeps ((t2.trans t3).trans s4)) _ f1,ag.keep (aI.keeps (t3.trans s4)) _ f2,ag.keep (aI.keeps s4) _ f3]
 |some n=>
  rw[hz] at q;dsimp only at q;refine aY (cA fW (bV 2 (cg #[IO,_,IO,fh (Ha nofun) (aD #[_,dL (bg uy (pv 2) aG (a0 _)) eF eF,IO,_,IO,?_])])));rw[show decide (mn (GM n)=V.int 0)=decide (n=0) from cS,<-Yw];refine eU (λh=>?_) λh=>?_
  .rw[GD h] at q
   exact eA T S hr i s1 T.K9 T.Lw IO hM r2 IO λH2 v2 s2 _ f2=>q H2 v2 s2 f2
  .rw[GB h] at q
   exact eA T S hr i s1 T.K9 T.KD IO hM r3 IO λH2 v2 s2 _ f2=>q H2 v2 s2 f2
theorem akw (T:Txt K mg a) (I:jQ K a) (S:f8 P w K mg base a k):T.d_J.U P w base (k+1) (sx a (k+2) λe=> ∃y lo hi x,e= .sum y lo hi x):=by
 refine pT T.d_J.F Ci [03] [02];intro X D;obtain @⟨_,v,M,rfl,hM,r,⟨y,lo,hi,x,rfl⟩,q⟩:=h;obtain⟨ra,rg,rm,rf⟩:=r;unfold ag at ra;obtain⟨u1,u2,u3,i,e1,e2,e3⟩:=ra;rw[GE] at rg;rw[OS.fr] at rf;rw[xF,ae,ae,ae,au,ae,au,ae,au] at rm;have:=eE x;have r1:qQ a k M H lo u1:=#[e1,rg.2.1,by lia,by lia];have r2:qQ a k M H hi u2:=#[e2,rg.2.2.1,by lia,by lia];have r3:qQ a k M H x u3:=#[e3,rg.2.2.2,by lia,by lia];rw[HI] at q;refine aW 1 Ci.nd (eA T S hr i aJ T.OE T.Ob IO hM r1 IO λH1 v1 s1 _ f1=>?_);refine aW 2 Ci.nd (eA T S hr i s1 T.OE T.OG IO hM r2 IO λH2 v2 s2 t2 f2=>?_);have f1:=ag.keep (aI.keeps t2) _ f1;refine aW 3 Ci.nd (cq (aX (bV 1 (ca (.mk IO f1 ?_)))) (vc T I) [05] T.VV.c aC);refine aW 4 Ci.nd (cq (aX (bV 2 (ca (.mk IO f2 ?_)))) (vc T I) [05] T.VV.c aC);have rest:(∀H' u,aI H H'->ag a M H' (.sum y (HI lo) (HI hi) (HI x)) u->Q u H')-> ∀ {b c:GF V},Bd X ((bq s_J).drop 5) D [GM v,GM v1,GM v2,b,c] H2:=λq {b c} =>by
  refine aD (hZ (Cr T) [05] (aX (cB (bV 0 (i.Ll s2 T.OE T.OF IO (aX (bV 1 (aX (bV 2 (aX (eA T S hr i s2 T.OE T.OH IO hM r3 IO λH3 v3 s3 t3 f3=>ca #[IO,λp dx H4 hp s4 e4=>q H4 _ (s3.trans s4) ?_])))))))) IO)));unfold ag;exact#[v1,v2,v3,#[p,dx,IO,λm=>hM.up s3 p m hp,e4],ag.keep (aI.keeps (t3.trans s4)) _ f1,ag.keep (aI.keeps (t3.trans s4)) _ f2,ag.keep (aI.keeps s4) _ f3]
 cases h1:IV (HI lo) with
 |none=>
  rw[h1] at q;exact aY (rp (cA iH (bV 3 (cg #[IO,_,IO,fh (by rfl) (cQ (rest q))]))))
 |some n1=>
  cases h2:IV (HI hi) with
  |none=>
   rw[h1,h2] at q;exact aY (rp (cA iH (bV 3 (cg #[IO,_,IO,eR (by rfl) (cA iH (bV 4 (cg #[IO,_,IO,fh (by rfl) (cQ (rest q))])))]))))
  |some n2=>
   rw[h1,h2] at q;dsimp only at q;refine aY (rp (cA iH (bV 3 (cg #[IO,_,IO,eR (by rfl) (cA iH (bV 4 (cg #[IO,_,IO,eR (by rfl) (cA iR (bV 4 (bV 3 #[_,_,IO,IO,_,IO,eU (λh=>?_) λh=>?_])))])))]))))
   .rw[GD h] at q
    exact aD (hZ (hU T) [05] (aX (gN (ca #[IO,λp dx H3 hp s3 e3=>q H3 _ (s2.trans s3) (nh (dx:=dx) (hM.up s2) hp e3)]))))
   .rw[GB h] at q
    exact rest q
section
open Vbemac (text)
theorem yD: ∀ {l:Ja},GL l->(kt l).length<=mS (aF l)/\(kt l).length=Bf l/\ ∀o∈kt l,GE o/\fr o<=ke l/\mS (xF o)<=mS (aF l)
 | .nil,_=>#[HB _,IO,λ_ z=>nomatch z]
 | .cons e l,h=>by
  rw[GL] at h;obtain⟨h1,h2,h3⟩:=yD h.2;have m:mS (xF e)+mS (aF l)<=mS (aF (.cons e l)):=by
   cases l with
   |nil=>rw[aF,aF,cx];exact GU _
   |cons y s=>rw[wc e IO];lia
  have:=lf e;refine#[by show(kt l).length+1<=_;lia,Hr (· +1) h2,Iv.mpr #[#[h.1,by rw[ke];lia,by lia],λo ho=>?_]]
  obtain⟨g1,g2,g3⟩:=h3 o ho;exact#[g1,by rw[ke];lia,by lia]
theorem su (w:GJ) (g:G0): ∀ {l:Ja},GL l->(kt l).length<=mS (mF w g l)/\ ∀o∈kt l,GE o/\fr o<=ke l/\mS (xF o)<=mS (mF w g l)
 | .nil,_=>#[HB _,λ_ z=>nomatch z]
 | .cons e l,h=>by
  rw[GL] at h;obtain⟨h1,h3⟩:=su w g h.2;have m:mS (xF e)+mS (mF w g l)+1<=mS (mF w g (.cons e l)):=by
   have:=fk w e (xF e);rw[mF,ae,ae,ae,au];lia
  refine#[by show(kt l).length+1<=_;lia,Iv.mpr #[#[h.1,by rw[ke];lia,by lia],λo ho=>?_]];obtain⟨g1,g2,g3⟩:=h3 o ho;exact#[g1,by rw[ke];lia,by lia]
theorem r0 (w:GJ): ∀ {l:Nz},GR l->(tu l).length<=mS (rF w l)/\ ∀o∈tu l,GE o/\fr o<=pG l/\mS (xF o)<=mS (rF w l)
 | .nil,_=>#[HB _,λ_ z=>nomatch z]
 | .cons op e l,h=>by
  rw[GR] at h;obtain⟨h1,h3⟩:=r0 w h.2.2;have m:mS (xF e)+mS (rF w l)+1<=mS (rF w (.cons op e l)):=by
   have:=fk w e (xF e);rw[rF,ae,ae,ae,au];lia
  refine#[by show(tu l).length+1<=_;lia,Iv.mpr #[#[h.2.1,by rw[pG];lia,by lia],λo ho=>?_]];obtain⟨g1,g2,g3⟩:=h3 o ho;exact#[g1,by rw[pG];lia,by lia]
theorem pC {e:Gz}{s:GJ}{ops:Gm Gz}{Qa:Gm Gv}(hc:j3 e=GM (s,ops,Qa)) (g:GE e):ops.length<=mS (xF e)/\ ∀o∈ops,GE o/\fr o+3<=fr e/\mS (xF o)<=mS (xF e):=by
 have all: ∀ {w:GJ}{x:Gz}{ps:Gm G0}{f:GJ}{os:Gm Gz},GE x->(os.length<=mS ps/\ ∀o∈os,GE o/\fr o<=f/\mS (xF o)<=mS ps)->xF e=pF w x (xF x)++ps->fr e=3+max (fr x) f->(x::os).length<=mS (xF e)/\ ∀o∈x::os,GE o/\fr o+3<=fr e/\mS (xF o)<=mS (xF e):=λ{w x ps f os} gx ⟨h1,h2⟩ e1 e2=>by
  have:=fk w x (xF x)
  have:=lf x;rw[e1,e2,au];refine#[by rw[Gp];lia,Iv.mpr #[#[gx,by lia,by lia],λo ho=>?_]]
  obtain⟨g1,g2,g3⟩:=h2 o ho;exact#[g1,by lia,by lia]
 cases e with
 |sums e r=>cases hc;rw[GE] at g;exact all (w:=4) g.1 (r0 4 g.2) (by rw[xF]) (by rw[fr])
 |prods e r=>cases hc;rw[GE] at g;exact all (w:=5) g.1 (r0 5 g.2) (by rw[xF]) (by rw[fr])
 |cmp op x y=>
  cases hc;rw[GE] at g;refine all (w:=3) (f:=fr y) (os:=[y]) g.2.1 ?_ (by rw[xF]) (by rw[fr]);have:=fk 3 y (xF y);rw[ae,ae,ae];exact#[by show 1<=_;lia,λo ho=>by rw[Ht.mp ho];exact#[g.2.2,GU _,by lia]]
 |both e l=>cases hc;rw[GE] at g;exact all (w:=2) g.1 (su 2 _ g.2.1) (by rw[xF]) (by rw[fr])
 |either e l=>cases hc;rw[GE] at g;exact all (w:=1) g.1 (su 1 _ g.2.1) (by rw[xF]) (by rw[fr])
 |_=>cases hc
theorem yA: ∀ {us:Gm V}{l:Gm (GF Int)},Paired (λu b=>u=mn b) us l->us=l.map mn
 |_,_, .nil=>rfl
 |_,_, .cons h t=>by rw[h,yA t];rfl
theorem jM: ∀l:Gm (GF Int),(l.map mn).all je=Ix
 |[]=>rfl
 |none::l=>jM l
 |some _::l=>jM l
theorem nX: ∀l:Gm (GF Int),uD .Kk (l.map mn)=decide (Id∈l)
 |[]=>rfl
 |none::l=>(Hy (p:=Id∈Id::l) (.head _)).symm
 |some x::l=>by
  show uD .Kk (l.map mn)=_
  rw[nX l];exact decide_eq_decide.mpr #[.tail _,λz=>by cases z with|tail _ z=>exact z]
theorem pM: ∀l:Gm Gz,Id∉l.map IV->(l.map IV).map mn=(l.filterMap IV).map V.int/\(l.filterMap IV).length=l.length
 |[],_=>#[IO,IO]
 |e::l,h=>by
  obtain⟨h1,h2⟩:=pM l λz=>h (.tail _ z);cases e1:IV e with
  |none=>exact(h (by rw[GZ,e1];exact .head _)).elim
  |some v=>rw[NX e1,GZ,GZ,e1,h1];exact#[IO,Hr (· +1) h2]
theorem BM (f:Gv):(cW cv (.inr (sb f))).isSome=Lz.any λg=>g.1 == f:=by
 have e: ∀(x:G0) (s:Gv),x=sb s->decide ((Js x:cf)= .inr (sb f))=(s == f):=λx s h=>by
  rw[h,Ip,Ii,beq_iff_eq];exact#[λz=>fZ (Mq z),λz=>by rw[z]]
 unfold cW cv Lz;rw[Iy,Iy,Iy,e "min" (text "min") [00],e "max" (text "max") [00],e "abs" (text "abs") [00],J7,J7,J7];cases text "min" == f<;>cases text "max" == f<;>cases text "abs" == f<;>rfl
section
variable {M:Gx->Prop}{H:Hp}{Q:VK}{ti:TE}{σ:L2.St}{l:Gm Gz}{E:XK}
theorem Yf (hL:H L=GM (.lst us)) (pr:Paired (λu e=>ag a M H e u) us l) (ok: ∀o∈l,GE o/\fr o+2<=k/\mS (xF o)<=300000) (hn:l.length<=300000) (hM:iZ M H) (hv: ∀Q:VK,Q (.ref L) H->ti σ H Q) (q: ∀H' D Qr,aI H H'-> ¬M D->H' D=GM (.lst Qr)->Paired (λu e=>ag a M H' e u) Qr (l.map HI)->Q (.ref D) H')
  (hw: ∀x,dM ((dM σ [i]).set i (GM x)) [i]=dM σ [i]:=by intro _;rfl) (hx: ∀x,((dM σ [i]).set i (GM x))[i]?=GM (GM x):=by intro _;rfl):FY (qg K ti) (gI i) qc (iS (sx a k λ_=>True) [] E (fz (d7 i) kq)) [i] σ H Q:=
 tI (F:=λM H b v=>ag a M H b v) (g:=HI) (λk h=>ag.Ia k _ h) hL (cn pr) (GX hn [01]) hM hv (λj x o H' M1 hx' ho s1 k2 m1 Q q=>by
  obtain⟨o',QD,h⟩:=L2.iE pr hx';rw[ho] at QD;cases QD;obtain⟨g,f,m⟩:=ok o (Iu ho);exact gY (.mk IO m1 #[ag.Ia k2 _ h,g,m,f] trivial q) (hx x)) q hw
theorem Yg (hL:H L=GM (.lst us)) (pr:Paired (λu e=>ag a M H e u) us l) (hn:l.length<=300000) (hM:iZ M H) (hv: ∀Q:VK,Q (.ref L) H->ti σ H Q) (q: ∀H' D,aI H H'->H' D=GM (.lst ((l.map IV).map mn))->Q (.ref D) H')
  (hw: ∀x,dM ((dM σ [i]).set i (GM x)) [i]=dM σ [i]:=by intro _;rfl) (hx: ∀x,((dM σ [i]).set i (GM x))[i]?=GM (GM x):=by intro _;rfl):FY (qg K ti) (gI i) qc (iS (aa4 a) [] E (fz (d7 i) kq)) [i] σ H Q:=
 tI (F:=λ_ _ b v=>v=mn b) (g:=IV) (λ_ h=>h) hL (cn pr) (GX hn [01]) hM hv (λj x o H' M1 hx' ho s1 k2 m1 Q q=>by
  obtain⟨o',QD,h⟩:=L2.iE pr hx';rw[ho] at QD;cases QD;exact gY (.mk IO (ag.Ia k2 _ h) (q H' _ aJ IO)) (hx x)) (λH' D Qr s1 nD hD pr'=>q H' D s1 (by rw[hD,yA pr'])) hw
theorem g0 {us:Gm V}{H H':Hp}(s:aI H H') (h:Paired (λu e=>ag a M H e u) us l):Paired (λu e=>ag a M H' e u) us l:=Paired.Np h λ_ _ h=>ag.keep (aI.keeps s) _ h
end
theorem akx (T:Txt K mg a) (I:jQ K a) (kF:vU P w K a.HM cv) (S:f8 P w K mg base a k):T.d_w.U P w base (k+1) (sx a (k+2) λe=> ∃f l,e= .call f l):=by
 refine pT T.d_w.F BQ [03] [02];intro X D;obtain @⟨_,v,M,rfl,hM,r,⟨f,l,rfl⟩,q⟩:=h;obtain⟨ra,rg,rm,rf⟩:=r;unfold ag at ra;obtain⟨_,us,i,⟨L,rfl,mL,hL⟩,ex⟩:=ra;have pr:=nJ ex;rw[GE] at rg;rw[OS.fr] at rf;rw[xF,ae,ae,au] at rm;obtain⟨n1,n2,al⟩:=yD rg.2.1;rw[HI] at q;refine rN (y:="argument") (i:=3) 1 BQ.nd [07] (eB (by show mX ["call","arguments","values","argument"] (ah s_w) _ [("argument",3)]=Ix;decide+kernel)) (λ_ _ _ _ _=>aq S hr (by rfl) T.Y9.c aC (aa (pv 3) ac)) (Yf hL pr (λo ho=>#[(al o ho).1,by have:=(al o ho).2.1;lia,by have:=(al o ho).2.2;lia]) (by lia) hM (λ_ q=>i.Ll aJ T.Nt T.LZ IO q) λH1 D1 U9 s1 nD1 SA WN=>?_) (λ_ _ _ _ _=>cY (i:=3) BQ.nd IO (HD IO)) (nI IO IO IO IO);refine rN (y:="argument") (i:=3) 2 BQ.nd (pv 1) (eB (by show mX ["call","arguments","values","argument"] (ah s_w) _ [("argument",3)]=Ix;decide+kernel)) (λ_ _ _ _ _=>aq (vc T I) [05] (by rfl) T.VV.c aC (aa (pv 3) ac)) (Yg SA WN (by rw[GG];lia) (hM.up s1) [08] λH2 D2 s2 hD2=>?_) (λ_ _ _ _ _=>cY (i:=3) BQ.nd IO (HD IO)) (nI IO IO IO IO);rw[nN,vX] at q;have mkc:(∀H' u,aI H H'->ag a M H' (.call f (Vbemac.foldAll l)) u->Q u H')->Bd X ((bq s_w).drop 3) D [GM v,GM (.ref D1),GM (.ref D2),Id] H2:=λq=>by
  refine aD (hZ (xK T) [05] (aX (cB (bV 0 (i.Ll (s1.trans s2) T.Nt T.LY IO (aX (bV 1 (ca #[IO,λy dy H3 hy s3 e3=>q H3 _ ((s1.trans s2).trans s3) ?_]))))) IO)));unfold ag;have e:=kU (g0 (s2.trans s3) WN);rw[<-vX,rY] at e;exact#[_,U9,#[y,dy,IO,λm=>hM.up (s1.trans s2) y m hy,e3],#[D1,IO,nD1,s3 _ _ (s2 _ _ SA)],e]
 refine aY (vv #[_,fB (Fi [07] (dg (by rfl) T.L6)),i.Ll (s1.trans s2) T.Nt T.LY IO #[_, .inr (sb f),_,IO,kF,IO,_,IO,?_]]);rw[BM];cases hb:Lz.any λg=>g.1 == f with
 |false=>rw[hb] at q;exact cQ (cQ (mkc q))
 |true=>
  rw[hb] at q;refine dR (cA iz (cg (bV 2 #[D2,_,IO, .inl (cK.of hD2),IO,jM _,_,IO,?_])) IO);rw[GD IO,nX,<-Yw];refine eU (λh=>?_) λh=>?_
  .rw[GB h] at q
   obtain⟨v1,v2⟩:=pM _ h;rw[v1] at hD2;obtain⟨g,hg,eg⟩:=KS.mp hb;have: ∃k,(Lz.find? λg=>g.1 == f)=GM k:=by
    cases z:Lz.find? λg=>g.1 == f with
    |some k=>exact#[k,IO]
    |none=>exact(UQ.mp z g hg eg).elim
   obtain⟨k',WE⟩:=this;exact aD (cq (aX (cq (aX (cB (bV 0 (i.Ll (s1.trans s2) T.Nt T.LY IO (aX (bV 2 (ca (.mk f D2 _ k' IO hD2 WE (by rw[v2,GG,n2];exact rg.2.2 k' WE) (ca (.mk IO λH3 u s3 e3=>q H3 u ((s1.trans s2).trans s3) (e3 M (hM.up (s1.trans s2))))))))))) IO)) (aha T) [05] T.YU.c aC)) (aa5 T) [05] T.d_P.c aC)
  .rw[GD (Classical.not_not.mp h)] at q
   exact mkc q
end
section
open Vbemac (fold)
inductive aa6 (a:bJ) (k:GJ) (ok:GJ->Prop) (vs:Gm V) (H:Hp) (Q:VK) (_E:XK):Prop
 |Mo {e:Gz}{v:V}{M:Gx->Prop}{L:Gx}{us:Gm V}{s:GJ}{ops:Gm Gz}{Qa:Gm Gv}(_:vs=[v, .ref L]) (_:iZ M H) (_:qQ a k M H e v) (_:j3 e=GM (s,ops,Qa)) (_:ok s) (_: ¬M L) (_:H L=GM (.lst us)) (_:Paired (λu e=>ag a M H e u) us (ops.map fold)) (_: ∀H' u,aI H H'->ag a M H' (fold e) u->Q u H'):aa6 a k ok vs H Q _E
theorem aky (T:Txt K mg a) (I:jQ K a):T.d_p.U P w base 3 (aa6 a k (· <=1)):=by
 refine pT T.d_p.F Ab [03] [02];intro X D;obtain @⟨e,v,M,L,us,st,ops,Qa,rfl,hM,⟨ra,rg,rm,rf⟩,hc,h1,nL,hL,pr,q⟩:=h;obtain⟨oq,gq,us0,i,lo,po,lg⟩:=oB ra hc;obtain⟨c1,c2⟩:=pC hc rg;rw[Dt hc h1] at q;have fs: ∀ {H':Hp}{Q:VK},aI H H'->Q (.int st) H'->pQ X.K "strength" Q v H':=λs q=>i.Ll s T.K4 T.Kb IO q
 refine rN (y:="operand") (i:=4) 2 Ab.nd (pv 1) (eB (by show mX ["chain","operands","values","decided","operand","value"] (ah s_p) _ [("operand",4)]=Ix;decide+kernel)) (λ_ _ _ _ _=>aq (vc T I) (hr.mono [01]) (by rfl) T.VV.c aC (aa (pv 4) ac)) (Yg hL pr (by rw[GG];lia) hM [08] λH1 D1 s1 SA=>?_) (λ_ _ _ _ _=>cY (i:=4) Ab.nd IO (HD IO)) (nI IO IO IO IO);refine aW 3 Ab.nd (cq (aX (cB (bV 0 (fs s1 (ca (.mk st IO ?_))) IO (RQ (HD IO))) IO)) (ag9 T) (hr.mono [01]) T.YV.c aC);have num: ∀ {σ:L2.St}{H2:Hp}{x:IY}{n:GJ}{p1 p4:Pos},aI H H2->(∀H' u,aI H H'->ag a M H' (.num n) u->Q u H')->(∀Q:VK,Q (.int (n:GJ)) H2->Pe X x σ H2 Q)->Hb [x] X.env=[(IN,eval x X.env)]->(J6 p4 (Hb [] X.env)).any (·.1)=IN->Pe X (.Call (.Name "Number" p1) [x] [] p4) σ H2 Q:=λs2 q hx he hb=>hZ (hU T) hr (aX (hx _ (ca #[IO,λy dy H3 hy s3 e3=>q H3 _ (s2.trans s3) (nh (dx:=dy) (hM.up s2) hy e3)])) he) IO [01] he hb
 obtain⟨o,os,t,rfl,rfl,ht⟩: ∃o os t,ops=o::os/\Qa=os.map (λ_=>t)/\((st=1/\t=Gr "&&")\/(st=0/\t=Gr "||")):=by
  cases e with
  |both e l=>cases hc;exact#[_,_,_,IO,IO, .inl #[IO,IO]]
  |either e l=>cases hc;exact#[_,_,_,IO,IO, .inr #[IO,IO]]
  |sums e r=>cases hc;exact GW h1 (by decide)
  |prods e r=>cases hc;exact GW h1 (by decide)
  |cmp op x y=>cases hc;exact GW h1 (by decide)
  |_=>cases hc
 have dv:ka st=((ka st).toNat:Int)/\(1-ka st)=((1-ka st).toNat:Int):=by
  rcases ht with⟨rfl,_⟩|⟨rfl,_⟩<;>exact#[IO,IO]
 unfold F4 at q;rw[GZ,V7,Qj] at q;rw[GZ] at SA pr;have rest:(∀H' u,aI H H'->ag a M H' (if Id∈((fold o::os.map fold).map IV) then chD st (fold o::os.map fold) else if((fold o::os.map fold).filterMap IV).any (o0 st)=Ix then .num (ka st).toNat else .num (1-ka st).toNat) u->Q u H')->Bd X ((bq s_p).drop 3) D [GM v,GM (.ref L),GM (.ref D1),GM (.int (ka st)),Id,Id] H1:=λq=>by
  refine aY (cA jE (cg (bV 2 #[D1,_,IO, .inl (cK.of SA),IO,jM _,_,IO,?_])) IO);rw[GB (c:=(IN:HH)=Ix) Gn,nX];refine eU (λh=>?_) λh=>?_
  .rw[GD h] at q
   refine aD (hZ (oQ T) hr (aX (cB (bV 0 (fs s1 (aX (bV 1 (aX (cB (bV 0 (i.Ll s1 T.K4 T.L1 IO (ca #[IO,λy dy H3 hy s3 e3=>q H3 _ (s1.trans s3) ?_])) IO (RQ (HD IO))) IO))))) IO (RQ (HD IO))) IO)));refine aa3 (t:=t) #[_,_,us,#[y,dy,IO,λm=>hM.up s1 y m hy,e3],#[L,IO,nL,s3 _ _ (s1 _ _ hL)],g0 (s1.trans s3) pr,?_] ht;rw[JT (l:=os)];exact lg.keep (aI.keeps (s1.trans s3)).two
  .rw[GB h] at q
   obtain⟨v1,v2⟩:=pM _ h;rw[v1] at SA;refine aY (du #[_,aR (ZX IO) (by rfl) T.aee boot_any (aa eF ac),?_]);show Pe X _ _ _ _;refine BV (X:=X) (y:="value") (i:=5) (te:=iS lO [] E (fz (m6 K (d7 0) "strength") (fz (d7 5) kq))) Ab.nd (pv 2) (eB (by show mX ["chain","operands","values","decided","operand","value"] (ah s_p) _ [("value",5)]=Ix;decide+kernel)) (λ_ _ _ _ _=>by exact aq (Yd T) (hr.mono [01]) (by rfl) T.Wf.c aC (aa (az (pv 0) (by rfl)) (aa (pv 5) ac))) (tI (F:=λ_ _ b v=>v=V.bl b) (g:=o0 st) (λ_ h=>h) SA (GG ..) (by rw[v2,Gp,GG];rw[Gp] at c1;lia) (hM.up s1) [08] (λj x z H' M1 hx hz s2 k2 m1 Q q=>?_) (λH2 D2 us2 s2 nD2 hD2 pr2=>?_) λ_=>rfl) (λ_ _ _ _ _=>cY (i:=5) Ab.nd IO (HD IO))
   .rw[HF,hz] at hx
    cases hx;exact fs (s1.trans s2) (.mk st z IO (q H' _ aJ IO))
   .have e2: ∀ {us:Gm V}{l:Gm HH},Paired (λu b=>u=V.bl b) us l->us=l.map V.bl:=λh=>by
     induction h with
     |nil=>rfl
     |cons h t ih=>rw[h,ih];rfl
    rw[e2 pr2] at hD2;refine#[D2,_,IO,cK.of hD2,_,IO,?_];rw[Ov,show(id ∘ o0 st)=o0 st from IO];refine bi (λh=>?_) λh=>?_
    .rw[GD h] at q
     exact aD (num (s1.trans s2) q (λQ q=>bV 3 (by rw[<-dv.1] at q;exact q)) IO IO)
    .rw[GB (by rw[h];exact Gn)] at q
     exact aD (num (s1.trans s2) q (λQ q=>DT eQ (gN (bV 3 #[_,_,IO,IO,by rw[<-dv.2] at q;exact q]))) IO IO)
 have ix:Cy (((fold o::os.map fold).map IV).map mn) 0=GM (mn (IV (fold o))):=ci (j:=0) IO;cases h0:IV (fold o) with
 |none=>
  rw[h0] at ix q;refine aY (vv (cA iH (Ag (bV 2 (gN #[D1,_,_,_,IO,IO,cK.of SA,ix,cg #[IO,_,IO,fh (by rfl) (cQ (rest ?_))]])) (λ_ _=>rfl))));rw[GB (by exact Gn)] at q;exact q
 |some z=>
  rw[h0] at ix q;refine aY (vv (cA iH (Ag (bV 2 (gN #[D1,_,_,_,IO,IO,cK.of SA,ix,cg #[IO,_,IO,eR (by rfl) (du (cq (aX (cB (bV 0 (fs s1 (aX (Ag (bV 2 (gN #[D1,_,_,_,IO,IO,cK.of SA,ix,ca (.mk st z IO #[_,IO,bi (λh=>?_) λh=>rest ?_])])) (λ_ _=>rfl)))) IO (RQ (HD IO))) IO)) (Yd T) (hr.mono [01]) T.Wf.c aC))]])) (λ_ _=>rfl))))
  .rw[GD (by exact h)] at q
   exact aD (num s1 q (λQ q=>bV 3 (by rw[<-dv.1] at q;exact q)) IO IO)
  .rw[GB (by show¬o0 st z=Ix;rw[h];exact Gn)] at q
   exact q
end
theorem tT: ∀ {r:Nz},GR r->(vT r).length=(tu r).length/\ ∀op∈vT r,op∈Ic
 | .nil,_=>#[IO,λ_ z=>nomatch z]
 | .cons op e r,h=>by
  rw[GR] at h;obtain⟨h1,h2⟩:=tT h.2.2;exact#[Hr (· +1) h1,Iv.mpr #[Bp _ h.1,h2]]
theorem aa7 {e o:Gz}{s:GJ}{os:Gm Gz}{Qa:Gm Gv}(hc:j3 e=GM (s,o::os,Qa)) (g:GE e) (h2: ¬s<=1):Qa.length=os.length/\(∀op∈Qa,op∈Ic)/\(s=3\/s=4\/(s=2/\os.length=1)):=by
 cases e with
 |sums e r=>cases hc;rw[GE] at g;exact#[(tT g.2).1,(tT g.2).2, .inl IO]
 |prods e r=>cases hc;rw[GE] at g;exact#[(tT g.2).1,(tT g.2).2, .inr (.inl IO)]
 |cmp op x y=>cases hc;rw[GE] at g;exact#[IO,λo ho=>by rw[Ht.mp ho];exact(ye _ g.1).1, .inr (.inr #[IO,IO])]
 |both e l=>cases hc;exact GW (GU 1) h2
 |either e l=>cases hc;exact GW (HB 1) h2
 |_=>cases hc
theorem oC {xs:Gm V}{n:GJ}(h:n<=xs.length):kQ xs (GM (n:GJ)) Id=xs.drop n:=by
 unfold kQ;rw[HT.Sq,HT.QG,OU h];exact Ki (by rw[J3];exact GU _)
theorem FF {op:Gv}{e f:Gz}{z:Int}(h:ud op e f=GM z):Wr z:=by
 unfold ud at h;split at h
 .split at h
  .split at h
   .rename_i w
    cases h;exact w
   .cases h
  .cases h
 .cases h
theorem mD {α β:Type}{F:α->β->Prop} : ∀(n:GJ) {l:Gm α}{m:Gm β},Paired F l m->Paired F (l.drop n) (m.drop n)
 |0,_,_,h=>h
 |_+1,_,_, .nil=> .nil
 |n+1,_,_, .cons _ t=>mD n t
theorem akz (T:Txt K mg a) (I:jQ K a):T.d_y.U P w base 4 (aa6 a k λs=> ¬s<=1):=by
 refine pT T.d_y.F zQ [03] [02];intro X D;obtain @⟨e,v,M,L,us,st,ops,Qa,rfl,hM,⟨ra,rg,rm,rf⟩,hc,h1,nL,hL,pr,q⟩:=h;obtain⟨oq,_,us0,i,lo,po,⟨G,rfl,nG,hG⟩⟩:=oB ra hc;obtain⟨c1,c2⟩:=pC hc rg;obtain⟨o,os,rfl⟩: ∃o os,ops=o::os:=by cases e<;>cases hc<;>exact#[_,_,IO]
 obtain⟨k1,k2,k3⟩:=aa7 hc rg h1;rw[Cb rg hc h1] at q;have gf: ∀x∈(o::os).map HI,GE x:=λx hx=>by
  obtain⟨y,hy,rfl⟩:=Na.mp hx;exact(eD y (c2 y hy).1).ok
 have ul:us.length=os.length+1:=by rw[cn pr,GG];rfl
 rw[Gp] at c1;generalize hps:Qa.zip (os.map HI)=ps at q;have pl:ps.length=os.length:=by rw[<-hps,Gm.length_zip,k1,GG,GJ.min_self]
 have p1:ps.map (λp=>p.1)=Qa:=by rw[<-hps];exact Gm.map_fst_zip (by rw[GG,k1];exact GU _)
 have p2:ps.map (λp=>p.2)=os.map HI:=by rw[<-hps];exact Gm.map_snd_zip (by rw[GG,k1];exact GU _)
 obtain⟨u0,Qr,rfl⟩: ∃x y,us=x::y:=by cases pr;exact#[_,_,IO]
 obtain⟨e0,pr'⟩:ag a M H (HI o) u0/\Paired (λu e=>ag a M H e u) Qr (os.map HI):=by cases pr with|cons h t=>exact#[h,t]
 have ul':Qr.length=os.length:=by rw[Gp] at ul;lia
 have sg: ∀ {H':Hp}{Q:VK},aI H H'->Q (.ref G) H'->pQ X.K "signs" Q v H':=λs q=>i.Ll s T.K4 T.L1 IO q
 have fin: ∀ {f:Gz}{uf:V}{n:GJ}{y:GF V}{H':Hp},aI H H'->ag a M H' f uf->n<=os.length->Ba (HI o) ps=(f,ps.drop n)->Bd X ((bq s_y).drop 3) D [GM v,GM (.ref L),GM uf,GM (.int ((n+1:GJ):Int)),y] H':=λ{f uf n y H'} s1 ef hn hl=>by
  rw[hl] at q;refine aY (aeV (bV 3 (rb T.LR (s1 _ _ hL) (pv 1) [08] #[_,_,IO,IO,?_])));rw[Gp,ul'];refine eU (λz=>?_) λz=>?_
  .have:ps.drop n=[]:=L9 (by lia)
   rw[this] at q;exact aD (bV 2 (q H' uf s1 ef))
  .have lt:n<ps.length:=by lia
   have q: ∀H' u,aI H H'->ag a M H' (chB st f (ps.drop n)) u->Q u H':=by
    cases hd:ps.drop n with
    |nil=>have:=Hr MP hd;rw[J3] at this;simp only[GK] at this;lia
    |cons p r=>rw[hd] at q;exact q
   refine aD (hZ (oQ T) (hr.mono [01]) (aX (cB (bV 0 (i.Ll s1 T.K4 T.Kb IO (aX (DT bC (rE (aX (bV 2 (ca #[by show 1<=GV;decide,λx1 hx1=>#[_,ip jH (pv 1) (gj (pv 3)) rn,_,IO,L,_,IO,cK.of (be hx1 _ _ (s1 _ _ hL)),λx2 hx2=>#[x1,x2,_,_,IO,IO,be hx2 _ _ aj,aj,?_,λx3 hx3=>aX ?_]]])))))))) IO)))
   .rw[oC (by rw[Gp];lia),J3,Gp]
    exact GX (show 1+_<=300001 by lia) [01]
   .have sB:=(be (o:=HO.lst [uf]) hx1).trans (be (o:=HO.lst (kQ (u0::Qr) (GM ((n+1:GJ):Int)) Id)) hx2)
    have sC:=sB.trans (be (o:=HO.lst ([uf]++kQ (u0::Qr) (GM ((n+1:GJ):Int)) Id)) hx3)
    have sD:=s1.trans sC
    show Pe X _ _ _ _
    refine#[_,ip jH [07] (gj (aZ eQ (pv 3) aG)) rn,sg sD #[_,_,IO,IO,_,IO,G,_,IO,cK.of (sD _ _ hG),λx4 hx4=>ca #[IO,λy dy H5 hy s5 e5=>?_]]];have s4:=(be (o:=HO.lst (kQ (Qa.map λo=>V.str (dD o)) (GM (((n+1:GJ):Int)-1)) Id)) hx4).trans s5
    have sE:=sC.trans s4;refine q H5 _ (s1.trans sE) (aa2 #[.ref x3, .ref x4,uf::Qr.drop n,#[y,dy,IO,λm=>(hM.up sD).up (be hx4) y m hy,e5],#[x3,IO,λm=>hM.up (s1.trans sB) x3 m hx3,?_], .cons (ag.keep (aI.keeps sE) _ ef) ?_,#[x4,IO,λm=>hM.up sD x4 m hx4,?_]] ?_)
    .rw[s4 _ _ aj,oC (by rw[Gp];lia)]
     rfl
    .rw[PJ,p2]
     exact mD n (g0 (s1.trans sE) pr')
    .rw[s5 _ _ aj,show(((n+1:GJ):Int)-1)=((n:GJ):Int) by lia,oC (by rw[GG];lia),PJ,p1,PJ]
    .rw[J3,pl]
     rcases k3 with z|z|⟨z,z'⟩
     .exact .inl z
     .exact .inr (.inl z)
     .exact .inr (.inr #[z,by lia])
 refine aW 2 zQ.nd (Ag (bV 1 (gN #[L,_,_,u0,IO,IO,cK.of hL,ci (j:=0) IO,?_])) (λ_ _=>rfl));refine aW 3 zQ.nd (gN ?_);refine ij Jw (λm σ H'=> ∃(f:Gz) (uf:V) (n:GJ) (y:GF V),σ=[GM v,GM (.ref L),GM uf,GM (.int ((n+1:GJ):Int)),y]/\aI H H'/\ag a M H' f uf/\GE f/\n<=os.length/\m=os.length-n/\Ba f (ps.drop n)=Ba (HI o) ps) os.length #[HI o,u0,0,Id,IO,aJ,e0,gf _ (.head _),HB _,IO,IO] ?_;rintro m σ H' ⟨f,uf,n,y,rfl,s1,ef,gf',hn,rfl,hl⟩;refine cA iR (bV 3 (rb T.LR (s1 _ _ hL) (pv 1) [08] #[_,_,IO,IO,_,IO,?_]));rw[Gp,ul'];refine eU (λz=>?_) λz=>?_
 .have lt:n<os.length:=by lia
  obtain⟨op,Xn⟩: ∃x,Qa[n]?=GM x:=#[_,IX (show n<Qa.length by lia)];obtain⟨g,hg⟩: ∃x,(os.map HI)[n]?=GM x:=#[_,IX (show n<(os.map HI).length by rw[GG];exact lt)];obtain⟨uo,huo,euo⟩:=iq pr' hg;have hd:ps.drop n=(op,g)::ps.drop (n+1):=by
   rw[Kw (by lia)]
   congr 1
   have:ps[n]?=GM (op,g):=by rw[<-hps,Gm.getElem?_zip_eq_some];exact#[Xn,hg]
   exact(Hk.mp this).2
  rw[hd,Ba] at hl;refine aW 4 zQ.nd (cq (aX (Ag (cB (bV 0 (sg s1 (DT eQ (bV 3 (gN #[_,_,IO,IO,G,_,_,V.str (dD op),IO,IO,cK.of (s1 _ _ hG),?_,aX (bV 2 (aX (Ag (bV 1 (bV 3 #[L,_,_,uo,IO,IO,cK.of (s1 _ _ hL),ci huo,ca (.mk IO (k2 op (Iu Xn)) ef (ag.keep (aI.keeps s1) _ euo) gf' (gf g (.tail _ (Iu hg))) λH2 s2=>?_)])) (λ_ _=>rfl))))]))))) IO) (λ_ _=>rfl))) (ahe T I) (hr.mono [01]) T.Za.c aC)
  .rw[show(((n+1:GJ):Int)-1)=((n:GJ):Int) by lia]
   exact ci (by rw[HF,Xn];rfl)
  .refine aY (cA fW (bV 4 (cg #[IO,_,IO,?_])))
   cases hz:ud op f g with
   |none=>
    rw[hz] at hl;exact eR (Hy IO) (uG (fin (s1.trans s2) (ag.keep (aI.keeps s2) _ ef) hn (by rw[<-hl,hd])))
   |some z=>
    rw[hz] at hl;refine fh (Ha nofun) (aW 2 zQ.nd (cq (aX (bV 4 (ca (.mk IO λH3 u3 s3 e3=>?_)))) (aa5 T) (hr.mono [01]) T.d_P.c aC));have s13:=(s1.trans s2).trans s3;exact dB (lV (i:=3) zQ.nd IO (HD IO) aG lX) #[_,IO,_,_,IO,IO,eY #[os.length-(n+1),by lia,Mo z,u3,n+1,_,IO,s13,e3 M (hM.up (s1.trans s2)),(qo (FF hz)).ok,lt,IO,hl]]
 .refine fin s1 ef hn ?_
  rw[<-hl,show ps.drop n=[] from L9 (by lia)]
  rfl
section
open Vbemac (fold)
theorem akA (T:Txt K mg a) (I:jQ K a) (S:f8 P w K mg base a k):T.d_9.U P w base (k+1) (sx a (k+2) λe=> ∃x,j3 e=GM x):=by
 refine pT T.d_9.F aal [03] [02];intro X D;obtain @⟨e,v,M,rfl,hM,r,⟨⟨st,ops,Qa⟩,hc⟩,q⟩:=h;have rm:=r.ms;have rf:=r.fr;obtain⟨_,gq,us,i,⟨L,rfl,nL,hL⟩,po,lg⟩:=oB r.at_ hc;obtain⟨c1,c2⟩:=pC hc r.ok;obtain⟨o,ho⟩: ∃o,o∈ops:=by cases e<;>cases hc<;>exact#[_, .head _]
 have:=(c2 o ho).2.1
 have:=eE o;refine rN (y:="operand") (i:=2) 1 aal.nd [07] (eB (by show mX ["chain","operands","operand"] (ah s_9) _ [("operand",2)]=Ix;decide+kernel)) (λ_ _ _ _ _=>aq S hr (by rfl) T.Y9.c aC (aa (pv 2) ac)) (Yf hL po (λo ho=>#[(c2 o ho).1,by have:=(c2 o ho).2.1;lia,by have:=(c2 o ho).2.2;lia]) (by lia) hM (λ_ q=>i.Ll aJ T.K4 T.L0 IO q) λH1 D1 U9 s1 nD1 SA WN=>?_) (λ_ _ _ _ _=>cY (i:=2) aal.nd IO (HD IO)) (nI IO IO IO IO)
 refine aY #[_,bg jE [07] (Db (aa (bB (by rfl) T.VA) (aa (bB (by rfl) T.Tx) ac))) IO,i.Ll s1 T.K4 T.Kb IO #[by show 2<=GV;decide,λx2 hx2=>#[x2,_,IO, .inr (pV.of aj),IO,IO,_,IO,?_]]];have s2:=be (o:=HO.tup [V.int 0,V.int 1]) hx2;have Yh:=s1.trans s2;have e1:uD (.int (st:GJ)) [.int 0, .int 1]=decide (st<=1):=by
  show((0:Int) == (st:GJ)||((1:Int) == (st:GJ)||false))=_
  rw[Ip];simp only[Ox,beq_iff_eq,Ii,PB];lia
 rw[GB (c:=(IN:HH)=Ix) Gn,e1];refine eU (λz=>?_) λz=>?_
 .exact aD (cq (aX (bV 0 (aX (bV 1 (ca (.mk (k:=k+2) IO (hM.up Yh) (r.up Yh) hc z nD1 (s2 _ _ SA) (g0 s2 WN) λH' u s' e'=>q H' u (Yh.trans s') e')))))) (aky T I) [05] T.d_p.c aC)
 .exact aD (cq (aX (bV 0 (aX (bV 1 (ca (.mk (k:=k+2) IO (hM.up Yh) (r.up Yh) hc z nD1 (s2 _ _ SA) (g0 s2 WN) λH' u s' e'=>q H' u (Yh.trans s') e')))))) (akz T I) [05] T.d_y.c aC)
theorem akB (T:Txt K mg a) (I:jQ K a) (kF:vU P w K a.HM cv) (S:f8 P w K mg base a k):f8 P w K mg base a (k+2):=by
 refine pT T.Y9.F afS [03] [02];intro X D;obtain @⟨e,v,M,rfl,hM,r,_,q⟩:=h;have nd:=sf r.at_;have is: ∀ {cl x:G0}{C f:Gx}{fd:HX}{y:G0}{ok:Gz->Prop}{ss:Gm Stmt}{p1 p2 p3 p4 p5 p6 p7 p8 p9:Pos}(j:GJ),mg cl=GM (.ref C)->(tj a)[j]?=GM C->b8 P w K mg base nF (k+1) f fd [y] (sx a (k+2) ok)->CD K mg x f fd [y]->(vb e=j->ok e)->(vb e≠j->Bd X ss D [GM v] H)->Gl X cl->Gl X x->(cl == ("__debug__":G0))=IN->(x == ("__debug__":G0))=IN->Bd X (.If (.Call (.Name "isinstance" p1) [.Name "exp" p2, .Name cl p3] [] p4) [.Return (GM (.Call (.Name x p5) [.Name "exp" p6] [] p7)) p8] [] p9::ss) D [GM v] H:=λj hm hj G d ho no g1 g2 b1 b2=>
  aY (gV I T.HN nd aJ hj hm (pv 0) [08] (eU (λz=>aD (cq (aX (bV 0 (ca (.mk IO hM r (ho z) q)))) G hr d aC g2 b2)) no) IO g1 b1)
 refine is 2 T.Ry IO (akx T I kF S) T.d_w.c (λz=>?_) (λz2=>?_) IO IO [01] [01]
 .cases e<;>first|exact#[_,_,IO]|cases z
 refine is 3 T.OD IO (akv T I S) T.d_8.c (λz=>?_) (λz3=>?_) IO IO [01] [01]
 .cases e<;>first|exact .inl #[_,IO]|exact .inr #[_,IO]|cases z
 refine is 4 T.PL IO (akA T I S) T.d_9.c (λz=>?_) (λz4=>?_) IO IO [01] [01]
 .cases e<;>first|exact#[_,IO]|cases z
 refine is 5 T.OW IO (ahf T I S) T.Zb.c (λz=>?_) (λz5=>?_) IO IO [01] [01]
 .cases e<;>first|exact#[_,_,_,IO]|cases z
 refine is 6 T.Vq IO (akw T I S) T.d_J.c (λz=>?_) (λz6=>?_) IO IO [01] [01]
 .cases e<;>first|exact#[_,_,_,_,IO]|cases z
 have e1:fold e=e:=by cases e<;>first|(rw[fold];done)|exact GW IO z2|exact GW IO z3|exact GW IO z4|exact GW IO z5|exact GW IO z6
 rw[e1] at q;exact aD (bV 0 (q H v aJ r.at_))
theorem zo (T:Txt K mg a) (hk:k<=1):f8 P w K mg base a (k+1):=by
 refine pT T.Y9.F afS [03] [02];intro X D;obtain @⟨e,v,M,rfl,hM,r,_,q⟩:=h;have:=r.fr;have:=eE e;exact GW hk (by lia)
theorem ny (T:Txt K mg a) (I:jQ K a) (kF:vU P w K a.HM cv): ∀k,f8 P w K mg base a (k+1)
 |0=>zo T (by decide)
 |1=>zo T (by decide)
 |k+2=>akB T I kF (ny T I kF k)
end
abbrev EJ (x:Gv) (lo hi:Gz):Gm G0:=sb x::tx " in "::(xF lo++(tx " .. "::xF hi))
inductive ahg (K:Gu) (a:bJ) (k:GJ) (vs:Gm V) (H:Hp) (Q:VK) (_E:XK):Prop
 |mk (x:Gv) (lo hi:Gz) (p C dx:Gx) (fs:Gm (G0×V)) (u1 u2:V) (M:Gx->Prop) (_:vs=[.ref p]) (_:H p=GM (.ins C dx fs)) (_:i8 K C) (_:aH K C "name") (_:aH K C "first") (_:aH K C "last") (_:fs.lookup ("name":G0)=GM (.str (sb x))) (_:fs.lookup ("first":G0)=GM u1) (_:fs.lookup ("last":G0)=GM u2) (_:ag a M H lo u1) (_:ag a M H hi u2) (_:fr lo<=k) (_:fr hi<=k) (_:(EJ x lo hi).length<=GV) (_:Nw H (EJ x lo hi) Q):ahg K a k vs H Q _E
inductive ahh (a:bJ) (k:GJ) (vs:Gm V) (H:Hp) (Q:VK) (_E:XK):Prop
 |mk (l:Ja) (v:V) (us:Gm V) (M:Gx->Prop) (_:vs=[v]) (_:bM M H us v) (_:bn a M H l us) (_:ke l<=k) (_:(aF l).length<=GV) (_:Nw H (aF l) Q):ahh a k vs H Q _E
section
variable {k:GJ}
abbrev o8 (P:Hm) (w:HS) (K:Gu) (mg:G0->GF Gy) (base:Ij) (a:bJ) (k:GJ):Prop:=b8 P w K mg base nF (k+1) a.f_a a.adA ["exp"] (tE a λe=>fr e<=k)
theorem eM {M:Gx->Prop}{H H':Hp}{E:XK}{ta:TA}{σ:L2.St}{e:Gz}{v:V}{ok:Gz->Prop}(he:ag a M H e v) (s:aI H H') (hf:ok e) (hl:(xF e).length<=GV) (h:Dy ta σ H' [v]):Fr (iS (tE a ok) [] E ta) σ H' (xF e):=dA h λQ q=>#[e,v,M,IO,ag.keep (aI.keeps s) e he,hf,hl,q]
theorem gF {ta:TA}{σ:L2.St}{H:Hp}{p:G0}(h:Dy ta σ H [.str p]):Fr (ZO ta) σ H [p]:=jn h IO (by show 1<=GV;decide)
theorem aI.rfl {H:Hp} :aI H H:=λ_ _ e=>e
theorem ahi (T:Txt K mg a) (QI:o8 P w K mg base a k):T.d_x.U P w base (k+2) (ahg K a k):=by
 refine T.d_x.F.ok ajH [03] [02];obtain⟨x,lo,hi,p,C,dx,fs,u1,u2,M,rfl,z,c,n1,n2,n3,l1,l2,l3,h1,h2,f1,f2,hl,hQ⟩:=h;refine#[_,(ak (aB (aZ bC (aZ bC (aZ bC (bj (aa [07] (aa aK ac))) (aq QI [05] (by rfl) T.Tv.c aC (aa [07] ac))) (bj (aa aK ac))) (aq QI [05] (by rfl) T.Tv.c aC (aa [07] ac))))),?_];have hl':2+((xF lo).length+(1+(xF hi).length))<=GV:=by
  simp only[Gp,Gq] at hl;lia
 refine(Fr.eq (bW (bW (bW (jn (ps:=[sb x,tx " in "]) (ao (cM (bE IO) z c n1 l1) (ao cj aE)) IO (by show 2<=GV;decide))
  (λH1 s1=>eM h1 s1 f1 (by lia) (ao (cM (bE IO) (s1 _ _ z) c n2 l2) aE)) ?_) (λH1 s1=>gF (ao cj aE)) ?_)
  (λH1 s1=>eM h2 s1 f2 (by lia) (ao (cM (bE IO) (s1 _ _ z) c n3 l3) aE)) ?_) (by simp)) _ hQ
 .show 2+_<=_;lia
 .simp only[Gp,Gq,GK];lia
 .simp only[Gp,Gq,GK];lia
theorem akC (T:Txt K mg a) (QI:o8 P w K mg base a k):T.d_4.U P w base (k+2) (tE a λe=>vb e=5/\fr e<=k+4):=by
 refine T.d_4.F.ok afP [03] [02];obtain⟨e,v,M,rfl,he,⟨hc,hf⟩,hl,hQ⟩:=h;obtain⟨c,x,y,rfl⟩: ∃c x y,e= .pick c x y:=by cases e<;>first|exact#[_,_,_,IO]|cases hc
 unfold ag at he;obtain⟨u1,u2,u3,⟨p,dx,rfl,m,z⟩,h1,h2,h3⟩:=he;rw[fr] at hf;have f1:=Iq (fr c) (max (fr x) (fr y));have f2:=ID (fr c) (max (fr x) (fr y));have f3:=Iq (fr x) (fr y);have f4:=ID (fr x) (fr y);have hl':1+((xF c).length+(1+((xF x).length+(1+(xF y).length))))<=GV:=by
  rw[xF] at hl;simp only[Gp,Gq] at hl;lia
 refine#[_,(ai (b4 (i:=1) afP.nd IO (HD IO) (aZ bC (aZ bC (aZ bC (bj (aa aK ac)) (aq QI [05] (by rfl) T.Tv.c aC (aa [07] ac))) (bj (aa aK ac))) (aq QI [05] (by rfl) T.Tv.c aC (aa [07] ac))))
   (ak (aB (aZ bC (aZ bC (pv 1) (bj (aa aK ac))) (aq QI [05] (by rfl) T.Tv.c aC (aa [07] ac)))))),?_]
 refine bW (bW (bW (gF (p:=tx "if ") (ao cj aE)) (λH1 s1=>eM h1 s1 (by lia) (by lia) (ao (cM (bE IO) (s1 _ _ z) T.K9 T.LB IO) aE)) ?_) (λH1 s1=>gF (p:=tx " then ") (ao cj aE)) ?_)
  (λH1 s1=>eM h2 s1 (by lia) (by lia) (ao (cM (bE IO) (s1 _ _ z) T.K9 T.Lw IO) aE)) ?_ _ λH1 L s1 n1 e1=>?_
 .show 1+_<=_;lia
 .simp only[Gp,Gq,GK];lia
 .simp only[Gp,Gq,GK];lia
 have z1:=s1 _ _ z;refine(Fr.eq (bW (rC (qs:=[tx " else "]) (bE IO) e1 (gF (ao cj aE)) ?_) (λH2 s2=>eM h3 (s1.trans s2) (by lia) (by lia) (ao (cM (bE IO) (s2 _ _ z1) T.K9 T.KD IO) aE)) ?_) (by rw[xF];simp)) _ (hQ.up s1)
 .simp only[Gp,Gq,GK];lia
 .simp only[Gp,Gq,GK];lia
end
section
open Vbemac (strength)
def xl:Ja->Gm Gz
 | .nil=>[]
 | .cons e l=>e::xl l
def aN (d:Gm Gz):Gm G0:=d.flatMap λe=>tx ", "::xF e
def aL:Gm Gz->Gm G0
 |[]=>[]
 |e::d=>xF e++aN d
theorem Bu (x y:Gm Gz):aN (x++y)=aN x++aN y:=KO
theorem Yi: ∀l:Ja,aN (xl l)=if xl l=[] then [] else tx ", "::aF l
 | .nil=>rfl
 | .cons e .nil=>by
  rw[xl,xl,GB (IQ _ _),aF];show(tx ", "::xF e)++[]=_;rw[GY]
 | .cons e (.cons e2 l)=>by
  rw[xl,GB (IQ _ _),aF]
  .show(tx ", "::xF e)++aN (xl (.cons e2 l))=_
   rw[Yi (.cons e2 l),xl,GB (IQ _ _)]
   rfl
  .intro z;cases z
theorem ahj: ∀l:Ja,aF l=aL (xl l)
 | .nil=>by rw[aF,xl,aL]
 | .cons e .nil=>by rw[aF,xl,xl,aL,aN];simp
 | .cons e (.cons e2 l)=>by
  rw[aF,xl,aL,Yi,xl,GB (IQ _ _)];intro z;cases z
theorem tU {w:GJ}{e:Gz}{ps:Gm G0}(h:ps≠[]):pF w e ps≠[]:=by
 unfold pF;split
 .exact IQ _ _
 .exact h
theorem qF: ∀e:Gz,xF e≠[]
 | .num n=>by rw[xF];exact IQ _ _
 | .name _=>by rw[xF];exact IQ _ _
 | .call _ l=>by rw[xF];exact IQ _ _
 | .neg e=>by rw[xF];exact IQ _ _
 | .not e=>by rw[xF];exact IQ _ _
 | .sums e r=>by rw[xF];exact JL (tU (qF e)) _
 | .prods e r=>by rw[xF];exact JL (tU (qF e)) _
 | .cmp _ e b=>by rw[xF];exact JL (tU (qF e)) _
 | .both e r=>by rw[xF];exact JL (tU (qF e)) _
 | .either e r=>by rw[xF];exact JL (tU (qF e)) _
 | .pick c _ _=>by rw[xF];exact IQ _ _
 | .sum _ _ _ _=>by rw[xF];exact IQ _ _
def cL (w:GJ) (l:Gm (G0×Gz)):Gm G0:=l.flatMap λx=>tx " "::x.1::tx " "::pF w x.2 (xF x.2)
def ChV (a:bJ) (M:Gx->Prop) (H:Hp):Gm (G0×Gz)->Gm V->Gm V->Prop
 |[],us,ss=>us=[]/\ss=[]
 |x::l,us,ss=> ∃u vs ts,us=u::vs/\ss= .str x.1::ts/\ag a M H x.2 u/\ChV a M H l vs ts
section
variable {M:Gx->Prop}{H:Hp}
theorem bn.get: ∀ {l:Ja}{us:Gm V},bn a M H l us->us.length=(xl l).length/\ ∀(i:GJ) (u:V),us[i]?=GM u-> ∃e,(xl l)[i]?=GM e/\ag a M H e u/\fr e<=ke l
 | .nil,us,h=>by
  unfold bn at h;subst h;exact#[IO,λi u e=>by simp at e]
 | .cons e l,us,h=>by
  unfold bn at h;obtain⟨u,vs,rfl,h1,h2⟩:=h;obtain⟨n,g⟩:=bn.get h2;rw[xl,ke];refine#[Hr (· +1) n,λi v hi=>?_];cases i with
  |zero=>cases hi;exact#[e,IO,h1,Iq _ _]
  |succ i=>
   obtain⟨x,q1,q2,q3⟩:=g i v hi;exact#[x,q1,q2,GX q3 (ID _ _)]
theorem ChV.get: ∀ {l:Gm (G0×Gz)}{us ss:Gm V},ChV a M H l us ss->us.length=l.length/\ss.length=l.length/\ ∀(i:GJ) (u s:V),us[i]?=GM u->ss[i]?=GM s-> ∃x,l[i]?=GM x/\s= .str x.1/\ag a M H x.2 u
 |[],us,ss,h=>by
  obtain⟨rfl,rfl⟩:=h;exact#[IO,IO,λi u s e=>by simp at e]
 |x::l,us,ss,h=>by
  obtain⟨u,vs,ts,rfl,rfl,h1,h2⟩:=h;obtain⟨n,m,g⟩:=ChV.get h2;refine#[Hr (· +1) n,Hr (· +1) m,λi v s hi hs=>?_];cases i with
  |zero=>cases hi;cases hs;exact#[x,IO,IO,h1]
  |succ i=>exact g i v s hi hs
theorem oO: ∀ {r:Nz}{us ss:Gm V},cP a M H r us ss-> ∃l,ChV a M H l us ss/\(∀w,rF w r=cL w l)/\ ∀x∈l,fr x.2<=pG r
 | .nil,us,ss,h=>by
  unfold cP at h;exact#[[],h,(λw=>by rw[rF];rfl),λ_ z=>nomatch z]
 | .cons op e r,us,ss,h=>by
  unfold cP at h;obtain⟨u,vs,ts,rfl,rfl,h1,h2⟩:=h;obtain⟨l,q1,q2,q3⟩:=oO h2;refine#[(dD op,e)::l,#[u,vs,ts,IO,IO,h1,q1],(λw=>by rw[rF,q2];rfl),λx hx=>?_];rw[pG];rcases Hc.mp hx with z|z
  .rw[z];exact Iq _ _
  .exact GX (q3 x z) (ID _ _)
theorem nZ {g:G0} : ∀ {r:Ja}{us:Gm V},bn a M H r us-> ∃l,ChV a M H l us (us.map λ_=> .str g)/\(∀w,mF w g r=cL w l)/\ ∀x∈l,fr x.2<=ke r
 | .nil,us,h=>by
  unfold bn at h;subst h;exact#[[],#[IO,IO],(λw=>by rw[mF];rfl),λ_ z=>nomatch z]
 | .cons e r,us,h=>by
  unfold bn at h;obtain⟨u,vs,rfl,h1,h2⟩:=h;obtain⟨l,q1,q2,q3⟩:=nZ (g:=g) h2;refine#[(g,e)::l,#[u,vs,_,IO,IO,h1,q1],(λw=>by rw[mF,q2];rfl),λx hx=>?_];rw[ke];rcases Hc.mp hx with z|z
  .rw[z];exact Iq _ _
  .exact GX (q3 x z) (ID _ _)
structure akD (a:bJ) (M:Gx->Prop) (H:Hp) (e:Gz) (p dx:Gx) (q g u:V) (us ss:Gm V) (e0:Gz) (l:Gm (G0×Gz)):Prop where
 at_:H p=GM (.ins a.Kv dx [("strength", .int (strength e:GJ)),("operands",q),("signs",g)])
 hq:bM M H (u::us) q
 hg:bM M H ss g
 h0:ag a M H e0 u
 hl:ChV a M H l us ss
 hx:xF e=pF (strength e+1) e0 (xF e0)++cL (strength e+1) l
 hf: ∀n,fr e<=n+3->fr e0<=n/\ ∀x∈l,fr x.2<=n
theorem qa {x y n:GJ}(h:3+max x y<=n+3):x<=n/\y<=n:=by
 have:=Iq x y
 have:=ID x y;lia
theorem ahk {e:Gz}{v:V}(h4:vb e=4) (h:ag a M H e v): ∃p dx q g u us ss e0 l,v= .ref p/\akD a M H e p dx q g u us ss e0 l:=by
 cases e<;>first|(cases h4;done)|skip
 .unfold ag at h
  obtain⟨q,g,u,us,ss,⟨p,dx,rfl,_,z⟩,h1,h2,h3,h5⟩:=h;obtain⟨l,q1,q2,q3⟩:=oO h5;exact#[p,dx,q,g,u,us,ss,_,l,IO,z,h1,h2,h3,q1,by rw[xF,q2];rfl,λn f=>by rw[fr] at f;exact#[(qa f).1,λx hx=>GX (q3 x hx) (qa f).2]]
 .unfold ag at h
  obtain⟨q,g,u,us,ss,⟨p,dx,rfl,_,z⟩,h1,h2,h3,h5⟩:=h;obtain⟨l,q1,q2,q3⟩:=oO h5;exact#[p,dx,q,g,u,us,ss,_,l,IO,z,h1,h2,h3,q1,by rw[xF,q2];rfl,λn f=>by rw[fr] at f;exact#[(qa f).1,λx hx=>GX (q3 x hx) (qa f).2]]
 .rename_i op x y
  unfold ag at h;obtain⟨q,g,u,u2,⟨p,dx,rfl,_,z⟩,h1,h2,h3,h5⟩:=h;refine#[p,dx,q,g,u,[u2],_,_,[(dD op,y)],IO,z,h1,h2,h3,#[u2,[],[],IO,IO,h5,IO,IO],?_,λn f=>by rw[fr] at f;exact#[(qa f).1,λx hx=>by rw[Ht.mp hx];exact(qa f).2]];rw[xF];show _=_++((tx " "::dD op::tx " "::pF 3 y (xF y))++[]);rw[GY]
  rfl
 .unfold ag at h
  obtain⟨q,g,u,us,⟨p,dx,rfl,_,z⟩,h1,h2,h3,h5⟩:=h;obtain⟨l,q1,q2,q3⟩:=nZ (g:=tx "&&") h5;exact#[p,dx,q,g,u,us,_,_,l,IO,z,h1,h2,h3,q1,by rw[xF,q2];rfl,λn f=>by rw[fr] at f;exact#[(qa f).1,λx hx=>GX (q3 x hx) (qa f).2]]
 .unfold ag at h
  obtain⟨q,g,u,us,⟨p,dx,rfl,_,z⟩,h1,h2,h3,h5⟩:=h;obtain⟨l,q1,q2,q3⟩:=nZ (g:=tx "||") h5;exact#[p,dx,q,g,u,us,_,_,l,IO,z,h1,h2,h3,q1,by rw[xF,q2];rfl,λn f=>by rw[fr] at f;exact#[(qa f).1,λx hx=>GX (q3 x hx) (qa f).2]]
end
theorem Gj {K:Gu}{a b:Gx}{xs ys:Gm V}{g:TG}{tb:TS}{D:dz}{σ:L2.St}{H:Hp}(Pv:GJ->L2.St->Hp->Prop) (h0:Pv 0 σ H) (hn:xs.length=ys.length) (hl: ∀i σ H,Pv i σ H->cK K H a xs/\cK K H b ys)
  (hs: ∀i x y σ H T,xs[i]?=GM x->ys[i]?=GM y->H T=Id->Pv i σ H->g (.ref T) σ (bf H T (.tup [x,y])) λσ2 H2=>tb { D with nx:=Pv (i+1),ct:=Pv (i+1),bk:=D.nx } σ2 H2) (hd: ∀σ H,Pv xs.length σ H->D.nx σ H):
  ∃W:GJ->GJ->L2.St->Hp->Prop,(∃m,W 0 m σ H)/\ ∀i m σ H,W i m σ H->
   ((Xt K a b).stop i H/\D.nx σ H)\/((Xt K a b).go i H/\ ∃N:L2.St->Hp->Prop,(∀σ' H',N σ' H'-> ∃m',m'<m/\W (i+1) m' σ' H')/\ ∀x H',(Xt K a b).Xh i H x H'->g x σ H' λσ2 H2=>tb { D with nx:=N,ct:=N,bk:=D.nx } σ2 H2):=by
 refine#[λi m σ H=>m=xs.length-i/\i<=xs.length/\Pv i σ H,#[xs.length,by simp,HB _,h0],?_];rintro i m σ H ⟨rfl,hi,p⟩;obtain⟨q,q'⟩:=hl i σ H p;by_cases RT:i<xs.length
 .refine .inr #[#[xs,ys,xs[i],ys[i]'(by lia),q,q',by simp [RT],by simp [show i<ys.length by lia]],Pv (i+1),λσ' H' p'=>#[xs.length-(i+1),by lia,IO,RT,p'],λx H' y=>?_]
  obtain⟨T,x1,y1,rfl,nT,rfl,e1,e2⟩:=y;exact hs i x1 y1 σ H T (e1 xs q) (e2 ys q') nT p
 .have e:i=xs.length:=by lia
  subst e;exact .inl #[#[xs,ys,q,q', .inl (GU _)],hd σ H p]
section
variable {k:GJ}
theorem akE (T:Txt K mg a) (QI:o8 P w K mg base a k):T.d_O.U P w base (k+2) (ahh a k):=by
 refine T.d_O.F.ok aai [03] [02];obtain⟨l,v,us,M,rfl,⟨q,rfl,_,z⟩,hx,hf,hl,hQ⟩:=h;refine#[_,(ai (b4 (i:=1) aai.nd IO (HD IO) (bj ac))
   (ai (kj Jw IO (fL (pv 0)) (cY (i:=2) aai.nd IO (HD IO)) (ai (kI (bz (bg qD (aR bL (by rfl) T.LR Jc (aa (pv 1) ac)) aG (a0 _)) (ak (a6 (df G6 Ik Il di (pv 1) (aa aK ac)))) aQ))
   (ak (a6 (df G6 Hw Hx bX (pv 1) (aa (aq QI [05] (by rfl) T.Tv.c aC (aa (pv 2) ac)) ac))))))
   (ak (aB (pv 1))))),?_]
 rw[ahj] at hl hQ;obtain⟨n,gt⟩:=hx.get;refine iI (ps:=[]) (jn aE IO (by show 0<=GV;decide)) λH1 L g1=>?_;refine#[q,IO,#[_,cK.of (g1.sm _ _ z)],ie (xs:=us) (λi σ' H'=> ∃x d r,σ'=[GM (.ref q),GM (.ref L),x]/\xl l=d++r/\d.length=i/\fi H L H' (aL d)) #[_,[],xl l,IO,IO,IO,g1] ?_ ?_ ?_]
 .rintro i σ' H' hi ⟨x,d,r,rfl,_,_,g⟩
  exact cK.of (g.sm _ _ z)
 .rintro i u σ' H' hu ⟨x,d,r,rfl,ed,dl,g⟩
  obtain⟨e,h1,h2,h3⟩:=gt i u hu;obtain⟨r',rfl⟩: ∃r',r=e::r':=by
   rw[ed,<-dl,Ly (GU _),Mb] at h1;cases r with
   |nil=>cases h1
   |cons y r'=>cases h1;exact#[r',IO]
  have VY:(aL (d++e::r')).length<=GV:=by rw[<-ed];exact hl
  refine#[λσ2 H2=>σ2=[GM (.ref q),GM (.ref L),GM u]/\ ∃ps,fi H L H2 ps/\ps++xF e=aL (d++[e])/\ps.length+(xF e).length<=GV,?_,?_]
  .refine#[L,_,IO, .inl (cK.of g.at_),_,_,IO,IO,_,IO,?_]
   cases d with
   |nil=>
    refine fh (Ha (by simp [aL])) ?_;refine#[IO,[],g,by show xF e=xF e++[];simp,?_];have:(xF e++aN r').length<=GV:=VY;rw[Gq] at this;show 0+_<=_;lia
   |cons y d=>
    have ne:0<(aL (y::d)).length:=by
     show 0<(xF y++aN d).length
     rw[Gq];have:=Gm.length_pos_iff.mpr (qF y);lia
    have:(xF y++aN (d++e::r')).length<=GV:=VY;rw[Bu,Gq,Gq] at this
    have:(xF y).length+((aN d).length+((tx ", "::xF e)++aN r').length)<=GV:=this;rw[Gq,Gp] at this
    have ly:(aL (y::d)).length=(xF y).length+(aN d).length:=Gq;refine eR (Hy (by rw[GG];lia)) ?_;refine wv g IO cj (by lia) λH2 g2=>#[IO,_,g2,?_,by rw[Gq];show _+1+_<=_;lia]
    show(xF y++aN d)++[tx ", "]++xF e=xF y++aN (d++[e])
    rw[Bu];show _=xF y++(aN d++((tx ", "::xF e)++[]));simp
  .rintro σ2 H2 ⟨rfl,ps,g2,ee,ll⟩
   exact kc g2 IO (eM h2 g2.sm (by lia) (by lia) (ao (bE IO) aE)) ll λH3 g3=>#[_,d++[e],r',IO,by rw[ed];simp,by simp [dl],ee▸g3]
 .rintro σ' H' ⟨x,d,r,rfl,ed,dl,g⟩
  have:r=[]:=by
   have:=Hr MP ed;rw[Gq] at this;exact MM (by lia)
  subst this;rw[GY] at ed;rw[ed] at hQ;exact(g.end_ hQ)
end
end
section
open Vbemac (strength)
section
variable {k:GJ}
abbrev Ak (P:Hm) (w:HS) (K:Gu) (mg:G0->GF Gy) (base:Ij) (a:bJ) (k:GJ):Prop:=b8 P w K mg base nF k a.f_k a.adB ["exp","weakest"] (zI a k)
theorem B6 {M:Gx->Prop}{H H':Hp}{E:XK}{ta:TA}{σ:L2.St}{e:Gz}{v:V}{n:GJ}(he:ag a M H e v) (s:aI H H') (hf:fr e<=k) (hl:(pF n e (xF e)).length<=GV) (h:Dy ta σ H' [v, .int (n:GJ)]):Fr (iS (zI a k) [] E ta) σ H' (pF n e (xF e)):=dA h λQ q=>#[e,v,M,n,IO,ag.keep (aI.keeps s) e he,hf,hl,q]
theorem DR (n:GJ) (x y:Gm (G0×Gz)):cL n (x++y)=cL n x++cL n y:=KO
theorem Yj {te tf:TE}{σ:L2.St}{H:Hp}{i j:Int}(h1:Ev te σ H (.int i)) (h2:Ev tf σ H (.int j)):Ev (Bc (vS λi j=> .int (i+j)) te tf) σ H (.int (i+j)):=λQ q=>h1 _ (h2 _ #[_,_,IO,IO,q])
theorem FZ {t1 t2:TE}{gg:TG}{tb:TS}{Z:dz}{σ:L2.St}{H:Hp}{xs ys:Gm V}{g:Gx}(h1:Ev t1 σ H (.ref g)) (h2: ∀Q:VK,(∀t,H t=Id->Q (.ref t) (bf H t (.lst ys)))->t2 σ H Q) (zx:H g=GM (.lst xs))
  (h: ∀t,H t=Id-> ∃W:GJ->GJ->L2.St->Hp->Prop,(∃m,W 0 m σ (bf H t (.lst ys)))/\ ∀i m σ H,W i m σ H->
   ((Xt K g t).stop i H/\Z.nx σ H)\/((Xt K g t).go i H/\ ∃N:L2.St->Hp->Prop,(∀σ' H',N σ' H'-> ∃m',m'<m/\W (i+1) m' σ' H')/\ ∀x H',(Xt K g t).Xh i H x H'->gg x σ H' λσ2 H2=>tb { Z with nx:=N,ct:=N,bk:=Z.nx } σ2 H2)):aer (aeM K (fz t1 (fz t2 kq))) gg tb Z σ H:=
 h1 _ (h2 _ λt ht=>#[g,t,xs,ys,IO,cK.of ((be ht) _ _ zx),cK.of aj,h t ht])
theorem akF (T:Txt K mg a) (G_k:Ak P w K mg base a k):T.d_H.U P w base (k+1) (tE a λe=>vb e=4/\fr e<=k+3):=by
 refine T.d_H.F.ok Fp [03] [02];obtain⟨e,v,M,rfl,he,⟨hc,hf⟩,hl,hQ⟩:=h;obtain⟨p,dx,q,g,u,us,ss,e0,l,rfl,C⟩:=ahk hc he;obtain⟨f0,f1⟩:=C.hf k hf;obtain⟨q,rfl,_,zq⟩:=C.hq;obtain⟨g,rfl,_,zg⟩:=C.hg;have zp:=C.at_;obtain⟨n1,n2,gt⟩:=C.hl.get;rw[C.hx] at hl hQ;rw[Gq] at hl;refine#[_,(ai (b4 (i:=1) Fp.nd IO (HD IO) (aq G_k [05] (by rfl) T.Y6.c aC (aa (eS cX [07] aG (λ_ _=>rfl)) (aa (aZ d9 [07] aG) ac))))
   (ai (kj Jw IO (Z6 (by rfl) T.aej (aa [07] (aa (ip jH [07] (gj aG) rn) ac))) (ZJ IO (uE (cY (i:=2) Fp.nd IO (HD IO)) (uE (cY (i:=3) Fp.nd IO (HD IO)) E5))) (ai (a6 (df G6 Hw Hx bX (pv 1) (aa (bj (aa aK (aa (pv 2) (aa aK ac)))) ac)))
   (ak (a6 (df G6 Hw Hx bX (pv 1) (aa (aq G_k [05] (by rfl) T.Y6.c aC (aa (pv 3) (aa (aZ d9 [07] aG) ac))) ac))))))
   (ak (aB (pv 1))))),?_]
 have fst: ∀ {σ:L2.St}{H':Hp},aI H H'->σ[0]?=GM (GM (.ref p))->Ev (Bc (vS λi j=> .int (i+j)) (m6 K (d7 0) "strength") (tC (.int 1))) σ H' (.int ((strength e+1:GJ):Int)):=λs h=>Yj (cM (bE h) (s _ _ zp) T.K4 T.Kb IO) cj
 have opn: ∀ {σ:L2.St}{H':Hp},aI H H'->σ[0]?=GM (GM (.ref p))->Ev (m6 K (d7 0) "operands") σ H' (.ref q):=λs h=>cM (bE h) (s _ _ zp) T.K4 T.L0 IO
 refine iI (B6 C.h0 aI.rfl f0 (by lia) (ao (v:=u) (λQ1 q1=>opn aI.rfl IO _ #[q,_,_,_,IO,IO,cK.of zq,ci (j:=0) IO,q1]) (ao (fst aI.rfl IO) aE))) λH1 L g1=>?_;have sg:Ev (m6 K (d7 0) "signs") [GM (.ref p),GM (.ref L),Id,Id] H1 (.ref g):=cM (bE IO) (g1.sm _ _ zp) T.K4 T.L1 IO;have e1:kQ (u::us) (GM 1) Id=us:=by
  unfold kQ;rw[HT.Sq,show HT.RU (u::us).length 0 (GM 1)=min 1 (u::us).length from HT.QG _ _ 1,OU (by simp)];exact Ki (by simp)
 refine seq (FZ sg (ys:=us) (λQ1 q1=>opn g1.sm IO _ #[_,IO,q,_,IO,cK.of (g1.sm _ _ zq),λt ht=>by rw[e1];exact q1 t ht]) (g1.sm _ _ zg) λt ht=>?_);have gL:L≠t:=aw g1.at_ ht;have t0:H t=Id:=gm g1.sm ht;let B:Hp:=bf H t (.lst us);have sB:aI H B:=be t0;have g2:fi B L (bf H1 t (.lst us)) (pF (strength e+1) e0 (xF e0)):=#[by show bf H t _ L=Id;rw[af gL];exact g1.nw,λb o hb=>by
  have hb:bf H t (.lst us) b=GM o:=hb;by_cases z:b=t
  .rw[z,aj] at hb ⊢; exact hb
  .rw[af z] at hb ⊢; exact g1.sm _ _ hb,by rw[af gL];exact g1.at_]
 refine Gj (xs:=ss) (ys:=us) (λi σ' H'=> ∃x y d r,σ'=[GM (.ref p),GM (.ref L),x,y]/\l=d++r/\d.length=i/\fi B L H' (pF (strength e+1) e0 (xF e0)++cL (strength e+1) d)) #[_,_,[],l,IO,IO,IO,by simpa [cL] using g2] (by lia) ?_ ?_ ?_
 .rintro i σ' H' ⟨x,y,d,r,rfl,_,_,g'⟩
  exact#[cK.of ((sB.trans g'.sm) _ _ zg),cK.of (g'.sm _ _ aj)]
 .rintro i s1 u1 σ' H' T' hs hu nT ⟨x,y,d,r,rfl,ed,dl,g'⟩
  obtain⟨o,h1,rfl,h3⟩:=gt i u1 s1 hu hs;obtain⟨r',rfl⟩: ∃r',r=o::r':=by
   rw[ed,<-dl,Ly (GU _),Mb] at h1;cases r with
   |nil=>cases h1
   |cons y r'=>cases h1;exact#[r',IO]
  have fo:=f1 o (by rw[ed];simp);refine#[T',_,IO,pV.of aj,IO,_,_,IO,_,_,IO,IO,?_]
  have VY:=hl;rw[ed,DR,Gq] at VY
  have VY:(pF (strength e+1) e0 (xF e0)).length+((cL (strength e+1) d).length+((tx " "::o.1::tx " "::pF (strength e+1) o.2 (xF o.2))++cL (strength e+1) r').length)<=GV:=VY;rw[Gq,Gp,Gp,Gp] at VY
  have g3:fi B L (bf H' T' (.tup [.str o.1,u1])) (pF (strength e+1) e0 (xF e0)++cL (strength e+1) d):=#[g'.nw,g'.sm.trans (be nT),by rw[af (aw g'.at_ nT)];exact g'.at_];refine fM g3 IO (jn (ps:=[tx " ",o.1,tx " "]) (ao cj (ao (bE IO) (ao cj aE))) IO (by show 3<=GV;decide)) (by rw[Gq];show _+3<=_;lia) λH4 g4=>?_
  refine kc g4 IO (B6 h3 (sB.trans g4.sm) fo (by lia) (ao (bE IO) (ao (fst (sB.trans g4.sm) IO) aE))) (by rw[Gq,Gq];show _+3+_<=_;lia) λH5 g5=>#[_,_,d++[o],r',IO,by rw[ed];simp,by simp [dl],?_];rw[DR];have:cL (strength e+1) [o]=tx " "::o.1::tx " "::pF (strength e+1) o.2 (xF o.2):=GY _;rw[this]
  simpa using g5
 .rintro σ' H' ⟨x,y,d,r,rfl,ed,dl,g'⟩
  have:r=[]:=by
   have:=Hr MP ed;rw[Gq] at this;exact MM (by lia)
  subst this;rw[GY] at ed;rw[ed] at hQ;exact(g'.end_ (hQ.up sB))
theorem aa8 {n:GJ}(h:n<1000000000000000000):(n:Int).natAbs.log2<1920:=by
 rw[Int.natAbs_natCast];by_cases n0:n=0
 .rw[n0];decide
 .exact Hh ((GJ.log2_lt n0).mpr (show n<2 ^ 64 by lia)) [01]
theorem akG (T:Txt K mg a) (I:jQ K a) (hk:k<=900) (G_k:Ak P w K mg base a (k+2)) (G2:Ak P w K mg base a (k+1)) (G3:Ak P w K mg base a k):T.d_G.U P w base (k+3) (tE a λe=>fr e<=k+4):=by
 have G_H:=akF T G2
 have QI:=CP T G3
 have G_O:=akE T QI
 have G_x:=ahi T QI
 have G_4:=akC T QI;refine T.d_G.F.ok ajK [03] [02];obtain⟨e,v,M,rfl,he,hf,hl,hQ⟩:=h;refine#[_,(ai (bz (bS (aR bZ (by rfl) T.HN Iz (aa (pv 0) (aa (dg (by rfl) T.OV) ac)))) (ak (aB (bj (aa (ii rQ (by rfl) T.aei boot_str (aa [07] ac)) ac)))) aQ)
   (ai (bz (bS (aR bZ (by rfl) T.HN Iz (aa (pv 0) (aa (dg (by rfl) T.T7) ac)))) (ak (aB (bj (aa [07] ac)))) aQ)
   (ai (bz (bS (aR bZ (by rfl) T.HN Iz (aa (pv 0) (aa (dg (by rfl) T.Ry) ac)))) (ak (aB (aZ bC (aZ bC (bj (aa [07] (aa aK ac))) (aq G_O [05] (by rfl) T.d_O.c aC (aa [07] ac))) (bj (aa aK ac))))) aQ)
   (ai (bz (bS (aR bZ (by rfl) T.HN Iz (aa (pv 0) (aa (dg (by rfl) T.OD) ac)))) (ak (aB (aZ bC (bj (aa [07] ac)) (aq G_k [05] (by rfl) T.Y6.c aC (aa [07] (aa (bB (by rfl) T.NU) ac)))))) aQ)
   (ai (bz (bS (aR bZ (by rfl) T.HN Iz (aa (pv 0) (aa (dg (by rfl) T.PL) ac)))) (ak (aB (aq G_H [05] (by rfl) T.d_H.c aC (aa (pv 0) ac)))) aQ)
   (ai (bz (bS (aR bZ (by rfl) T.HN Iz (aa (pv 0) (aa (dg (by rfl) T.OW) ac)))) (ak (aB (aq G_4 [05] (by rfl) T.d_4.c aC (aa (pv 0) ac)))) aQ)
   (ak (aB (aZ bC (aZ bC (aZ bC (aZ bC (bj (aa aK ac)) (aq G_x [05] (by rfl) T.d_x.c aC (aa (pv 0) ac))) (bj (aa aK ac))) (aq QI [05] (by rfl) T.Tv.c aC (aa [07] ac))) (bj (aa aK ac))))))))))),?_]
 obtain⟨C,q,dx,fs,hC,rfl,z,l⟩:=rJ he;refine cE I hC (j:=0) IO z IO (λe4=>?_) (λn0=>?_)
 .cases e<;>first|(cases e4;done)|skip
  rename_i n;unfold ag at he;obtain⟨p,dx,e1,_,z⟩:=he;cases e1;rw[fr] at hf;have hn:n<1000000000000000000:=by
   split at hf
   .assumption
   .lia
  rw[xF] at hQ;refine dF (ps:=[kg n]) (gF (ao (v:= .str (kg n)) (λQ1 q1=>?_) aE)) hQ;exact(cM (bE IO) z T.NS T.LK rfl:Ev (m6 K (d7 0) "worth") _ H (.int (n:GJ))) _ #[_,IO,aa8 hn,q1]
 refine cE I hC (j:=1) IO z IO (λe4=>?_) (λn1=>?_)
 .cases e<;>first|(cases e4;done)|skip
  unfold ag at he;obtain⟨p,dx,e1,_,z⟩:=he;cases e1;rw[xF] at hQ;exact dF (gF (ao (cM (bE IO) z T.RC T.PN IO) aE)) hQ
 refine cE I hC (j:=2) IO z IO (λe4=>?_) (λn2=>?_)
 .cases e<;>first|(cases e4;done)|skip
  unfold ag at he;obtain⟨g,us,⟨p,dx,e1,_,z⟩,h2,h3⟩:=he;cases e1;rw[fr] at hf;rw[xF] at hQ hl;simp only[Gp,Gq,GK] at hl;refine dF (Fr.eq (bW (bW (jn (ps:=[_,tx "("]) (ao (cM (bE IO) z T.Nt T.LY IO) (ao cj aE)) IO (by show 2<=GV;decide))
   (λH1 s1=>dA (ao (cM (bE IO) (s1 _ _ z) T.Nt T.LZ IO) aE) λQ1 q1=>#[_,g,us,M,IO,bM.keep (aI.keeps s1).two h2,bn.keep (aI.keeps s1) _ h3,by lia,by lia,q1]) ?_) (λH1 s1=>gF (p:=tx ")") (ao cj aE)) ?_) (by simp)) hQ
  .show 2+_<=_;lia
  .simp only[Gp,Gq,GK];lia
 refine cE I hC (j:=3) IO z IO (λe4=>?_) (λn3=>?_)
 .obtain⟨c,y,u,⟨p,dx,e1,_,z⟩,h2,ex,ef⟩: ∃c y u,bQ M H a.Li [("sign", .str c),("operand",u)] (.ref q)/\ag a M H y u/\xF e=c::pF 5 y (xF y)/\fr e=2+fr y:=by
   cases e<;>first|(cases e4;done)|skip
   .unfold ag at he
    obtain⟨u,h1,h2⟩:=he;exact#[_,_,u,h1,h2,by rw[xF],by rw[fr]]
   .unfold ag at he
    obtain⟨u,h1,h2⟩:=he;exact#[_,_,u,h1,h2,by rw[xF],by rw[fr]]
  cases e1;rw[ef] at hf;rw[ex] at hQ hl;rw[Gp] at hl;refine dF (bW (gF (ao (cM (bE IO) z T.Lq T.K8 IO) aE)) (λH1 s1=>B6 (n:=5) h2 s1 (by lia) (by lia) (ao (cM (bE IO) (s1 _ _ z) T.Lq T.KG IO) (ao cj aE))) ?_) hQ;show 1+_<=_;lia
 refine cE I hC (j:=4) IO z IO (λe4=>?_) (λn4=>?_)
 .exact dF (eM he aI.rfl #[e4,hf] hl (ao (bE IO) aE)) hQ
 refine cE I hC (j:=5) IO z IO (λe4=>?_) (λn5=>?_)
 .exact dF (eM he aI.rfl #[e4,hf] hl (ao (bE IO) aE)) hQ
 cases e<;>first|exact GW IO n0|exact GW IO n1|exact GW IO n2|exact GW IO n3|exact GW IO n4|exact GW IO n5|skip
 rename_i x lo hi y;unfold ag at he;obtain⟨u1,u2,u3,⟨p,dx,e1,_,z⟩,h1,h2,h3⟩:=he;cases e1;rw[fr] at hf;have f1:=Iq (fr lo) (max (fr hi) (fr y));have f2:=ID (fr lo) (max (fr hi) (fr y));have f3:=Iq (fr hi) (fr y);have f4:=ID (fr hi) (fr y);rw[xF] at hQ hl;simp only[Gp,Gq,GK] at hl;have lr:(EJ x lo hi).length=3+(xF lo).length+(xF hi).length:=by
  simp only[EJ,Gp,Gq];lia
 refine dF (Fr.eq (bW (bW (bW (bW (gF (p:=tx "sum(") (ao cj aE)) (λH1 s1=>dA (ps:=EJ x lo hi) (ao (bE IO) aE) λQ1 q1=>#[x,lo,hi,q,_,_,_,u1,u2,M,IO,s1 _ _ z,T.OE,T.OF,T.Ob,T.OG,IO,IO,IO,ag.keep (aI.keeps s1) _ h1,ag.keep (aI.keeps s1) _ h2,by lia,by lia,by lia,q1]) ?_)
  (λH1 s1=>gF (p:=tx ": ") (ao cj aE)) ?_) (λH1 s1=>eM h3 s1 (by lia) (by lia) (ao (cM (bE IO) (s1 _ _ z) T.OE T.OH IO) aE)) ?_) (λH1 s1=>gF (p:=tx ")") (ao cj aE)) ?_) (by simp)) hQ
 all_goals simp only[Gp,Gq,GK];lia
theorem ahl {vs:Gm V}{H:Hp}{Q:VK}{E:XK}(hk:k<4) (h:zI a k vs H Q E):False:=by
 obtain⟨e,v,M,w',rfl,he,hf,hl,hQ⟩:=h;have:=eE e;lia
theorem vI (hk:k<4):Ak P w K mg base a k:=by
 constructor<;>intros<;>exact(ahl hk (by assumption)).elim
theorem pc (T:Txt K mg a) (I:jQ K a): ∀n,n<=900-> ∀k,k<=n->Ak P w K mg base a k
 |0,_,k,hk=>vI (by lia)
 |n+1,h,k,hk=>by
  by_cases h4:k<4
  .exact vI h4
  .obtain⟨m,rfl⟩: ∃m,k=m+3+1:=#[k-4,by lia]
   exact aks T I (akG T I (by lia) (pc T I n (by lia) (m+2) (by lia)) (pc T I n (by lia) (m+1) (by lia)) (pc T I n (by lia) m (by lia)))
end
end
abbrev v9:=Jo
theorem qB: ∀(n:GJ) (acc:Ky GJ),((Jr n ([32,32].toArray:Ky GJ)).foldl (· ++ ·) acc).toList=acc.toList++Jr (2*n) 32
 |0,acc=>by simp
 |n+1,acc=>by
  rw[Gm.replicate_succ,V6,qB n,TV,Hf]
  congr 1
theorem E3 {n:GJ}(hn:n<301):Txt.mul (tx "  ") (n:GJ)=gE n/\MulOk (tx "  ") (n:GJ):=by
 have ex:tx "  "=⟨[32,32].toArray⟩:=by decide+kernel
 rw[ex];constructor
 .unfold Txt.mul
  by_cases h0:n=0
  .subst h0
   rw[GD [01]]
   rfl
  rw[GB (by lia)];by_cases h1:n=1
  .subst h1
   rw[GD [01]]
   rfl
  rw[GB]
  .show YC _=YC _
   congr 1
   apply Vh.mp;rw[Qt,qB,Ol]
   rfl
  .rw[Ox,not_or]
   refine#[λz=>h1 ?_,by decide];have:=eq_of_beq z;lia
 .refine#[?_,λh _=>?_,λ_ _=>?_]
  .rw[Ha (by lia),Ha (by lia)]
   rfl
  .show¬((2:Int)>(2 ^ 63-1) / (n:Int))
   have:(2:Int)<=(2 ^ 63-1) / (n:Int):=Int.le_ediv_of_mul_le (by lia) (by lia);lia
  .show decide (2*(n:Int).toNat>GV)=IN
   rw[Qt];exact Ha (by unfold GV;lia)
theorem xV {X:Cx} :mz X (N6 .Mult) (λx y H Q=> ∃n:GJ,x= .str (tx "  ")/\y= .int (n:GJ)/\n<=300/\Q (.str (gE n)) H):=by
 intro pins s σ H x y v u Q I rx ry h;obtain⟨n,rfl,rfl,hn,q⟩:=h;obtain⟨t,rfl⟩:=rx;obtain⟨t',rfl⟩:=ry;obtain⟨e,m⟩:=E3 (n:=n) (by lia);refine SB.mul m λt'' tk=>?_;rw[e];exact#[.str (gE n),H,I.tok _,#[_,IO],q]
inductive BD (a:bJ) (k:GJ) (vs:Gm V) (H:Hp) (Q:VK) (_E:XK):Prop
 |mk (word:String) (o:GF Gz) (v:V) (M:Gx->Prop) (_:vs=[.str (tx word),v]) (_:fw a M H o v) (_:wz o<=k) (_:(vR word o).length<=GV) (_:Nw H (vR word o) Q):BD a k vs H Q _E
inductive aa9 (a:bJ) (ok:v9->Prop) (vs:Gm V) (H:Hp) (Q:VK) (_E:XK):Prop
 |mk (s:v9) (n:GJ) (v:V) (M:Gx->Prop) (_:vs=[v]) (_:aO a M H s v) (_:ok s) (_:(fj n s).length<=GV) (_:Nw H (fj n s) Q):aa9 a ok vs H Q _E
inductive wE (a:bJ) (k:GJ) (ok:v9->Prop) (vs:Gm V) (H:Hp) (Q:VK) (_E:XK):Prop
 |mk (s:v9) (n:GJ) (v:V) (M:Gx->Prop) (_:vs=[v, .int (n:GJ)]) (_:aO a M H s v) (_:ok s) (_:gX s<=k) (_:n+gX s<=300) (_:(fj n s).length<=GV) (_:Nw H (fj n s) Q):wE a k ok vs H Q _E
inductive Gh (a:bJ) (k:GJ) (vs:Gm V) (H:Hp) (Q:VK) (_E:XK):Prop
 |mk (l:Im) (n:GJ) (v:V) (us:Gm V) (M:Gx->Prop) (_:vs=[v, .int (n:GJ)]) (_:bM M H us v) (_:aT a M H l us) (_:iy l<=k) (_:n+iy l<=300) (_:(qH n (iX (n+1) l)).length<=GV) (_:Nw H (qH n (iX (n+1) l)) Q):Gh a k vs H Q _E
def sl:Im->Gm v9
 | .nil=>[]
 | .cons s l=>s::sl l
def EL (n:GJ) (d:Gm v9):Gm G0:=d.flatMap λs=>gE n::(fj n s++[tx "\n"])
theorem BK (n:GJ): ∀l:Im,iX n l=EL n (sl l)
 | .nil=>by rw[iX];rfl
 | .cons s l=>by
  rw[iX,BK n l,sl];show _=(gE n::(fj n s++[tx "\n"]))++EL n (sl l);simp
theorem aT.get {a:bJ}{M:Gx->Prop}{H:Hp} : ∀ {l:Im}{us:Gm V},aT a M H l us->us.length=(sl l).length/\ ∀(i:GJ) (u:V),us[i]?=GM u-> ∃s,(sl l)[i]?=GM s/\aO a M H s u/\1+gX s<=iy l
 | .nil,us,h=>by
  unfold aT at h;subst h;exact#[IO,λi u e=>by simp at e]
 | .cons e l,us,h=>by
  unfold aT at h;obtain⟨u,vs,rfl,h1,h2⟩:=h;obtain⟨n,g⟩:=aT.get h2;rw[sl,iy];refine#[Hr (· +1) n,λi v hi=>?_];cases i with
  |zero=>cases hi;exact#[e,IO,h1,Iq _ _]
  |succ i=>
   obtain⟨x,q1,q2,q3⟩:=g i v hi;exact#[x,q1,q2,GX q3 (ID _ _)]
theorem rT: ∀l:Im,1<=iy l
 | .nil=>by rw[iy];exact GU _
 | .cons s l=>by rw[iy];exact GX (rT l) (ID _ _)
theorem xC (s:v9):4<=gX s:=by
 cases s<;>rw[gX]
 .rename_i e;have:=eE e;lia
 .rename_i x lo hi l;have:=eE lo;have:=Iq (3+fr lo) (max (3+fr hi) (1+iy l));lia
 .rename_i c x y;have:=eE c;have:=Iq (3+fr c) (max (2+iy x) (2+iy y));lia
 .lia
 .lia
theorem zj (b:HH):V.str (mT b)=oZ b:=by cases b<;>rfl
section
variable {k:GJ}
theorem akH (T:Txt K mg a) (QI:o8 P w K mg base a k):T.Vv.U P w base (k+2) (BD a k):=by
 refine T.Vv.F.ok ajG [03] [02];obtain⟨word,o,v,M,rfl,ho,hf,hl,hQ⟩:=h;refine#[_,(ai (bz (fB (ZE (pv 1))) (ak (aB (bj ac))) aQ)
   (ak (aB (aZ bC (bj (aa aK (aa (pv 0) (aa aK ac)))) (aq QI [05] (by rfl) T.Tv.c aC (aa (pv 1) ac)))))),?_]
 cases o with
 |none=>
  cases ho;refine#[_,IO,eR (Hy IO) ?_];exact dF (ps:=[]) (jn aE IO (by show 0<=GV;decide)) hQ
 |some e=>
  obtain⟨C,q,dx,fs,hC,rfl,z,_⟩:=rJ ho;refine#[_,IO,fh (Ha (by intro z;cases z)) ?_];have hl:(tx " "::tx word::tx " "::xF e).length<=GV:=hl;rw[Gp,Gp,Gp] at hl;exact dF (bW (jn (ps:=[tx " ",tx word,tx " "]) (ao cj (ao (bE IO) (ao cj aE))) IO (by show 3<=GV;decide)) (λH1 s1=>eM ho s1 hf (by lia) (ao (bE IO) aE)) (by show 3+_<=_;lia)) hQ
theorem mU {M:Gx->Prop}{H H':Hp}{E:XK}{ta:TA}{σ:L2.St}{o:GF Gz}{v:V}{word:String}(ho:fw a M H o v) (s:aI H H') (hf:wz o<=k) (hl:(vR word o).length<=GV) (h:Dy ta σ H' [.str (tx word),v]):Fr (iS (BD a k) [] E ta) σ H' (vR word o):=dA h λQ q=>#[word,o,v,M,IO,fw.Ia (aI.keeps s).two o ho,hf,hl,q]
theorem cO (w:String) (e:Gz):(tw w e).length=3+(xF e).length:=by
 unfold tw;rw[Gp,Gp,Gp];lia
theorem DW {x y n:GJ}(h:max x y<=n):x<=n/\y<=n:=#[GX (Iq x y) h,GX (ID x y) h]
theorem akI (T:Txt K mg a) (WQ:T.Vv.U P w base (k+2) (BD a k)):T.d_2.U P w base (k+3) (aa9 a λs=>gX s<=k+4/\ ∃b z q p t m,s=Jo.step b z q p t m):=by
 refine T.d_2.F.ok afM [03] [02];obtain⟨s,n,v,M,rfl,hs,⟨hf,X7,z,q,p,t,m,rfl⟩,hl,hQ⟩:=h;unfold aO at hs;obtain⟨u1,u2,u3,u4,u5,⟨x,dx,rfl,_,zx⟩,h1,h2,h3,h4,h5⟩:=hs;rw[gX] at hf;obtain⟨f1,f'⟩:=DW (n:=k) (show max (fr z) (max (fr q) (max (fr p) (max (wz t) (fr m))))<=k by lia);obtain⟨f2,f'⟩:=DW f';obtain⟨f3,f'⟩:=DW f';obtain⟨f4,f5⟩:=DW f';rw[fj] at hl hQ;simp only[Gp,Gq,GK,cO] at hl;refine#[_,(ai (b4 (i:=1) afM.nd IO (HD IO) (aZ bC (aZ bC (bj (aa [07] ac)) (aq WQ [05] (by rfl) T.Vv.c aC (aa aK (aa [07] ac)))) (aq WQ [05] (by rfl) T.Vv.c aC (aa aK (aa [07] ac)))))
   (ai (a6 (df G6 Hw Hx bX (pv 1) (aa (aq WQ [05] (by rfl) T.Vv.c aC (aa aK (aa [07] ac))) ac)))
   (ai (a6 (df G6 Hw Hx bX (pv 1) (aa (aq WQ [05] (by rfl) T.Vv.c aC (aa aK (aa [07] ac))) ac)))
   (ai (a6 (df G6 Hw Hx bX (pv 1) (aa (aq WQ [05] (by rfl) T.Vv.c aC (aa aK (aa [07] ac))) ac)))
   (ak (aB (aZ bC (pv 1) (bj (aa aK ac))))))))),?_]
 refine iI (bW (bW (gF (p:=mT X7) (ao (cM (bE IO) zx T.Lj T.Od (by rw[zj];rfl)) aE)) (λH1 s1=>mU (word:="zone") (o:=GM z) h1 s1 f1 (by simp only[gv,Gq,Gp,GK,cO];lia) (ao cj (ao (cM (bE IO) (s1 _ _ zx) T.Lj T.Oe IO) aE))) (by simp only[gv,Gq,Gp,GK,cO];lia))
  (λH1 s1=>mU (word:="quarter") (o:=GM q) h2 s1 f2 (by simp only[gv,Gq,Gp,GK,cO];lia) (ao cj (ao (cM (bE IO) (s1 _ _ zx) T.Lj T.MG IO) aE))) (by simp only[gv,Gq,Gp,GK,cO];lia)) λH1 L g1=>?_
 refine fM g1 IO (mU (word:="price") (o:=GM p) h3 g1.sm f3 (by simp only[gv,Gq,Gp,GK,cO];lia) (ao cj (ao (cM (bE IO) (g1.sm _ _ zx) T.Lj T.NC IO) aE))) (by simp only[gv,Gq,Gp,GK,cO];lia) λH2 g2=>?_;refine fM g2 IO (mU (word:="to") (o:=t) h4 g2.sm f4 (by lia) (ao cj (ao (cM (bE IO) (g2.sm _ _ zx) T.Lj T.Mh IO) aE))) (by simp only[gv,Gq,Gp,GK,cO];lia) λH3 g3=>?_;refine fM g3 IO (mU (word:="amount") (o:=GM m) h5 g3.sm f5 (by simp only[gv,Gq,Gp,GK,cO];lia) (ao cj (ao (cM (bE IO) (g3.sm _ _ zx) T.Lj T.M0 IO) aE))) (by simp only[gv,Gq,Gp,GK,cO];lia) λH4 g4=>?_;exact dF (Fr.eq (rC (qs:=[tx ";"]) (bE IO) g4.at_ (gF (ao cj aE)) (by simp only[gv,Gq,Gp,GK,cO];lia)) (by simp only[gv,Hf,Jk,JX])) (hQ.up g4.sm)
end
theorem _root_.L2.aI.k2 {M:Gx->Prop}{H H':Hp}(s:aI H H'):eu M M H H':=(aI.keeps s).two
inductive ahm (a:bJ) (k:GJ) (vs:Gm V) (H:Hp) (Q:VK) (_E:XK):Prop
 |mk {o:GF Gz}{v:V}{M:Gx->Prop}(_:vs=[v]) (_:iZ M H) (_:fw a M H o v) (_: ∀e,o=GM e->GE e/\mS (xF e)<=300000/\fr e+2<=k) (_: ∀H' u,aI H H'->fw a M H' (o.map HI) u->Q u H'):ahm a k vs H Q _E
theorem Yk (T:Txt K mg a) (S:f8 P w K mg base a k):T.Wn.U P w base (k+1) (ahm a k):=by
 refine pT T.Wn.F afR [03] [02];intro X D;obtain @⟨o,v,M,rfl,hM,ho,ok,q⟩:=h;cases o with
 |none=>
  cases ho;exact aD #[_,dL (bg fW (pv 0) mw (a0 _)) mw eF,IO,_,IO,eR (Hy IO) (q H .Kk aJ IO)]
 |some e=>
  have ho:ag a M H e v:=ho;obtain⟨g,m,f⟩:=ok e IO
  have nn:v≠ .Kk:=λz=>by obtain⟨⟨_,_,y,_⟩,_⟩:=sf ho;rw[z] at y;cases y
  refine aD #[_,dL (bg fW (pv 0) mw (a0 _)) mw eF,IO,_,IO,fh (Ha nn) ?_];exact cq (aX (bV 0 (ca (.mk IO hM #[ho,g,m,f] trivial λH' u s e=>q H' u s e)))) S hr T.Y9.c aC
structure RdS (a:bJ) (k:GJ) (M:Gx->Prop) (H:Hp) (s:v9) (v:V):Prop where
 at_:aO a M H s v
 ok:GS s
 ms: ∃n,mS (fj n s)<=300000
 fr:gX s+2<=k
inductive Fx (a:bJ) (k:GJ) (ok:v9->Prop) (vs:Gm V) (H:Hp) (Q:VK) (_E:XK):Prop
 |mk {s:v9}{v:V}{M:Gx->Prop}(_:vs=[v]) (_:iZ M H) (_:RdS a k M H s v) (_:ok s) (_: ∀H' u,aI H H'->aO a M H' (Ku s) u->Q u H'):Fx a k ok vs H Q _E
theorem akJ (T:Txt K mg a) (S:f8 P w K mg base a k):T.d_6.U P w base (k+2) (Fx a (k+3) λs=> ∃b z q p t m,s= .step b z q p t m):=by
 refine pT T.d_6.F Gb [03] [02];intro X D;obtain @⟨_,v,M,rfl,hM,⟨ra,rg,⟨n,rm⟩,rf⟩,⟨b,z,qu,p,top,am,rfl⟩,q⟩:=h;unfold aO at ra;obtain⟨u1,u2,u3,u4,u5,i,e1,e2,e3,e4,e5⟩:=ra;rw[GS] at rg;rw[gX] at rf;rw[fj,ae,au,au,au,au,au,dU IO,dU IO,dU IO,dU IO] at rm;have:=eE z;have hk:cy k X.A:=hr.mono (by lia);have r1:qQ a k M H z u1:=#[e1,rg.1,by lia,by lia];have r2:qQ a k M H qu u2:=#[e2,rg.2.1,by lia,by lia];have r3:qQ a k M H p u3:=#[e3,rg.2.2.1,by lia,by lia];have r5:qQ a k M H am u5:=#[e5,rg.2.2.2.2,by lia,by lia];have r4: ∀e,top=GM e->GE e/\mS (xF e)<=300000/\fr e+2<=k:=λe h=>by
  rw[h] at rg rm rf;have rm':_+mS (tw "to" e)<=_:=GX (GJ.add_le_add_right (HB _) _) (show 0+mS (vR "to" (GM e))<=300000 by lia);rw[dU IO] at rm';have:wz (GM e)=fr e:=rfl;exact#[rg.2.2.2.1,by lia,by lia]
 rw[Ku] at q;refine aW 1 Gb.nd (eA T S hk i aJ T.Lj T.Oe IO hM r1 IO λH1 v1 s1 _ f1=>?_);refine aW 2 Gb.nd (eA T S hk i s1 T.Lj T.MG IO hM r2 IO λH2 v2 s2 t2 f2=>?_);refine aW 3 Gb.nd (eA T S hk i s2 T.Lj T.NC IO hM r3 IO λH3 v3 s3 t3 f3=>?_);refine aD (hZ (xE T) [05] (aX (cB (bV 0 (i.Ll s3 T.Lj T.Od IO ?_)) IO)));refine aX (bV 1 (aX (bV 2 (aX (bV 3 ?_)))));refine aX (cq (aX (cB (bV 0 (i.Ll s3 T.Lj T.Mh IO (ca (.mk IO (hM.up s3) (fw.Ia s3.k2 _ e4) r4 λH4 v4 s4 f4=>?_)))) IO)) (Yk T S) [05] T.Wn.c aC);refine aX (eA T S hk i (s3.trans s4) T.Lj T.M0 IO hM r5 IO λH5 v5 s5 t5 f5=>ca #[IO,λy dy H6 hy s6 e6=>q H6 _ (s5.trans s6) ?_]);have s36:=(s4.trans t5).trans s6;unfold aO;exact#[v1,v2,v3,v4,v5,#[y,dy,IO,λm=>hM.up s5 y m hy,e6],ag.Ia ((t2.trans t3).trans s36).k2 _ f1,ag.Ia (t3.trans s36).k2 _ f2,ag.Ia s36.k2 _ f3,fw.Ia (t5.trans s6).k2 _ f4,ag.Ia s6.k2 _ f5]
theorem akK (T:Txt K mg a) (S:f8 P w K mg base a k):T.d_7.U P w base (k+2) (Fx a (k+3) λs=> ∃m b z p x q u g,s= .block m b z p x q u g):=by
 refine pT T.d_7.F FT [03] [02];intro X D;obtain @⟨_,v,M,rfl,hM,⟨ra,rg,⟨n,rm⟩,rf⟩,⟨nm,b,z,p,x,am,un,gr,rfl⟩,q⟩:=h;unfold aO at ra;obtain⟨u1,u2,u3,u4,i,e1,e2,⟨u5,i3,e3⟩,e4⟩:=ra;rw[GS] at rg;rw[gX] at rf;rw[fj,ae,au,ae,au,au,dU IO,dU IO,ae,ae,ae,au,au,au] at rm;have:=eE z;have hk:cy k X.A:=hr.mono (by lia);have r1:qQ a k M H z u1:=#[e1,rg.2.1,by lia,by lia];have r2:qQ a k M H p u2:=#[e2,rg.2.2.1,by lia,by lia];have r3:qQ a k M H am u5:=#[e3,rg.2.2.2.2.1,by lia,by lia];have r4: ∀e,gr=GM e->GE e/\mS (xF e)<=300000/\fr e+2<=k:=λe h=>by
  rw[h] at rg rm rf;have rm':mS (tw "group" e)<=300000:=show mS (vR "group" (GM e))<=300000 by lia
  rw[dU IO] at rm';have:wz (GM e)=fr e:=rfl;exact#[rg.2.2.2.2.2.2,by lia,by lia]
 rw[Ku] at q;refine aW 1 FT.nd (eA T S hk i aJ T.JY T.NF IO hM r1 IO λH1 v1 s1 _ f1=>?_);refine aW 2 FT.nd (eA T S hk i s1 T.JY T.M5 IO hM r2 IO λH2 v2 s2 t2 f2=>?_);have fa: ∀ {H':Hp}{Q:VK},aI H H'->Q u3 H'->pQ X.K "amounts" Q v H':=λs q=>i.Ll s T.JY T.Mi IO q
 refine aW 3 FT.nd (hZ (oW T) [05] (aX (cB (cB (bV 0 (fa s2 (i3.Ll s2 T.M3 T.MH IO ?_))) IO) IO)));refine aX (cq (aX (cB (cB (bV 0 (fa s2 (i3.Ll s2 T.M3 T.M4 IO (ca (.mk IO (hM.up s2) (r3.up s2) trivial λH3 v3 s3 f3=>ca #[IO,λy dy H4 hy s4 e4'=>?_]))))) IO) IO)) S hk T.Y9.c aC);have Yl:=s2.trans (s3.trans s4);refine aD (hZ (ur T) [05] (aX (cB (bV 0 (i.Ll Yl T.JY T.Mp IO (aX (cB (bV 0 (i.Ll Yl T.JY T.ND IO ?_)) IO)))) IO)));refine aX (bV 1 (aX (bV 2 (aX (bV 3 (aX (cB (bV 0 (i.Ll Yl T.JY T.L4 IO ?_)) IO)))))));refine aX (cq (aX (cB (bV 0 (i.Ll Yl T.JY T.M6 IO (ca (.mk IO (hM.up Yl) (fw.Ia Yl.k2 _ e4) r4 λH5 v5 s5 f5=>ca #[IO,λx dx H6 hx s6 e6=>q H6 _ ((Yl.trans s5).trans s6) ?_])))) IO)) (Yk T S) [05] T.Wn.c aC);have s46:=s5.trans s6;have s26:=(s3.trans s4).trans s46;unfold aO;exact#[v1,v2, .ref y,v5,#[x,dx,IO,λm=>hM.up (Yl.trans s5) x m hx,e6],ag.Ia (t2.trans s26).k2 _ f1,ag.Ia s26.k2 _ f2,#[v3,#[y,dy,IO,λm=>hM.up (s2.trans s3) y m hy,s46 _ _ e4'],ag.Ia (s4.trans s46).k2 _ f3],fw.Ia s6.k2 _ f5]
section
variable {M:Gx->Prop}{H H':Hp}
theorem tz: ∀ {l:Im}{us:Gm V},aT a M H l us->Paired (λu s=>aO a M H s u) us (sl l)
 | .nil,us,h=>by unfold aT at h;rw[h];exact .nil
 | .cons e l,us,h=>by
  unfold aT at h;obtain⟨u,vs,rfl,h1,h2⟩:=h;exact .cons h1 (tz h2)
theorem qt: ∀ {l:Im}{us:Gm V},Paired (λu s=>aO a M H s u) us ((sl l).map Ku)->aT a M H (Mn l) us
 | .nil,_, .nil=>by rw[Mn];unfold aT;rfl
 | .cons e l,_, .cons h t=>by rw[Mn];unfold aT;exact#[_,_,IO,h,qt t]
theorem Ym (n:GJ): ∀ {l:Im},qN l->(sl l).length<=mS (iX n l)/\ ∀s∈sl l,GS s/\1+gX s<=iy l/\mS (fj n s)<=mS (iX n l)
 | .nil,_=>#[HB _,λ_ z=>nomatch z]
 | .cons s l,h=>by
  rw[qN] at h;obtain⟨h1,h2⟩:=Ym n h.2;rw[iX,ae,au,ae,iy];refine#[by show(sl l).length+1<=_;lia,Iv.mpr #[#[h.1,by lia,by lia],λx hx=>?_]];obtain⟨g1,g2,g3⟩:=h2 x hx;exact#[g1,by lia,by lia]
structure RdL (a:bJ) (k:GJ) (M:Gx->Prop) (H:Hp) (l:Im) (us:Gm V) (v:V):Prop where
 at_:bM M H us v
 all:aT a M H l us
 ok:qN l
 ms: ∃n,mS (iX n l)<=300000
 fr:iy l+2<=k
theorem RdL.up {l:Im}{us:Gm V}{v:V}(r:RdL a k M H l us v) (h:aI H H'):RdL a k M H' l us v:=#[r.at_.keep h.k2,aT.Ia h.k2 l r.all,r.ok,r.ms,r.fr]
end
inductive ahn (a:bJ) (k:GJ) (vs:Gm V) (H:Hp) (Q:VK) (_E:XK):Prop
 |mk {l:Im}{us:Gm V}{v:V}{M:Gx->Prop}(_:vs=[v]) (_:iZ M H) (_:RdL a k M H l us v) (_: ∀H' Qr u,aI H H'->bM M H' Qr u->aT a M H' (Mn l) Qr->Q u H'):ahn a k vs H Q _E
abbrev Fl (P:Hm) (w:HS) (K:Gu) (mg:G0->GF Gy) (base:Ij) (a:bJ) (k:GJ):Prop:=b8 P w K mg base nF k a.f_I a.adE ["statement"] (Fx a k λ_=>True)
abbrev zZ (P:Hm) (w:HS) (K:Gu) (mg:G0->GF Gy) (base:Ij) (a:bJ) (k:GJ):Prop:=b8 P w K mg base nF k a.f_o a.adD ["statements"] (ahn a k)
theorem sR {X:Cx}{a:bJ}{σ:L2.St}{M:Gx->Prop}{B H:Hp}{Q:VK}{l:Im}{us:Gm V}{u:V}(T:Txt X.K X.mg a) (S:zZ X.prog X.w X.K X.mg X.base a k) (hr:cy k X.A) (i:bQ M B C fs v) (s:aI B H) (cl:i8 X.K C) (no:aH X.K C f) (hl:fs.lookup f=GM u) (hM:iZ M B) (r:RdL a k M B l us u) (hv:σ[0]?=GM (GM v)) (q: ∀H' Qr u',aI B H'->aI H H'->bM M H' Qr u'->aT a M H' (Mn l) Qr->Q u' H')
  (n0:X.N[0]?=GM y:=by rfl) (v0:tq X.env.scope y:=by exact HD IO) (hd:(y == ("__debug__":G0))=IN:=by decide) (Rx:(y == ("__classdict__":G0))=IN:=by decide) (hg:Gl X "simpler_statements":=by rfl) (hb:JK (.Name y p2) f X.env (eval (.Name y p2) X.env)=eval (.Name y p2) X.env:=by rfl) (he:Hb [.Attribute (.Name y p2) f p3] X.env=[(IN,eval (.Attribute (.Name y p2) f p3) X.env)]:=by rfl) (MS:(J6 p4 (Hb [] X.env)).any (·.1)=IN:=by rfl):
  Pe X (.Call (.Name "simpler_statements" p1) [.Attribute (.Name y p2) f p3] [] p4) σ H Q:=
 cq (aX (cB (bV 0 (gY (i.Ll s cl no hl (ca (.mk IO (hM.up s) (r.up s) λH' Qr u' s' l' e'=>q H' Qr u' (s.trans s') s' l' e'))) hv) n0 v0 hd Rx) hb) he) S hr T.d_o.c aC hg [01] he MS
def akL:v9->GJ
 | .bind _ _=>7
 | .loop _ _ _ _=>8
 | .cond _ _ _=>9
 | .step _ _ _ _ _ _=>10
 | .block _ _ _ _ _ _ _ _=>11
theorem aba {a:bJ}{M:Gx->Prop}{H:Hp}{s:v9}{v:V}(h:aO a M H s v):Nd1 a M H (akL s) v:=by
 cases s<;>unfold aO at h
 .obtain⟨_,h,_⟩:=h;exact#[h,IO]
 .obtain⟨_,_,_,_,h,_⟩:=h;exact#[h,IO]
 .obtain⟨_,_,_,_,_,h,_⟩:=h;exact#[h,IO]
 .obtain⟨_,_,_,_,_,h,_⟩:=h;exact#[h,IO]
 .obtain⟨_,_,_,_,h,_⟩:=h;exact#[h,IO]
theorem abb (T:Txt K mg a) (S:Fl P w K mg base a k):zZ P w K mg base a (k+1):=by
 refine pT T.d_o.F Fd [03] [02];intro X D;obtain @⟨l,us,v,M,rfl,hM,⟨⟨L,rfl,nL,hL⟩,ra,rg,⟨n,rm⟩,rf⟩,q⟩:=h;have pr:=tz ra;obtain⟨c1,c2⟩:=Ym n rg;refine aD (BV (y:="statement") (i:=1) Fd.nd (pv 0) (eB (by show mX ["statements","statement"] (ah s_o) _ [("statement",1)]=Ix;decide+kernel)) (λ_ _ _ _ _=>aq S hr (by rfl) T.d_I.c aC (aa (pv 1) ac)) (tI (F:=λM H b v=>aO a M H b v) (g:=Ku) (l:=sl l) (λk h=>aO.Ia k _ h) hL (cn pr) (by lia) hM [08] (λj x o H' M1 hx ho s1 k2 m1 Q q=>?_) (λH1 D1 U9 s1 nD1 SA WN=>q H1 U9 _ s1 #[D1,IO,nD1,SA] (qt WN)) λ_=>rfl) (λ_ _ _ _ _=>cY (i:=1) Fd.nd IO (HD IO)));obtain⟨o',QD,h⟩:=L2.iE pr hx;rw[ho] at QD;cases QD;obtain⟨g,f,m⟩:=c2 o (Iu ho);exact .mk IO m1 #[aO.Ia k2 _ h,g,#[n,by lia],by lia] trivial q
theorem akM (T:Txt K mg a) (I:jQ K a) (S:f8 P w K mg base a (k+2)) (S2:f8 P w K mg base a k) (L:zZ P w K mg base a (k+2)):Fl P w K mg base a (k+3):=by
 refine pT T.d_I.F E6 [03] [02];intro X D;obtain @⟨s,v,M,rfl,hM,r,_,q⟩:=h;have nd:=aba r.at_;have rf:=r.fr;have:=xC s;have h2:cy 2 X.A:=hr.mono (by lia);refine aY (gV I T.HN nd aJ (j:=7) IO T.RA (pv 0) [08] (eU (λz=>?_) λz7=>?_))
 .obtain⟨x,e,rfl⟩: ∃x e,s= .bind x e:=by cases s<;>first|exact#[_,_,IO]|cases z
  obtain⟨ra,rg,⟨n,rm⟩,rf⟩:=r;unfold aO at ra;obtain⟨u,i,ex⟩:=ra;rw[GS] at rg;rw[gX] at rf;rw[fj,ae,ae,ae,au] at rm;rw[Ku] at q;refine aD (hZ (Cz T) h2 (aX (cB (bV 0 (i.Ll aJ T.Pd T.Nu IO (aX (eA T S hr i aJ T.Pd T.Pf IO hM #[ex,rg.2,by lia,by lia] IO λH1 v1 s1 _ f1=>ca #[IO,λy dy H2 hy s2 e2=>q H2 _ (s1.trans s2) ?_])))) IO)));unfold aO;exact#[v1,#[y,dy,IO,λm=>hM.up s1 y m hy,e2],ag.Ia s2.k2 _ f1]
 refine aY (gV I T.HN nd aJ (j:=8) IO T.Ts (pv 0) [08] (eU (λz=>?_) λz8=>?_))
 .obtain⟨x,lo,hi,l,rfl⟩: ∃x lo hi l,s= .loop x lo hi l:=by cases s<;>first|exact#[_,_,_,_,IO]|cases z
  obtain⟨ra,rg,⟨n,rm⟩,rf⟩:=r;unfold aO at ra;obtain⟨u1,u2,q',us,i,e1,e2,e3,e4⟩:=ra;rw[GS] at rg;rw[gX] at rf;rw[fj,ae,ae,ae,au,ae,au,gK] at rm;rw[Ku] at q;refine aW 1 E6.nd (sR T L hr i aJ T.OI T.L3 IO hM #[e3,e4,rg.2.2.2,#[n+1,by lia],by lia] IO λH1 U9 v1 s1 _ l1 f1=>?_);refine aD (hZ (Dp T) h2 (aX (cB (bV 0 (i.Ll s1 T.OI T.OJ IO (aX (eA T S hr i s1 T.OI T.Oc IO hM #[e1,rg.2.1,by lia,by lia] IO λH2 v2 s2 t2 f2=>aX (eA T S hr i s2 T.OI T.OK IO hM #[e2,rg.2.2.1,by lia,by lia] IO λH3 v3 s3 t3 f3=>aX (bV 1 (ca #[IO,λy dy H4 hy s4 e4=>q H4 _ (s3.trans s4) ?_]))))))) IO)));unfold aO;have k:=((t2.trans t3).trans s4).k2 (M:=M);exact#[v2,v3,v1,U9,#[y,dy,IO,λm=>hM.up s3 y m hy,e4],ag.Ia (t3.trans s4).k2 _ f2,ag.Ia s4.k2 _ f3,l1.keep k,aT.Ia k _ f1]
 refine aY (gV I T.HN nd aJ (j:=9) IO T.Vr (pv 0) [08] (eU (λz=>?_) λz9=>?_))
 .obtain⟨c,x,y,rfl⟩: ∃c x y,s= .cond c x y:=by cases s<;>first|exact#[_,_,_,IO]|cases z
  obtain⟨ra,rg,⟨n,rm⟩,rf⟩:=r;unfold aO at ra;obtain⟨u,q',us,g',ws,i,e1,e2,e3,e4,e5⟩:=ra;rw[GS] at rg;rw[gX] at rf;have rm':mS (xF c)+mS (iX (n+1) x)+mS (iX (n+1) y)<=300000:=by
   cases y with
   |nil=>rw[fj,ae,au,gK] at rm;rw[iX,cx];lia
   |cons s l=>
    rw[fj,ae,au,au,gK,ae,gK] at rm
    .lia
    .intro z;cases z
  rw[Ku] at q;refine aW 2 E6.nd (sR T L hr i aJ T.PQ T.Mg IO hM #[e2,e3,rg.2.1,#[n+1,by lia],by lia] IO λH1 U9 v1 s1 _ l1 f1=>?_);refine aD (hZ (XG T) h2 (aX (eA T S hr i s1 T.PQ T.MF IO hM #[e1,rg.1,by lia,by lia] IO λH2 v2 s2 t2 f2=>aX (bV 2 (aX (sR T L hr i s2 T.PQ T.Km IO hM #[e4,e5,rg.2.2,#[n+1,by lia],by lia] IO λH3 us3 v3 s3 t3 l3 f3=>ca #[IO,λy dy H4 hy s4 e4=>q H4 _ (s3.trans s4) ?_]))))));unfold aO;have k:=((t2.trans t3).trans s4).k2 (M:=M);exact#[v2,v1,U9,v3,us3,#[y,dy,IO,λm=>hM.up s3 y m hy,e4],ag.Ia (t3.trans s4).k2 _ f2,l1.keep k,aT.Ia k _ f1,l3.keep s4.k2,aT.Ia s4.k2 _ f3]
 refine aY (gV I T.HN nd aJ (j:=10) IO T.RB (pv 0) [08] (eU (λz=>?_) λz10=>?_))
 .exact aD (cq (aX (bV 0 (ca (.mk IO hM r (by cases s<;>first|exact#[_,_,_,_,_,_,IO]|cases z) q)))) (akJ T S2) hr T.d_6.c aC)
 .exact aD (cq (aX (bV 0 (ca (.mk IO hM r (by cases s<;>first|exact#[_,_,_,_,_,_,_,_,IO]|exact GW IO z7|exact GW IO z8|exact GW IO z9|exact GW IO z10) q)))) (akK T S2) hr T.d_7.c aC)
theorem wA (T:Txt K mg a) (hk:k<=4):Fl P w K mg base a (k+1):=by
 refine pT T.d_I.F E6 [03] [02];intro X D;obtain @⟨s,v,M,rfl,hM,r,_,q⟩:=h;have:=r.fr;have:=xC s;exact GW hk (by lia)
theorem abc (T:Txt K mg a):zZ P w K mg base a 1:=by
 refine pT T.d_o.F Fd [03] [02];intro X D;obtain @⟨l,us,v,M,rfl,hM,r,q⟩:=h;have:=r.fr;have:=rT l;lia
theorem pD (T:Txt K mg a) (I:jQ K a) (kF:vU P w K a.HM cv): ∀k,Fl P w K mg base a (k+1)/\zZ P w K mg base a (k+1)
 |0=>#[wA T (by decide),abc T]
 |1=>#[wA T (by decide),abb T (pD T I kF 0).1]
 |2=>#[wA T (by decide),abb T (pD T I kF 1).1]
 |k+3=>#[akM T I (ny T I kF (k+2)) (ny T I kF k) (pD T I kF (k+2)).2,abb T (pD T I kF (k+2)).1]
section
variable {k:GJ}
abbrev akN (P:Hm) (w:HS) (K:Gu) (mg:G0->GF Gy) (base:Ij) (a:bJ) (k:GJ):Prop:=b8 P w K mg base nF (k+2) a.f_e a.adz ["word","exp"] (BD a k)
abbrev xc (P:Hm) (w:HS) (K:Gu) (mg:G0->GF Gy) (base:Ij) (a:bJ) (k:GJ):Prop:=b8 P w K mg base nF k a.f_j a.adx ["statements","depth"] (Gh a k)
theorem wB:2<=GV:=by decide
theorem nW:3<=GV:=by decide
theorem akO (T:Txt K mg a) (QI:o8 P w K mg base a k) (WQ:akN P w K mg base a k):T.d_3.U P w base (k+3) (aa9 a λs=>gX s<=k+4/\ ∃m b z p x q u g,s=Jo.block m b z p x q u g):=by
 refine T.d_3.F.ok afN [03] [02];obtain⟨s,n,v,M,rfl,hs,⟨hf,m,X7,z,p,x,q,u,g,rfl⟩,hl,hQ⟩:=h;unfold aO at hs;obtain⟨u1,u2,u3,u4,⟨x1,dx,rfl,_,zx⟩,h1,h2,⟨u5,⟨y1,dy,rfl,_,zy⟩,h3⟩,h4⟩:=hs;rw[gX] at hf;obtain⟨f1,f'⟩:=DW (n:=k) (show max (fr z) (max (fr p) (max (fr q) (wz g)))<=k by lia);obtain⟨f2,f'⟩:=DW f';obtain⟨f3,f4⟩:=DW f';rw[fj] at hl hQ;simp only[Gp,Gq,GK,cO] at hl;refine#[_,(ai (b4 (i:=1) afN.nd IO (HD IO) (bj (aa aK ac)))
   (ai (kI (bz (fB (rL [07])) (ak (a6 (df G6 Hw Hx bX (pv 1) (aa (bj (aa [07] (aa aK ac))) ac)))) aQ))
   (ai (a6 (df G6 Ik Il di (pv 1) (aa [07] ac)))
   (ai (a6 (df G6 Hw Hx bX (pv 1) (aa (aq WQ [05] (by rfl) T.Vv.c aC (aa aK (aa [07] ac))) ac)))
   (ai (a6 (df G6 Hw Hx bX (pv 1) (aa (aq WQ [05] (by rfl) T.Vv.c aC (aa aK (aa [07] ac))) ac)))
   (ai (a6 (df G6 Hw Hx bX (pv 1) (aa (bj (aa aK (aa (az [07] IO) (aa aK ac)))) ac)))
   (ai (a6 (df G6 Hw Hx bX (pv 1) (aa (aq QI [05] (by rfl) T.Tv.c aC (aa (az [07] IO) ac)) ac)))
   (ai (kI (bz (fB (rL [07])) (ak (a6 (df G6 Hw Hx bX (pv 1) (aa (bj (aa aK (aa [07] ac))) ac)))) aQ))
   (ai (a6 (df G6 Hw Hx bX (pv 1) (aa (aq WQ [05] (by rfl) T.Vv.c aC (aa aK (aa [07] ac))) ac)))
   (ak (aB (aZ bC (pv 1) (bj (aa aK ac)))))))))))))),?_]
 refine iI (gF (p:=tx "block ") (ao cj aE)) λH1 L g1=>?_;refine oh (λσ' H'=>σ'=[GM (.ref x1),GM (.ref L)]/\fi H L H' (tx "block "::nmF m)) ?_ ?_
 .refine(cM (bE IO) (g1.sm _ _ zx) T.JY T.Mp rfl:Ev (m6 K (d7 0) "name") _ H1 (ja m)) _ #[_,IO,?_]
  cases m with
  |none=>exact fh IO #[IO,g1]
  |some y=>exact eR IO (kc g1 IO (jn (ps:=[sb y,tx " "]) (ao (cM (bE IO) (g1.sm _ _ zx) T.JY T.Mp IO) (ao cj aE)) IO (wB)) (by simp only[gv,Gq,Gp,GK,cO];unfold GV;lia) λH2 g2=>#[IO,g2])
 rintro σ' H2 ⟨rfl,g2⟩;refine lE (p:=mT X7) g2 IO (cM (bE IO) (g2.sm _ _ zx) T.JY T.ND (by rw[zj];rfl)) (by simp only[gv,Gq,Gp,GK,cO];lia) λH3 g3=>?_;refine fM g3 IO (mU (word:="zone") (o:=GM z) h1 g3.sm f1 (by simp only[gv,Gq,Gp,GK,cO];lia) (ao cj (ao (cM (bE IO) (g3.sm _ _ zx) T.JY T.NF IO) aE))) (by simp only[gv,Gq,Gp,GK,cO];lia) λH4 g4=>?_;refine fM g4 IO (mU (word:="price") (o:=GM p) h2 g4.sm f2 (by simp only[gv,Gq,Gp,GK,cO];lia) (ao cj (ao (cM (bE IO) (g4.sm _ _ zx) T.JY T.M5 IO) aE))) (by simp only[gv,Gq,Gp,GK,cO];lia) λH5 g5=>?_;have am: ∀ {σ:L2.St}{H':Hp},aI H H'->σ[0]?=GM (GM (.ref x1))->Ev (m6 K (d7 0) "amounts") σ H' (.ref y1):=λs h=>cM (bE h) (s _ _ zx) T.JY T.Mi IO
 refine fM g5 IO (jn (ps:=[tx " amount ",sb x,tx ": "]) (ao cj (ao (cM (am g5.sm IO) (g5.sm _ _ zy) T.M3 T.MH IO) (ao cj aE))) IO nW) (by simp only[gv,Gq,Gp,GK,cO];lia) λH6 g6=>?_;refine fM g6 IO (eM (e:=q) h3 g6.sm f3 (by lia) (ao (cM (am g6.sm IO) (g6.sm _ _ zy) T.M3 T.M4 IO) aE)) (by simp only[gv,Gq,Gp,GK,cO];lia) λH7 g7=>?_;generalize hp:(tx "block "::nmF m)++[mT X7]++vR "zone" (GM z)++vR "price" (GM p)++[tx " amount ",sb x,tx ": "]++xF q=ps at g7;have l7:ps.length=1+(nmF m).length+1+(3+(xF z).length)+(3+(xF p).length)+3+(xF q).length:=by
  rw[<-hp];simp only[gv,Gq,Gp,GK,cO];lia
 refine oh (λσ' H'=>σ'=[GM (.ref x1),GM (.ref L)]/\fi H L H' (ps++unF u)) ?_ ?_
 .refine(cM (bE IO) (g7.sm _ _ zx) T.JY T.L4 rfl:Ev (m6 K (d7 0) "under") _ H7 (ja u)) _ #[_,IO,?_]
  cases u with
  |none=>exact fh IO #[IO,by show fi H L H7 (_++[]);rw[GY];exact g7]
  |some y=>
   have:(unF (GM y)).length=2:=rfl;exact eR IO (kc g7 IO (jn (ps:=[tx " under ",sb y]) (ao cj (ao (cM (bE IO) (g7.sm _ _ zx) T.JY T.L4 IO) aE)) IO wB) (by rw[l7];simp only[gv,Gq,Gp,GK,cO];lia) λH2 g2=>#[IO,g2])
 rintro σ' H8 ⟨rfl,g8⟩;refine fM g8 IO (mU (word:="group") (o:=g) h4 g8.sm f4 (by lia) (ao cj (ao (cM (bE IO) (g8.sm _ _ zx) T.JY T.M6 IO) aE))) (by rw[Gq,l7];lia) λH9 g9=>?_;refine dF (Fr.eq (rC (qs:=[tx ";"]) (bE IO) g9.at_ (gF (ao cj aE)) (by rw[Gq,Gq,l7];simp only[gv,Gq,Gp,GK,cO];lia)) ?_) (hQ.up g9.sm);rw[<-hp];simp only[gv,Hf,Jk,JX]
end
section
variable {k:GJ}
theorem xH {M:Gx->Prop}{H H':Hp}{E:XK}{ta:TA}{σ:L2.St}{l:Im}{n:GJ}{v:V}{us:Gm V}(h1:bM M H us v) (h2:aT a M H l us) (s:aI H H') (hf:iy l<=k) (hn:n+iy l<=300) (hl:(qH n (iX (n+1) l)).length<=GV) (h:Dy ta σ H' [v, .int (n:GJ)]):Fr (iS (Gh a k) [] E ta) σ H' (qH n (iX (n+1) l)):=dA h λQ q=>#[l,n,v,us,M,IO,bM.keep (aI.keeps s).two h1,aT.Ia (aI.keeps s).two l h2,hf,hn,hl,q]
theorem akP (T:Txt K mg a) (QI:o8 P w K mg base a (k+1)) (G_j:xc P w K mg base a (k+2)):T.d_1.U P w base (k+3) (wE a (k+4) λs=> ∃c x y,s=Jo.cond c x y):=by
 refine T.d_1.F.ok afL [03] [02];obtain⟨s,n,v,M,rfl,hs,⟨c,x,y,rfl⟩,hf,hn,hl,hQ⟩:=h;unfold aO at hs;obtain⟨u,q,us,g,ws,⟨p,dx,rfl,_,z⟩,h1,⟨q',rfl,mq,zq⟩,h2,⟨g',rfl,mg',zg⟩,h3⟩:=hs;rw[gX] at hf hn;obtain⟨f1,f'⟩:=DW hf;obtain⟨f2,f3⟩:=DW f';have k1:=Iq (3+fr c) (max (2+iy x) (2+iy y));have k2:=ID (3+fr c) (max (2+iy x) (2+iy y));have k3:=Iq (2+iy x) (2+iy y);have k4:=ID (2+iy x) (2+iy y);have hl':1+(xF c).length+(qH n (iX (n+1) x)).length<=GV/\(y≠ .nil->1+(xF c).length+(qH n (iX (n+1) x)).length+1+(qH n (iX (n+1) y)).length<=GV):=by
  cases y with
  |nil=>
   rw[fj] at hl;simp only[Gp,Gq] at hl;exact#[by lia,λz=>GW IO z]
  |cons s l=>
   rw[fj] at hl
   .simp only[Gp,Gq] at hl
    exact#[by lia,λ_=>by lia]
   .intro z;cases z
 refine#[_,(ai (b4 (i:=2) afL.nd IO (HD IO) (aZ bC (aZ bC (bj (aa aK ac)) (aq QI [05] (by rfl) T.Tv.c aC (aa [07] ac))) (aq G_j [05] (by rfl) T.d_j.c aC (aa [07] (aa (pv 1) ac)))))
   (ai (kI (bz (bg qD (aR bL (by rfl) T.LR Jc (aa [07] ac)) aG (a0 _)) (ai (a6 (df G6 Ik Il di (pv 2) (aa aK ac)))
   (ak (a6 (df G6 Hw Hx bX (pv 2) (aa (aq G_j [05] (by rfl) T.d_j.c aC (aa [07] (aa (pv 1) ac))) ac))))) aQ))
   (ak (aB (pv 2))))),?_]
 refine iI (bW (bW (gF (p:=tx "if ") (ao cj aE)) (λH1 s1=>eM h1 s1 (by lia) (by lia) (ao (cM (bE IO) (s1 _ _ z) T.PQ T.MF IO) aE)) ?_)
  (λH1 s1=>xH #[q',IO,mq,zq] h2 s1 (by lia) (by lia) (by lia) (ao (cM (bE IO) (s1 _ _ z) T.PQ T.Mg IO) (ao (bE IO) aE))) ?_) λH1 L g1=>?_
 .simp only[Gq,Gp,GK];lia
 .simp only[Gq,Gp,GK];lia
 refine oh (λσ' H'=>σ'=[GM (.ref p),GM (.int n),GM (.ref L)]/\fi H L H' (fj n (.cond c x y))) ?_ ?_
 .refine(cM (bE IO) (g1.sm _ _ z) T.PQ T.Km rfl:Ev (m6 K (d7 0) "else_statements") _ H1 (.ref g')) _ #[g',ws,IO, .inl (cK.of (g1.sm _ _ zg)),_,_,IO,IO,_,IO,?_]
  cases y with
  |nil=>
   unfold aT at h3;subst h3;exact fh IO #[IO,by rw[fj];exact g1]
  |cons s l=>
   have wn:0<ws.length:=by
    unfold aT at h3;obtain⟨_,_,rfl,_⟩:=h3;exact GJ.succ_pos _
   have VY:=hl'.2 (by intro z;cases z)
   have l1:([tx "if "]++xF c++qH n (iX (n+1) x)).length=1+(xF c).length+(qH n (iX (n+1) x)).length:=by rw[Gq,Gq];rfl
   refine eR (Hy (by lia)) (lE g1 IO cj (by rw[l1];lia) λH2 g2=>?_);refine kc g2 IO (xH #[g',IO,mg',zg] h3 g2.sm (by lia) (by lia) (by lia) (ao (cM (bE IO) (g2.sm _ _ z) T.PQ T.Km IO) (ao (bE IO) aE))) (by rw[Gq,l1];have:[tx " else"].length=1:=rfl;lia) λH3 g3=>#[IO,?_];rw[fj]
   .have g3:=g3
    simp only[Hf,Jk,JX] at g3;exact g3
   .intro z;cases z
 .rintro σ' H2 ⟨rfl,g2⟩
  exact(g2.end_ hQ)
theorem akQ (T:Txt K mg a) (I:jQ K a) (hk:k<=890) (G_j:xc P w K mg base a (k+3)) (G2:xc P w K mg base a (k+2)):T.d_F.U P w base (k+4) (wE a (k+4) λ_=>True):=by
 have pl:=λn (h:n<=900)=>pc (P:=P) (w:=w) (base:=base) T I n h n (GU _)
 have QI:=CP T (pl (k+2) (by lia))
 have A1:=CP T (pl (k+1) (by lia))
 have A0:=CP T (pl k (by lia))
 have G_x:=ahi T A1
 have G_1:=akP T A1 G2
 have pt:=akH T A0
 have G_2:=akI T pt
 have G_3:=akO T A0 pt;refine T.d_F.F.ok ajF [03] [02];obtain⟨s,n,v,M,rfl,hs,_,hf,hn,hl,hQ⟩:=h;refine#[_,(ai (bz (bS (aR bZ (by rfl) T.HN Iz (aa (pv 0) (aa (dg (by rfl) T.RA) ac)))) (ak (aB (aZ bC (aZ bC (bj (aa aK (aa [07] (aa aK ac)))) (aq QI [05] (by rfl) T.Tv.c aC (aa [07] ac))) (bj (aa aK ac))))) aQ)
   (ai (bz (bS (aR bZ (by rfl) T.HN Iz (aa (pv 0) (aa (dg (by rfl) T.Ts) ac)))) (ak (aB (aZ bC (aZ bC (bj (aa aK ac)) (aq G_x [05] (by rfl) T.d_x.c aC (aa (pv 0) ac))) (aq G_j [05] (by rfl) T.d_j.c aC (aa [07] (aa (pv 1) ac)))))) aQ)
   (ai (bz (bS (aR bZ (by rfl) T.HN Iz (aa (pv 0) (aa (dg (by rfl) T.Vr) ac)))) (ak (aB (aq G_1 [05] (by rfl) T.d_1.c aC (aa (pv 0) (aa (pv 1) ac))))) aQ)
   (ai (bz (bS (aR bZ (by rfl) T.HN Iz (aa (pv 0) (aa (dg (by rfl) T.RB) ac)))) (ak (aB (aq G_2 [05] (by rfl) T.d_2.c aC (aa (pv 0) ac)))) aQ)
   (ak (aB (aq G_3 [05] (by rfl) T.d_3.c aC (aa (pv 0) ac)))))))),?_]
 cases s with
 |bind x e=>
  unfold aO at hs;obtain⟨u,⟨p,dx,rfl,_,z⟩,h1⟩:=hs;rw[gX] at hf;rw[fj] at hl hQ;simp only[Gp,Gq,GK] at hl;refine cE I (i:=7) (j:=7) IO IO z IO (λ_=>?_) (λh=>GW IO h);refine dF (Fr.eq (bW (bW (jn (ps:=[tx "let ",sb x,tx " = "]) (ao cj (ao (cM (bE IO) z T.Pd T.Nu IO) (ao cj aE))) IO nW) (λH1 s1=>eM h1 s1 (by lia) (by lia) (ao (cM (bE IO) (s1 _ _ z) T.Pd T.Pf IO) aE)) ?_) (λH1 s1=>gF (p:=tx ";") (ao cj aE)) ?_) (by simp only[EJ,Hf,Jk,JX])) hQ
  .simp only[Gq,Gp,GK];lia
  .simp only[Gq,Gp,GK];lia
 |loop x lo hi l=>
  unfold aO at hs;obtain⟨u1,u2,q,us,⟨p,dx,rfl,_,z⟩,h1,h2,h3,h4⟩:=hs;rw[gX] at hf hn;obtain⟨f1,f'⟩:=DW hf;obtain⟨f2,f3⟩:=DW f';have k2:=ID (3+fr lo) (max (3+fr hi) (1+iy l));have k3:=ID (3+fr hi) (1+iy l);rw[fj] at hl hQ;have lr:(EJ x lo hi).length=3+(xF lo).length+(xF hi).length:=by
   simp only[EJ,Gp,Gq];lia
  simp only[Gp,Gq,GK] at hl;refine cE I (i:=8) (j:=7) IO IO z IO (λh=>by cases h) (λ_=>?_);refine cE I (i:=8) (j:=8) IO IO z IO (λ_=>?_) (λh=>GW IO h);refine dF (Fr.eq (bW (bW (gF (p:=tx "for ") (ao cj aE)) (λH1 s1=>dA (ps:=EJ x lo hi) (ao (bE IO) aE) λQ1 q1=>#[x,lo,hi,p,_,_,_,u1,u2,M,IO,s1 _ _ z,T.OI,T.OJ,T.Oc,T.OK,IO,IO,IO,ag.keep (aI.keeps s1) _ h1,ag.keep (aI.keeps s1) _ h2,by lia,by lia,by lia,q1]) ?_)
   (λH1 s1=>xH h3 h4 s1 (by lia) (by lia) (by lia) (ao (cM (bE IO) (s1 _ _ z) T.OI T.L3 IO) (ao (bE IO) aE))) ?_) (by simp only[EJ,Hf,Jk,JX])) hQ
  .simp only[Gq,Gp,GK];lia
  .simp only[Gq,Gp,GK];lia
 |cond c x y=>
  have Yn:=hs;unfold aO at Yn;obtain⟨u,q,us,g,ws,⟨p,dx,rfl,_,z⟩,_⟩:=Yn;refine cE I (i:=9) (j:=7) IO IO z IO (λh=>by cases h) (λ_=>?_)
  refine cE I (i:=9) (j:=8) IO IO z IO (λh=>by cases h) (λ_=>?_);refine cE I (i:=9) (j:=9) IO IO z IO (λ_=>?_) (λh=>GW IO h);exact dF (dA (ao (bE IO) (ao (bE IO) aE)) λQ1 q1=>#[_,n,_,M,IO,hs,#[c,x,y,IO],hf,hn,hl,q1]) hQ
 |step b z' q p' t m=>
  have Yn:=hs;unfold aO at Yn;obtain⟨u1,u2,u3,u4,u5,⟨p,dx,rfl,_,z⟩,_⟩:=Yn;refine cE I (i:=10) (j:=7) IO IO z IO (λh=>by cases h) (λ_=>?_)
  refine cE I (i:=10) (j:=8) IO IO z IO (λh=>by cases h) (λ_=>?_);refine cE I (i:=10) (j:=9) IO IO z IO (λh=>by cases h) (λ_=>?_);refine cE I (i:=10) (j:=10) IO IO z IO (λ_=>?_) (λh=>GW IO h);exact dF (dA (ao (bE IO) aE) λQ1 q1=>#[_,n,_,M,IO,hs,#[hf,_,_,_,_,_,_,IO],hl,q1]) hQ
 |block nm b z' p' x q u g=>
  have Yn:=hs;unfold aO at Yn;obtain⟨u1,u2,u3,u4,⟨p,dx,rfl,_,z⟩,_⟩:=Yn;refine cE I (i:=11) (j:=7) IO IO z IO (λh=>by cases h) (λ_=>?_)
  refine cE I (i:=11) (j:=8) IO IO z IO (λh=>by cases h) (λ_=>?_);refine cE I (i:=11) (j:=9) IO IO z IO (λh=>by cases h) (λ_=>?_);refine cE I (i:=11) (j:=10) IO IO z IO (λh=>by cases h) (λ_=>?_);exact dF (dA (ao (bE IO) aE) λQ1 q1=>#[_,n,_,M,IO,hs,#[hf,_,_,_,_,_,_,_,_,IO],hl,q1]) hQ
end
theorem yY (n:GJ) (x y:Gm v9):EL n (x++y)=EL n x++EL n y:=KO
section
variable {k:GJ}
theorem fr_st {M:Gx->Prop}{H H':Hp}{E:XK}{ta:TA}{σ:L2.St}{s:v9}{n:GJ}{v:V}(hs:aO a M H s v) (sm:aI H H') (hf:gX s<=k) (hn:n+gX s<=300) (hl:(fj n s).length<=GV) (h:Dy ta σ H' [v, .int (n:GJ)]):Fr (iS (wE a k λ_=>True) [] E ta) σ H' (fj n s):=dA h λQ q=>#[s,n,v,M,IO,aO.Ia (aI.keeps sm).two s hs,trivial,hf,hn,hl,q]
theorem D4 {te:TE}{σ:L2.St}{H:Hp}{n:GJ}(h:Ev te σ H (.int (n:GJ))) (hn:n<=300):Ev (Bc (λx y H Q=> ∃n:GJ,x= .str (tx "  ")/\y= .int (n:GJ)/\n<=300/\Q (.str (gE n)) H) (tC (.str (tx "  "))) te) σ H (.str (gE n)):=λQ q=>h _ #[n,IO,IO,hn,q]
theorem Bi {te:TE}{σ:L2.St}{H:Hp}{n:GJ}(h:Ev te σ H (.int (n:GJ))):Ev (Bc (vS λi j=> .int (i+j)) te (tC (.int 1))) σ H (.int ((n+1:GJ):Int)):=Yj h cj
theorem akR (T:Txt K mg a) (G_F:T.d_F.U P w base k (wE a k λ_=>True)):xc P w K mg base a (k+1):=by
 refine T.d_j.F.ok aah [03] [02];obtain⟨l,n,v,us,M,rfl,⟨q,rfl,_,z⟩,hs,hf,hn,hl,hQ⟩:=h;refine#[_,(ai (b4 (i:=2) aah.nd IO (HD IO) (bj (aa aK ac)))
   (ai (kj Jw IO (fL (pv 0)) (cY (i:=3) aah.nd IO (HD IO)) (ai (a6 (df G6 Ik Il di (pv 2) (aa (aZ xV aK (aZ d9 (pv 1) aG)) ac)))
   (ai (a6 (df G6 Hw Hx bX (pv 2) (aa (aq G_F [05] (by rfl) T.d_F.c aC (aa (pv 3) (aa (aZ d9 (pv 1) aG) ac))) ac)))
   (ak (a6 (df G6 Ik Il di (pv 2) (aa aK ac)))))))
   (ai (a6 (df G6 Ik Il di (pv 2) (aa (aZ xV aK (pv 1)) ac)))
   (ai (a6 (df G6 Ik Il di (pv 2) (aa aK ac)))
   (ak (aB (pv 2))))))),?_]
 unfold qH at hl hQ;rw[BK] at hl hQ;simp only[Gp,Gq,GK] at hl;obtain⟨nn,gt⟩:=hs.get;have fb:=rT l;refine iI (gF (p:=tx " {\n") (ao cj aE)) λH1 L g1=>?_;refine#[q,IO,#[_,cK.of (g1.sm _ _ z)],ie (xs:=us) (λi σ' H'=> ∃x d r,σ'=[GM (.ref q),GM (.int n),GM (.ref L),x]/\sl l=d++r/\d.length=i/\fi H L H' (tx " {\n"::EL (n+1) d)) #[_,[],sl l,IO,IO,IO,g1] ?_ ?_ ?_]
 .rintro i σ' H' hi ⟨x,d,r,rfl,_,_,g⟩
  exact cK.of (g.sm _ _ z)
 .rintro i u σ' H' hu ⟨x,d,r,rfl,ed,dl,g⟩
  obtain⟨s,h1,h2,h3⟩:=gt i u hu;obtain⟨r',rfl⟩: ∃r',r=s::r':=by
   rw[ed,<-dl,Ly (GU _),Mb] at h1;cases r with
   |nil=>cases h1
   |cons y r'=>cases h1;exact#[r',IO]
  rw[ed,yY,Gq,show EL (n+1) (s::r')=(gE (n+1)::(fj (n+1) s++[tx "\n"]))++EL (n+1) r' from IO] at hl;simp only[Gp,Gq,GK] at hl;refine lE (p:=gE (n+1)) g IO (D4 (n:=n+1) (Bi (bE IO)) (by lia)) (by simp only[Gp];lia) λH2 g2=>?_;refine fM g2 IO (fr_st (n:=n+1) h2 g2.sm (by lia) (by lia) (by lia) (ao (bE IO) (ao (Bi (bE IO)) aE))) (by simp only[Gp,Gq,GK];lia) λH3 g3=>?_;refine wv (p:=tx "\n") g3 IO cj (by simp only[Gp,Gq,GK];lia) λH4 g4=>#[_,d++[s],r',IO,by rw[ed];simp,by simp [dl],?_];have:EL (n+1) (d++[s])=EL (n+1) d++(gE (n+1)::(fj (n+1) s++[tx "\n"])):=by
   rw[yY];show _++((gE (n+1)::(fj (n+1) s++[tx "\n"]))++[])=_;rw[GY]
  rw[this];simp only[Hf,Jk,JX] at g4 ⊢;exact g4
 .rintro σ' H' ⟨x,d,r,rfl,ed,dl,g⟩
  have:r=[]:=by
   have:=Hr MP ed;rw[Gq] at this;exact MM (by lia)
  subst this;rw[GY] at ed;rw[ed] at hQ hl;refine lE (p:=gE n) g IO (D4 (bE IO) (by lia)) (by simp only[Gp];lia) λH2 g2=>?_;refine lE (p:=tx "}") g2 IO cj (by simp only[Gp,Gq,GK];lia) λH3 g3=>?_;simp only[Hf,Jk,JX] at g3;exact(g3.end_ hQ)
theorem aho {vs:Gm V}{H:Hp}{Q:VK}{E:XK}{ok:v9->Prop}(hk:k<4) (h:wE a k ok vs H Q E):False:=by
 obtain⟨s,n,v,M,rfl,_,_,hf,_⟩:=h;have:=xC s;lia
theorem CC (hk:k<4):b8 P w K mg base nF k a.f_F a.ady ["statement","depth"] (wE a k λ_=>True):=by
 constructor<;>intros<;>exact(aho hk (by assumption)).elim
theorem ahp {vs:Gm V}{H:Hp}{Q:VK}{E:XK}(h:Gh a 0 vs H Q E):False:=by
 obtain⟨l,n,v,us,M,rfl,_,_,hf,_⟩:=h;have:=rT l;lia
theorem vz:xc P w K mg base a 0:=by
 constructor<;>intros<;>exact(ahp (by assumption)).elim
theorem xr (T:Txt K mg a) (I:jQ K a): ∀n,n<=890-> ∀k,k<=n->xc P w K mg base a k
 |0,_,k,hk=>by
  obtain rfl:k=0:=by lia
  exact vz
 |n+1,h,0,hk=>vz
 |n+1,h,m+1,hk=>by
  refine akR T ?_;by_cases h4:m<4
  .exact CC h4
  .obtain⟨j,rfl⟩: ∃j,m=j+4:=#[m-4,by lia]
   exact akQ T I (by lia) (xr T I n (by lia) (j+3) (by lia)) (xr T I n (by lia) (j+2) (by lia))
end
theorem BN (x y:Gv):sb (x++y)=sb x++sb y:=by
 show YC _=YC _
 rw[IF,<-Gm.append_toArray]
 rfl
theorem vN: ∀ps:Gm Gv,Qx (tx ", ") (ps.map sb)=sb (NJ ps)
 |[]=>rfl
 |[x]=>by
  show sb x=sb (x++[])
  rw[GY]
 |x::y::l=>by
  rw[jl,BN,BN,<-vN (y::l),show sb (Gr ", ")=tx ", " by decide+kernel];show sb x++tx ", "++Qx (tx ", ") ((y::l).map sb)=_;apply TL.VG;rw[TL.MX,TL.MX,TL.MX,TL.MX,Hf]
theorem xM: ∀ps:Gm Gv,((ps.map sb).map (·.length)).sum+ps.length*2<=(sb (NJ ps)).cps.size+2
 |[]=>HB _
 |[x]=>by
  show(sb x).length+0+1*2<=(sb (x++[])).cps.size+2
  rw[GY];exact GU _
 |x::y::l=>by
  have i:=xM (y::l);rw[jl];rw[GZ,GZ,RL,Gp]
  have e: ∀b:Gv,(sb b).cps.size=b.length:=λb=>by
   show(b.map Kz).toArray.size=_
   rw[Hv,GG]
  have e':(sb x).length=x.length:=e x;rw[e] at i ⊢
  have:(Gr ", ").length=2:=by decide+kernel
  rw[e',Gq,Gq];lia
inductive ahq (a:bJ) (vs:Gm V) (H:Hp) (Q:VK) (_E:XK):Prop
 |mk (s:Ir) (v:V) (M:Gx->Prop) (_:vs=[v]) (_:f9 a M H s v) (_:pY s<=275) (_:mS (i4 s)<=6000000) (_:Nw H (i4 s) Q):ahq a vs H Q _E
section
variable {k:GJ}
theorem abd {te:TE}{σ:L2.St}{H:Hp}{v:V}{i:GJ}{u:TS}{Z:dz}(h:Ev te σ H v) (q:u Z (σ.set i (GM v)) H):tM (B4 te (gI i)) u Z σ H:=h _ q
theorem gh {n:GJ}(h:n<=6000000):n<=GV:=GX h [01]
theorem akS (T:Txt K mg a) (I:jQ K a):T.d_Z.U P w base 276 (ahq a):=by
 have QI:o8 P w K mg base a 274:=CP T (pc T I 274 [01] 274 [01])
 have G_j:xc P w K mg base a 275:=xr T I 275 [01] 275 [01];refine T.d_Z.F.ok afK [03] [02];obtain⟨s,v,M,rfl,hs,hf,hm,hQ⟩:=h;refine#[_,(ai (bz (bS (aR bZ (by rfl) T.HN Iz (aa (pv 0) (aa (dg (by rfl) T.QO) ac)))) (ak (aB (aZ bC (aZ bC (bj (aa aK (aa [07] (aa aK ac)))) (aq QI [05] (by rfl) T.Tv.c aC (aa [07] ac))) (bj (aa aK ac))))) aQ)
   (ai (bz (bS (aR bZ (by rfl) T.HN Iz (aa (pv 0) (aa (dg (by rfl) T.Tu) ac)))) (ai (b4 (i:=1) afK.nd IO (HD IO) (yy aK [07]))
   (ak (aB (aZ bC (aZ bC (bj (aa aK (aa [07] (aa aK (aa (pv 1) (aa aK ac)))))) (aq QI [05] (by rfl) T.Tv.c aC (aa [07] ac))) (bj (aa aK ac)))))) aQ)
   (ak (aB (aZ bC (aZ bC (bj (aa aK (aa [07] ac))) (aq G_j [05] (by rfl) T.d_j.c aC (aa [07] (aa aG ac)))) (bj (aa aK ac))))))),?_]
 have hl:=GX (xt (i4 s)) hm;cases s with
 |const x e=>
  obtain⟨u,⟨p,dx,rfl,_,z⟩,h1⟩:=hs;rw[pY] at hf;rw[i4] at hl hQ;simp only[Gp,Gq,GK] at hl;refine cE I (i:=12) (j:=12) IO IO z IO (λ_=>?_) (λh=>GW IO h);refine dF (Fr.eq (bW (bW (jn (ps:=[tx "const ",sb x,tx " = "]) (ao cj (ao (cM (bE IO) z T.NT T.NG IO) (ao cj aE))) IO nW) (λH1 s1=>eM h1 s1 (by lia) (gh (by lia)) (ao (cM (bE IO) (s1 _ _ z) T.NT T.Of IO) aE)) ?_) (λH1 s1=>gF (p:=tx ";\n") (ao cj aE)) ?_) (by simp only[Hf,Jk,JX])) hQ
  all_goals simp only[Gq,Gp,GK];exact gh (by lia)
 |func x ps e=>
  obtain⟨q,u,⟨p,dx,rfl,_,z⟩,⟨q',rfl,_,zq⟩,h1⟩:=hs;rw[pY] at hf;have hc:(sb (NJ ps)).cps.size<=6000000:=by
   rw[i4,ae,ae,ae,ae] at hm;lia
  rw[i4] at hl hQ;simp only[Gp,Gq,GK] at hl;refine cE I (i:=13) (j:=12) IO IO z IO (λh=>by cases h) (λ_=>?_);refine cE I (i:=13) (j:=13) IO IO z IO (λ_=>?_) (λh=>GW IO h);refine abd (v:= .str (sb (NJ ps))) (λQ1 q1=>#[#[_,IO],(cM (bE IO) z T.OL T.L5 rfl:Ev (m6 K (d7 0) "parameters") _ H (.ref q')) _ #[_,q',ps.map sb,IO,IO, .inl ?_,?_,?_]]) ?_
  .rw[JT]
   exact cK.of zq
  .have:=xM ps
   rw[GG];show _+_*2<=_;lia
  .unfold PySem.Txt.join
   rw[StrLaws.glued_eq_join];have:=vN ps;rw[show Qx _ (ps.map sb)=_ from this];exact q1
  refine dF (Fr.eq (bW (bW (jn (ps:=[tx "fun ",sb x,tx "(",sb (NJ ps),tx ") = "]) (ao cj (ao (cM (bE IO) z T.OL T.OM IO) (ao cj (ao (bE IO) (ao cj aE))))) IO (by show 5<=GV;decide)) (λH1 s1=>eM h1 s1 (by lia) (gh (by lia)) (ao (cM (bE IO) (s1 _ _ z) T.OL T.Pg IO) aE)) ?_) (λH1 s1=>gF (p:=tx ";\n") (ao cj aE)) ?_) (by simp only[Hf,Jk,JX])) hQ
  all_goals simp only[Gq,Gp,GK];exact gh (by lia)
 |desk x l=>
  obtain⟨q,us,⟨p,dx,rfl,_,z⟩,h1,h2⟩:=hs;rw[pY] at hf;rw[i4] at hl hQ;have hl:(tx "desk "::sb x::(qH 0 (iX (0+1) l)++[tx "\n"])).length<=6000000:=hl;simp only[Gp,Gq,GK] at hl;refine cE I (i:=14) (j:=12) IO IO z IO (λh=>by cases h) (λ_=>?_);refine cE I (i:=14) (j:=13) IO IO z IO (λh=>by cases h) (λ_=>?_);refine dF (Fr.eq (bW (bW (jn (ps:=[tx "desk ",sb x]) (ao cj (ao (cM (bE IO) z T.OX T.Og IO) aE)) IO wB) (λH1 s1=>xH (n:=0) h1 h2 s1 (by lia) (by lia) (gh (by lia)) (ao (cM (bE IO) (s1 _ _ z) T.OX T.LO IO) (ao cj aE))) ?_) (λH1 s1=>gF (p:=tx "\n") (ao cj aE)) ?_) (by simp only[Hf,Jk,JX])) hQ
  all_goals simp only[Gq,Gp,GK];exact gh (by lia)
end
def jA (z:Int):HH:=decide (0<=z)&&decide (z<=255)
def lW (zs:Gm Int):HH:=decide (zs.length<=3000)&&zs.all jA
inductive vO (K:Gu) (vs:Gm V) (H:Hp) (Q:VK) (_E:XK):Prop
 |mk (l:Gx) (zs:Gm Int) (_:vs=[.ref l]) (_:cK K H l (dX zs)) (_:zs.length<=4000) (_: ∀H',aI H H'->Q (.bl (lW zs)) H'):vO K vs H Q _E
theorem vG (h:lW zs=IN):KJ zs=Id:=by
 unfold KJ;rw[GB];intro z;have:lW zs=Ix:=z;rw[h] at this;cases this
theorem wU (h:lW zs=Ix): ∃bs:Gv,KJ zs=GM bs/\lF bs=dX zs/\bs.length<=3000:=by
 have h0:=h;unfold lW at h;rw[Jt,Ii] at h;refine#[zs.map λc=>MC c.toNat,?_,?_,by rw[GG];exact h.1]
 .unfold KJ
  exact GD h0
 .unfold lF dX
  rw[JT];refine Pn λz hz=>?_;have b:=LC.mp h.2 z hz;unfold jA at b;rw[Jt,Ii,Ii] at b;show V.int (nb (MC z.toNat))=V.int z;unfold nb
  congr 1
  rw[JV.toNat_ofNat'];lia
theorem akT (T:Txt K mg a):T.d_K.U P w base 1 (vO K):=by
 refine T.d_K.F.ok aan [03] [02];obtain⟨l,zs,rfl,hS,hl,hQ⟩:=h;refine#[_,(ak (aB (wg (cH jb (aR bL (by rfl) T.LR Jc (aa (pv 0) ac)) (bB (by rfl) T.QT) (a0 _)) (nU (aR (ZY IO) (by rfl) T.aed boot_all (aa (zw IO aan.nd (fL (pv 0)) (own:=[("byte",1)]) (eB (by show mX ["text","byte"] (ah s_K) _ [("byte",1)]=Ix;decide+kernel)) (λ_ _ _ _ _=>cY (i:=1) aan.nd IO (HD IO)) (λ_ _ _ _ _=>kT) (λ_ _ _ _ _=>(lA jb jb aG (pv 1) aG))) ac)))))),?_];have il:(dX zs).length=zs.length:=GG ..;refine#[_,_,IO, .inl hS,_,_,IO,IO,_,IO,?_];rw[il];unfold lW at hQ;refine bi (λe=>?_) λe=>?_
 .have le:zs.length<=3000:=by have:=Hn e;lia
  rw[Hy le] at hQ;refine#[l,IO,#[_,hS],λD hD=>?_];refine si (K:=K) (a:=l) (xs:=dX zs) (λi H'=>aI H H'/\H' D=GM (.lst (((zs.take i).map jA).map V.bl))) #[be hD,aj] (λi H' _ z=>z.1.seq hS) ?_ ?_
  .rintro i y H' hi ⟨s1,Sy⟩
   obtain⟨z,hz,rfl⟩: ∃z,zs[i]?=GM z/\y=V.int z:=by
    unfold dX at hi;rw[HF] at hi;cases e:zs[i]? with
    |none=>rw[e] at hi;cases hi
    |some c=>rw[e] at hi;exact#[c,IO,(G7 hi).symm]
   have fin: ∀b:HH,b=jA z-> ∃acc,H' D=GM (.lst acc)/\acc.length<GV/\(aI H (bf H' D (.lst (acc++[V.bl b])))/\bf H' D (.lst (acc++[V.bl b])) D=GM (.lst (((zs.take (i+1)).map jA).map V.bl))):=λb hb=>by
    refine#[_,Sy,?_,λb' o e=>by rw[af (aw e hD)];exact s1 b' o e,?_]
    .rw[GG,GG]
     exact HE (GX (TU i zs) hl) [01]
    .rw[aj,NM,hz,hb]
     show GM (HO.lst (((zs.take i).map jA).map V.bl++[V.bl (jA z)]))=GM (HO.lst (((zs.take i++[z]).map jA).map V.bl))
     rw[IF,IF]
     rfl
   refine#[IO,?_];unfold qc;dsimp only;rw[GD IO];refine#[_,_,IO,IO,_,IO,?_];refine bi (λe0=>?_) λe0=>?_
   .refine#[_,_,IO,IO,fin _ ?_]
    unfold jA;rw[e0]
    rfl
   .refine fin _ ?_
    unfold jA;rw[e0]
    rfl
  .rintro H' ⟨s1,Sy⟩
   rw[il,Mw] at Sy;refine#[D,zs.map jA,IO,cK.of Sy,?_];have:=hQ H' s1;rw[Yx] at this;rw[SY];exact this
 .have le: ¬zs.length<=3000:=by have:=Hq e;lia
  rw[Ha le] at hQ;exact hQ H λ_ _ e=>e
def Rfs (C:Gx) (E:XK) (H:Hp) (c:Int):Prop:= ∀d,H d=Id->E (.ref C) (GM d) (bf H d (c4 d (Cp c)))
def gC (c:Int):Gm V->Gm (G0×V)->Prop:=λus fs=>us=[]/\fs=Cp c
theorem me (zs:Gm Int):(dX zs).length=zs.length:=GG _
theorem sh (x y:Gm Int):dX (x++y)=dX x++dX y:=IF
def NwI (H:Hp) (zs:Gm Int) (Q:VK):Prop:= ∀(H':Hp) (p:Gx),aI H H'->H p=Id->H' p=GM (.lst (dX zs))->Q (.ref p) H'
inductive ahr (vs:Gm V) (H:Hp) (Q:VK) (_E:XK):Prop
 |mk (l:Gx) (ps:Gm G0) (_:vs=[.ref l]) (_:H l=GM (.lst (gG ps))) (_:mS ps<=6000000) (_:NwI H (bF ps) Q):ahr vs H Q _E
inductive Yo (vs:Gm V) (H:Hp) (Q:VK) (_E:XK):Prop
 |mk (l:Gx) (zs:Gm Int) (_:vs=[.ref l]) (_:H l=GM (.lst (dX zs))) (_:zs.length<=6000000) (_:NwI H (T5 zs) Q):Yo vs H Q _E
inductive Yp (a:bJ) (vs:Gm V) (H:Hp) (Q:VK) (_E:XK):Prop
 |mk (l:Gx) (us:Gm V) (ss:Gm Ir) (M:Gx->Prop) (_:vs=[.ref l]) (_:H l=GM (.lst us)) (_:wL a M H ss us) (_: ∀s∈ss,pY s<=275) (_:mS (ku ss)<=6000000) (_:NwI H (bF (ku ss)) Q):Yp a vs H Q _E
theorem abe {x:G0}{g:TG}{tt:TT}{te:TE}{vs:Gm GJ}{σ:L2.St}{H1:Hp}{D:Gx}{Qd:Hp->Prop}(Pv:GJ->Hp->Prop) (h0:Pv 0 (bf H1 D (.lst [])))
  (hs: ∀i c H,x.cps[i]?=GM c->Pv i H->g (.str #[[c].toArray]) (dM σ vs) H λσ2 H2=>dM σ2 vs=dM σ vs/\tt σ2 H2 λb H3=>
   if b=Ix then te σ2 H3 λy H4=> ∃acc,H4 D=GM (.lst acc)/\acc.length<GV/\Pv (i+1) (bf H4 D (.lst (acc++[y]))) else Pv (i+1) H3) (hd: ∀H,Pv x.cps.size H->Qd H):
  ∃W:GJ->GJ->Hp->Prop,(∃m,W 0 m (bf H1 D (.lst [])))/\ ∀i m H,W i m H->
   ((Its x).stop i H/\Qd H)\/((Its x).go i H/\ ∃Nx:Hp->Prop,(∀H',Nx H'-> ∃m',m'<m/\W (i+1) m' H')/\ ∀v H',(Its x).Xh i H v H'->g v (dM σ vs) H' λσ2 H2=>dM σ2 vs=dM σ vs/\tt σ2 H2 λb H3=>
    if b=Ix then te σ2 H3 λy H4=> ∃acc,H4 D=GM (.lst acc)/\acc.length<GV/\Nx (bf H4 D (.lst (acc++[y]))) else Nx H3):=by
 refine#[λi m H=>m=x.cps.size-i/\i<=x.cps.size/\Pv i H,#[_,IO,HB _,h0],?_];rintro i m H ⟨rfl,hi,p⟩;by_cases RT:i<x.cps.size
 .refine .inr #[RT,Pv (i+1),λH' p'=>#[x.cps.size-(i+1),by lia,IO,RT,p'],λv H' y=>?_]
  obtain⟨rfl,c,hc,rfl⟩:=y;exact hs i c _ hc p
 .have e:i=x.cps.size:=by lia
  subst e;exact .inl #[GU _,hd H p]
theorem FG {ps:Gm G0}{i:GJ}{p:G0}(h:ps[i]?=GM p):bF (ps.take (i+1))=bF (ps.take i)++bO p:=by
 rw[Rj,h,bw];show _++(bO p++[])=_;rw[GY]
theorem ahs (ps:Gm G0) (i:GJ):(bF (ps.take i)).length<=mS ps:=by
 refine GX (CY _) ?_;have:=au (ps.take i) (ps.drop i);rw[OT] at this;lia
section
variable {k:GJ}
theorem k6 (T:Txt K mg a) (XC:XS K a):T.YO.U P w mg base 2 (j5 a.LQ (gC (-1))):=by
 have G_S:=iV (P:=P) (w:=w) (base:=base) T XC.ON;refine T.YO.F.ok afc (λvs H Q E h=>?_) [02]
 .obtain⟨p,us,fs,rfl,⟨rfl,rfl⟩,_⟩:=h
  rfl
 .obtain⟨p,us,fs,rfl,⟨rfl,rfl⟩,hp,q⟩:=h
  exact#[_,(ak (a6 (vh (by rfl) T.MZ XC.rm G_S [05] T.d_S.c.b .nil aC (aa (pv 0) (aa (Xl CN aG) ac))))),_,IO,p,_,Cp (-1),IO,#[-1,IO,IO],hp,q]
inductive ya (a:bJ) (vs:Gm V) (H:Hp) (Q:VK) (E:XK):Prop
 |mk (x:HH) (_:vs=[.bl x]) (_:(x=Ix->Q .Kk H)) (_:(x=IN->Rfs a.LQ E H (-1))):ya a vs H Q E
theorem akU (T:Txt K mg a) (XC:XS K a):T.d_L.O P w base 4 (ya a):=by
 have akV:=k6 (P:=P) (w:=w) (base:=base) T XC;refine kr T.d_L.F ajQ [03] [02];obtain⟨x,rfl,h1,h2⟩:=h;refine#[_,(ak (bz (my (bS (pv 0))) (ak (A7 o9 XC.ON akV [05] (by rfl) T.PM T.YO.c.b)) aQ)),?_];refine#[_,IO,?_];cases x with
 |true=>exact cQ (h1 IO)
 |false=>exact dR #[by show 0<=9;decide,_,#[IO,IO],h2 IO]
theorem akW (T:Txt K mg a):T.d_R.U P w base 1 Yo:=by
 refine T.d_R.F.ok ajR [03] [02];obtain⟨l,zs,rfl,z,hm,hQ⟩:=h;refine#[_,(ak (aB (aZ bC (bj (aa (aR bL (by rfl) T.LR Jc (aa (pv 0) ac)) ac)) (pv 0)))),?_];refine#[l,_,IO, .inl (cK.of z),by show 1<=GV;decide,λp hp=>#[p,l,_,_,IO,IO,aj,by rw[af (aw z hp)];exact z,?_,λp' hp'=>hQ _ p' ((be hp).trans (be hp')) (gm (be hp) hp') ?_]]
 .show 1+(dX zs).length<=_
  rw[me];exact GX (Pu hm 1) [01]
 .rw[aj,me]
  rfl
theorem akX (T:Txt K mg a):T.d_t.U P w base 1 ahr:=by
 refine T.d_t.F.ok BE [03] [02];obtain⟨l,ps,rfl,z,hm,hQ⟩:=h;refine#[_,(ai (b4 (i:=1) BE.nd IO (HD IO) (bj ac))
   (ai (kj Jw IO (fL (pv 0)) (cY (i:=2) BE.nd IO (HD IO)) (ak (bz (bg cu (pv 2) aK (a0 _)) (ak (a6 (df G6 Ik Il di (pv 1) (aa (bB (by rfl) T.Sf) ac)))) (ak (a6 (df G6 Hw Hx bX (pv 1) (aa (zw IO BE.nd (Z5 (pv 2)) (own:=[("letter",3)]) (eB (by show mX ["pieces","found","piece","letter"] (ah s_t) _ [("letter",3)]=Ix;decide+kernel)) (λ_ _ _ _ _=>cY (i:=3) BE.nd IO (HD IO)) (λ_ _ _ _ _=>kT) (λ_ _ _ _ _=>(aR DV (by rfl) T.aeh boot_ord (aa (pv 3) ac)))) ac)))))))
   (ak (aB (pv 1))))),?_]
 refine#[by show 0<=GV;decide,λL hL=>?_];have hn: ∀i,(dX (bF (ps.take i))).length<=6000000:=λi=>by rw[me];exact GX (ahs ps i) hm
 refine#[l,IO,#[_,cK.of (be hL _ _ z)],ie (xs:=gG ps) (λi σ' H'=> ∃x,σ'=[GM (.ref l),GM (.ref L),x,Id]/\aI H H'/\H' L=GM (.lst (dX (bF (ps.take i))))) #[_,IO,be hL,aj] ?_ ?_ ?_]
 .rintro i σ' H' hi ⟨x,rfl,s1,_⟩
  exact cK.of (s1 _ _ z)
 .rintro i u σ' H' hu ⟨x,rfl,s1,zL⟩
  rw[HF] at hu;obtain⟨p,hp,rfl⟩:=IM.mp hu;have tk:=FG hp;have s2: ∀ {H2:Hp}{o:HO},aI H' H2->aI H (bf H2 L o):=λs b o' e=>by
   rw[af (aw e hL)];exact s _ _ (s1 _ _ e)
  have hi:=hn (i+1);rw[tk,sh,Gq] at hi;refine#[IO,_,IO,?_];by_cases e:p=lS
  .have b1:bO p=[37]:=GD e
   rw[b1] at tk hi;refine eR (Hy (by rw[e];rfl)) ?_;refine#[.inl #[IO,_,cK.of zL],L,_,_,IO,IO,zL,?_,#[_,IO,s2 aI.rfl,?_]]
   .exact Hh (show(dX (bF (ps.take i))).length<6000000 by have:(dX [37]).length=1:=rfl;lia) [01]
   .rw[aj,tk,sh]
    rfl
  .have b1:bO p=p.cps.toList.map ME:=GB e
   rw[b1] at tk hi;have le:(dX (p.cps.toList.map ME)).length=p.cps.size:=by rw[me,GG];rfl
   refine fh (Ha (λz=>e (by injection z))) ?_;refine#[.inl #[IO,_,cK.of zL],p,IO,λD hD=>abe (λj H2=>aI H' H2/\H2 D=GM (.lst (dX ((p.cps.toList.take j).map ME)))) #[be hD,aj] ?_ ?_]
   .rintro j c H2 hc ⟨s3,zD⟩
    have hj:j<p.cps.size:=(Ko.mp hc).1;refine#[IO,?_];unfold qc;dsimp only;rw[GD IO];refine#[_,IO,IO,_,zD,?_,λb o e=>?_,?_]
    .rw[me,GG,Mv]
     exact Hh (show min j p.cps.toList.length<6000000 by have:min j p.cps.toList.length<=j:=GJ.min_le_left _ _;lia) [01]
    .rw[af (aw e hD)]
     exact s3 _ _ e
    .rw[aj,Rj,SH,hc,IF,sh]
     rfl
   .rintro H2 ⟨s3,zD⟩
    rw[Ki (by show p.cps.toList.length<=_;exact GU _)] at zD;refine#[L,D,_,_,IO,IO,s3 _ _ zL,zD,gh (by lia),#[_,IO,s2 s3,?_]];rw[aj,tk,sh]
 .rintro σ' H' ⟨x,rfl,s1,zL⟩
  rw[GG,Mw] at zL;exact(hQ _ L s1 hL zL)
theorem DH {ss:Gm Ir}{i:GJ}{s:Ir}(h:ss[i]?=GM s):ku (ss.take (i+1))=ku (ss.take i)++i4 s:=by
 unfold ku;rw[Rj,h,KO];show _++(i4 s++[])=_;rw[GY]
theorem Gk (ss:Gm Ir) (i:GJ):mS (ku (ss.take i))<=mS (ku ss):=by
 have:ku ss=ku (ss.take i)++ku (ss.drop i):=by
  unfold ku;rw[<-KO,OT]
 rw[this,au];lia
theorem akY (T:Txt K mg a) (I:jQ K a):T.d_N.U P w base 277 (Yp a):=by
 have G_Z:=akS (P:=P) (w:=w) (base:=base) T I
 have G_t:=akX (P:=P) (w:=w) (base:=base) T;refine T.d_N.F.ok aag [03] [02];obtain⟨l,us,ss,M,rfl,z,tl,hf,hm,hQ⟩:=h;refine#[_,(ai (b4 (i:=1) aag.nd IO (HD IO) (bj ac))
   (ai (kj Jw IO (fL (pv 0)) (cY (i:=2) aag.nd IO (HD IO)) (ak (a6 (df G6 Hw Hx bX (pv 1) (aa (aq G_Z [05] (by rfl) T.d_Z.c aC (aa (pv 2) ac)) ac)))))
   (ak (aB (aq G_t [05] (by rfl) T.d_t.c aC (aa (pv 1) ac)))))),?_]
 refine iI (ps:=[]) (jn aE IO (by show 0<=GV;decide)) λH1 L g1=>?_;refine#[l,IO,#[_,cK.of (g1.sm _ _ z)],ie (xs:=us) (λi σ' H'=> ∃x,σ'=[GM (.ref l),GM (.ref L),x]/\fi H L H' (ku (ss.take i))) #[_,IO,g1] ?_ ?_ ?_]
 .rintro i σ' H' hi ⟨x,rfl,g⟩
  exact cK.of (g.sm _ _ z)
 .rintro i u σ' H' hu ⟨x,rfl,g⟩
  obtain⟨s,hs,ht⟩:=iq tl hu;have tk:=DH hs;have m1:=Gk ss (i+1);rw[tk,au] at m1;have l1:=xt (ku (ss.take i));have l2:=xt (i4 s);refine kc g IO (dA (ps:=i4 s) (ao (bE IO) aE) λQ1 q1=>#[s,u,M,IO,f9.Ia (aI.keeps g.sm).two s ht,hf s (Iu hs),by lia,q1]) (gh (by lia)) λH2 g2=>#[_,IO,?_];rw[tk];exact g2
 .rintro σ' H' ⟨x,rfl,g⟩
  have:ss.take us.length=ss:=by rw[<-cn tl,Mw]
  rw[this] at g;exact#[L,ku ss,IO,g.at_,hm,λH2 p s2 n2 e2=>hQ H2 p (g.sm.trans s2) (gm g.sm n2) e2]
end
def akZ:Ir->GJ
 | .const _ _=>12
 | .func _ _ _=>13
 | .desk _ _=>14
theorem abf {a:bJ}{M:Gx->Prop}{H:Hp} : ∀ {t:Ir}{v:V},f9 a M H t v->Nd1 a M H (akZ t) v
 | .const ..,_,⟨_,h,_⟩=>#[h,IO]
 | .func ..,_,⟨_,_,h,_⟩=>#[h,IO]
 | .desk ..,_,⟨_,_,h,_⟩=>#[h,IO]
inductive abg (a:bJ) (k:GJ) (vs:Gm V) (H:Hp) (Q:VK) (_E:XK):Prop
 |mk {t:Ir}{v:V}{M:Gx->Prop}(_:vs=[v]) (_:iZ M H) (_:f9 a M H t v) (_:GT t) (_:mS (i4 t)<=300000) (_:pY t+1<=k) (_: ∀H' u,aI H H'->f9 a M H' (cC t) u->Q u H'):abg a k vs H Q _E
inductive aht (a:bJ) (k:GJ) (vs:Gm V) (H:Hp) (Q:VK) (_E:XK):Prop
 |mk {ss:Gm Ir}{us:Gm V}{L:Gx}{M:Gx->Prop}(_:vs=[.ref L]) (_:iZ M H) (_:H L=GM (.lst us)) (_:wL a M H ss us) (_: ∀s∈ss,GT s/\pY s+1<=k) (_:mS (ku ss)<=300000) (_: ∀H' D Qr,aI H H'->H' D=GM (.lst Qr)->wL a M H' (ss.map cC) Qr->Q (.ref D) H'):aht a k vs H Q _E
theorem jp {α β:Type}{F:α->β->Prop} : ∀ {l:Gm α}{m:Gm β},Paired F l m->Paired (λy x=>F x y) m l
 |_,_, .nil=> .nil
 |_,_, .cons h t=> .cons h (jp t)
theorem Et: ∀(ss:Gm Ir),ss.length<=mS (ku ss)/\ ∀s∈ss,mS (i4 s)<=mS (ku ss)
 |[]=>#[HB _,λ_ z=>nomatch z]
 |s::l=>by
  obtain⟨h1,h2⟩:=Et l;have e:ku (s::l)=i4 s++ku l:=rfl;have:1<=mS (i4 s):=by cases s<;>rw[i4,ae]<;>lia
  rw[e,au];exact#[by rw[Gp];lia,Iv.mpr #[by lia,λx hx=>by have:=h2 x hx;lia]]
theorem ahu (T:Txt K mg a) (I:jQ K a) (hk:2<=k) (S:f8 P w K mg base a k) (L:zZ P w K mg base a k):T.Y8.U P w base (k+1) (abg a k):=by
 refine pT T.Y8.F afQ [03] [02];intro X D;obtain @⟨t,v,M,rfl,hM,ra,rg,rm,rf,q⟩:=h;have nd:=abf ra;have h2:cy 2 X.A:=hr.mono hk;refine aY (gV I T.HN nd aJ (j:=12) IO T.QO (pv 0) [08] (eU (λz=>?_) λz12=>?_))
 .obtain⟨x,e,rfl⟩: ∃x e,t= .const x e:=by cases t<;>first|exact#[_,_,IO]|cases z
  obtain⟨u,i,ex⟩:=ra;rw[pY] at rf;rw[i4,ae,ae,ae,au] at rm;exact aD (hZ (uw T) h2 (aX (cB (bV 0 (i.Ll aJ T.NT T.NG IO (aX (eA T S hr i aJ T.NT T.Of IO hM #[ex,rg.2,by lia,by lia] IO λH1 v1 s1 _ f1=>ca #[IO,λy dy H2 hy s2 e2=>q H2 _ (s1.trans s2) #[v1,#[y,dy,IO,λm=>hM.up s1 y m hy,e2],ag.Ia s2.k2 _ f1]])))) IO)))
 refine aY (gV I T.HN nd aJ (j:=13) IO T.Tu (pv 0) [08] (eU (λz=>?_) λz13=>?_))
 .obtain⟨x,ps,e,rfl⟩: ∃x ps e,t= .func x ps e:=by cases t<;>first|exact#[_,_,_,IO]|cases z
  obtain⟨g,u,i,lg,ex⟩:=ra;rw[pY] at rf;rw[i4,ae,ae,ae,ae,ae,au] at rm;exact aD (hZ (DK T) h2 (aX (cB (bV 0 (i.Ll aJ T.OL T.OM IO (aX (cB (bV 0 (i.Ll aJ T.OL T.L5 IO (aX (eA T S hr i aJ T.OL T.Pg IO hM #[ex,rg.2.2,by lia,by lia] IO λH1 v1 s1 _ f1=>ca #[IO,λy dy H2 hy s2 e2=>q H2 _ (s1.trans s2) #[g,v1,#[y,dy,IO,λm=>hM.up s1 y m hy,e2],lg.keep (s1.trans s2).k2,ag.Ia s2.k2 _ f1]])))) IO)))) IO)))
 .obtain⟨x,l,rfl⟩: ∃x l,t= .desk x l:=by cases t<;>first|exact#[_,_,IO]|exact GW IO z12|exact GW IO z13
  obtain⟨g,us,i,lg,ex⟩:=ra;rw[pY] at rf;rw[i4,ae,ae,au,gK] at rm;exact aD (hZ (yg T) h2 (aX (cB (bV 0 (i.Ll aJ T.OX T.Og IO (aX (sR T L hr i aJ T.OX T.LO IO hM #[lg,ex,rg.2,#[1,by lia],by lia] IO λH1 U9 v1 s1 _ l1 f1=>ca #[IO,λy dy H2 hy s2 e2=>q H2 _ (s1.trans s2) #[v1,U9,#[y,dy,IO,λm=>hM.up s1 y m hy,e2],l1.keep s2.k2,aT.Ia s2.k2 _ f1]])))) IO)))
theorem ak0 (T:Txt K mg a) (G:b8 P w K mg base nF k' a.acJ a.W3 ["top"] (abg a k)):T.d_5.U P w base (k'+1) (aht a k):=by
 refine pT T.d_5.F aaj [03] [02];intro X D;obtain @⟨ss,us,L,M,rfl,hM,hL,tl,ok,rm,q⟩:=h;have pr:=jp tl;obtain⟨c1,c2⟩:=Et ss;refine aD (BV (y:="top") (i:=1) aaj.nd (pv 0) (eB (by show mX ["tops","top"] (ah s_5) _ [("top",1)]=Ix;decide+kernel)) (λ_ _ _ _ _=>aq G hr (by rfl) T.Y8.c aC (aa (pv 1) ac)) (tI (F:=λM H b v=>f9 a M H b v) (g:=cC) (l:=ss) (λk h=>f9.Ia k _ h) hL (cn pr) (by lia) hM [08] (λj x o H' M1 hx ho s1 k2 m1 Q q=>?_) (λH1 D1 U9 s1 nD1 SA WN=>q H1 D1 U9 s1 SA (jp WN)) λ_=>rfl) (λ_ _ _ _ _=>cY (i:=1) aaj.nd IO (HD IO)));obtain⟨o',QD,h⟩:=L2.iE pr hx;rw[ho] at QD;cases QD;have m:=Iu ho;exact .mk IO m1 (f9.Ia k2 _ h) (ok o m).1 (GX (c2 o m) rm) (ok o m).2 q
theorem Cq {zs:Gm Int}(h:KJ zs=Id):O2 zs=[-1]:=by
 show Pc [[4],zs]=_
 unfold Pc;rw[show Wb [[4],zs]=(KJ zs).map R6 from IO,h]
 rfl
theorem E9 {zs:Gm Int}{bs:Gv}(h:KJ zs=GM bs):O2 zs=(match My bs with
  | .error _=>[-3]
  | .ok s=>0::T5 (Vbemac.ints (Vbemac.print (Vbemac.folded s)))):=by
 show Pc [[4],zs]=_
 unfold Pc;rw[show Wb [[4],zs]=(KJ zs).map R6 from IO,h]
 rfl
theorem Aj {bs:Gv}(h:bs.length<=3000):(HY bs).length<=4000:=by
 have:=dW (bs.length+1) (1,1) bs;unfold HY;lia
section
variable {k:GJ}
theorem abh {bs:Gv}{Qo:MV->Gw->Prop}{Qe:GJ->HJ->Prop}(ho: ∀ss t,My bs= .ok ss->Qo ss t) (he: ∀e,My bs= .error e->Qe e.1 e.2):W (K0 (Mx (HY bs)) Kh NA []) (HY bs) Qo Qe:=by
 unfold W;have r:My bs=(match K0 (Mx (HY bs)) Kh NA [] (HY bs) with
  | .error e=> .error e
  | .ok (a,_)=> .ok a):=rfl
 cases e:K0 (Mx (HY bs)) Kh NA [] (HY bs) with
 |error x=>rw[e] at r;exact he x r
 |ok z=>rw[e] at r;exact ho z.1 z.2 r
theorem ak1 (T:Txt K mg a) (XC:XS K a) (I:jQ K a) (kF:vU P w K a.HM cv) (G_z:T.d_z.O P w base 178 (nA K a)):
  T.d_b.U P w base 278 (pH K):=by
 have G_K:=akT (P:=P) (w:=w) (base:=base) T
 have G_L:=akU (P:=P) (w:=w) (base:=base) T XC
 have G_R:=akW (P:=P) (w:=w) (base:=base) T
 have G_N:=akY (P:=P) (w:=w) (base:=base) T I
 have abi:=ak0 T (ahu (P:=P) (w:=w) (base:=base) T I (k:=274) [01] (ny T I kF 273) (pD T I kF 273).2);refine T.d_b.F.ok aao [03] [02];obtain⟨l,zs,rfl,hS,hl,hQ⟩:=h;refine#[_,(ai (Ez (R:=a.Ks) (G:=a.Ks) (i:=2) (λv od Ta=> ∃(C d fI:Gx) (c:Int) (fs:Gm (G0×V)),v= .ref C/\od=GM d/\ir K a.Ks C fI/\O2 zs=[c]/\Ta d=GM (c4 d fs)/\fs.lookup ("number":G0)=GM (V.int c)) IO IO (λC d H h=>by obtain⟨_,_,fI,_,_,e,_,x,_⟩:=h;cases e;exact#[fI,x, .inr IO]) (by rfl) T.MZ aao.nd IO IO
    (λpins Ew PE_=>ai (a6 (aq G_L (hr.mono [01]) (by rfl) T.d_L.c PE_ (aa (aq G_K (hr.mono [01]) (by rfl) T.d_K.c aC (aa (pv 0) ac)) ac)))
     (ak (b4 (i:=1) aao.nd IO (HD IO) (aq abi (hr.mono [01]) (by rfl) T.d_5.c aC (aa (aq G_z (hr.mono [01]) (by rfl) T.d_z.c PE_ (aa (pv 0) ac)) ac)))))
    (λa'=>(ak (aB (bj (aa (Ff (K:=K) IO [00] pN (pv 2) (by rfl)) ac))))))
   (ak (aB (aZ bC (bj (aa aG ac)) (aq G_R (hr.mono [01]) (by rfl) T.d_R.c aC (aa (aq G_N hr (by rfl) T.d_N.c aC (aa (pv 1) ac)) ac)))))),?_]
 refine#[?_,?_]
 .refine#[l,zs,IO,hS,hl,λH1 s1=>#[_,IO,λht=>?_,λht=>?_]]
  .obtain⟨bs,eb,ev',hb⟩:=wU ht
   have ec:=E9 eb;refine#[l,bs,IO,by rw[ev'];exact s1.seq hS,hb,abh (λss t hr'=>?_) λe he=>?_]
   .rw[hr'] at ec
    have gt:=qP hr';obtain⟨f1,f2,f3⟩:=AK hr'
    have tn:(HY bs).length<=4000:=Aj hb
    have m1:=gt.ms;intro H2 L us M Yh H1L nM hL tl;refine .mk (M:=λ_=>False) IO (λ_ z=>z.elim) hL (Paired.Np tl λs v h=>f9.Ia (λb o e _=>#[λz=>z,e]) s h) (λs hs=>#[gt.ok s hs,by have:=gt.fr s hs;lia]) (by lia) λH3 D3 us3 s3 hD3 tl3=>?_
    refine#[by show 1<=GV;decide,λp hp=>?_];have s4:=be (o:= .lst [.int 0]) hp;refine#[D3,us3,_,_,IO,s4 _ _ hD3,Paired.Np tl3 λs v h=>f9.Ia s4.k2 s h,f1,by lia,λH4 q s34 nq hq=>?_];have bl:=CY (ku (ss.map cC));rw[f3] at hq bl;refine#[q,_,IO,hq,by lia,λH5 q' s45 nq' S9=>?_];refine#[p,q',_,_,IO,IO,s45 _ _ (s34 _ _ aj),S9,?_,λr hr0=>hQ _ r ?_]
    .show 1+(dX _).length<=_
     rw[me,T5,Gp];exact gh (by lia)
    .rw[ec]
     exact aj
   .intro H2 Yh d hd
    rw[he] at ec;exact#[_,d,_,_,_,IO,IO,XC.fc,ec,aj,IO]
  .have hn:=Cq (vG ht)
   exact λd hd=>#[_,d,_,_,_,IO,IO,XC.ON,hn,aj,IO]
 .rintro C d H2 a' ⟨C',d',fI,c,fs,eC,ed,X1,ec',hd,lk⟩ ha'
  cases ed;cases eC;have nd:d≠a':=λz=>by rw[z,ha'] at hd;cases hd
  have h1:bf H2 a' (k8 C d a') d=GM (c4 d fs):=by rw[af nd];exact hd
  refine#[_,_,_,a',d,_,_,X1,IO,aj,h1,lk,?_];refine#[by show 1<=GV;decide,λp hp=>?_];refine hQ _ p ?_;rw[ec'];exact aj
theorem jQ.at_ (I:jQ K a) (hi:(tj a)[i]?=GM C) (hj:(tj a)[j]?=GM D) (h:i<15) (h':j<15):Jh K (.ref C) (.ref D)=GM (decide (i=j)):=by
 have:=Hr (λl=>(l[i]?.bind λr:Gm (GF HH)=>r[j]?)) I.Zq
 rw[HF,hi,HF,KP h] at this;simp only[MO,Qj,HF,hj,KP h'] at this;exact G7 this
theorem abj {a:bJ}(I:jQ K a):ql K a:=#[I.ty _ (.tail _ (.tail _ (.tail _ (.tail _ (.tail _ (.tail _ (.tail _ (.head _)))))))),I.ty _ (.tail _ (.tail _ (.tail _ (.tail _ (.tail _ (.tail _ (.tail _ (.tail _ (.head _))))))))),I.ty _ (.tail _ (.tail _ (.tail _ (.tail _ (.tail _ (.tail _ (.tail _ (.tail _ (.tail _ (.head _)))))))))),I.ty _ (.tail _ (.tail _ (.tail _ (.tail _ (.tail _ (.tail _ (.tail _ (.tail _ (.tail _ (.tail _ (.head _))))))))))),I.ty _ (.tail _ (.tail _ (.tail _ (.tail _ (.tail _ (.tail _ (.tail _ (.tail _ (.tail _ (.tail _ (.tail _ (.head _)))))))))))),I.at_ (i:=7) (j:=7) IO IO [01] [01],I.at_ (i:=8) (j:=7) IO IO [01] [01],I.at_ (i:=9) (j:=7) IO IO [01] [01],I.at_ (i:=10) (j:=7) IO IO [01] [01],I.at_ (i:=11) (j:=7) IO IO [01] [01]]
theorem EF {mg:G0->GF Gy}{base:Ij}{a:bJ}(T:Txt K mg a) (XC:XS K a) (kS:Be P w K a.K3 eN) (kF:vU P w K a.HM cv) (KT:Bb K a.Jx dN) (I:jQ K a):
  T.d_b.U P w base 278 (pH K):=
 ak1 T XC I kF (BZ T XC.toXT (abj I) KT kS kF)
end
end OS
open PySem PySem.W PyProof.Rows
theorem PySem.Challenge.cw_ordersheets_s05_fold_holds : PySem.Challenge.rw_ordersheets_s05_fold.Holds :=
 OS.hd OS.EF

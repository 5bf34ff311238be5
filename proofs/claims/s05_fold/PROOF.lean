import PyProof.Rows.All
import KE.OsGo
import Wide.All
import OpenK.AllK
import Wide.FinOn
import PyProof.EqAt
import PyProof.EqKinds
import PyProof.TupleCall
import KE.BitLaws
import Open.SpecLaws
import KE.OsHead
import PyProof.StationsW
import PyProof.PassesOwn
import PyProof.ExcClass
import PyProof.ExcClass2
import PyProof.ExcArgs
import PyProof.ExcBaseAll.Exception
import PyProof.InstLoad
import PyProof.InstStoreFacts
import VbemacSpec
import PySem.Str
import PySem.Challenge.RW_ordersheets_s05_fold
import PyProof.RulesAs
import PyVbemac
local macro_rules|`(#[$x,*])=>`(⟨$x,*⟩)
open Option renaming some->GM,none->Ix
open Bool renaming true->IN,false->IR
open _root_ renaming rfl->KB
set_option compiler.extract_closed false
set_option hygiene false
local macro_rules
|`([00])=>`((by decide+kernel))
|`([01])=>`((by decide))
|`([02])=>`((λIF A outer s H vs Q E hr h=>?_))
|`([03])=>`((λvs H Q E h=>by cases h;subst_vars;rfl))
|`([04])=>`((λ_ _ _ _ _ _ us hl=>OS.u1 hl λ_=>[0x0]))
|`([05])=>`((hr.mono (by lia)))
|`([06])=>`((λ_ _ _ _ _ _ us hl=>OS.u2 hl λ_ _=>[0x0]))
|`([07])=>`((az (pv 0) KB))
|`([08])=>`((λ_ q=>q))
|`([09])=>`((OS.aM KX G [0x5] [04]))
set_option hygiene true
open _root_ renaming List->Gr,if_neg->GG,if_pos->GI,Option->GJ,Nat->GQ,absurd->G6,decide_eq_false->He,of_decide_eq_true->Hs,of_decide_eq_false->Hu,congrArg->Hv,decide_eq_true->HC,Bool->HK,decide_eq_true_iff->Il,beq_self_eq_true->IK,UInt8->JZ,Array->KC,if_false->Nl,Unit->Nq,decide_eq_true_eq->Ow,if_true->S7,decide_not->YA
open Bool renaming false_ne_true->Gu,eq_iff_iff->Iv,noConfusion->IU,and_eq_true->Jx,false_eq_true->J6,or_eq_false_iff->MP,or_eq_true->OB,or_false->PJ,false_or->PL,or_true->Qq,true_or->Ta,and_eq_true_iff->TX,not_eq_false'->US,not_eq_true'->Vh,eq_false_iff->Vi,false_and->WW,true_and->YB
open List renaming length_cons->Gv,length_append->Gw,length_map->GK,length_nil->GU,mem_cons_self->GW,append_nil->G7,map_cons->G8,mem_cons_of_mem->Hc,mem_cons->Hg,append_assoc->Hj,getElem?_eq_some_iff->Ho,mem_singleton->Hx,size_toArray->Hz,getElem?_map->HI,mem_append->HJ,contains_cons->HS,contains_iff_mem->HY,mem_of_getElem?->Iz,forall_mem_cons->IA,find?_cons->IC,map_append->IJ,length_reverse->IP,cons_ne_nil->IV,reverse_cons->IX,getElem?_eq_getElem->Jb,cons_append->Jo,replicate->Jv,mem_append_right->JD,append_ne_nil_of_left_ne_nil->JP,map_map->JX,nodup_cons->J1,nil_append->J2,length_drop->J7,any_cons->Ka,takeWhile_cons->Kj,take_of_length_le->Kl,lookup->Km,length_singleton->Ks,drop_eq_getElem_cons->Kz,flatMap_append->KR,getElem?_range->KS,lookup_cons->KW,any_eq_true->KY,mem_reverse->KZ,flatten_cons->Lu,getElem?_append_right->LC,all_eq_true->LG,flatten_nil->LH,filterMap_cons->LL,getElem?_replicate->LY,drop_eq_nil_of_le->Mc,length_take->Mx,take_length->My,eq_nil_of_length_eq_zero->MO,length->MR,mem_map->Nf,nodup_nil->Nu,range->Nv,take_add_one->NP,find?_isSome->NQ,filterMap_cons_some->N0,length_eq_zero_iff->Om,getElem?_set_self->Ov,any_map->Oz,map_const'->OC,length_replicate->OV,length_filter_le->OW,take_append_drop->OX,mem_append_left->O8,getElem?_set_ne->O9,drop_drop->Pb,map_congr_left->Pu,all_cons->PK,map_drop->PM,length_filter_eq_length_iff->Qh,any_eq_false->Qi,nodup_append->Qj,filter_cons->QF,not_mem_nil->QG,of_mem_zip->Q5,getD_eq_getElem?_getD->Rk,take_succ->Rl,getElem?_append_left->Rp,mem_of_find?_eq_some->Rq,sum_cons->RO,getElem?_cons_succ->R5,drop->R8,range_succ_eq_map->SH,drop_of_length_le->SI,append_eq_nil_iff->SJ,all_map->S8,getElem?_eq_none->Te,filterMap_append->Tf,getElem?_reverse->Tg,length_take_le'->TY,toList_toArray->Um,reverse_append->Uq,mem_filterMap->UP,map_inj_right->UR,find?_eq_none->UT,map_replicate->UU,drop_sublist->Vj,drop_length->VP,mem_filter->V7,find?_some->V8,foldl_cons->V9,head?_cons->Wa,forIn_nil->WX,map->W5
open Vbemac renaming text->Gx,Bytes->Gz,Toks->GA,Exp->GD,Known->GF,P->GN,isKey->GP,peek->GX,expr->Hd,fail->Hm,sign->Hw,isSign->Hy,Bytes->HD,fold->HL,Pos->HM,KEYS->HU,next->HV,Tok->HZ,tokens->Ib,primary->Ic,newName->Ig,SIGNS->Ih,unary->Ii,Stmts->Ir,Top->Iy,behind->IM,key->IQ,deeper->IY,lit->IZ,Exps->Je,DEEP->Jf,digit->Jh,isKey->Jj,Toks->Jn,Stmt->Js,Blocks->Jt,place->JG,side->JY,stmts->J8,knownBlock->Kg,known0->Kk,foldStmt->Kx,maybeName->KN,bytesOf->KO,stmt->K4,tops->K5,letter->Lh,params->Li,BUILT->LD,ifSign->LM,isSign->Mg,signOf->Mh,foldStmts->Mq,fuel->Mz,read->MA,Sheet->MX,compare->Nh,Rest->ND,FUNS->NF,commas->NM,shownStmt->N6,shownStmts->N9,foldRest->Oc,truth->Oo,answer->Ph,lex->Py,arguments->Ql,mk->RA,blank->RT,shownTop->Tq,row->T8,blockName->UY,moreAdded->UZ,moreTimes->U1,compared->Vm,anyName->VQ,moreAnd->VR,builtIn->VS,shownAll->Wc,moreOr->We,decode->Wf,ifKey->W0,added->W2,times->W3,ands->YF
open PySem.W renaming Frag->Gy,mg_of->HE,mg_none_of->II,kitOne->Jk,findIn->Jq,kia_one->JE,fnOf->JF,emptyDict->JR,keepIn->JS,instObj->Ku,nsIn->K0,callWith_K->LP,codeIn->LZ,methodCall_KW->Md,plainGet->NS,lookIn->OE,plainGet_of->O3,methodObj->PB,hasDictIn->PD,specialIn->PH,isFn->PN,length_le_weightAllW->Qv,takerIn->Qz,nsMap_none_of_in->Q8,cellsFrom_some->Ru,callWith_K0->SQ,isNs_of_in->Tj,plainOver->T3,kitx_list->T4,kitx_dict->T5,WRecords->Uu,handedIn->Uv,makesIn->U2,takesIn->U3,findCls->U4,WalkOS->Vn,typeIn->Vo,nsOkIn->Vp,mroIn->VT
open PySem renaming Addr->GB,Value->GC,Shared->GH,sizeLine->GZ,Str->Ha,starEach->Hf,wpAny_bind->Hi,wpAny->Hq,Program->Hr,wpAny_loadPart_at->HN,World->HW,wpAny_pure->HX,FuncData->Ia,mem_of_lookup->Ij,Heap->Im,Around->IE,bindArgs->IW,Expr->Jc,boot_len->Jg,cellsFrom->Jz,typeLookup->JH,excClassObj->JJ,attributeBase->JN,wpAny_mono->JQ,sysModules->J4,compareOp->J5,backTo->J9,builtinLookup_eq_fast->Kc,Obj->Kh,mainGlobals->Ki,checkBuiltinCall->Kw,compEnvC->KA,wpAny_truthy_bool->KP,foldedSetIterable->KQ,NameKind->KU,swapsWith->Lf,wpAny_Call_Name_kw->Lq,tupleKind_room_in1->Lr,wpAny_passesOwn->Lx,typeLookup_type->Ly,keywordEach->LO,intItems->Ma,bootBuiltins->MB,codeAny->ME,plainObj_wpAny_Assign_Attribute->MT,numAt->MY,StoreFacts->M0,wpAny_standAt->Nb,argBest->Ng,sizeLine_eq->Nj,sliceBounds->Nk,wpAny_execs_nil->NA,codeAny_mono->NN,ExcBaseFacts->NO,tupleKind->N4,pushCells->N5,binaryOp->Oa,backToKw->Ob,Within->Ou,DictEntry->O4,getMethod->O5,letOwnedTupleGo->Pp,pushCells_keeps->Pq,codeAny_call_builtin->P4,rawInt->P6,cLine->P7,noteFrame->Qk,valueAt->Qp,assignEach->QM,wpAny_call->QN,GenState->Q9,atKey->Ra,wpAny_lookBehind->Rr,pastItsLine_dict->Rt,PassesOwn->Rv,setFlight->Rw,BindsTo->SU,callerA->SV,getAttr->SW,setAttr->SX,getItem->S6,notedBy->S9,wpAny_setField->Ti,callWith->Tn,bindL->U5,bindC->U6,tupleKeyHash->Vf,wpAny_nsSet1->Vg,Fin->Vq,wpAny_isTrue_Compare1->VO,wpAny_loadName_local->V5,wpAny_loadName_cell->WU,Builtin->WZ,wpAny_getItem_heap->Yu,builtinsNs->Yv,wpAny_Name->Yw,typeIs_str->Yy,isInstance->Yz
open PySem.Heap renaming get?_push_of_some->GV,lt_size->Hk,get?_push_size->Iu,get?_update_other->IG,size_push->Ju,get?_update_self->Kt,SameBut->Oy,get?_update_ne->Uo
open Nat renaming le_refl->GY,le_trans->G0,lt_of_lt_of_le->Hl,zero_le->HG,lt_of_le_of_lt->HH,ne_of_lt->Ik,max_le->Iq,le_max_left->Iw,le_max_right->IH,lt_irrefl->Jp,add_sub_cancel_left->Jr,le_add_right->JO,succ_le_succ->LI,sub_self->Me,le_of_lt->Mf,lt_succ_self->MC,add_le_add_left->Na,add_comm->Nm,add_right_comm->NC,le_of_succ_le->N3,le_succ->N7,le_of_eq->OD,min_eq_left->OY,lt_succ_of_lt->Qx,ne_of_gt->Qy,toString_eq_ofList_toDigits->QD,succ->Ry,add_assoc->R6,toDigits->Tp,lt_of_le_of_ne->Ve,min_eq_right->V6,le_add_left->WV
open PySem.F renaming plainAttrs_list->G9,slot_list_extend->HA,type_list_extend->HB,slot_list_append->Io,type_list_append->Ip,store_Exception->JK,slot_dict_getitem->Q3,excBase_Exception->Q4,slot_dict_pop->RN
open Option.some renaming inj->Hb
open StateT renaming bind->Hh
open PySem.Value renaming ref->Hn,none->Jy,int->Lk,bool->LW,type->Np,builtin->NT,str->Pc,isStrOf->Px,float->Ts
open Or renaming inl->HF,inr->RU
open PyProof.Rows renaming boot_isinstance->ID,envOfC->Lg,boot_tuple->Nc,callWith_builtin1->O7,callWith_type1->Pz,AllBare->Qn,Constant_none->Ur,subscriptTail->Us,subscriptTail_builtinR->Vd,Subscript_->Yx
open True renaming intro->IS
open Option renaming map_eq_some_iff->IT,bind_eq_some_iff->JM,isSome_map->JU,isSome_iff_exists->LK,map_some->MQ,bind_some->Qm,isSome_some->T1,getD_none->UX,none->YE
open Vbemac.Tok renaming word->Jd,sign->Kb
open Sum renaming inr->Jw,inl->KG
open PySem.PassesOwn renaming never->JA,leaving->Tb
open PySem.Obj renaming mapFields->JI,isFreed_of_fields->Mw,data_mapFields->P5
open False renaming elim->JW
open Array renaming getElem?_eq_some_iff->Kr,toList_replicate->Ot,replicate->Ox,length_toList->Pg,toList->R7,getElem?_toList->SK,mem_toList_iff->Th,toList_append->TZ,find?_toList->Ut,toList_inj->Vk,toList_map->Vl
open UInt8 renaming toNat->KD,ofNat->MF,toNat_inj->QO,ofNat_toNat->UW,toNat_lt->Wb
open Ne renaming symm->K3
open PySem.NameKind renaming free->Mi,cell->Q6
open Sum.inr renaming inj->Ms
open Int renaming ofNat->MG,toNat_natCast->Qw,zero_sub->Tr,toNat_of_nonneg->UO
open PySem.Builtin.List renaming listTooLong->MW
open PySem.Calls renaming spliced_cons->Ni,spliced_nil->NL,callWith_builtin->Oq,evalArgs_plain->O2,Name_function_global->Q7
open List.cons renaming inj->Nr
open ForInStep renaming yield->N8
open Vbemac.Known renaming taken->OA
open PyVbemac renaming fold->O6
open PySem.Heap.Ns1 renaming of_empty->Pw
open PySem.Str renaming join->QA,mk->YG
open PySem.Paired renaming length->Rm,snoc->YC
open PySem.EntryCells renaming newEntry->Rx
open UInt32 renaming le_iff_toNat_le->RM
open PySem.SeqAt.EqAt renaming int_str->RP,str_int->RQ
open PySem.Around renaming under->RR
open Vbemac.Call renaming fold->R9
open String renaming toList_ofList->SN
open PySem.Code renaming isFrame->SY,quiet_builtin->UQ
open Vbemac.Exp renaming call->Tt
open PySem.Data renaming seq->T6
open PySem.Value.type renaming inj->T7
open PySem.Txt renaming join->Uw
open Char renaming toNat->U7
open Int.ofNat renaming inj->U8
open Nat.succ renaming inj->VU
open PySem.Bind renaming checkArgs->WY
open Sum.inl renaming inj->W4
open PySem.Within renaming cons->YD
open PySem.Heap.IsSliceOf renaming new->abm
set_option genSizeOf false
set_option Elab.async false
set_option linter.all false
set_option maxRecDepth 100000
set_option cleanup.letToHave false
set_option maxHeartbeats 4000000
set_option maxRecDepth 100000 in
set_option maxHeartbeats 0 in
def OS.abn:PySem.Challenge.rw_ordersheets_s05_fold.wellSaid=IN:=by decide+kernel
namespace OS
open PySem PySem.W
def live (o:Kh):GJ Kh:=match o with
 |⟨_,_, .freed,_⟩=>Ix
 |o=>GM o
noncomputable def pick (l:Gr Kh):GQ->Gr GQ->Gr (GJ Kh):=
 @Gr.rec Kh (λ_=>GQ->Gr GQ->Gr (GJ Kh)) (λ_ _=>[])
  (λo _ f i as=> @Gr.rec GQ (λ_=>Gr (GJ Kh)) [] (λa t _=> @HK.rec (λ_=>Gr (GJ Kh)) (f (Ry i) as) (live o::f (Ry i) t) (GQ.beq a i)) as) l
def Aq (o:Kh) (l:Gr Kh) (i a:GQ) (t:Gr GQ):pick (o::l) i (a::t)=if a=i then live o::pick l (i+1) t else pick l (i+1) (a::t):=by
 show @HK.rec (λ_=>Gr (GJ Kh)) _ _ (GQ.beq a i)=_
 cases h:GQ.beq a i
 .rw[GG (GQ.ne_of_beq_eq_false h)];rfl
 .rw[GI (GQ.eq_of_beq_eq_true h)];rfl
def E4 {K:Gr (GQ×Kh)}(l:Gr Kh): ∀(i:GQ),pick l i (K.map (·.1))=K.map (λp=>GM p.2)-> ∀p∈K,i<=p.1/\l[p.1-i]?.bind live=GM p.2:=by
 induction l generalizing K with
 |nil=>
  intro i h p hp;cases K with
  |nil=>cases hp
  |cons q r=>cases h
 |cons o l ih=>
  intro i h p hp;cases K with
  |nil=>cases hp
  |cons q r=>
   rw[G8,Aq] at h;split at h
   .rename_i e
    obtain⟨h1,h2⟩:=Nr h;rcases Hg.mp hp with z|z
    .rw[z,e,Me];exact#[GY _,h1]
    .have⟨a,b⟩:=ih (i+1) h2 p z
     refine#[by lia,?_];rw[show p.1-i=p.1-(i+1)+1 by lia];exact b
   .have⟨a,b⟩:=ih (K:=q::r) (i+1) h p hp
    refine#[by lia,?_];rw[show p.1-i=p.1-(i+1)+1 by lia];exact b
def wc {K:Frag}{a:GQ}{o:Kh}(e:K.lookup a=GM o):(a,o)∈K:=by
 induction K with
 |nil=>cases e
 |cons p r ih=>
  obtain⟨b,x⟩:=p;simp only[Km] at e;split at e
  .rename_i q;cases e;rw[beq_iff_eq.mp q];exact .head _
  .exact .tail _ (ih e)
noncomputable def hook (K:Params->Frag) (as:Gr GQ) (e: ∀P,as=(K P).map (·.1)):Hook:=
 #[Gr (GJ Kh),λs=>pick s.heap.objs.toList 0 as,λw=>(K w.params).map λp=>GM p.2,InK K,λw s h a o x=>by
  rw[e w.params] at h;have:=(E4 _ 0 h _ (wc x)).2;rw[SK] at this;unfold Im.get?;cases z:s.heap.objs[a]? with
  |none=>rw[show(a,o).1-0=a from KB,z] at this;cases this
  |some y=>rw[show(a,o).1-0=a from KB,z] at this;rcases y with⟨_,_,x,_⟩;cases x<;>exact this,InK.keeps]
def U9 {K:Params->Frag}{as:Gr GQ}{e: ∀P,as=(K P).map (·.1)} {w:HW}{h:Im}(Y:(hook K as e).says w h):(K w.params).In h:=Y
end OS
namespace L2
open PySem PySem.Spec PyProof.Rows
abbrev cf:=Sum Int Ha
def qQ:cf->GC->HK
 | .inl k,v=>GC.isInt k v
 | .inr x,v=>Px x v
def ahx (w:HW):cf->Int
 | .inl k=>hashInt k
 | .inr x=>hashStr w x
def c8: ∀ {k:cf}{v:GC},qQ k v=IN->(∃i t,k=KG i/\v=Lk i t)\/(∃x t,k=Jw x/\v=Pc x t)
 | .inl i,v,h=>by
  obtain⟨t,e⟩:=GC.isInt_shape (k:=i) (v:=v) h;exact .inl #[i,t,KB,e]
 | .inr x,v,h=>by
  obtain⟨t,e⟩:=GC.isStrOf_shape (x:=x) (v:=v) h;exact .inr #[x,t,KB,e]
def YH (a b:Int):decide ((KG a:cf)=KG b)=(a == b):=by
 by_cases e:a=b
 .subst e;simp
 .have h: ¬(KG a:cf)=KG b:=λq=>e (W4 q)
  rw[He h];exact(beq_eq_false_iff_ne.mpr e).symm
def YI (a b:Ha):decide ((Jw a:cf)=Jw b)=decide (a=b):=by
 by_cases e:a=b
 .subst e;simp
 .have h: ¬(Jw a:cf)=Jw b:=λq=>e (Ms q)
  rw[He h,He e]
def YJ (a:Int) (b:Ha):decide ((KG a:cf)=Jw b)=IR:=He (λq=>nomatch q)
def YK (a:Ha) (b:Int):decide ((Jw a:cf)=KG b)=IR:=He (λq=>nomatch q)
def bK (prog:Hr) (w:HW):PySem.KeyKind prog w cf where
 is:=qQ
 hash:=ahx w
 inj:=λv a b ha hb=>by
  rcases c8 ha with⟨i,t,rfl,rfl⟩|⟨x,t,rfl,rfl⟩
  .rcases c8 hb with⟨j,u,rfl,e⟩|⟨y,u,rfl,e⟩
   .injection e with e1 _;rw[e1]
   .exact nomatch e
  .rcases c8 hb with⟨j,u,rfl,e⟩|⟨y,u,rfl,e⟩
   .exact nomatch e
   .injection e with e1 _;rw[e1]
 byValue:=λk v h=>by
  rcases c8 h with⟨i,t,rfl,rfl⟩|⟨x,t,rfl,rfl⟩<;>rfl
 pyHash:=λhv h=>by
  rcases c8 hv with⟨i,t,rfl,rfl⟩|⟨x,t,rfl,rfl⟩
  .exact wpAny_pyHash_int h
  .exact wpAny_pyHash_str h
 eqBool:=λhu hv h=>by
  rcases c8 hu with⟨i,t,rfl,rfl⟩|⟨x,t,rfl,rfl⟩
  .rcases c8 hv with⟨j,u,rfl,rfl⟩|⟨y,u,rfl,rfl⟩
   .rw[YH] at h;exact wpAny_eqBool_int h
   .rw[YJ] at h;exact RP i t y u _ _ _ _ h
  .rcases c8 hv with⟨j,u,rfl,rfl⟩|⟨y,u,rfl,rfl⟩
   .rw[YK] at h;exact RQ x t j u _ _ _ _ h
   .rw[YI] at h;exact wpAny_eqBool_str h
 «strs»:=λk x t v h=>by
  rcases c8 h with⟨i,u,rfl,e⟩|⟨y,u,rfl,e⟩
  .exact nomatch e
  .injection e with e1 _
   subst e1;cases v<;>rfl
inductive V where
 |Ko|bl (b:HK)|int (i:Int)|str (x:Ha)|Sa (b:KC JZ)|W6 (b:UInt64)|ref (a:GB)|ty (n:String)
 deriving DecidableEq
def bD:V->GC->Prop
 | .Ko,u=>u=Jy
 | .bl b,u=>u=LW b
 | .int i,u=> ∃t,u=Lk i t
 | .str x,u=> ∃t,u=Pc x t
 | .Sa b,u=> ∃t,u=GC.bytes b t
 | .W6 b,u=> ∃t,u=Ts b t
 | .ref a,u=>u=Hn a
 | .ty n,u=>u=Np n
abbrev bH:Gr V->Gr GC->Prop:=Paired bD
def gA:GJ V->GJ GC->Prop
 |some v,some u=>bD v u
 |none,none=>True
 |_,_=>False
def KV {κ:Type} :Gr (κ×V)->Gr (κ×GC)->Prop:=Paired λ(p:κ×V) (q:κ×GC)=>p.1=q.1/\bD p.2 q.2
def kV:cf->V
 | .inl i=> .int i
 | .inr x=> .str x
inductive HO where
  |lst (xs:Gr V)
  |tup (xs:Gr V)
  |dK (IB:Gr (cf×V))|dT (IB:Gr (Gr cf×V))
  |set (S:Int->HK) (n:GQ)
  |ins (C dx:GB) (fs:Gr (Ha×V))
  |own (x:GB)
  |xd (fs:Gr (Ha×V))
  |met (f x:GB)
  |rng (lo hi:Int)
  |QP (o:Kh) (u:HO)
  |YL (ps:KC GC)
  |ext (φ:Im->Prop)
abbrev Hp:=GB->GJ HO
section
variable (P:Hr) (w:HW)
def cK (H:Hp) (h:Im) (a:GB):HO->Prop
 | .lst xs=>xs.length<=GZ/\ ∃(Jl:Gr GC) (n:GQ),bH xs Jl/\h.get? a=GM { cls:= .type "list",data:= .seq Jl.toArray n }
 | .tup xs=>xs.length<=GZ/\ ∃Jl:Gr GC,bH xs Jl/\IsTup h a Jl.toArray
 | .dK IB=>IB.length<=GZ/\(a == J4)=IR/\ ∃vs,KV IB vs/\h.DictOf (bK P w) a vs
 | .dT IB=>IB.length<=GZ/\(a == J4)=IR/\ ∃xs:Gr (Gr cf×GB×GC),
   Paired (λ(p:Gr cf×V) (q:Gr cf×GB×GC)=>p.1=q.1/\H q.2.1=GM (.tup (p.1.map kV))/\bD p.2 q.2.2) IB xs/\
   ∃o es ep,h.get? a=GM o/\o.ExactDict/\o.data= .dict es ep/\es.toList=xs.map (entryOfKey (N4 (bK P w)))/\(xs.map (·.1)).Nodup
 | .set S n=>h.SetOf (intKind P w) a S n
 | .ins C dx fs=>H dx=GM (.own a)/\fs.length<=1000/\dx≠a/\h.get? a=GM (Ku C dx)/\
   ∃mA,h.Ns1 dx mA/\(∀f,gA (fs.lookup f) (mA f))/\Ou mA (fs.map (·.1))
 | .own _=> ∃o,h.get? a=GM o
 | .xd fs=> ∃mA,h.Ns1 a mA/\ ∀f,gA (fs.lookup f) (mA f)
 | .rng lo hi=> ∃t u v,h.get? a=GM { cls:= .type "range",data:= .fields [.int lo t, .int hi u, .int 1 v].toArray }
 | .QP o u=>h.get? a=GM o/\cK H h a u
 | .YL ps=>h.get? a=GM { cls:= .none,data:= .fields ps }
 | .met f x=>h.get? a=GM (PB (.ref f) (.ref x))
 | .ext φ=>φ h/\(∃o,h.get? a=GM o)/\ ∀h1 h2:Im,φ h1->(∀o,h1.get? a=GM o->h2.get? a=GM o)->φ h2
def iR (H:Hp) (h:Im):Prop:= ∀a o,H a=GM o->cK P w H h a o
end
def Rd (H:Hp) (a:GB) (u:HO):Prop:=H a=GM u\/ ∃o,H a=GM (.QP o u)
def Rd.ok {P:Hr}{w:HW}{H:Hp}{h:Im}{a:GB}{u:HO}(r:Rd H a u) (x:iR P w H h):cK P w H h a u:=by
 rcases r with r|⟨o,r⟩
 .exact x a u r
 .obtain⟨_,q⟩:=x a _ r
  exact q
structure Un (fs ex:Gr GB) (H H':Hp) (h h':Im):Prop where
 keep: ∀b o,h.get? b=GM o->H b=Ix->b∉fs->b∉ex->h'.get? b=GM o
 slot: ∀b o,h.get? b=GM o->H b=Ix->b∈fs->b∉ex-> ∃sl,h'.get? b=GM { o with slots:=sl }
 free: ∀b o,h.get? b=GM o->H b=Ix->b∉ex->H' b=Ix
 there: ∀b o,h.get? b=GM o->b∉ex-> ∃o',h'.get? b=GM o'
 Rc: ∀b xs,H b=GM (.tup xs)->H' b=GM (.tup xs)
 QQ: ∀b o u,H b=GM (.QP o u)->H' b=GM (.QP o u)
 Rf: ∀b ps,H b=GM (.YL ps)-> ∃more,H' b=GM (.YL (ps++more))
def Bm (h:Im) (H:Hp):Gr GB:=(Nv h.objs.size).filter λa=>(H a).isSome
def rB (h:Im) (H:Hp):Im:=PySem.W.hideAll h (Bm h H)
def Ao (h:Im) (H:Hp):(rB h H).objs.size=h.objs.size:=PySem.W.hideAll_size _ _
def Dh {h:Im}{H:Hp}{b:GB}{o:Kh}(e:h.get? b=GM o) (n:H b=Ix):(rB h H).get? b=GM o:=
 PySem.W.hideAll_get _ e λhm=>by
  have q:(H b).isSome=IN:=(V7.mp hm).2;rw[n] at q;simp at q
def FM {h:Im}{H:Hp}{b:GB}{o:Kh}(e:(rB h H).get? b=GM o):h.get? b=GM o/\H b=Ix:=by
 have e':h.get? b=GM o:=PySem.W.of_hideAll (Bm h H) e;refine#[e',?_];cases q:H b with
 |none=>rfl
 |some x=>
  have hm:b∈Bm h H:=V7.mpr #[Gr.mem_range.mpr (Hk e'),by simp [q]]
  have z:(rB h H).get? b=Ix:=PySem.W.hideAll_none (Bm h H) hm;rw[z] at e;cases e
structure Mod (K:Gy) (mg:Ha->GJ GC) (base:Im):Prop where
 U9:K.In base
 glob:base.Ns Ki mg
 blt: ∃mb,base.Ns Yv mb/\ ∀x:Ha,x≠"__name__"->mb x=MB x
 nolimit:base.NoLimit
def tz (l:Gr Env):Gr GB:=l.filterMap (·.frame)
abbrev XK:=GC->GJ GB->Hp->Prop
abbrev VK:=V->Hp->Prop
def cJ (K:Gy) (H:Hp) (a:GB) (xs:Gr V):Prop:=
 Rd H a (.lst xs)\/
  ∃(o:Kh) (Jl:KC GC) (n:GQ),K.lookup a=GM o/\o.cls= .type "list"/\o.dict=Ix/\o.data= .seq Jl n/\Jl.size<=GZ/\bH xs Jl.toList
def qd (K:Gy) (H:Hp) (a:GB) (xs:Gr V):Prop:=
 Rd H a (.tup xs)\/
  ∃(o:Kh) (Jl:KC GC) (n:GQ),K.lookup a=GM o/\o.cls= .type "tuple"/\o.data= .seq Jl n/\Jl.size<=GZ/\bH xs Jl.toList
section
variable {X:Cx}{pins:Gr (GB×Kh)}{σ:St}{H:Hp}{s:GH}{a:GB}{xs ys:Gr V}
def cJ.of {K:Gy}(h:H a=GM (.lst xs)):cJ K H a xs:= .inl (.inl h)
end
structure iZ (K:Gy) (C:GB):Prop where
 pg:NS K C Ha.empty=IN
 hd:PD K C=IN
 po:T3 K C=IN
 sa:Jq K (.ref C) "__setattr__"=GM (GM (.builtin "object.__setattr__"))
def aH (K:Gy) (C:GB) (f:Ha):Prop:=Jq K (.ref C) f=GM Ix
structure Meth (K:Gy) (C:GB) (m:Ha) (f:GB):Prop where
 at_:Jq K (.ref C) m=GM (GM (.ref f))
 fn:PN K (.ref f)=IN
 kp:JS K (.ref f)=IN
structure cx (k:GQ) (A:IE):Prop where
 hd:A.handled=Ix
 dp:A.depth+2*k+5<recursionLimit
 un:A.units+16*k+200<P7
abbrev Sp:=Gr V->Hp->VK->XK->Prop
abbrev qO:=Gr Env->Hp->GH->XK->GC->GH->Prop
structure we (P:Hr) (w:HW) (K:Gy) (mg:Ha->GJ GC) (base:Im) (A:IE) (outer:Gr Env) (s:GH) (H:Hp):Prop where
 frames:A.frames=GM outer
 mod:Mod K mg base
 bs: ∀b o,base.get? b=GM o->s.heap.get? b=GM o/\H b=Ix
 Ux:base.objs.size<=s.heap.objs.size
 funs:s.heap.FunFrames base outer
 VV: ∀b∈tz outer,H b=Ix
 JC:iR P w H s.heap
 bare:Qn s.gens
def CE (outer:Gr Env) (P:Hr) (w:HW) (H:Hp) (s:GH) (Q:VK) (u:GC) (s':GH):Prop:=
 ∃v H',s'.os=s.os/\Qn s'.gens/\Un (tz outer) [] H H' s.heap s'.heap/\iR P w H' s'.heap/\bD v u/\Q v H'
def CR (CX:qO) (outer:Gr Env) (P:Hr) (w:HW) (H:Hp) (s:GH) (Q:VK) (E:XK) (r:Result) (s':GH):Prop:=
 match r with
 | .ok (.ret u)=>CE outer P w H s Q u s'
 | .ok _=>False
 | .error e=>CX outer H s E e s'
structure b6 (P:Hr) (w:HW) (K:Gy) (mg:Ha->GJ GC) (base:Im) (CX:qO) (k:GQ) (f:GB) (fd:Ia) (ps:Gr Ha) (sp:Sp):Prop where
 len: ∀vs H Q E,sp vs H Q E->vs.length=ps.length
 run: ∀(A:IE) (outer:Gr Env) (s:GH) (H:Hp) (args:Args) (us:Gr GC) (vs:Gr V) (Q:VK) (E:XK),cx k A->we P w K mg base A outer s H->SU s fd args (ps.zip us)->bH vs us->sp vs H Q E->
  ME (model P w) A (.call (.ref f) args) (CR CX outer P w H s Q E) s
def ib (K:Gy) (fd:Ia) (ps:Gr Ha) (ds:Gr GC):Prop:=
 ∀(s:GH) (us:Gr GC),K.In s.heap->(us++ds).length=ps.length->SU s fd #[us,[]] (ps.zip (us++ds))
def ib.all {K:Gy}{fd:Ia}{ps:Gr Ha}(h: ∀us:Gr GC,us.length=ps.length->IW fd #[us,[]]=pure (ps.zip us)):ib K fd ps []:=λs us _ hl=>by
 rw[G7] at hl ⊢;exact .of_eq (h us hl)
section
variable {X:Cx}{CX:qO}{k:GQ}{f C:GB}{fd:Ia}{ps:Gr Ha}{sp:Sp}{RV:Gr V}{ds:Gr GC}{E:XK}{x m:Ha}{p pos Mb:Pos}{e o:Jc}{es:Gr Jc}{ta:TE}{t:TA}
structure CD (K:Gy) (mg:Ha->GJ GC) (x:Ha) (f:GB) (fd:Ia) (ps:Gr Ha):Prop where
 m:mg x=GM (.ref f)
 k:JS K (.ref f)=IN
 b:ib K fd ps []
structure MD (K:Gy) (C:GB) (m:Ha) (f:GB) (fd:Ia) (ps:Gr Ha):Prop where
 m:Meth K C m f
 b:ib K fd ps []
structure Mk (K:Gy) (C f:GB):Prop where
 makes:U2 K C=IN
 init:Jq K (.ref C) "__init__"=GM (GM (.ref f))
 fn:PN K (.ref f)=IN
 kp:JS K (.ref C)=IN
end
def bh (s:Stmt) (j:GQ):Stmt:=match s with
 | .ClassDef _ _ _ body _ _ _ _ _ _ _=>body.getD j (.Pass #[0,0,0,0])
 |_=> .Pass #[0,0,0,0]
def eG (s:Stmt):Arguments:=match s with
 | .FunctionDef _ a _ _ _ _ _ _ _ _=>a
 |_=> { posonlyargs:=[],args:=[],vararg:=Ix,kwonlyargs:=[],kw_defaults:=[],kwarg:=Ix,defaults:=[] }
def bq (s:Stmt):Gr Stmt:=match s with
 | .FunctionDef _ _ b _ _ _ _ _ _ _=>b
 |_=>[]
def ah (s:Stmt):Scope:=match s with
 | .FunctionDef _ _ _ _ _ _ sc _ _ _=>sc
 |_=> { kind:= .function,names:=[],isGenerator:=IR,isCoroutine:=IR }
abbrev nJ:qO:=λ_ _ _ _ _ _=>False
structure sd (K:Gy) (x Ja:Ha) (st:Stmt) (f:GB) (fd:Ia):Prop where
 ex: ∃(oc:GC) (od:GJ GB) (kV doc pm:GC) (an:GJ GB) (IF ct:GC) (VW:KC (GJ GC)),
  fd=JF x Ja (eG st) (bq st) (ah st) .none kV doc pm an IF ct/\K.lookup f=GM #[oc,od, .func fd,VW]/\LZ K IF Ja=IN
 kp:JS K (.ref f)=IN
section
variable {P:Hr}{w:HW}{K:Gy}{mg:Ha->GJ GC}{base:Im}
def sd.binds {x Ja:Ha}{st:Stmt}{f:GB}{fd:Ia}{ps:Gr Ha}(F:sd K x Ja st f fd)
  (h: ∀(kV doc pm:GC) (an:GJ GB) (IF ct:GC) (us:Gr GC),us.length=ps.length->IW (JF x Ja (eG st) (bq st) (ah st) .none kV doc pm an IF ct) #[us,[]]=pure (ps.zip us)):ib K fd ps []:=by
 obtain⟨oc,od,kV,doc,pm,an,IF,ct,VW,rfl,lk,RB⟩:=F.ex;exact .all (h kV doc pm an IF ct)
def me {x Ja:Ha}{st:Stmt}{f:GB}{oc:GC}{od an:GJ GB}{VW:KC (GJ GC)}{kV doc pm IF ct:GC}(l:K.lookup f=GM #[oc,od, .func (JF x Ja (eG st) (bq st) (ah st) .none kV doc pm an IF ct),VW])
  (c:LZ K IF Ja=IN) (k:JS K (.ref f)=IN):sd K x Ja st f (JF x Ja (eG st) (bq st) (ah st) .none kV doc pm an IF ct):=#[#[oc,od,kV,doc,pm,an,IF,ct,VW,KB,l,c],k]
end
end L2
section
set_option maxHeartbeats 2000000
namespace L2
open PySem PySem.Spec PyProof.Rows
open PySem.W (WData Codec OpenSpec Well WellAll ReadsW ReadsAllW)
mutual
inductive Dw (K:Gy) (H:Hp):V->WData->Prop
 |Ko:Dw K H .Ko .none
 |bl (b:HK):Dw K H (.bl b) (.bool b)
 |int (i:Int):Dw K H (.int i) (.int i)
 |str (x:Ha):Dw K H (.str x) (.str x)
 |Sa (b:KC JZ):Dw K H (.Sa b) (.bytes b.toList)
 |lst {a:GB}{xs:Gr V}{ds:Gr WData} :cJ K H a xs->iW K H xs ds->Dw K H (.ref a) (.list ds)
 |tup {a:GB}{xs:Gr V}{ds:Gr WData} :qd K H a xs->iW K H xs ds->Dw K H (.ref a) (.tuple ds)
inductive iW (K:Gy) (H:Hp):Gr V->Gr WData->Prop
 |nil:iW K H [] []
 |cons {v:V}{vs:Gr V}{d:WData}{ds:Gr WData} :Dw K H v d->iW K H vs ds->iW K H (v::vs) (d::ds)
end
theorem yS {K:Gy}{H:Hp} : ∀ns:Gr Int,iW K H (ns.map V.int) (ns.map WData.int)
 |[]=> .nil
 |n::r=> .cons (.int n) (yS r)
theorem yD {K:Gy}{H:Hp} : ∀(ns:Gr Int) (xs:Gr V),iW K H xs (ns.map WData.int)->xs=ns.map V.int
 |[],xs,h=>by
  cases h
  rfl
 |n::r,xs,h=>by
  cases h with
  |cons h1 h2=>
   cases h1;rw[yD r _ h2]<;>rfl
section
variable {P:Hr}{w:HW}{K:Gy}{H:Hp}{h:Im}{R:Uu}{cl:Ha->GJ GB}
def YM {a:GB}(JC:iR P w H h) (KX:K.In h) (q:cJ K H a xs): ∃(Jl:Gr GC) (o:Kh) (n:GQ),bH xs Jl/\h.get? a=GM o/\o.cls= .type "list"/\o.data= .seq Jl.toArray n:=by
 rcases q with q|⟨o,Jl,n,e,hc,_,hd,_,hv⟩
 .obtain⟨_,Jl,n,hv,e⟩:=(show cK P w H h a (.lst xs) from q.ok JC)
  exact#[Jl,_,n,hv,e,KB,KB]
 .exact#[Jl.toList,o,n,hv,KX _ _ e,hc,by simp [hd]]
def YN {a:GB}(JC:iR P w H h) (KX:K.In h) (q:qd K H a xs): ∃(Jl:Gr GC) (o:Kh) (n:GQ),bH xs Jl/\h.get? a=GM o/\o.cls= .type "tuple"/\o.data= .seq Jl.toArray n:=by
 rcases q with q|⟨o,Jl,n,e,hc,hd,_,hv⟩
 .obtain⟨_,Jl,hv,o,e,hc,n,hd⟩:=(show cK P w H h a (.tup xs) from q.ok JC)
  exact#[Jl,o,n,hv,e,hc,hd]
 .exact#[Jl.toList,o,n,hv,KX _ _ e,hc,by simp [hd]]
mutual
theorem Dw.reads (JC:iR P w H h) (KX:K.In h): ∀(d:WData) (v:V) (u:GC),Dw K H v d->bD v u-> ∃as,ReadsW R cl h u d as
 | .none,_,_,x,r=>by
  cases x;cases r;exact#[_,ReadsW.none]
 | .bool b,_,_,x,r=>by
  cases x;cases r;exact#[_,ReadsW.bool b]
 | .int i,_,_,x,r=>by
  cases x;obtain⟨t,rfl⟩:=r;exact#[_,ReadsW.int i t]
 | .str s,_,_,x,r=>by
  cases x;obtain⟨t,rfl⟩:=r;exact#[_,ReadsW.str s t]
 | .bytes b,_,_,x,r=>by
  cases x;obtain⟨t,rfl⟩:=r;exact#[_,ReadsW.bytes _ t]
 | .list ds,_,_,x,r=>by
  cases x with
  |lst hs ha=>
   cases r;obtain⟨Jl,o,n,rv,ho,hc,hd⟩:=YM JC KX hs;obtain⟨as,hr⟩:=Dw.readsAll JC KX ds _ Jl ha rv;exact#[_,ReadsW.list ho hc hd hr]
 | .tuple ds,_,_,x,r=>by
  cases x with
  |tup hs ha=>
   cases r;obtain⟨Jl,o,n,rv,ho,hc,hd⟩:=YN JC KX hs;obtain⟨as,hr⟩:=Dw.readsAll JC KX ds _ Jl ha rv;exact#[_,ReadsW.tuple ho hc hd hr]
 | .float _,_,_,x,_=>by cases x
 | .dict _,_,_,x,_=>by cases x
 | .bytearray _,_,_,x,_=>by cases x
 | .set _,_,_,x,_=>by cases x
 | .frozenset _,_,_,x,_=>by cases x
 | .obj _ _,_,_,x,_=>by cases x
theorem Dw.readsAll (JC:iR P w H h) (KX:K.In h): ∀(ds:Gr WData) (vs:Gr V) (us:Gr GC),iW K H vs ds->bH vs us-> ∃as,ReadsAllW R cl h us ds as
 |[],_,_,x,r=>by
  cases x;cases r;exact#[_,ReadsAllW.nil]
 |d::ds,_,_,x,r=>by
  cases x with
  |cons h1 h2=>
   cases r with
   |cons r1 r2=>
    obtain⟨as,q1⟩:=Dw.reads JC KX d _ _ h1 r1;obtain⟨bs,q2⟩:=Dw.readsAll JC KX ds _ _ h2 r2;exact#[_,ReadsAllW.cons q1 q2]
end
end
mutual
def zi:WData->HK
 | .none=>IN
 | .bool _=>IN
 | .int _=>IN
 | .str _=>IN
 | .bytes _=>IN
 | .list xs=>m9 xs
 | .tuple xs=>m9 xs
 |_=>IR
def m9:Gr WData->HK
 |[]=>IN
 |x::r=>zi x&&m9 r
end
theorem uB {α:Type}{f:α->WData}(h: ∀a,zi (f a)=IN): ∀l:Gr α,m9 (l.map f)=IN
 |[]=>rfl
 |x::r=>by
  show(zi (f x)&&m9 (r.map f))=IN
  rw[h x,uB h r]<;>rfl
theorem jb: ∀(c:Codec) (a:c.denote),zi (c.enc a)=IN
 | .unit,_=>rfl
 | .bool,_=>rfl
 | .int _ _,_=>rfl
 | .nat _ _,_=>rfl
 | .u8,_=>rfl
 | .bytes _ _,_=>rfl
 | .text _ _ _ _,_=>rfl
 | .list _ _ c,a=>uB (λx=>jb c x) a
 | .pair c d,a=>by
  show(zi (c.enc a.1)&&(zi (d.enc a.2)&&IN))=IN
  rw[jb c a.1,jb d a.2]<;>rfl
 | .triple c d e,a=>by
  show(zi (c.enc a.1)&&(zi (d.enc a.2.1)&&(zi (e.enc a.2.2)&&IN)))=IN
  rw[jb c a.1,jb d a.2.1,jb e a.2.2]<;>rfl
 | .option c,none=>rfl
 | .option c,some x=>jb c x
theorem qZ: ∀(cs:Gr Codec) (a:Codec.denoteAll cs),m9 (Codec.encAll cs a)=IN
 |[],_=>rfl
 |c::cs,a=>by
  show(zi (c.enc a.1)&&m9 (Codec.encAll cs a.2))=IN
  rw[jb c a.1,qZ cs a.2]<;>rfl
theorem ke: ∀ {xs:Gr WData}{d:WData},d∈xs->d.weight<=WData.weightAll xs
 |[],d,h=>G6 h (by simp)
 |x::r,d,h=>by
  show d.weight<=x.weight+1+WData.weightAll r
  rcases Hg.mp h with e|m
  .rw[e]
   omega
  .have z:=ke m
   omega
def tO:GC->V
 | .none=> .Ko
 | .bool b=> .bl b
 | .int i _=> .int i
 | .str x _=> .str x
 | .bytes b _=> .Sa b
 | .ref a=> .ref a
 |_=> .Ko
def Ak (A:Gr GB):GC->Prop
 | .none=>True
 | .bool _=>True
 | .int _ _=>True
 | .str _ _=>True
 | .bytes _ _=>True
 | .ref a=>a∈A
 |_=>False
def Ak.mono {A B:Gr GB}(h: ∀a∈A,a∈B): ∀ {u:GC},Ak A u->Ak B u:=λ{u} x=>by
 cases u with
 |ref a=>exact h a x
 |none=>trivial
 |bool b=>trivial
 |int i t=>trivial
 |str s t=>trivial
 |bytes b t=>trivial
 |_=>exact JW x
def Cf {A:Gr GB}(x:Ak A u):bD (tO u) u:=by
 cases u with
 |ref a=>rfl
 |none=>rfl
 |bool b=>rfl
 |int i t=>exact#[t,KB]
 |str s t=>exact#[t,KB]
 |bytes b t=>exact#[t,KB]
 |_=>exact JW x
theorem ij {A:Gr GB} : ∀ {vs:Gr GC},(∀u∈vs,Ak A u)->bH (vs.map tO) vs
 |[],_=> .nil
 |u::r,h=> .cons (Cf (h u (GW ..))) (ij λx hx=>h x (Hc _ hx))
def iU (h:Im) (A:Gr GB) (a:GB):Prop:= ∃vs:Gr GC,vs.length<=GZ/\(∀u∈vs,Ak A u)/\
 (h.get? a=GM { cls:= .type "list",data:= .seq vs.toArray } \/h.get? a=GM { cls:= .type "tuple",data:= .seq vs.toArray })
theorem iU.mono {h:Im}{A B:Gr GB}{a:GB}(k: ∀a∈A,a∈B) (x:iU h A a):iU h B a:=by
 obtain⟨vs,h1,h2,h3⟩:=x;exact#[vs,h1,λu hu=>(h2 u hu).mono k,h3]
theorem gH {P:Params}{h:Im} : ∀ {vs:Gr GC}{ds:Gr WData},WellAll P h vs ds->vs.length=ds.length
 |_,_, .nil=>rfl
 |_,_, .cons _ b=>by
  show _+1=_+1
  rw[gH b]
def qx {P:Params}{h:Im}(x:Well P h v (.list ds)): ∃(a:GB) (vs:Gr GC),v= .ref a/\h.get? a=GM { cls:= .type "list",data:= .seq vs.toArray } /\WellAll P h vs ds:=by
 cases x with
 |list ho P8=>exact#[_,_,KB,ho,P8]
def pD {P:Params}{h:Im}(x:Well P h v (.tuple ds)): ∃(a:GB) (vs:Gr GC),v= .ref a/\h.get? a=GM { cls:= .type "tuple",data:= .seq vs.toArray } /\WellAll P h vs ds:=by
 cases x with
 |tuple ho P8=>exact#[_,_,KB,ho,P8]
def rb {P:Params}{h:Im}(x:WellAll P h us (d::ds)): ∃(v:GC) (vs:Gr GC),us=v::vs/\Well P h v d/\WellAll P h vs ds:=by
 cases x with
 |cons a b=>exact#[_,_,KB,a,b]
def zc (h:n<=1048576):n<=GZ:=G0 h [01]
section
variable {P:Params}{h:Im}
mutual
theorem EM: ∀(d:WData) (v:GC),Well P h v d->zi d=IN->d.weight<=1048576-> ∃A:Gr GB,Ak A v/\ ∀a∈A,iU h A a
 | .none,_,x,_,_=>by
  cases x;exact#[[],trivial,λa m=>G6 m (by simp)]
 | .bool b,_,x,_,_=>by
  cases x;exact#[[],trivial,λa m=>G6 m (by simp)]
 | .int i,_,x,_,_=>by
  cases x;exact#[[],trivial,λa m=>G6 m (by simp)]
 | .str s,_,x,_,_=>by
  cases x;exact#[[],trivial,λa m=>G6 m (by simp)]
 | .bytes b,_,x,_,_=>by
  cases x;exact#[[],trivial,λa m=>G6 m (by simp)]
 | .list ds,_,x,p,z=>by
  obtain⟨a,vs,rfl,ho,P8⟩:=qx x;have z2:WData.weightAll ds<=1048576:=z;obtain⟨A,h1,h2⟩:=kQ ds _ P8 p λd hd=>G0 (ke hd) z2;have k: ∀b∈A,b∈a::A:=λb hb=>Hc _ hb
  refine#[a::A,GW ..,λb hb=>?_];rcases Hg.mp hb with e|m
  .rw[e]
   exact#[vs,zc (by rw[gH P8];exact G0 (Qv ds) z2),λu hu=>(h1 u hu).mono k, .inl ho]
  .exact(h2 b m).mono k
 | .tuple ds,_,x,p,z=>by
  obtain⟨a,vs,rfl,ho,P8⟩:=pD x;have z2:WData.weightAll ds<=1048576:=z;obtain⟨A,h1,h2⟩:=kQ ds _ P8 p λd hd=>G0 (ke hd) z2;have k: ∀b∈A,b∈a::A:=λb hb=>Hc _ hb
  refine#[a::A,GW ..,λb hb=>?_];rcases Hg.mp hb with e|m
  .rw[e]
   exact#[vs,zc (by rw[gH P8];exact G0 (Qv ds) z2),λu hu=>(h1 u hu).mono k, .inr ho]
  .exact(h2 b m).mono k
 | .float _,_,_,p,_=>IU (show IR=IN from p)
 | .dict _,_,_,p,_=>IU (show IR=IN from p)
 | .bytearray _,_,_,p,_=>IU (show IR=IN from p)
 | .set _,_,_,p,_=>IU (show IR=IN from p)
 | .frozenset _,_,_,p,_=>IU (show IR=IN from p)
 | .obj _ _,_,_,p,_=>IU (show IR=IN from p)
theorem kQ: ∀(ds:Gr WData) (vs:Gr GC),WellAll P h vs ds->m9 ds=IN->(∀d∈ds,d.weight<=1048576)-> ∃A:Gr GB,(∀u∈vs,Ak A u)/\ ∀a∈A,iU h A a
 |[],_,x,_,_=>by
  cases x;exact#[[],λu m=>G6 m (by simp),λa m=>G6 m (by simp)]
 |d::ds,_,x,p,z=>by
  obtain⟨v,vs,rfl,x1,x2⟩:=rb x;have q:zi d=IN/\m9 ds=IN:=TX.mp p;obtain⟨A,a1,a2⟩:=EM d v x1 q.1 (z d (GW ..));obtain⟨B,b1,b2⟩:=kQ ds vs x2 q.2 λe he=>z e (Hc _ he);have kA: ∀b∈A,b∈A++B:=λb hb=>HJ.mpr (.inl hb)
  have kB: ∀b∈B,b∈A++B:=λb hb=>HJ.mpr (.inr hb)
  refine#[A++B,λu hu=>?_,λb hb=>?_]
  .rcases Hg.mp hu with e|m
   .rw[e]
    exact a1.mono kA
   .exact(b1 u m).mono kB
  .rcases HJ.mp hb with m|m
   .exact(a2 b m).mono kA
   .exact(b2 b m).mono kB
end
end
def FV (o:Kh):GJ HO:=match o.data with
 | .seq vs _=>if(o.cls == Np "list")=IN then GM (.QP o (.lst (vs.toList.map tO))) else GM (.QP o (.tup (vs.toList.map tO)))
 |_=>Ix
def iF (K:Gy) (h:Im) (A:Gr GB):Hp:=λb=>if b∈A then(if(K.lookup b).isNone=IN then(h.get? b).bind FV else Ix) else Ix
def vQ (H:Hp):Prop:= ∀b,H b=Ix\/ ∃o u,H b=GM (.QP o u)
def vF (vs:Gr GC):FV { cls:= .type "list",data:= .seq vs.toArray } =GM (.QP { cls:= .type "list",data:= .seq vs.toArray } (.lst (vs.map tO))):=by
 show(if(Np "list" == Np "list")=IN then GM (HO.QP { cls:= .type "list",data:= .seq vs.toArray } (.lst (vs.toArray.toList.map tO))) else GM (HO.QP { cls:= .type "list",data:= .seq vs.toArray } (.tup (vs.toArray.toList.map tO))))=_
 rw[GI (IK _)]
def vL (vs:Gr GC):FV { cls:= .type "tuple",data:= .seq vs.toArray } =GM (.QP { cls:= .type "tuple",data:= .seq vs.toArray } (.tup (vs.map tO))):=by
 show(if(Np "tuple" == Np "list")=IN then GM (HO.QP { cls:= .type "tuple",data:= .seq vs.toArray } (.lst (vs.toArray.toList.map tO))) else GM (HO.QP { cls:= .type "tuple",data:= .seq vs.toArray } (.tup (vs.toArray.toList.map tO))))=_
 rw[GG [01]]
section
variable {P:Hr}{w:HW}{K:Gy}{h:Im}{A:Gr GB}
def ny (hb:b∈A) (hk:K.lookup b=Ix) (e:h.get? b=GM o):iF K h A b=FV o:=by
 unfold iF;rw[GI hb,hk,GI (show(Ix:GJ Kh).isNone=IN from KB),e]<;>rfl
def Fp (q:iF K h A b=GM u):b∈A/\K.lookup b=Ix:=by
 unfold iF at q;by_cases hb:b∈A
 .rw[GI hb] at q
  cases hk:K.lookup b with
  |none=>exact#[hb,KB]
  |some o=>
   rw[hk,GG (by simp)] at q;cases q
 .rw[GG hb] at q
  cases q
def ni (ar: ∀a∈A,iU h A a) (q:iF K h A b=GM u):K.lookup b=Ix/\ ∃vs:Gr GC,vs.length<=GZ/\(∀u∈vs,Ak A u)/\
  ((h.get? b=GM { cls:= .type "list",data:= .seq vs.toArray } /\u= .QP { cls:= .type "list",data:= .seq vs.toArray } (.lst (vs.map tO)))\/
    (h.get? b=GM { cls:= .type "tuple",data:= .seq vs.toArray } /\u= .QP { cls:= .type "tuple",data:= .seq vs.toArray } (.tup (vs.map tO)))):=by
 obtain⟨hb,hk⟩:=Fp q;obtain⟨vs,h1,h2,h3⟩:=ar b hb;refine#[hk,vs,h1,h2,?_];rcases h3 with e|e
 .rw[ny hb hk e,vF] at q
  exact .inl #[e,(Hb q).symm]
 .rw[ny hb hk e,vL] at q
  exact .inr #[e,(Hb q).symm]
def zN (ar: ∀a∈A,iU h A a):vQ (iF K h A):=λb=>by
 cases q:iF K h A b with
 |none=>exact .inl KB
 |some u=>
  obtain⟨_,vs,_,_,⟨_,e⟩|⟨_,e⟩⟩:=ni ar q
  .exact .inr #[_,_,by rw[e]]
  .exact .inr #[_,_,by rw[e]]
def Gn (ar: ∀a∈A,iU h A a):iR P w (iF K h A) h:=λb u q=>by
 obtain⟨_,vs,h1,h2,⟨e,rfl⟩|⟨e,rfl⟩⟩:=ni ar q
 .exact#[e,by rw[GK];exact h1,vs,_,ij h2,e]
 .exact#[e,by rw[GK];exact h1,vs,ij h2,_,e,KB,_,KB]
def nj {c c':GC}{vs us:Gr GC}(e:(GM { cls:=c,data:= .seq vs.toArray } :GJ Kh)=GM { cls:=c',data:= .seq us.toArray }):c=c'/\vs=us:=by
 have e1:=Hb e
 have e2:c=c':=Hv Kh.cls e1
 have e3:T6 vs.toArray=T6 us.toArray:=Hv Kh.data e1;injection e3 with e4;refine#[e2,?_]
 have e5:=Hv R7 e4
 simpa using e5
def ahy (KX:K.In h) (ar: ∀a∈A,iU h A a) {a:GB}{vs:Gr GC}(ha:a∈A) (e:h.get? a=GM { cls:= .type "list",data:= .seq vs.toArray }):(∀u∈vs,Ak A u)/\cJ K (iF K h A) a (vs.map tO):=by
 obtain⟨us,h1,h2,h3⟩:=ar a ha;have hu:us=vs:=by
  rcases h3 with q|q
  .rw[e] at q
   exact(nj q).2.symm
  .rw[e] at q
   exact G6 (T7 (nj q).1) [01]
 subst hu;refine#[h2,?_];cases hk:K.lookup a with
 |none=>exact .inl (.inr #[_,by rw[ny ha hk e,vF]])
 |some o=>
  have e2:=KX a o hk;rw[e] at e2;obtain rfl:=Hb e2;exact .inr #[_,us.toArray,_,hk,KB,KB,KB,by rw[Hz];exact h1,by simpa using ij h2]
def ahz (KX:K.In h) (ar: ∀a∈A,iU h A a) {a:GB}{vs:Gr GC}(ha:a∈A) (e:h.get? a=GM { cls:= .type "tuple",data:= .seq vs.toArray }):(∀u∈vs,Ak A u)/\qd K (iF K h A) a (vs.map tO):=by
 obtain⟨us,h1,h2,h3⟩:=ar a ha;have hu:us=vs:=by
  rcases h3 with q|q
  .rw[e] at q
   exact G6 (T7 (nj q).1) [01]
  .rw[e] at q
   exact(nj q).2.symm
 subst hu;refine#[h2,?_];cases hk:K.lookup a with
 |none=>exact .inl (.inr #[_,by rw[ny ha hk e,vL]])
 |some o=>
  have e2:=KX a o hk;rw[e] at e2;obtain rfl:=Hb e2;exact .inr #[_,us.toArray,_,hk,KB,KB,by rw[Hz];exact h1,by simpa using ij h2]
mutual
theorem YO {Pm:Params}(KX:K.In h) (ar: ∀a∈A,iU h A a): ∀(d:WData) (v:GC),Well Pm h v d->zi d=IN->Ak A v->Dw K (iF K h A) (tO v) d
 | .none,_,x,_,_=>by
  cases x;exact .Ko
 | .bool b,_,x,_,_=>by
  cases x;exact .bl b
 | .int i,_,x,_,_=>by
  cases x;exact .int i
 | .str s,_,x,_,_=>by
  cases x;exact .str s
 | .bytes b,_,x,_,_=>by
  cases x;have z:=Dw.Sa (K:=K) (H:=iF K h A) b.toArray;exact z
 | .list ds,_,x,p,hu=>by
  obtain⟨a,vs,rfl,ho,P8⟩:=qx x;obtain⟨h2,hs⟩:=ahy KX ar hu ho;exact .lst hs (sA KX ar ds _ P8 p h2)
 | .tuple ds,_,x,p,hu=>by
  obtain⟨a,vs,rfl,ho,P8⟩:=pD x;obtain⟨h2,hs⟩:=ahz KX ar hu ho;exact .tup hs (sA KX ar ds _ P8 p h2)
 | .float _,_,_,p,_=>IU (show IR=IN from p)
 | .dict _,_,_,p,_=>IU (show IR=IN from p)
 | .bytearray _,_,_,p,_=>IU (show IR=IN from p)
 | .set _,_,_,p,_=>IU (show IR=IN from p)
 | .frozenset _,_,_,p,_=>IU (show IR=IN from p)
 | .obj _ _,_,_,p,_=>IU (show IR=IN from p)
theorem sA (KX:K.In h) (ar: ∀a∈A,iU h A a): ∀(ds:Gr WData) (vs:Gr GC),WellAll Pm h vs ds->m9 ds=IN->(∀u∈vs,Ak A u)->iW K (iF K h A) (vs.map tO) ds
 |[],_,x,_,_=>by
  cases x;exact .nil
 |d::ds,_,x,p,hu=>by
  obtain⟨v,vs,rfl,x1,x2⟩:=rb x;have q:zi d=IN/\m9 ds=IN:=TX.mp p;exact .cons (YO KX ar d v x1 q.1 (hu _ (GW ..))) (sA KX ar ds vs x2 q.2 λu m=>hu u (Hc _ m))
end
end
def Ad {P:Hr}{w:HW}{K:Gy}{mg mb:Ha->GJ GC}{CX:qO}{k:GQ}{fa:GB}{fd:Ia}{ps:Gr Ha}{sp:Sp}{s₁:GH}{vals:Gr GC}{ds:Gr WData}{R:Uu}{cl:Ha->GJ GB}{d0:WData}
  (KX:K.In s₁.heap) (hns:s₁.heap.Ns Ki mg) (hb:s₁.heap.Ns Yv mb) (hbb: ∀x:Ha,x≠"__name__"->mb x=MB x) (ahA:s₁.heap.NoLimit) (hg:s₁.gens= [].toArray)
  (hwl:WellAll w.params s₁.heap vals ds) (MU:m9 ds=IN) (hwt: ∀d∈ds,d.weight<=1048576) (hr:cx k SV)
  (F: ∀base:Im,K.In base->base.Ns Ki mg->b6 P w K mg base CX k fa fd ps sp) (abo: ∀(s:GH) (us:Gr GC),us.length=ps.length->SU s fd #[us,[]] (ps.zip us)) (hlen:ds.length=ps.length)
  (Tu: ∀(H:Hp) (xs:Gr V),vQ H->iW K H xs ds->sp xs H (λv H'=>Dw K H' v d0) λ_ _ _=>False)
  (hCX: ∀H e s',CX [] H s₁ (λ_ _ _=>False) e s'->False):
  ME (model P w) SV (.call (.ref fa) #[vals,[]]) (λr s'=> ∃u as,r= .ok (.ret u)/\ReadsW R cl s'.heap u d0 as/\OldK s₁.heap s'.heap/\s'.os=s₁.os/\Qn s'.gens) s₁:=by
 obtain⟨A,ho,ar⟩:=kQ ds vals hwl MU hwt;have hO:vQ (iF K s₁.heap A):=zN ar;have JC:iR P w (iF K s₁.heap A) s₁.heap:=Gn ar;have hS:=sA KX ar ds vals hwl MU ho;have hV:=ij ho;have hK: ∀b u,iF K s₁.heap A b=GM u->K.lookup b=Ix:=λb u q=>(ni ar q).1
 have noA: ∀ {b:GB}{o:Kh}{es:KC O4}{ep:GQ},s₁.heap.get? b=GM o->o.data= .dict es ep->iF K s₁.heap A b=Ix:=λ{b o es ep} e d=>by
  cases q:iF K s₁.heap A b with
  |none=>rfl
  |some u=>
   obtain⟨_,vs,_,_,⟨e2,_⟩|⟨e2,_⟩⟩:=ni ar q
   .rw[e2] at e
    cases e;have d':T6 vs.toArray _=Data.dict es ep:=d;cases d'
   .rw[e2] at e
    cases e;have d':T6 vs.toArray _=Data.dict es ep:=d;cases d'
 generalize iF K s₁.heap A=H at hO JC hS hK noA;have T9: ∀ {b:GB}{o:Kh},s₁.heap.get? b=GM o->H b=Ix->(rB s₁.heap H).get? b=GM o:=λe n=>Dh e n
 have Va: ∀ {b:GB}{m:Ha->GJ GC},s₁.heap.Ns b m->(rB s₁.heap H).Ns b m:=λ{b m} ⟨o,es,ep,e,d,r⟩=>#[o,es,ep,T9 e (noA e d),d,r]
 have nK: ∀b o,K.lookup b=GM o->H b=Ix:=λb o e=>by
  cases q:H b with
  |none=>rfl
  |some u=>
   rw[hK b u q] at e;cases e
 have hKb:K.In (rB s₁.heap H):=λb o e=>T9 (KX b o e) (nK b o e)
 have hM:Mod K mg (rB s₁.heap H):=#[hKb,Va hns,#[mb,Va hb,hbb],let ⟨mc,h1,h2⟩:=ahA;#[mc,Va h1,h2]]
 have e0:we P w K mg (rB s₁.heap H) SV [] s₁ H:=#[KB,hM,λb o e=>FM e,OD (Ao _ _),trivial,λb hb=>G6 (show b∈([]:Gr GB) from hb) (by simp),JC, .of_eq hg]
 have hl:vals.length=ps.length:=by rw[gH hwl];exact hlen
 refine NN ((F _ hKb (Va hns)).run SV [] s₁ H #[vals,[]] vals (vals.map tO) _ _ hr e0 (abo s₁ vals hl) hV (Tu H _ hO hS)) λr s' x=>?_;cases r with
 |error e=>exact(hCX H e s' x).elim
 |ok fl=>
  cases fl with
  |next=>exact JW x
  |brk=>exact JW x
  |cont=>exact JW x
  |ret u=>
   obtain⟨v,H',os,bare,un,abp,r',q⟩:=x;have kept: ∀b o,s₁.heap.get? b=GM o->s'.heap.get? b=GM o:=λb o e=>by
    cases q2:H b with
    |none=>exact un.keep b o e q2 (by intro z;exact G6 (show b∈([]:Gr GB) from z) (by simp)) (by simp)
    |some u2=>
     rcases hO b with z|⟨ob,u3,z⟩
     .rw[q2] at z
      cases z
     .have z2:=un.QQ b ob _ z
      obtain⟨e1,_⟩:=JC b _ z;obtain⟨e2,_⟩:=abp b _ z2;rw[e] at e1;cases e1;exact e2
   have KX':K.In s'.heap:=λb o e=>kept b o (KX b o e)
   obtain⟨as,hrd⟩:=Dw.reads (R:=R) (cl:=cl) abp KX' d0 v u q r';exact#[u,as,KB,hrd,OldK.of_keep kept,os,bare]
def o7 (h:WData.layableAll ds=IN): ∀d∈ds,d.weight<=1048576:=λd hd=>
 (PySem.W.layableW_iff.mp (LG.mp h d hd)).2.2
theorem oX: ∀(cs:Gr Codec) (a:Codec.denoteAll cs),(Codec.encAll cs a).length=cs.length
 |[],_=>rfl
 |c::cs,a=>by
  show(Codec.encAll cs a.2).length+1=cs.length+1
  rw[oX cs a.2]
def Al {XP:(Ha->GJ GC)->Im->Prop}{YP:HW->Im->Prop}{K:Params->Gy}{CX:HW->qO}{sp:HW->Sp}
  (Vr:r.wellSaid=IN) (hdf:d.params.defaults=[]) (hlen:r.args.length=ps.length) (hr:cx k SV)
  (hY: ∀(w:HW) (h:Im),YP w h->(K w.params).In h)
  (F: ∀(w:HW) (mg:Ha->GJ GC) (fa:GB) (h:Im),YP w h->(K w.params).In h->h.Ns Ki mg->mg d.name=GM (.ref fa)->
   ∃fd:Ia,(∀(s:GH) (us:Gr GC),us.length=ps.length->SU s fd #[us,[]] (ps.zip us))/\
    ∀base:Im,(K w.params).In base->base.Ns Ki mg->b6 r.prog w (K w.params) mg base (CX w) k fa fd ps (sp w))
  (Tu: ∀(w:HW) (H:Hp) (xs:Gr V) (a:Codec.denoteAll r.args),vQ H->Codec.withinAll r.args a=IN->Codec.app r.args r.asked a=IN->iW (K w.params) H xs (Codec.encAll r.args a)->
   sp w xs H (λv H'=>Dw (K w.params) H' v (r.ret.enc (Codec.app r.args r.f a))) λ_ _ _=>False)
  (hCX: ∀(w:HW) (H:Hp) (s:GH) (e:GC) (s':GH),CX w [] H s (λ_ _ _=>False) e s'->False):
  Vn q loose XP YP r d [] (λf vs=>PySem.call f vs):=by
 intro w P9 s₁ mg mb G Y fa o pm cd doc dV kV ho hd RB hD hmg hg args vals as ahB ahC hrd hwl hlo;obtain⟨a,e1,e2⟩:=PySem.W.os_pre_some ahB;obtain⟨e3,hwi⟩:=Codec.encAll_of_decAll r.args args a e1;subst e3;have KX:=hY w _ Y;obtain⟨fd,hb,hF⟩:=F w mg fa _ Y KX G.T.g hmg;refine PySem.W.enter_call (NN (Ad (R:=[]) (cl:=classAt P9.heap) (d0:=r.ret.enc (Codec.app r.args r.f a)) KX G.T.g G.T.b G.T.builtins G.T.nolimit hg hwl (qZ _ _) (o7 ahC) hr hF hb (by rw[oX];exact hlen)
  (λH xs hO hS=>Tu w H xs a hO hwi e2 hS) λH e s'=>hCX w H s₁ e s') λr' s' hq=>?_)
 obtain⟨u,as',rfl,h1,h2,h3,h4⟩:=hq;exact#[.inl #[u,_,as',KB,λ_=>rfl,h1,(OpenSpec.post_iff Vr hwi _ _).mpr KB,λz=>IU (show IR=IN from z)],h2,h3,h4]
def wE {XP:(Ha->GJ GC)->Im->Prop}{YP:HW->Im->Prop}{K:Params->Gy}{CX:qO}{sp:Gy->Sp}
  (Vr:r.wellSaid=IN) (hdf:d.params.defaults=[]) (hlen:r.args.length=ps.length) (hr:cx k SV)
  (hY: ∀(w:HW) (h:Im),YP w h->(K w.params).In h)
  (F: ∀(w:HW) (mg:Ha->GJ GC) (fa:GB) (h:Im),YP w h->(K w.params).In h->h.Ns Ki mg->mg d.name=GM (.ref fa)->
   ∃fd:Ia,(∀(s:GH) (us:Gr GC),us.length=ps.length->SU s fd #[us,[]] (ps.zip us))/\
    ∀base:Im,(K w.params).In base->base.Ns Ki mg->b6 r.prog w (K w.params) mg base CX k fa fd ps (sp (K w.params)))
  (Tu: ∀(K:Gy) (H:Hp) (xs:Gr V) (a:Codec.denoteAll r.args),vQ H->Codec.withinAll r.args a=IN->Codec.app r.args r.asked a=IN->iW K H xs (Codec.encAll r.args a)->
   sp K xs H (λv H'=>Dw K H' v (r.ret.enc (Codec.app r.args r.f a))) λ_ _ _=>False)
  (hCX: ∀(H:Hp) (s:GH) (e:GC) (s':GH),CX [] H s (λ_ _ _=>False) e s'->False):
  Vn q loose XP YP r d [] (λf vs=>PySem.call f vs):=
 Al (K:=K) (CX:=λ_=>CX) (sp:=λw=>sp (K w.params)) Vr hdf hlen hr hY F (λw H xs a h1 h2 h3 h4=>Tu (K w.params) H xs a h1 h2 h3 h4) λ_ H s e s'=>hCX H s e s'
end L2
end
namespace OS
open PySem
abbrev dC:Gr GC:=[.type "Exception", .type "BaseException", .type "object"]
end OS
namespace OS
open PySem PySem.Spec L2
open PyProof.Rows hiding St
def dz:Gr Ha:=["__getattribute__","__getattr__","__setattr__","number","kind","line","column"]
def XO (h:Im) (C N:GB) (bm:Gr GC):Prop:= ∃(nm q:Ha) (bs:Gr GC) (sn:Gr Ha) (sub:Gr GC) (ab:HK) (col:GJ HK) (dd:GJ GB) (k0 k1 k2 k3 k5:GJ GC),h.get? C=GM (JJ nm q C N bs bm IN sn sub ab col dd k0 k1 k2 k3 k5 "Exception.__new__")
def XAt (h:Im) (R C fI:GB):Prop:= ∃(N:GB) (mN:Ha->GJ GC) (oI:Kh) (NR:GB) (mR:Ha->GJ GC),XO h C N (.ref R::dC)/\h.Ns N mN/\mN "__init__"=GM (.ref fI)/\(∀n∈dz,mN n=Ix)/\h.get? fI=GM oI/\oI.cls= .type "function"/\
 XO h R NR dC/\h.Ns NR mR/\ ∀n∈dz,mR n=Ix
structure hU (K:Gy) (R C fI:GB):Prop where
 at_: ∀h:Im,K.In h->XAt h R C fI
 kp:JS K (.ref C)=IN
end OS
namespace OS
open Vbemac
open PySem (Str)
def sb (w:HD):Ha:=#[(w.map KD).toArray]
def ml:Ha:=#[[47,114,101,115,116].toArray]
def dI (s:HD):Ha:=if s=[37] then ml else sb s
end OS
namespace OS
open PySem PySem.Spec L2
open PyProof.Rows hiding St
def qa (K:Gy) (a:GB) (xs:Gr V):Prop:= ∃(o:Kh) (Jl:KC GC) (n:GQ),K.lookup a=GM o/\o.cls= .type "tuple"/\o.data= .seq Jl n/\Jl.size<=GZ/\bH xs Jl.toList
structure Bi (P:Hr) (w:HW) (K:Gy) (a:GB) (IB:Gr (Gr cf×V)):Prop where
 at_: ∃xs:Gr (Gr cf×GB×GC),(∀h:Im,K.In h->h.DictOfH (N4 (bK P w)) a xs)/\Paired (λ(p:Gr cf×V) (q:Gr cf×GB×GC)=>p.1=q.1/\bD p.2 q.2.2) IB xs
 no:(a == J4)=IR
structure Bu (K:Gy) (C:GB):Prop where
 cl:iZ K C
 ha:Jq K (.ref C) "__class__"=GM (GM (.builtin "object.__class__"))
 hn:PH K (.builtin "object.__class__") "__get__"=GM (GM (.builtin "getset_descriptor.__get__"))
 htk:U3 K (.builtin "object.__class__")=GM IN
 hm:VT K C (.type "object")=GM IN
def tp (i:GQ):Stmt:=PySem.Challenge.pw_ordersheets_s05_fold.main.body.getD i (.Pass #[0,0,0,0])
abbrev abq:Stmt:=bh (tp 4) 0
abbrev abr:Stmt:=bh (tp 5) 0
abbrev abt:Stmt:=bh (tp 6) 0
abbrev abu:Stmt:=bh (tp 7) 0
abbrev abv:Stmt:=bh (tp 8) 0
abbrev abw:Stmt:=bh (tp 9) 0
abbrev abx:Stmt:=bh (tp 10) 0
abbrev aby:Stmt:=bh (tp 11) 0
abbrev abz:Stmt:=bh (tp 12) 0
abbrev abA:Stmt:=bh (tp 13) 0
abbrev abB:Stmt:=bh (tp 14) 0
abbrev abC:Stmt:=bh (tp 15) 0
abbrev abD:Stmt:=bh (tp 16) 0
abbrev abE:Stmt:=bh (tp 17) 0
abbrev abF:Stmt:=bh (tp 18) 0
abbrev abG:Stmt:=bh (tp 19) 0
abbrev s_S:Stmt:=bh (tp 21) 0
abbrev abH:Stmt:=bh (tp 22) 0
abbrev abI:Stmt:=bh (tp 23) 0
abbrev abJ:Stmt:=tp 26
abbrev abK:Stmt:=tp 27
abbrev abL:Stmt:=tp 28
abbrev abM:Stmt:=tp 29
abbrev abN:Stmt:=tp 30
abbrev abO:Stmt:=tp 31
abbrev abP:Stmt:=tp 32
abbrev s_T:Stmt:=bh (tp 46) 0
abbrev s_h:Stmt:=tp 47
abbrev s_l:Stmt:=tp 48
abbrev s_U:Stmt:=tp 49
abbrev s_V:Stmt:=tp 50
abbrev s_W:Stmt:=tp 51
abbrev s_X:Stmt:=tp 52
abbrev s_Y:Stmt:=tp 53
abbrev s_B:Stmt:=tp 54
abbrev s_C:Stmt:=tp 55
abbrev s_m:Stmt:=tp 56
abbrev abQ:Stmt:=bh (tp 67) 0
abbrev s_c:Stmt:=bh (tp 67) 1
abbrev s_d:Stmt:=bh (tp 67) 2
abbrev s_s:Stmt:=bh (tp 67) 3
abbrev abR:Stmt:=bh (tp 67) 4
abbrev abS:Stmt:=bh (tp 67) 5
abbrev abT:Stmt:=bh (tp 67) 6
abbrev abU:Stmt:=bh (tp 67) 7
abbrev s_D:Stmt:=bh (tp 67) 8
abbrev abV:Stmt:=bh (tp 67) 9
abbrev abW:Stmt:=bh (tp 67) 10
abbrev s_M:Stmt:=bh (tp 67) 11
abbrev abX:Stmt:=bh (tp 67) 12
abbrev abY:Stmt:=bh (tp 67) 13
abbrev abZ:Stmt:=bh (tp 67) 14
abbrev ab0:Stmt:=bh (tp 67) 15
abbrev s_g:Stmt:=tp 71
abbrev s_f:Stmt:=tp 72
abbrev ab1:Stmt:=tp 73
abbrev s_E:Stmt:=tp 74
abbrev s_n:Stmt:=tp 75
abbrev ab2:Stmt:=tp 76
abbrev ab3:Stmt:=tp 77
abbrev ab4:Stmt:=tp 78
abbrev YQ:Stmt:=tp 79
abbrev ab5:Stmt:=tp 80
abbrev s_N:Stmt:=tp 85
abbrev s_t:Stmt:=tp 86
abbrev s_Z:Stmt:=tp 87
abbrev s_j:Stmt:=tp 88
abbrev s_F:Stmt:=tp 89
abbrev s_1:Stmt:=tp 90
abbrev s_2:Stmt:=tp 91
abbrev s_3:Stmt:=tp 92
abbrev s_e:Stmt:=tp 93
abbrev s_x:Stmt:=tp 94
abbrev s_a:Stmt:=tp 95
abbrev s_k:Stmt:=tp 96
abbrev ab6:Stmt:=tp 97
abbrev s_G:Stmt:=tp 98
abbrev s_O:Stmt:=tp 99
abbrev s_H:Stmt:=tp 100
abbrev s_4:Stmt:=tp 101
abbrev s_5:Stmt:=tp 103
abbrev ab7:Stmt:=tp 104
abbrev s_o:Stmt:=tp 105
abbrev s_I:Stmt:=tp 106
abbrev s_6:Stmt:=tp 107
abbrev s_7:Stmt:=tp 108
abbrev ab8:Stmt:=tp 109
abbrev s_u:Stmt:=tp 110
abbrev s_i:Stmt:=tp 111
abbrev s_P:Stmt:=tp 112
abbrev s_w:Stmt:=tp 113
abbrev s_8:Stmt:=tp 114
abbrev s_9:Stmt:=tp 115
abbrev s_p:Stmt:=tp 116
abbrev s_y:Stmt:=tp 117
abbrev ab9:Stmt:=tp 118
abbrev aca:Stmt:=tp 119
abbrev s_J:Stmt:=tp 120
abbrev s_z:Stmt:=tp 125
abbrev acb:Stmt:=tp 126
abbrev acd:Stmt:=tp 127
abbrev s_A:Stmt:=tp 128
abbrev ace:Stmt:=tp 129
abbrev acf:Stmt:=tp 130
abbrev acg:Stmt:=tp 131
abbrev ach:Stmt:=tp 132
abbrev s_q:Stmt:=tp 133
abbrev aci:Stmt:=tp 134
abbrev acj:Stmt:=tp 135
abbrev ack:Stmt:=tp 136
abbrev acm:Stmt:=tp 137
abbrev acn:Stmt:=tp 138
abbrev aco:Stmt:=tp 139
abbrev s_r:Stmt:=tp 140
abbrev s_Q:Stmt:=tp 141
abbrev acp:Stmt:=tp 142
abbrev acq:Stmt:=tp 143
abbrev acr:Stmt:=tp 144
abbrev acs:Stmt:=tp 145
abbrev s_K:Stmt:=tp 148
abbrev s_L:Stmt:=tp 149
abbrev s_R:Stmt:=tp 150
abbrev s_b:Stmt:=tp 151
set_option genInjectivity false in
structure bI where
 (acu acv acw acx acy acz acA acB acC acD acE acF acG acH acI acJ f_S YR YS ahD ahE ahF ahG ahH ahI ahJ f_T f_h f_l f_U f_V f_W f_X f_Y f_B f_C f_m acK f_c f_d f_s ahK ahL ahM ahN f_D ahO ahP f_M ahQ ahR ahS ahT f_g f_f ahU f_E f_n ahV ahW ahX ahY ahZ f_N f_t f_Z f_j f_F f_1 f_2 f_3 f_e f_x f_a f_k ah0 f_G f_O f_H f_4 f_5 acL f_o f_I f_6 f_7 ah1 f_u f_i f_P f_w f_8 f_9 f_p f_y ah2 ah3 f_J f_z ah4 ah5 f_A ah6 ah7 ah8 ah9 f_q aia acM aib aic aid aie f_r f_Q acN acO aif aih f_K f_L f_R f_b L0 OF Od Ll Ky LJ OG Mt NU QB LQ LS KH MV Pd Oe Kv LU Jm Kd HP Sb K6 Qr HQ JB:GB)
 (acP acQ acR acS acT acU acV acW acX acY acZ ac0 ac1 ac2 ac3 ac4 aii ac5 ac6 ac7 ac8 ac9 ada adb ade adf aij aik ail aim ain aio aip aiq air ais ait adg aiu aiv aiw adh adi adj adk aix adl adm aiy adn ado adp adq aiz ads adt aiA aiB adu adv adw adx ady aiC aiD aiE adz adA aiF aiG aiH adB aiI adC adD adE aiJ aiK aiL aiM aiN W7 adF adG aiO aiP adH adI aiQ aiR aiS aiT aiU aiV aiW adJ adK aiX aiY adL adM aiZ adN adO adP adQ ai0 adR W8 adS adT adU adV ai1 ai2 W9 Xa adW adX ai3 ai4 ai5 Vs:Ia)
structure cZ (K:Gy) (mg:Ha->GJ GC) (n:Ha) (st:Stmt) (ps:Gr Ha) (f:GB) (fd:Ia):Prop where
 F:sd K n n st f fd
 c:CD K mg n f fd ps
structure hX (K:Gy) (C:GB) (n q:Ha) (st:Stmt) (ps:Gr Ha) (f:GB) (fd:Ia):Prop where
 F:sd K n q st f fd
 c:MD K C n f fd ps
structure Txt (K:Gy) (mg:Ha->GJ GC) (a:bI):Prop where
 OZ:mg "Number"=GM (.ref a.L0)
 Ua:mg "Name"=GM (.ref a.OF)
 RC:mg "Call"=GM (.ref a.Od)
 OH:mg "Unary"=GM (.ref a.Ll)
 PQ:mg "Chain"=GM (.ref a.Ky)
 O0:mg "Choice"=GM (.ref a.LJ)
 Vt:mg "Sum"=GM (.ref a.OG)
 RD:mg "Let"=GM (.ref a.Mt)
 Tv:mg "For"=GM (.ref a.NU)
 Vu:mg "If"=GM (.ref a.QB)
 RE:mg "Step"=GM (.ref a.LQ)
 Tw:mg "Amounts"=GM (.ref a.LS)
 Vv:mg "Block"=GM (.ref a.KH)
 QR:mg "Const"=GM (.ref a.MV)
 Tx:mg "Fun"=GM (.ref a.Pd)
 Wg:mg "Desk"=GM (.ref a.Oe)
 M3:mg "Refusal"=GM (.ref a.Kv)
 PR:mg "NotAsTold"=GM (.ref a.LU)
 QS:mg "Fault"=GM (.ref a.Jm)
 Sd:mg "Token"=GM (.ref a.Kd)
 Uy:mg "Reader"=GM (.ref a.HP)
 adY:hX K a.L0 "__init__" "Number.__init__" abq ["self","worth"] a.acu a.acP
 adZ:hX K a.OF "__init__" "Name.__init__" abr ["self","name"] a.acv a.acQ
 ad0:hX K a.Od "__init__" "Call.__init__" abt ["self","name","arguments"] a.acw a.acR
 ad1:hX K a.Ll "__init__" "Unary.__init__" abu ["self","sign","operand"] a.acx a.acS
 ad2:hX K a.Ky "__init__" "Chain.__init__" abv ["self","strength","operands","signs"] a.acy a.acT
 ad3:hX K a.LJ "__init__" "Choice.__init__" abw ["self","condition","chosen","otherwise"] a.acz a.acU
 ad4:hX K a.OG "__init__" "Sum.__init__" abx ["self","name","first","last","body"] a.acA a.acV
 ad5:hX K a.Mt "__init__" "Let.__init__" aby ["self","name","exp"] a.acB a.acW
 ad6:hX K a.NU "__init__" "For.__init__" abz ["self","name","first","last","statements"] a.acC a.acX
 ad7:hX K a.QB "__init__" "If.__init__" abA ["self","condition","statements","else_statements"] a.acD a.acY
 ad8:hX K a.LQ "__init__" "Step.__init__" abB ["self","side","zone","quarter","price","to_price","amount"] a.acE a.acZ
 ad9:hX K a.LS "__init__" "Amounts.__init__" abC ["self","name","exp"] a.acF a.ac0
 aea:hX K a.KH "__init__" "Block.__init__" abD ["self","name","side","zone","price","amounts","under","group"] a.acG a.ac1
 aeb:hX K a.MV "__init__" "Const.__init__" abE ["self","name","exp"] a.acH a.ac2
 aec:hX K a.Pd "__init__" "Fun.__init__" abF ["self","name","parameters","exp"] a.acI a.ac3
 aed:hX K a.Oe "__init__" "Desk.__init__" abG ["self","name","statements"] a.acJ a.ac4
 d_S:hX K a.Kv "__init__" "Refusal.__init__" s_S ["self","number"] a.f_S a.aii
 YT:hX K a.LU "__init__" "NotAsTold.__init__" abH ["self"] a.YR a.ac5
 Wh:hX K a.Jm "__init__" "Fault.__init__" abI ["self","kind","line","column"] a.YS a.ac6
 YU:cZ K mg "has_result" abJ ["sign","right"] a.ahD a.ac7
 YV:cZ K mg "sign_result" abK ["sign","left","right"] a.ahE a.ac8
 YW:cZ K mg "is_so" abL ["sign","left","right"] a.ahF a.ac9
 YX:cZ K mg "unary_result" abM ["sign","number"] a.ahG a.ada
 YY:cZ K mg "function_result" abN ["name","numbers"] a.ahH a.adb
 Wi:cZ K mg "decides" abO ["strength","number"] a.ahI a.ade
 YZ:cZ K mg "decided_value" abP ["strength"] a.ahJ a.adf
 d_T:hX K a.Kd "__init__" "Token.__init__" s_T ["self","kind","value","line","column"] a.f_T a.aij
 d_h:cZ K mg "is_digit" s_h ["byte"] a.f_h a.aik
 d_l:cZ K mg "is_letter" s_l ["byte"] a.f_l a.ail
 d_U:cZ K mg "comment_end" s_U ["text","at"] a.f_U a.aim
 d_V:cZ K mg "word_end" s_V ["text","at"] a.f_V a.ain
 d_W:cZ K mg "digits_end" s_W ["text","at"] a.f_W a.aio
 d_X:cZ K mg "token_end" s_X ["text","at"] a.f_X a.aip
 d_Y:cZ K mg "token_kind" s_Y ["text","at","end"] a.f_Y a.aiq
 d_B:cZ K mg "decimal_worth" s_B ["part"] a.f_B a.air
 d_C:cZ K mg "token_value" s_C ["kind","part"] a.f_C a.ais
 d_m:cZ K mg "scan_text" s_m ["text"] a.f_m a.ait
 Y0:hX K a.HP "__init__" "Reader.__init__" abQ ["self","tokens"] a.acK a.adg
 Vw:hX K a.HP "current" "Reader.current" s_c ["self"] a.f_c a.aiu
 Vx:hX K a.HP "fail" "Reader.fail" s_d ["self","kind"] a.f_d a.aiv
 d_s:hX K a.HP "sees" "Reader.sees" s_s ["self","value"] a.f_s a.aiw
 Y1:hX K a.HP "at_end" "Reader.at_end" abR ["self"] a.ahK a.adh
 Y2:hX K a.HP "at_number" "Reader.at_number" abS ["self"] a.ahL a.adi
 Wj:hX K a.HP "at_name" "Reader.at_name" abT ["self"] a.ahM a.adj
 Y3:hX K a.HP "number_follows" "Reader.number_follows" abU ["self"] a.ahN a.adk
 d_D:hX K a.HP "take" "Reader.take" s_D ["self"] a.f_D a.aix
 Y4:hX K a.HP "expect" "Reader.expect" abV ["self","value"] a.ahO a.adl
 Y5:hX K a.HP "skips" "Reader.skips" abW ["self","value"] a.ahP a.adm
 d_M:hX K a.HP "need_name" "Reader.need_name" s_M ["self"] a.f_M a.aiy
 Y6:hX K a.HP "take_free_name" "Reader.take_free_name" abX ["self"] a.ahQ a.adn
 Y7:hX K a.HP "take_name_not_in" "Reader.take_name_not_in" abY ["self","given"] a.ahR a.ado
 Y8:hX K a.HP "learn" "Reader.learn" abZ ["self","name"] a.ahS a.adp
 Wk:hX K a.HP "forget" "Reader.forget" ab0 ["self","name"] a.ahT a.adq
 d_g:cZ K mg "deeper" s_g ["reader","depth"] a.f_g a.aiz
 Se:cZ K mg "read_exp" s_f ["reader","depth"] a.f_f a.ads
 Wl:cZ K mg "read_choice" ab1 ["reader","depth"] a.ahU a.adt
 Xb:cZ K mg "read_chain" s_E ["reader","depth","strength"] a.f_E a.aiA
 VX:cZ K mg "read_unary" s_n ["reader","depth"] a.f_n a.aiB
 Wm:cZ K mg "read_primary" ab2 ["reader","depth"] a.ahV a.adu
 Wn:cZ K mg "read_brackets" ab3 ["reader","depth"] a.ahW a.adv
 Wo:cZ K mg "read_sum" ab4 ["reader","depth"] a.ahX a.adw
 Wq:cZ K mg "read_call" YQ ["reader","depth"] a.ahY a.adx
 Y9:cZ K mg "refuse_here" ab5 ["reader","sign"] a.ahZ a.ady
 d_N:cZ K mg "sheet_form" s_N ["tops"] a.f_N a.aiC
 d_t:cZ K mg "bytes_of" s_t ["pieces"] a.f_t a.aiD
 d_Z:cZ K mg "top_form" s_Z ["top"] a.f_Z a.aiE
 d_j:cZ K mg "braces_form" s_j ["statements","depth"] a.f_j a.adz
 d_F:cZ K mg "statement_form" s_F ["statement","depth"] a.f_F a.adA
 d_1:cZ K mg "if_form" s_1 ["statement","depth"] a.f_1 a.aiF
 d_2:cZ K mg "step_form" s_2 ["step"] a.f_2 a.aiG
 d_3:cZ K mg "block_form" s_3 ["block"] a.f_3 a.aiH
 Vy:cZ K mg "part_form" s_e ["word","exp"] a.f_e a.adB
 d_x:cZ K mg "range_form" s_x ["node"] a.f_x a.aiI
 Tz:cZ K mg "any_form" s_a ["exp"] a.f_a a.adC
 Za:cZ K mg "placed_form" s_k ["exp","weakest"] a.f_k a.adD
 Zb:cZ K mg "strength_of" ab6 ["exp"] a.ah0 a.adE
 d_G:cZ K mg "exp_form" s_G ["exp"] a.f_G a.aiJ
 d_O:cZ K mg "arguments_form" s_O ["arguments"] a.f_O a.aiK
 d_H:cZ K mg "chain_form" s_H ["chain"] a.f_H a.aiL
 d_4:cZ K mg "choice_form" s_4 ["choice"] a.f_4 a.aiM
 d_5:cZ K mg "simpler_tops" s_5 ["tops"] a.f_5 a.aiN
 Zc:cZ K mg "simpler_top" ab7 ["top"] a.acL a.W7
 d_o:cZ K mg "simpler_statements" s_o ["statements"] a.f_o a.adF
 d_I:cZ K mg "simpler_statement" s_I ["statement"] a.f_I a.adG
 d_6:cZ K mg "simpler_step" s_6 ["step"] a.f_6 a.aiO
 d_7:cZ K mg "simpler_block" s_7 ["block"] a.f_7 a.aiP
 Ws:cZ K mg "simpler_if_there" ab8 ["exp"] a.ah1 a.adH
 Zd:cZ K mg "simpler" s_u ["exp"] a.f_u a.adI
 VY:cZ K mg "written_value" s_i ["exp"] a.f_i a.aiQ
 d_P:cZ K mg "written_number" s_P ["value"] a.f_P a.aiR
 d_w:cZ K mg "simpler_call" s_w ["call"] a.f_w a.aiS
 d_8:cZ K mg "simpler_unary" s_8 ["unary"] a.f_8 a.aiT
 d_9:cZ K mg "simpler_chain" s_9 ["chain"] a.f_9 a.aiU
 d_p:cZ K mg "simpler_deciding" s_p ["chain","operands"] a.f_p a.aiV
 d_y:cZ K mg "simpler_reckoning" s_y ["chain","operands"] a.f_y a.aiW
 Ze:cZ K mg "written_result" ab9 ["sign","left","right"] a.ah2 a.adJ
 Zg:cZ K mg "simpler_choice" aca ["choice"] a.ah3 a.adK
 d_J:cZ K mg "simpler_sum" s_J ["summed"] a.f_J a.aiX
 d_z:cZ K mg "read_sheet" s_z ["text"] a.f_z a.aiY
 Wt:cZ K mg "read_top" acb ["reader"] a.ah4 a.adL
 Wu:cZ K mg "read_const" acd ["reader"] a.ah5 a.adM
 Xc:cZ K mg "read_given" s_A ["reader"] a.f_A a.aiZ
 Wv:cZ K mg "read_fun" ace ["reader"] a.ah6 a.adN
 Zh:cZ K mg "read_parameters" acf ["reader","function"] a.ah7 a.adO
 Zi:cZ K mg "read_parameter" acg ["reader","function"] a.ah8 a.adP
 Ww:cZ K mg "read_desk" ach ["reader"] a.ah9 a.adQ
 VZ:cZ K mg "read_braces" s_q ["reader","depth"] a.f_q a.ai0
 Wx:cZ K mg "read_statement" aci ["reader","depth"] a.aia a.adR
 Zj:cZ K mg "read_let" acj ["reader"] a.acM a.W8
 Zk:cZ K mg "deeper_braces" ack ["reader","depth"] a.aib a.adS
 Wy:cZ K mg "read_for" acm ["reader","depth"] a.aic a.adT
 Wz:cZ K mg "read_if" acn ["reader","depth"] a.aid a.adU
 Zl:cZ K mg "read_side" aco ["reader"] a.aie a.adV
 WA:cZ K mg "read_part" s_r ["reader","word"] a.f_r a.ai1
 d_Q:cZ K mg "read_part_if_there" s_Q ["reader","word"] a.f_Q a.ai2
 Zm:cZ K mg "read_step" acp ["reader"] a.acN a.W9
 Zn:cZ K mg "read_block" acq ["reader"] a.acO a.Xa
 WB:cZ K mg "read_amounts" acr ["reader"] a.aif a.adW
 Zo:cZ K mg "read_under_name" acs ["reader"] a.aih a.adX
 d_K:cZ K mg "is_text" s_K ["text"] a.f_K a.ai3
 d_L:cZ K mg "need" s_L ["as_told"] a.f_L a.ai4
 d_R:cZ K mg "row" s_R ["numbers"] a.f_R a.ai5
 d_b:cZ K mg "fold" s_b ["text"] a.f_b a.Vs
 NV:iZ K a.L0
 Uz:Mk K a.L0 a.acu
 LN:aH K a.L0 "worth"
 RF:iZ K a.OF
 WC:Mk K a.OF a.acv
 PU:aH K a.OF "name"
 Ny:iZ K a.Od
 WD:Mk K a.Od a.acw
 L1:aH K a.Od "name"
 L3:aH K a.Od "arguments"
 Lw:iZ K a.Ll
 Vz:Mk K a.Ll a.acx
 Lb:aH K a.Ll "sign"
 KJ:aH K a.Ll "operand"
 K7:iZ K a.Ky
 VA:Mk K a.Ky a.acy
 Ke:aH K a.Ky "strength"
 L4:aH K a.Ky "operands"
 L5:aH K a.Ky "signs"
 Lc:iZ K a.LJ
 UA:Mk K a.LJ a.acz
 LF:aH K a.LJ "condition"
 Lz:aH K a.LJ "chosen"
 KI:aH K a.LJ "otherwise"
 OI:iZ K a.OG
 Zp:Mk K a.OG a.acA
 OJ:aH K a.OG "name"
 Of:aH K a.OG "first"
 OK:aH K a.OG "last"
 OL:aH K a.OG "body"
 Pj:iZ K a.Mt
 Zq:Mk K a.Mt a.acB
 Nz:aH K a.Mt "name"
 Pk:aH K a.Mt "exp"
 OM:iZ K a.NU
 Zr:Mk K a.NU a.acC
 ON:aH K a.NU "name"
 Og:aH K a.NU "first"
 OO:aH K a.NU "last"
 L6:aH K a.NU "statements"
 PV:iZ K a.QB
 aee:Mk K a.QB a.acD
 MH:aH K a.QB "condition"
 Mj:aH K a.QB "statements"
 Kq:aH K a.QB "else_statements"
 Lm:iZ K a.LQ
 WE:Mk K a.LQ a.acE
 Oh:aH K a.LQ "side"
 Oi:aH K a.LQ "zone"
 MI:aH K a.LQ "quarter"
 NG:aH K a.LQ "price"
 Ml:aH K a.LQ "to_price"
 M4:aH K a.LQ "amount"
 M5:iZ K a.LS
 TC:Mk K a.LS a.acF
 MJ:aH K a.LS "name"
 M6:aH K a.LS "exp"
 J3:iZ K a.KH
 VB:Mk K a.KH a.acG
 Mr:aH K a.KH "name"
 NH:aH K a.KH "side"
 NI:aH K a.KH "zone"
 M7:aH K a.KH "price"
 Mm:aH K a.KH "amounts"
 L7:aH K a.KH "under"
 M8:aH K a.KH "group"
 NW:iZ K a.MV
 VC:Mk K a.MV a.acH
 NJ:aH K a.MV "name"
 Oj:aH K a.MV "exp"
 OP:iZ K a.Pd
 Zs:Mk K a.Pd a.acI
 OQ:aH K a.Pd "name"
 L8:aH K a.Pd "parameters"
 Pl:aH K a.Pd "exp"
 O1:iZ K a.Oe
 WG:Mk K a.Oe a.acJ
 Ol:aH K a.Oe "name"
 LR:aH K a.Oe "statements"
 JT:iZ K a.Kd
 Sf:Mk K a.Kd a.f_T
 Ld:aH K a.Kd "kind"
 Kp:aH K a.Kd "value"
 NK:aH K a.Kd "line"
 ML:aH K a.Kd "column"
 Ht:iZ K a.HP
 UC:Mk K a.HP a.acK
 Mn:aH K a.HP "tokens"
 LB:aH K a.HP "at"
 K8:aH K a.HP "known"
 JV:aH K a.HP "functions"
 MM:aH K a.HP "desks"
 KL:aH K a.HP "blocks"
 VD: ∃t,mg "EITHER"=GM (.int 0 t)
 TF: ∃t,mg "BOTH"=GM (.int 1 t)
 RG: ∃t,mg "COMPARISON"=GM (.int 2 t)
 TH: ∃t,mg "GREATEST"=GM (.int 1000000000000000000 t)
 TJ: ∃t,mg "WORD"=GM (.int 0 t)
 PX: ∃t,mg "NUMBER"=GM (.int 1 t)
 VE: ∃t,mg "SIGN"=GM (.int 2 t)
 Xd: ∃t,mg "END"=GM (.int 3 t)
 PY: ∃t,mg "WRONG"=GM (.int 4 t)
 QT: ∃t,mg "LONGEST_WORD"=GM (.int 24 t)
 Qa: ∃t,mg "LONGEST_NUMBER"=GM (.int 18 t)
 Qs: ∃t,mg "LINE_FEED"=GM (.int 10 t)
 UD: ∃t,mg "COMMENT"=GM (.int 35 t)
 VF:mg "BLANKS"=GM (.ref a.Sb)
 RH:mg "SIGNS"=GM (.ref a.K6)
 TK: ∃t,mg "SPELLING"=GM (.str "0123456789:;<=>?@ABCDEFGHIJKLMNOPQRSTUVWXYZ[\\]^_`abcdefghijklmnopqrstuvwxyz" t)
 Rg: ∃t,mg "WRONG_TOKEN"=GM (.int 1 t)
 Pn: ∃t,mg "NOT_HERE"=GM (.int 2 t)
 Qt: ∃t,mg "NOT_KNOWN"=GM (.int 3 t)
 Po: ∃t,mg "NOT_FREE"=GM (.int 4 t)
 Sg: ∃t,mg "ARGUMENTS"=GM (.int 5 t)
 QU: ∃t,mg "TOO_DEEP"=GM (.int 6 t)
 QV: ∃t,mg "TOO_MANY"=GM (.int 7 t)
 Sh:mg "KEY_WORDS"=GM (.ref a.Qr)
 L9:mg "FIRST_FUNCTIONS"=GM (.ref a.HQ)
 Rh: ∃t,mg "MOST_LEVELS"=GM (.int 12 t)
 Pf:mg "CHAIN_SIGNS"=GM (.ref a.JB)
 Si: ∃t,mg "REST_BYTE"=GM (.int 37 t)
 NX: ∃t,mg "UNARY_STRENGTH"=GM (.int 5 t)
 QC: ∃t,mg "FULL_STRENGTH"=GM (.int 6 t)
 Ri: ∃t,mg "MOST_BRACES"=GM (.int 6 t)
 Qb: ∃t,mg "MOST_FUNCTIONS"=GM (.int 6 t)
 PZ: ∃t,mg "MOST_PARAMETERS"=GM (.int 6 t)
 QW: ∃t,mg "LONGEST_TEXT"=GM (.int 3000 t)
 VG:qa K a.Sb [.int 9, .int 10, .int 13, .int 32]
 Sj:qa K a.Qr [.str "const", .str "fun", .str "desk", .str "let", .str "for", .str "in", .str "if", .str "then", .str "else", .str "sell", .str "buy", .str "zone", .str "quarter", .str "price", .str "to", .str "amount", .str "block", .str "under", .str "group", .str "sum"]
 Sk:mg "Exception"=Ix
 Xe:mg "abs"=Ix
 aef:mg "all"=Ix
 aeg:mg "any"=Ix
 Zu:mg "dict"=Ix
 HR:mg "isinstance"=Ix
 LV:mg "len"=Ix
 aeh:mg "max"=Ix
 aei:mg "min"=Ix
 aej:mg "ord"=Ix
 aek:mg "str"=Ix
 RI:mg "tuple"=Ix
 ael:mg "zip"=Ix
variable {P:Hr}{w:HW}{K:Gy}{mg:Ha->GJ GC}{base:Im}{a:bI}
abbrev nb (c:JZ):Int:=(c.toNat:Int)
def kb (c:JZ):cf:=KG (nb c)
def eQ:Gr (Gr cf×V):=Ih.map λs=>(s.map kb,V.str (dI s))
structure EA (K:Gy) (R:GB) (m:Ha) (f:GB):Prop where
 sp:PH K (.ref R) "__getattribute__"=GM (GM (.builtin "type.__getattribute__"))
 ty:Vo K (.ref R)=GM (.type "type")
 rd:PySem.W.readsIn K R (.type "type")=IN
 fc:U4 K (.ref R) (.type "type") m=GM (.val (.ref f))
 kp:JS K (.ref f)=IN
structure XT (K:Gy) (a:bI):Prop where
 fc:hU K a.Kv a.Jm a.YS
 rm:EA K a.Kv "__init__" a.f_S
structure vT (P:Hr) (w:HW) (K:Gy) (a:GB) (IB:Gr (cf×V)):Prop where
 at_: ∃vs:Gr (cf×GC),(∀h:Im,K.In h->h.DictOf (bK P w) a vs)/\KV IB vs
 len:IB.length<=GZ
 no:(a == J4)=IR
def cv:Gr (cf×V):=[(.inr "min", .int 2),(.inr "max", .int 2),(.inr "abs", .int 1)]
end OS
namespace OS
open PySem PySem.Spec L2
open PyProof.Rows hiding St
variable {P:Hr}{w:HW}{K:Gy}{mg:Ha->GJ GC}{base:Im}{a:bI}
def Bc (K:Gy) (ad:GB) (rows:Gr (Gr V)):Prop:= ∃qs:Gr GB,qa K ad (qs.map V.ref)/\Paired (λq xs=>qa K q xs) qs rows
def dN:Gr (Gr V):=[[.str "||"],[.str "&&"],[.str "==", .str "!=", .str "<=", .str ">=", .str "<", .str ">"],[.str "+", .str "-"],[.str "*", .str "/", .str "/rest"]]
end OS
namespace OS
open PySem PySem.Spec L2
open PyProof.Rows hiding St
variable {P:Hr}{w:HW}{K:Gy}{mg:Ha->GJ GC}{base:Im}{a:bI}
def tq (a:bI):Gr GB:=[a.L0,a.OF,a.Od,a.Ll,a.Ky,a.LJ,a.OG,a.Mt,a.NU,a.QB,a.LQ,a.KH,a.MV,a.Pd,a.Oe]
structure jK (K:Gy) (a:bI):Prop where
 ty: ∀C∈tq a,Bu K C
 Zv:((tq a).map λC=>(tq a).map λD=>Jk K (.ref C) (.ref D))=(Nv 15).map λi=>(Nv 15).map λj=>GM (decide (i=j))
end OS
namespace OS
open PySem PySem.Spec L2
open PyProof.Rows hiding St
variable {P:Hr}{w:HW}{K:Gy}{mg:Ha->GJ GC}{base:Im}{a:bI}
def dX (zs:Gr Int):Gr V:=zs.map V.int
structure XS (K:Gy) (a:bI):Prop extends XT K a where
 OR:hU K a.Kv a.LU a.YR
def dOf:Data->Gr O4
 | .dict es _=>es.toList
 |_=>[]
def Zw (h:dOf d=e::r): ∃es ep,d= .dict es ep/\es.toList=e::r:=by
 cases d with
 |dict es n=>exact#[es,n,KB,h]
 |_=>cases h
noncomputable def Sn (K:Gy) (a:GB):Gr O4:=((K.lookup a).map λo=>if o.cls= .type "dict"/\o.dict=Ix/\o.slots.size=0 then dOf o.data else []).getD []
def xU {K:Gy}{a:GB}(h:Sn K a=e::r): ∃o es ep,K.lookup a=GM o/\o.ExactDict/\o.data= .dict es ep/\es.toList=e::r:=by
 unfold Sn at h;cases q:K.lookup a with
 |none=>rw[q] at h;cases h
 |some o=>
  rw[q] at h;have h:(if o.cls= .type "dict"/\o.dict=Ix/\o.slots.size=0 then dOf o.data else [])=e::r:=h
  by_cases c:o.cls= .type "dict"/\o.dict=Ix/\o.slots.size=0
  .rw[GI c] at h
   obtain⟨es,n,h1,h2⟩:=Zw h;exact#[o,es,n,KB,#[c.1,c.2.1,KC.eq_empty_of_size_eq_zero c.2.2],h1,h2]
  .rw[GG c] at h
   cases h
section
variable {a:GB}
def Fv {mg:Ha->GJ GC}(X:K.In h) (G:h.Ns N mg) (e:K0 K N n=GM (GM v)):mg n=GM v:=by
 obtain⟨o,es,ep,ho,hd,_,hf⟩:=G;unfold K0 at e;split at e
 .rename_i c d es' n' sl q
  have:=X _ _ q;rw[ho] at this;cases this;cases hd;split at e
  .rename_i en he
   cases e;rw[<-hf];unfold nsFind findBy;rw[<-Ut,he]
   rfl
  .split at e<;>cases e
 .cases e
def iOf:GC->GJ Int
 | .int i _=>GM i
 |_=>Ix
def xOf:GC->GJ Ha
 | .str i _=>GM i
 |_=>Ix
def rOf:GC->GJ GB
 | .ref i=>GM i
 |_=>Ix
def xA (h:iOf v=GM i): ∃t,v= .int i t:=by
 cases v with
 |int j t=>cases h;exact#[t,KB]
 |_=>cases h
def vZ (h:xOf v=GM i): ∃t,v= .str i t:=by
 cases v with
 |str j t=>cases h;exact#[t,KB]
 |_=>cases h
def BU (h:rOf v=GM i):v= .ref i:=by
 cases v with
 |ref j=>cases h;rfl
 |_=>cases h
abbrev uk {A:Type}(f:GC->GJ A) (l:Gr GC):GJ (Gr A):=l.mapM f
abbrev oj:=uk iOf
abbrev pf:=uk xOf
abbrev wD:=uk rOf
theorem jB {A B:Type}{f:GC->GJ A}{g:A->B}{R:B->GC->Prop}(hf: ∀v x,f v=GM x->R (g x) v): ∀ {vs:Gr GC}{l:Gr A},uk f vs=GM l->Paired R (l.map g) vs
 |[],l,h=>by cases h;exact .nil
 |v::r,l,h=>by
  rw[uk,Gr.mapM_cons] at h;cases e:f v with
  |none=>rw[e] at h;cases h
  |some x=>
   cases q:r.mapM f with
   |none=>rw[e,q] at h;cases h
   |some l'=>rw[e,q] at h;cases h;exact .cons (hf v x e) (jB hf q)
def qOf:Data->GJ (KC GC)
 | .seq Jl _=>GM Jl
 |_=>Ix
def Zx (h:qOf d=GM Jl): ∃n,d= .seq Jl n:=by
 cases d with
 |seq es n=>cases h;exact#[n,KB]
 |_=>cases h
noncomputable def M9 (K:Gy) (a:GB):GJ (Gr GC):=(K.lookup a).bind λo=>(qOf o.data).bind λJl=>if o.cls= .type "tuple"/\Jl.size<=1000 then GM Jl.toList else Ix
def ub (h:M9 K a=GM l): ∃o Jl n,K.lookup a=GM o/\o.cls= .type "tuple"/\o.data= .seq Jl n/\Jl.size<=GZ/\Jl.toList=l:=by
 obtain⟨o,h1,h⟩:=JM.mp h;obtain⟨Jl,h2,h⟩:=JM.mp h;obtain⟨n,h2⟩:=Zx h2;by_cases c:o.cls= .type "tuple"/\Jl.size<=1000
 .rw[GI c] at h
  exact#[o,Jl,n,h1,c.1,h2,G0 c.2 [01],Hb h]
 .rw[GG c] at h
  cases h
def ve (h:oj vs=GM l):bH (l.map V.int) vs:=jB (λ_ _ e=>xA e) h
def vJ (h:pf vs=GM l):bH (l.map V.str) vs:=jB (λ_ _ e=>vZ e) h
def vp (h:wD vs=GM l):bH (l.map V.ref) vs:=jB (λ_ _ e=>BU e) h
def rY (h:M9 K a=GM vs) (v:bH xs vs):qa K a xs:=by
 obtain⟨o,Jl,n,h1,h2,h3,h4,h5⟩:=ub h;exact#[o,Jl,n,h1,h2,h3,h4,by rw[h5];exact v]
def BP (h:(M9 K a).bind oj=GM l):qa K a (l.map V.int):=by
 cases e:M9 K a with
 |none=>rw[e] at h;cases h
 |some vs=>rw[e] at h;exact rY e (ve h)
def tN (h:(M9 K a).bind pf=GM l):qa K a (l.map V.str):=by
 cases e:M9 K a with
 |none=>rw[e] at h;cases h
 |some vs=>rw[e] at h;exact rY e (vJ h)
noncomputable def Ub (K:Gy) (e:O4):GJ (Int×Gr Int×Ha):=(rOf e.key).bind λp=>(xOf e.val).bind λx=>((M9 K p).bind oj).map λl=>(e.hash,l,x)
def Ez (z:Ub K e=GM (h,l,x)): ∃p t,e.key= .ref p/\e.val= .str x t/\e.hash=h/\(M9 K p).bind oj=GM l:=by
 obtain⟨p,h1,z⟩:=JM.mp z;obtain⟨x',h2,z⟩:=JM.mp z;obtain⟨l',h3,z⟩:=IT.mp z;cases z;obtain⟨t,h2⟩:=vZ h2;exact#[p,t,BU h1,h2,KB,h3]
def Dy (h:Paired (λk v=>(bK P w).is k v=IN) ks vs):ItemsAre (bK P w) ks vs:=by
 induction h with
 |nil=>exact .nil
 |cons h _ i=>exact .cons h i
def AB (h:oj vs=GM l):ItemsAre (bK P w) (l.map λi=>(KG i:cf)) vs:=
 Dy (jB (f:=iOf) (g:=λi=>(KG i:cf)) (λv i e=>by
  obtain⟨t,rfl⟩:=xA e;exact IK i) h)
theorem xK: ∀ {es:Gr O4}{L:Gr (Gr Int×Ha)},es.map (Ub K)=(L.map λp=>GM (Vf (bK P w) (p.1.map λi=>(KG i:cf)),p.1,p.2))->
  ∃xs:Gr (Gr cf×GB×GC),Paired (λ(p:Gr cf×V) (q:Gr cf×GB×GC)=>p.1=q.1/\bD p.2 q.2.2) (L.map λp=>(p.1.map λi=>(KG i:cf),V.str p.2)) xs/\es=xs.map (entryOfKey (N4 (bK P w)))/\(xs.map (·.1))=(L.map λp=>p.1.map λi=>(KG i:cf))/\ ∀h:Im,K.In h-> ∀x∈xs,(N4 (bK P w)).is h x.1 x.2.1
 |[],[],_=>#[[], .nil,KB,KB,λ_ _ _ z=>nomatch z]
 |[],_::_,h=>by cases h
 |_::_,[],h=>by cases h
 |e::es,p::L,h=>by
  rw[G8,G8] at h;obtain⟨h1,h2⟩:=Nr h;obtain⟨xs,k1,k2,k3,k4⟩:=xK h2;obtain⟨q,t,e1,e2,e3,e4⟩:=Ez h1;refine#[(p.1.map λi=>KG i,q, .str p.2 t)::xs, .cons #[KB,#[t,KB]] k1,?_,by rw[G8,G8,k3],λhp hK y hy=>?_]
  .rw[G8,<-k2]
   congr 1
   obtain⟨eh,ek,ev⟩:=e;cases e1;cases e2;cases e3
   rfl
  .rcases Hg.mp hy with rfl|hy
   .cases z:M9 K q with
    |none=>rw[z] at e4;cases e4
    |some vs=>
     rw[z] at e4;obtain⟨o,Jl,n,g1,g2,g3,g4,g5⟩:=ub z;exact#[o,Jl,n,hK _ _ g1,g2,g3,by rw[g5];exact AB e4]
   .exact k4 hp hK y hy
def Zy {L:Gr (Gr Int×Ha)}(ne:L≠[]) (h:(Sn K a).map (Ub K)=(L.map λp=>GM (Vf (bK P w) (p.1.map λi=>(KG i:cf)),p.1,p.2))) (nd:(L.map λp=>p.1.map λi=>(KG i:cf)).Nodup) (no:(a == J4)=IR):
  Bi P w K a (L.map λp=>(p.1.map λi=>(KG i:cf),V.str p.2)):=by
 obtain⟨xs,k1,k2,k3,k4⟩:=xK (P:=P) (w:=w) h;cases he:Sn K a with
 |nil=>rw[he] at h;exact G6 (Gr.map_eq_nil_iff.mp h.symm) ne
 |cons e r=>
  obtain⟨o,es,ep,lk,ex,od,el⟩:=xU he;refine#[#[xs,λhp hK=>#[o,es,ep,hK a o lk,ex,od,by rw[el,<-he];exact k2,k4 hp hK,by rw[k3];exact nd],k1],no]
def Xf:Gr (Gr Int×Ha):=Ih.map λs=>(s.map nb,dI s)
def BO:eQ=Xf.map λp=>(p.1.map λi=>(KG i:cf),V.str p.2):=by decide+kernel
def FU {mg:Ha->GJ GC}{a:bI}(_:Txt K mg a) (e:(Sn K a.K6).map (Ub K)=(Xf.map λp=>GM (Vf (bK P w) (p.1.map λi=>(KG i:cf)),p.1,p.2))) (no:(a.K6 == J4)=IR):Bi P w K a.K6 eQ:=by
 rw[BO];exact Zy [00] e [00] no
def jc {A:Type}{C:Gr A->Prop}{us:Gr A}(h:us.length=n+1) (k: ∀a r,r.length=n->C (a::r)):C us:=by
 cases us with
 |nil=>cases h
 |cons a r=>exact k a r (VU h)
def v0 {A:Type}{C:Gr A->Prop}{us:Gr A}(h:us.length=0) (k:C []):C us:=by
 cases us with
 |nil=>exact k
 |cons a r=>cases h
def v1 {A:Type}{C:Gr A->Prop}{us:Gr A}(h:us.length=1) (k: ∀a,C [a]):C us:=jc h λa r h=>v0 (C:=λr=>C (a::r)) h (k a)
def v2 {A:Type}{C:Gr A->Prop}{us:Gr A}(h:us.length=2) (k: ∀a b,C [a,b]):C us:=jc h λa r h=>v1 (C:=λr=>C (a::r)) h (k a)
def v3 {A:Type}{C:Gr A->Prop}{us:Gr A}(h:us.length=3) (k: ∀a b c,C [a,b,c]):C us:=jc h λa r h=>v2 (C:=λr=>C (a::r)) h (k a)
def v4 {A:Type}{C:Gr A->Prop}{us:Gr A}(h:us.length=4) (k: ∀a b c d,C [a,b,c,d]):C us:=jc h λa r h=>v3 (C:=λr=>C (a::r)) h (k a)
def v5 {A:Type}{C:Gr A->Prop}{us:Gr A}(h:us.length=5) (k: ∀a b c d e,C [a,b,c,d,e]):C us:=jc h λa r h=>v4 (C:=λr=>C (a::r)) h (k a)
def v6 {A:Type}{C:Gr A->Prop}{us:Gr A}(h:us.length=6) (k: ∀a b c d e f,C [a,b,c,d,e,f]):C us:=jc h λa r h=>v5 (C:=λr=>C (a::r)) h (k a)
def v7 {A:Type}{C:Gr A->Prop}{us:Gr A}(h:us.length=7) (k: ∀a b c d e f g,C [a,b,c,d,e,f,g]):C us:=jc h λa r h=>v6 (C:=λr=>C (a::r)) h (k a)
def v8 {A:Type}{C:Gr A->Prop}{us:Gr A}(h:us.length=8) (k: ∀a b c d e f g h,C [a,b,c,d,e,f,g,h]):C us:=jc h λa r h=>v7 (C:=λr=>C (a::r)) h (k a)
def u0 {fd:Ia}{ps:Gr Ha}{us:Gr GC}(h:us.length=0) (k:IW fd #[[],[]]=pure (ps.zip [])):IW fd #[us,[]]=pure (ps.zip us):=v0 (C:=λus=>IW fd #[us,[]]=pure (ps.zip us)) h k
def u1 {fd:Ia}{ps:Gr Ha}{us:Gr GC}(h:us.length=1) (k: ∀a,IW fd #[[a],[]]=pure (ps.zip [a])):IW fd #[us,[]]=pure (ps.zip us):=v1 (C:=λus=>IW fd #[us,[]]=pure (ps.zip us)) h k
def u2 {fd:Ia}{ps:Gr Ha}{us:Gr GC}(h:us.length=2) (k: ∀a b,IW fd #[[a,b],[]]=pure (ps.zip [a,b])):IW fd #[us,[]]=pure (ps.zip us):=v2 (C:=λus=>IW fd #[us,[]]=pure (ps.zip us)) h k
def u3 {fd:Ia}{ps:Gr Ha}{us:Gr GC}(h:us.length=3) (k: ∀a b c,IW fd #[[a,b,c],[]]=pure (ps.zip [a,b,c])):IW fd #[us,[]]=pure (ps.zip us):=v3 (C:=λus=>IW fd #[us,[]]=pure (ps.zip us)) h k
def u4 {fd:Ia}{ps:Gr Ha}{us:Gr GC}(h:us.length=4) (k: ∀a b c d,IW fd #[[a,b,c,d],[]]=pure (ps.zip [a,b,c,d])):IW fd #[us,[]]=pure (ps.zip us):=v4 (C:=λus=>IW fd #[us,[]]=pure (ps.zip us)) h k
def u5 {fd:Ia}{ps:Gr Ha}{us:Gr GC}(h:us.length=5) (k: ∀a b c d e,IW fd #[[a,b,c,d,e],[]]=pure (ps.zip [a,b,c,d,e])):IW fd #[us,[]]=pure (ps.zip us):=v5 (C:=λus=>IW fd #[us,[]]=pure (ps.zip us)) h k
def u6 {fd:Ia}{ps:Gr Ha}{us:Gr GC}(h:us.length=6) (k: ∀a b c d e f,IW fd #[[a,b,c,d,e,f],[]]=pure (ps.zip [a,b,c,d,e,f])):IW fd #[us,[]]=pure (ps.zip us):=v6 (C:=λus=>IW fd #[us,[]]=pure (ps.zip us)) h k
def u7 {fd:Ia}{ps:Gr Ha}{us:Gr GC}(h:us.length=7) (k: ∀a b c d e f g,IW fd #[[a,b,c,d,e,f,g],[]]=pure (ps.zip [a,b,c,d,e,f,g])):IW fd #[us,[]]=pure (ps.zip us):=v7 (C:=λus=>IW fd #[us,[]]=pure (ps.zip us)) h k
def u8 {fd:Ia}{ps:Gr Ha}{us:Gr GC}(h:us.length=8) (k: ∀a b c d e f g h,IW fd #[[a,b,c,d,e,f,g,h],[]]=pure (ps.zip [a,b,c,d,e,f,g,h])):IW fd #[us,[]]=pure (ps.zip us):=v8 (C:=λus=>IW fd #[us,[]]=pure (ps.zip us)) h k
def FL {h:Im}{mg:Ha->GJ GC}(X:K.In h) (G:h.Ns Ki mg) {x:Ha}{st:Stmt}{ps:Gr Ha}{f:GB}{oc:GC}{od an:GJ GB}{sl:KC (GJ GC)}{kV doc pm cd ct:GC}
  (a:K0 K Ki x=GM (GM (.ref f))) (l:K.lookup f=GM #[oc,od, .func (JF x x (eG st) (bq st) (ah st) .none kV doc pm an cd ct),sl]) (c:LZ K cd x=IN) (k:JS K (.ref f)=IN)
  (hb: ∀(kV doc pm:GC) (an:GJ GB) (IF ct:GC) (us:Gr GC),us.length=ps.length->IW (JF x x (eG st) (bq st) (ah st) .none kV doc pm an IF ct) #[us,[]]=pure (ps.zip us)):
  ∃fd,cZ K mg x st ps f fd/\ ∀(s:GH) (us:Gr GC),us.length=ps.length->SU s fd #[us,[]] (ps.zip us):=#[_,#[me (st:=st) l c k,HE X G a,k,(me (st:=st) l c k).binds hb],λs us hu=> .of_eq (hb _ _ _ _ _ _ us hu)]
def aM {h:Im}{mg:Ha->GJ GC}(X:K.In h) (G:h.Ns Ki mg) {x:Ha}{st:Stmt}{ps:Gr Ha}{f:GB}{oc:GC}{od an:GJ GB}{sl:KC (GJ GC)}{kV doc pm cd ct:GC}
  (z:K0 K Ki x=GM (GM (.ref f))/\K.lookup f=GM #[oc,od, .func (JF x x (eG st) (bq st) (ah st) .none kV doc pm an cd ct),sl]/\LZ K cd x=IN/\JS K (.ref f)=IN)
  (hb: ∀(kV doc pm:GC) (an:GJ GB) (IF ct:GC) (us:Gr GC),us.length=ps.length->IW (JF x x (eG st) (bq st) (ah st) .none kV doc pm an IF ct) #[us,[]]=pure (ps.zip us)):
  cZ K mg x st ps f (JF x x (eG st) (bq st) (ah st) .none kV doc pm an cd ct):=#[me (st:=st) z.2.1 z.2.2.1 z.2.2.2,HE X G z.1,z.2.2.2,(me (st:=st) z.2.1 z.2.2.1 z.2.2.2).binds hb]
def bG {x q:Ha}{st:Stmt}{ps:Gr Ha}{C f:GB}{oc:GC}{od an:GJ GB}{sl:KC (GJ GC)}{kV doc pm cd ct:GC}
  (z:Jq K (.ref C) x=GM (GM (.ref f))/\PN K (.ref f)=IN/\K.lookup f=GM #[oc,od, .func (JF x q (eG st) (bq st) (ah st) .none kV doc pm an cd ct),sl]/\LZ K cd q=IN/\JS K (.ref f)=IN)
  (hb: ∀(kV doc pm:GC) (an:GJ GB) (IF ct:GC) (us:Gr GC),us.length=ps.length->IW (JF x q (eG st) (bq st) (ah st) .none kV doc pm an IF ct) #[us,[]]=pure (ps.zip us)):
  hX K C x q st ps f (JF x q (eG st) (bq st) (ah st) .none kV doc pm an cd ct):=#[me (st:=st) z.2.2.1 z.2.2.2.1 z.2.2.2.2,#[z.1,z.2.1,z.2.2.2.2],(me (st:=st) z.2.2.1 z.2.2.2.1 z.2.2.2.2).binds hb]
end
section
variable {a:GB}
def cOf:Data->GJ ClassData
 | .cls c=>GM c
 |_=>Ix
def Zz (h:cOf d=GM c):d= .cls c:=by
 cases d with
 |cls c=>cases h;rfl
 |_=>cases h
def six {A:Type}{l:KC A}{x:A}(h:l.toList.length=6):l.toList[4]?=GM x-> ∃a b c d f,l= [a,b,c,d,x,f].toArray:=by
 obtain⟨l⟩:=l;exact v6 (C:=λl=>l[4]?=GM x-> ∃a b c d f,(#[l]:KC A)= [a,b,c,d,x,f].toArray) h λa b c d e f z=>by cases z;exact#[a,b,c,d,f,KB]
noncomputable def ZA (K:Gy) (C:GB) (u:Gr GB):GJ GB:=(K.lookup C).bind λo=>(cOf o.data).bind λcd=>
 if o.cls= .type "type"/\cd.mro= .ref C::(u.map Hn++dC)/\cd.hasDict=IN/\cd.hasDel=IR/\o.slots.toList.length=6/\o.slots.toList[4]?=GM (GM (.builtin "Exception.__new__")) then GM cd.ns else Ix
def yq (q:ZA K C u=GM N) (X:K.In h):XO h C N (u.map Hn++dC):=by
 obtain⟨o,h1,q⟩:=JM.mp q;obtain⟨cd,h2,q⟩:=JM.mp q;split at q
 .rename_i g
  obtain⟨g1,g2,g3,g4,g5,g6⟩:=g;cases q;obtain⟨k0,k1,k2,k3,k5,g5⟩:=six g5 g6;have h2:=Zz h2;obtain⟨nm,bs,mro,ns,qn,hd,sn,sub,ab,col,EN⟩:=cd;obtain⟨cl,dd,da,sl⟩:=o;cases g1;cases g2;cases g3;cases g4;cases h2;cases g5;exact#[nm,qn,bs,sn,sub,ab,col,dd,k0,k1,k2,k3,k5,X _ _ h1]
 .cases q
def ye {mg:Ha->GJ GC}(_:K.In h0) (_:mg x=GM (.ref C)) (_:mg "Refusal"=GM (.ref R)) (l:ZA K C [R]=GM N)
  (JC:Vp K N=IN) (hi:K0 K N "__init__"=GM (GM (.ref fI))) (hq:(dz.map λn=>K0 K N n)=dz.map λ_=>GM Ix) (lI:((K.lookup fI).map λo=>o.cls)=GM (.type "function")) (kp:JS K (.ref C)=IN)
  (lR:ZA K R []=GM NR) (aem:Vp K NR=IN) (hqR:(dz.map λn=>K0 K NR n)=dz.map λ_=>GM Ix):hU K R C fI:=by
 obtain⟨oI,lI,cI⟩:=IT.mp lI;refine#[λh X=>?_,kp];have ns:h.Ns N (h.nsMap N):= .of_isNs (Tj X JC);have nR:h.Ns NR (h.nsMap NR):= .of_isNs (Tj X aem);have all: ∀ {M:GB},(dz.map λn=>K0 K M n)=(dz.map λ_=>GM Ix)-> ∀n∈dz,K0 K M n=GM Ix:=λe=>Gr.map_inj_left.mp e
 exact#[N,h.nsMap N,oI,NR,h.nsMap NR,yq l X,ns,Fv X ns hi,λn hn=>Q8 X JC (all hq n hn),X _ _ lI,cI,yq lR X,nR,λn hn=>Q8 X aem (all hqR n hn)]
end
def yN (e:O4):GJ (Int×Ha×Int):=(xOf e.key).bind λx=>(iOf e.val).map λi=>(e.hash,x,i)
def DS (z:yN e=GM (h,x,i)): ∃t u,e.key= .str x t/\e.val= .int i u/\e.hash=h:=by
 obtain⟨x',h1,z⟩:=JM.mp z;obtain⟨i',h2,z⟩:=IT.mp z;cases z;obtain⟨t,h1⟩:=vZ h1;obtain⟨u,h2⟩:=xA h2;exact#[t,u,h1,h2,KB]
section
variable {a:GB}
theorem yE: ∀ {es:Gr O4}{L:Gr (Ha×Int)},es.map yN=(L.map λp=>GM (hashStr w p.1,p.1,p.2))->
  ∃vs:Gr (cf×GC),KV (L.map λp=>((Jw p.1:cf),V.int p.2)) vs/\PySem.Pairs (bK P w) es vs/\(vs.map (·.1))=(L.map λp=>(Jw p.1:cf))/\ ∀e∈es,∃k,(bK P w).is k e.key=IN/\e.hash=(bK P w).hash k
 |[],[],_=>#[[], .nil, .nil,KB,λ_ z=>nomatch z]
 |[],_::_,h=>by cases h
 |_::_,[],h=>by cases h
 |e::es,p::L,h=>by
  rw[G8,G8] at h;obtain⟨h1,h2⟩:=Nr h;obtain⟨vs,k1,k2,k3,k4⟩:=yE h2;obtain⟨t,u,e1,e2,e3⟩:=DS h1;have is:(bK P w).is (Jw p.1) e.key=IN:=by rw[e1];show Px p.1 (.str p.1 t)=IN;simp [Px]
  refine#[(Jw p.1, .int p.2 u)::vs, .cons #[KB,#[u,KB]] k1, .cons is e2 k2,by rw[G8,G8,k3],λy hy=>?_];rcases Hg.mp hy with rfl|hy
  .exact#[Jw p.1,is,e3]
  .exact k4 y hy
def ZC {p:Ha×Int}{L:Gr (Ha×Int)}(h:(Sn K a).map yN=((p::L).map λp=>GM (hashStr w p.1,p.1,p.2))) (nd:((p::L).map (·.1)).Nodup) (len:(p::L).length<=GZ) (no:(a == J4)=IR):
  vT P w K a ((p::L).map λp=>((Jw p.1:cf),V.int p.2)):=by
 obtain⟨vs,k1,k2,k3,k4⟩:=yE (P:=P) h;cases he:Sn K a with
 |nil=>rw[he] at h;cases h
 |cons e r=>
  obtain⟨o,es,ep,lk,ex,od,el⟩:=xU he;rw[he,<-el] at k2;rw[he] at k4;refine#[#[vs,λhp hK=>#[o,es,ep,hK a o lk,ex,od,λy hy=>k4 y (by rw[<-el];exact Th.mpr hy),k2,?_],k1],by rw[GK];exact len,no];rw[k3,G8];rw[show(λp:Ha×Int=>(Jw p.1:cf))=(λx=>Jw x) ∘ (λp:Ha×Int=>p.1) from KB];rw[show(Jw p.1:cf)::L.map ((λx=>(Jw x:cf)) ∘ λp=>p.1)=((p::L).map (·.1)).map (λx=>(Jw x:cf)) by rw[G8,G8,JX]];exact Gr.Pairwise.map (λx=>(Jw x:cf)) (λ_ _ h z=>h (Ms z)) nd
theorem xG: ∀ {qs:Gr GB}{rows:Gr (Gr Ha)},(qs.map λq=>(M9 K q).bind pf)=rows.map GM->Paired (λq xs=>qa K q xs) qs (rows.map λr=>r.map V.str)
 |[],[],_=> .nil
 |[],_::_,h=>by cases h
 |_::_,[],h=>by cases h
 |q::qs,r::rows,h=>by
  rw[G8,G8] at h;obtain⟨h1,h2⟩:=Nr h;exact .cons (tN h1) (xG h2)
def ZD {qs:Gr GB}{rows:Gr (Gr Ha)}(h:(M9 K a).bind wD=GM qs) (h2:(qs.map λq=>(M9 K q).bind pf)=rows.map GM):Bc K a (rows.map λr=>r.map V.str):=by
 cases e:M9 K a with
 |none=>rw[e] at h;cases h
 |some vs=>rw[e] at h;exact#[qs,rY e (vp h),xG h2]
def FD {mg:Ha->GJ GC}{a:bI}(_:Txt K mg a) (e:(Sn K a.HQ).map yN=(([("min",2),("max",2),("abs",1)]:Gr (Ha×Int)).map λp=>GM (hashStr w p.1,p.1,p.2))) (no:(a.HQ == J4)=IR):vT P w K a.HQ cv:=ZC (p:=("min",2)) (L:=[("max",2),("abs",1)]) e [00] [01] no
def Gh {mg:Ha->GJ GC}{a:bI}(_:Txt K mg a) (e:(((M9 K a.JB).bind wD).map λqs=>qs.map λq=>(M9 K q).bind pf)=GM (([["||"],["&&"],["==","!=","<=",">=","<",">"],["+","-"],["*","/","/rest"]]:Gr (Gr Ha)).map GM)):Bc K a.JB dN:=by
 obtain⟨qs,e1,e2⟩:=IT.mp e;exact ZD e1 e2
end
inductive pQ (K:Gy) (vs:Gr V) (H:Hp) (Q:VK) (_E:XK):Prop
 |mk (l:GB) (zs:Gr Int) (_:vs=[.ref l]) (_:cJ K H l (dX zs)) (_:zs.length<=4000) (_: ∀(H':Hp) (p:GB),H' p=GM (.lst (dX (O6 zs)))->Q (.ref p) H'):pQ K vs H Q _E
section
variable {k:GQ}
def aen {mg:Ha->GJ GC}{a:bI}(_:Txt K mg a) (c:EA K a.Kv "__init__" a.f_S) (x0:hU K a.Kv a.Jm a.YS) (x4:hU K a.Kv a.LU a.YR):XS K a:=#[#[x0,c],x4]
def Av (K:Gy):Gr GB->Prop
 |[]=>True
 |C::l=>Bu K C/\Av K l
theorem uN {C:GB} : ∀ {l:Gr GB},Av K l->C∈l->Bu K C
 |D::l,h,m=>by
  rcases Hg.mp m with z|z
  .rw[z];exact h.1
  .exact uN h.2 z
def Dr:Av K []:=trivial
def cn {C:GB}{l:Gr GB}(h:Bu K C) (t:Av K l):Av K (C::l):=#[h,t]
def ZE {a:bI}(t:Av K (tq a)) (Zv:((tq a).map λC=>(tq a).map λD=>Jk K (.ref C) (.ref D))=(Nv 15).map λi=>(Nv 15).map λj=>GM (decide (i=j))):jK K a:=#[λC h=>uN t h,Zv]
end
end OS
set_option hygiene false in
local macro_rules
|`(command|#synth [$n,*])=>do
 let t:=λc:Lean.Name=>do
  let i:=Lean.mkIdent (.mkSimple s!"tw{c.hash}")
  `(theorem $i:ident:True:=trivial)
 let f:=λ(k:String) (i:Nat)=>t (.str `OS.hd s!"{k}_{i}")
 let a<-(Array.range 1333).mapM (f "o")
 let b<-n.getElems.mapM λx=>match x with|`($k:ident*$i:num)=>f k.getId.toString i.getNat|x=>t x.getId
 return Lean.mkNullNode ((a++b).map (·.raw))
namespace PySem.W.Fast
#synth [heap*1333,tree*1332,tree*1262,tree*1176,heap*1,tree*1096,tree*1007,tree*916,tree*750,tree*835,view*1,tree*620,PySem.Challenge.pw_ordersheets_s05_fold,tree*583,tree*522,tree*496,tree*472,tree*422,tree*400,tree*377,tree*354,tree*331,tree*308,tree*285,tree*262,tree*239,tree*216,tree*193,sts*1008,sts*917,sts*1097,sts*839,tree*170,sts*1177,sts*584,tree*147,sts*1263,sts*623,tree*124,tree*101,sts*423,tree*78,sts*526,sts*473,sts*497,tree*55,sts*286,sts*240,tree*32,sts*148,sts*194,sts*10,sts*355,sts*332,sts*217,sts*102,sts*125,sts*378,sts*263,sts*56,sts*79,sts*309,sts*171,sts*401,sts*33,heap*7,tree*8,env*2]
end PySem.W.Fast
section
open PySem PySem.W PyProof.Rows
set_option hygiene false
local macro_rules
|`(tactic|o_headS ($_ $k $a $e))=>`(tactic|o_headS ((OS.hook $k $a $e):PySem.W.Hook))
local macro_rules
|`(?hc)=>`(OS.ap Z ?hcc)
|`([0x0])=>`((by kernel_rfl))
|`([0x1])=>`(#[_,HE KX G (by exact KB)])
|`([0x3])=>`(OS.noAttr (by kernel_rfl))
|`([0x4])=>`(#[by kernel_rfl,by kernel_rfl,by kernel_rfl,by kernel_rfl])
|`([0x5])=>`(#[by exact KB,by exact KB,by kernel_rfl,by kernel_rfl])
|`([0x6])=>`(#[by exact KB,by kernel_rfl,by exact KB,by kernel_rfl,by kernel_rfl])
|`([0x2])=>`(#[by kernel_rfl,by kernel_rfl,by kernel_rfl,by kernel_rfl,by kernel_rfl])
def OS.Zt:Prop:= ∀ {P:Hr}{w:HW}{K:Gy}{mg:Ha->GJ GC}{base:Im}{a:OS.bI}(_:OS.Txt K mg a) (_:OS.XS K a) (_:OS.Bi P w K a.K6 OS.eQ) (_:OS.vT P w K a.HQ OS.cv) (_:OS.Bc K a.JB OS.dN) (_:OS.jK K a),L2.b6 P w K mg base L2.nJ 278 a.f_b a.Vs ["text"] (OS.pQ K)
def OS.noAttr {K:Gy}{C:GB}{f:Ha}(h:Jq K (.ref C) f=GM Ix):L2.aH K C f:=h
def OS.ap {P:Prop}(z:OS.Zt) (h:OS.Zt->P):P:=h z
set_option maxRecDepth 100000 in
set_option maxHeartbeats 0 in
theorem OS.hd (Z:OS.Zt):PySem.Challenge.rw_ordersheets_s05_fold.Holds:=by
 have W:=OS.abn
 w_on;k_headS;(case hw=>exact#[[.list []],by decide+kernel,by decide+kernel])
 k_fillS
 intro Z;refine L2.wE (r:=PySem.Challenge.rw_ordersheets_s05_fold) (k:=278) (CX:=L2.nJ) (ps:=["text"]) (sp:=OS.pQ) [00] KB KB #[KB,by decide,by decide] (λw h Y=>OS.U9 Y) ?F ?S (λ_ _ _ _ z=>z)
 case F=>
  intro w mg fa h Y KX G hmg;obtain⟨Vs,d_b,ai6⟩:=OS.FL (x:="fold") (st:=OS.s_b) (ps:=["text"]) KX G (by exact KB) (by exact KB) (by exact KB) (by exact KB) [04];have T:OS.Txt _ mg ⟨_,_,_,_,_,_,_,_,_,_,_,_,_,_,_,_,_,_,_,_,_,_,_,_,_,_,_,_,_,_,_,_,_,_,_,_,_,_,_,_,_,_,_,_,_,_,_,_,_,_,_,_,_,_,_,_,_,_,_,_,_,_,_,_,_,_,_,_,_,_,_,_,_,_,_,_,_,_,_,_,_,_,_,_,_,_,_,_,_,_,_,_,_,_,_,_,_,_,_,_,_,_,_,_,_,_,_,_,_,_,_,_,_,_,_,_,_,_,_,_,_,_,_,_,_,_,_,_,_,_,_,_,_,_,_,_,_,_,_,_,_,_,_,_,_,_,_,_,_,_,_,_,_,_,_,_,_,_,_,_,_,_,_,_,_,_,_,_,_,_,_,_,_,_,_,_,_,_,_,_,_,_,_,_,_,_,_,_,_,_,_,_,_,_,_,_,_,_,_,_,_,_,_,_,_,_,_,_,_,_,_,_,_,_,_,_,_,_,_,_,_,_,_,_,_,_,_,_,_,_,_,_,_,_,_,_,_,_,_,_,_,_,_,_,_,_,_,_,_,_,_,_,_,_,_,_,_,_,_,_,_,_,_,_,_,_,_,_,_,_,_,Vs⟩:=#[(HE KX G (by exact KB)),(HE KX G (by exact KB)),(HE KX G (by exact KB)),(HE KX G (by exact KB)),(HE KX G (by exact KB)),(HE KX G (by exact KB)),(HE KX G (by exact KB)),(HE KX G (by exact KB)),(HE KX G (by exact KB)),(HE KX G (by exact KB)),(HE KX G (by exact KB)),(HE KX G (by exact KB)),(HE KX G (by exact KB)),(HE KX G (by exact KB)),(HE KX G (by exact KB)),(HE KX G (by exact KB)),(HE KX G (by exact KB)),(HE KX G (by exact KB)),(HE KX G (by exact KB)),(HE KX G (by exact KB)),(HE KX G (by exact KB)),(OS.bG [0x6] [06]),(OS.bG [0x6] [06]),(OS.bG [0x6] (λ_ _ _ _ _ _ us hl=>OS.u3 hl λ_ _ _=>[0x0])),(OS.bG [0x6] (λ_ _ _ _ _ _ us hl=>OS.u3 hl λ_ _ _=>[0x0])),(OS.bG [0x6] (λ_ _ _ _ _ _ us hl=>OS.u4 hl λ_ _ _ _=>[0x0])),(OS.bG [0x6] (λ_ _ _ _ _ _ us hl=>OS.u4 hl λ_ _ _ _=>[0x0])),(OS.bG [0x6] (λ_ _ _ _ _ _ us hl=>OS.u5 hl λ_ _ _ _ _=>[0x0])),(OS.bG [0x6] (λ_ _ _ _ _ _ us hl=>OS.u3 hl λ_ _ _=>[0x0])),(OS.bG [0x6] (λ_ _ _ _ _ _ us hl=>OS.u5 hl λ_ _ _ _ _=>[0x0])),(OS.bG [0x6] (λ_ _ _ _ _ _ us hl=>OS.u4 hl λ_ _ _ _=>[0x0])),(OS.bG [0x6] (λ_ _ _ _ _ _ us hl=>OS.u7 hl λ_ _ _ _ _ _ _=>[0x0])),(OS.bG [0x6] (λ_ _ _ _ _ _ us hl=>OS.u3 hl λ_ _ _=>[0x0])),(OS.bG [0x6] (λ_ _ _ _ _ _ us hl=>OS.u8 hl λ_ _ _ _ _ _ _ _=>[0x0])),(OS.bG [0x6] (λ_ _ _ _ _ _ us hl=>OS.u3 hl λ_ _ _=>[0x0])),(OS.bG [0x6] (λ_ _ _ _ _ _ us hl=>OS.u4 hl λ_ _ _ _=>[0x0])),(OS.bG [0x6] (λ_ _ _ _ _ _ us hl=>OS.u3 hl λ_ _ _=>[0x0])),(OS.bG [0x6] [06]),(OS.bG [0x6] [04]),(OS.bG [0x6] (λ_ _ _ _ _ _ us hl=>OS.u4 hl λ_ _ _ _=>[0x0])),(OS.aM KX G [0x5] [06]),(OS.aM KX G [0x5] (λ_ _ _ _ _ _ us hl=>OS.u3 hl λ_ _ _=>[0x0])),(OS.aM KX G [0x5] (λ_ _ _ _ _ _ us hl=>OS.u3 hl λ_ _ _=>[0x0])),(OS.aM KX G [0x5] [06]),(OS.aM KX G [0x5] [06]),(OS.aM KX G [0x5] [06]),[09],(OS.bG [0x6] (λ_ _ _ _ _ _ us hl=>OS.u5 hl λ_ _ _ _ _=>[0x0])),[09],[09],(OS.aM KX G [0x5] [06]),(OS.aM KX G [0x5] [06]),(OS.aM KX G [0x5] [06]),(OS.aM KX G [0x5] [06]),(OS.aM KX G [0x5] (λ_ _ _ _ _ _ us hl=>OS.u3 hl λ_ _ _=>[0x0])),[09],(OS.aM KX G [0x5] [06]),[09],(OS.bG [0x6] [06]),(OS.bG [0x6] [04]),(OS.bG [0x6] [06]),(OS.bG [0x6] [06]),(OS.bG [0x6] [04]),(OS.bG [0x6] [04]),(OS.bG [0x6] [04]),(OS.bG [0x6] [04]),(OS.bG [0x6] [04]),(OS.bG [0x6] [06]),(OS.bG [0x6] [06]),(OS.bG [0x6] [04]),(OS.bG [0x6] [04]),(OS.bG [0x6] [06]),(OS.bG [0x6] [06]),(OS.bG [0x6] [06]),(OS.aM KX G [0x5] [06]),(OS.aM KX G [0x5] [06]),(OS.aM KX G [0x5] [06]),(OS.aM KX G [0x5] (λ_ _ _ _ _ _ us hl=>OS.u3 hl λ_ _ _=>[0x0])),(OS.aM KX G [0x5] [06]),(OS.aM KX G [0x5] [06]),(OS.aM KX G [0x5] [06]),(OS.aM KX G [0x5] [06]),(OS.aM KX G [0x5] [06]),(OS.aM KX G [0x5] [06]),[09],[09],[09],(OS.aM KX G [0x5] [06]),(OS.aM KX G [0x5] [06]),(OS.aM KX G [0x5] [06]),[09],[09],(OS.aM KX G [0x5] [06]),[09],[09],(OS.aM KX G [0x5] [06]),[09],[09],[09],[09],[09],[09],[09],[09],[09],[09],[09],[09],[09],[09],[09],[09],[09],[09],(OS.aM KX G [0x5] [06]),(OS.aM KX G [0x5] [06]),(OS.aM KX G [0x5] (λ_ _ _ _ _ _ us hl=>OS.u3 hl λ_ _ _=>[0x0])),[09],[09],[09],[09],[09],[09],[09],(OS.aM KX G [0x5] [06]),(OS.aM KX G [0x5] [06]),[09],(OS.aM KX G [0x5] [06]),(OS.aM KX G [0x5] [06]),[09],(OS.aM KX G [0x5] [06]),(OS.aM KX G [0x5] [06]),(OS.aM KX G [0x5] [06]),[09],(OS.aM KX G [0x5] [06]),(OS.aM KX G [0x5] [06]),[09],[09],[09],[09],[09],[09],[09],d_b,[0x4],[0x4],[0x3],[0x4],[0x4],[0x3],[0x4],[0x4],[0x3],[0x3],[0x4],[0x4],[0x3],[0x3],[0x4],[0x4],[0x3],[0x3],[0x3],[0x4],[0x4],[0x3],[0x3],[0x3],[0x4],[0x4],[0x3],[0x3],[0x3],[0x3],[0x4],[0x4],[0x3],[0x3],[0x4],[0x4],[0x3],[0x3],[0x3],[0x3],[0x4],[0x4],[0x3],[0x3],[0x3],[0x4],[0x4],[0x3],[0x3],[0x3],[0x3],[0x3],[0x3],[0x4],[0x4],[0x3],[0x3],[0x4],[0x4],[0x3],[0x3],[0x3],[0x3],[0x3],[0x3],[0x3],[0x4],[0x4],[0x3],[0x3],[0x4],[0x4],[0x3],[0x3],[0x3],[0x4],[0x4],[0x3],[0x3],[0x4],[0x4],[0x3],[0x3],[0x3],[0x3],[0x4],[0x4],[0x3],[0x3],[0x3],[0x3],[0x3],[0x3],[0x1],[0x1],[0x1],[0x1],[0x1],[0x1],[0x1],[0x1],[0x1],[0x1],[0x1],[0x1],[0x1],(HE KX G (by exact KB)),(HE KX G (by exact KB)),[0x1],[0x1],[0x1],[0x1],[0x1],[0x1],[0x1],[0x1],(HE KX G (by exact KB)),(HE KX G (by exact KB)),[0x1],(HE KX G (by exact KB)),[0x1],[0x1],[0x1],[0x1],[0x1],[0x1],[0x1],(OS.BP (l:=[9,10,13,32]) [0x0]),(OS.tN (l:=["const","fun","desk","let","for","in","if","then","else","sell","buy","zone","quarter","price","to","amount","block","under","group","sum"]) [0x0]),(II KX G [0x0]),(II KX G [0x0]),(II KX G [0x0]),(II KX G [0x0]),(II KX G [0x0]),(II KX G [0x0]),(II KX G [0x0]),(II KX G [0x0]),(II KX G [0x0]),(II KX G [0x0]),(II KX G [0x0]),(II KX G [0x0]),(II KX G [0x0])]
  have kS:=OS.FU T (P:=PySem.Challenge.rw_ordersheets_s05_fold.prog) (w:=w) [0x0] KB
  have kF:=OS.FD T (P:=PySem.Challenge.rw_ordersheets_s05_fold.prog) (w:=w) [0x0] KB
  have KT:=OS.Gh T [0x0]
  have XC:=OS.aen T [0x2] (OS.ye KX T.QS T.M3 (by exact KB) [0x0] [0x0] [0x0] [0x0] [0x0] (by exact KB) [0x0] [0x0]) (OS.ye KX T.PR T.M3 (by exact KB) [0x0] [0x0] [0x0] [0x0] [0x0] (by exact KB) [0x0] [0x0]);cases hmg.symm.trans d_b.c.m;exact#[Vs,ai6,λbase _ _=>Z T XC kS kF KT (OS.ZE (OS.cn #[T.NV,[0x0],[0x0],[0x0],[0x0]] (OS.cn #[T.RF,[0x0],[0x0],[0x0],[0x0]] (OS.cn #[T.Ny,[0x0],[0x0],[0x0],[0x0]] (OS.cn #[T.Lw,[0x0],[0x0],[0x0],[0x0]] (OS.cn #[T.K7,[0x0],[0x0],[0x0],[0x0]] (OS.cn #[T.Lc,[0x0],[0x0],[0x0],[0x0]] (OS.cn #[T.OI,[0x0],[0x0],[0x0],[0x0]] (OS.cn #[T.Pj,[0x0],[0x0],[0x0],[0x0]] (OS.cn #[T.OM,[0x0],[0x0],[0x0],[0x0]] (OS.cn #[T.PV,[0x0],[0x0],[0x0],[0x0]] (OS.cn #[T.Lm,[0x0],[0x0],[0x0],[0x0]] (OS.cn #[T.J3,[0x0],[0x0],[0x0],[0x0]] (OS.cn #[T.NW,[0x0],[0x0],[0x0],[0x0]] (OS.cn #[T.OP,[0x0],[0x0],[0x0],[0x0]] (OS.cn #[T.O1,[0x0],[0x0],[0x0],[0x0]] OS.Dr))))))))))))))) [0x0])]
 case S=>
  intro K H xs a hO hwi ak5 hx;cases hx with
  |cons h1 h2=>
   cases h2;cases h1 with
   |lst hs ha=>
    have e:=L2.yD a.1 _ ha;subst e
    have q:((Codec.inLen 0 4000 a.1&&a.1.all (Codec.inInt (-1000000000000000000) 1000000000000000000))&&IN)=IN:=hwi;rw[Jx,Jx] at q;exact#[_,a.1,KB,hs,(Codec.inNat_iff.mp q.1.1).2,λH' p hp=> .lst (L2.cJ.of hp) (L2.yS _)]
end

namespace L2
open PySem PySem.Spec PyProof.Rows
def Ax (i:Int) (t:Tok):qQ (.inl i) (.int i t)=IN:=by simp [qQ,GC.isInt]
def zC (x:Ha) (t:Tok):qQ (.inr x) (.str x t)=IN:=by simp [qQ,Px]
def uA (prog:Hr) (w:HW) (i:Int) (t:Tok):(bK prog w).is (.inl i) (.int i t)=IN:=Ax i t
def uU (prog:Hr) (w:HW) (x:Ha) (t:Tok):(bK prog w).is (.inr x) (.str x t)=IN:=zC x t
theorem bH.length {xs:Gr V}(r:bH xs us):xs.length=us.length:=Rm r
theorem bH.get: ∀ {xs:Gr V}{us:Gr GC}{i:GQ}{x:V},bH xs us->xs[i]?=GM x-> ∃u,us[i]?=GM u/\bD x u
 |_,_,_,_, .nil,e=>by simp at e
 |_,_,0,_, .cons r _,e=>by simp at e;subst e;exact#[_,KB,r]
 |_,_,i+1,x, .cons _ t,e=>by
  obtain⟨u,h1,h2⟩:=bH.get (i:=i) (x:=x) t (by simpa using e);exact#[u,by simpa using h1,h2]
theorem bH.append: ∀ {xs ys:Gr V}{us ws:Gr GC},bH xs us->bH ys ws->bH (xs++ys) (us++ws)
 |_,_,_,_, .nil,s=>s
 |_,_,_,_, .cons r t,s=> .cons r (bH.append t s)
theorem bH.take: ∀ {xs:Gr V}{us:Gr GC}(n:GQ),bH xs us->bH (xs.take n) (us.take n)
 |_,_,0,_=> .nil
 |_,_,_+1, .nil=> .nil
 |_,_,n+1, .cons r t=> .cons r (bH.take n t)
theorem bH.drop: ∀ {xs:Gr V}{us:Gr GC}(n:GQ),bH xs us->bH (xs.drop n) (us.drop n)
 |_,_,0,r=>r
 |_,_,_+1, .nil=> .nil
 |_,_,n+1, .cons _ t=>bH.drop n t
def bf (H:Hp) (a:GB) (o:HO):Hp:=λb=>if b=a then GM o else H b
def aj {H:Hp}{a:GB}{o:HO} :bf H a o a=GM o:=by unfold bf;rw[GI KB]
def af {H:Hp}{a b:GB}{o:HO}(h:b≠a):bf H a o b=H b:=by unfold bf;rw[GG h]
def aeo {H:Hp}{a b:GB}{o u:HO}(h:H a=GM o) (h':H b=GM u) (d:o≠u):a≠b:=by
 intro e;subst e;rw[h] at h';exact d (Hb h')
def aw {H:Hp}{a b:GB}{o:HO}(h:H a=GM o) (h':H b=Ix):a≠b:=by
 intro e;subst e;rw[h] at h';cases h'
section
variable {P:Hr}{w:HW}{H H':Hp}{h h':Im}{a:GB}{o:HO}
theorem cK.lt (x:cK P w H h a o):a<h.objs.size:=by
 cases o with
 |lst xs=>obtain⟨_,_,_,_,e⟩:=x;exact Hk e
 |tup xs=>obtain⟨_,_,_,p⟩:=x;exact p.lt
 |dK IB=>obtain⟨_,_,_,_,o,_,_,e,_⟩:=x;exact Hk e
 |dT IB=>obtain⟨_,_,_,_,o,_,_,e,_⟩:=x;exact Hk e
 |set S n=>obtain⟨o,_,_,_,e,_⟩:=x;exact Hk e
 |ins C dx fs=>obtain⟨_,_,_,e,_⟩:=x;exact Hk e
 |own y=>obtain⟨_,e⟩:=x;exact Hk e
 |xd fs=>obtain⟨_,⟨_,_,_,e,_⟩,_⟩:=x;exact Hk e
 |rng lo hi=>obtain⟨_,_,_,e⟩:=x;exact Hk e
 |QP ob u=>obtain⟨e,_⟩:=x;exact Hk e
 |YL ps=>exact Hk (show h.get? a=GM _ from x)
 |met f y=>exact Hk (show h.get? a=GM _ from x)
 |ext φ=>obtain⟨_,⟨_,e⟩,_⟩:=x;exact Hk e
theorem Paired.Nt {α β:Type}{F G:α->β->Prop} : ∀ {l₁:Gr α}{l₂:Gr β},Paired F l₁ l₂->(∀a b,F a b->G a b)->Paired G l₁ l₂
 |_,_, .nil,_=> .nil
 |_,_, .cons r t,f=> .cons (f _ _ r) (Paired.Nt t f)
def cK.QX (x:cK P w H h a o) (k: ∀b u,(b=a\/H b=GM (.own a))->h.get? b=GM u->h'.get? b=GM u)
  (ho: ∀b,H b=GM (.own a)->H' b=GM (.own a)) (ht: ∀b xs,H b=GM (.tup xs)->H' b=GM (.tup xs)):cK P w H' h' a o:=by
 induction o with
 |lst xs=>obtain⟨z,Jl,n,r,e⟩:=x;exact#[z,Jl,n,r,k _ _ (.inl KB) e]
 |tup xs=>obtain⟨z,Jl,r,ob,e,c⟩:=x;exact#[z,Jl,r,ob,k _ _ (.inl KB) e,c]
 |dK IB=>obtain⟨z,y,vs,r,ob,es,ep,e,c⟩:=x;exact#[z,y,vs,r,ob,es,ep,k _ _ (.inl KB) e,c]
 |dT IB=>
  obtain⟨z,y,xs,r,ob,es,ep,e,c⟩:=x;exact#[z,y,xs,Paired.Nt r λp q z=>#[z.1,ht _ _ z.2.1,z.2.2],ob,es,ep,k _ _ (.inl KB) e,c]
 |set S n=>obtain⟨ob,es,ep,t,e,c⟩:=x;exact#[ob,es,ep,t,k _ _ (.inl KB) e,c]
 |ins C dx fs=>
  obtain⟨d,z,ne,e,mA,⟨od,es,ep,e2,c⟩,r⟩:=x;exact#[ho _ d,z,ne,k _ _ (.inl KB) e,mA,#[od,es,ep,k _ _ (.inr d) e2,c],r]
 |own y=>obtain⟨ob,e⟩:=x;exact#[ob,k _ _ (.inl KB) e]
 |xd fs=>obtain⟨mA,⟨od,es,ep,e,c⟩,r⟩:=x;exact#[mA,#[od,es,ep,k _ _ (.inl KB) e,c],r]
 |rng lo hi=>obtain⟨t,u,v,e⟩:=x;exact#[t,u,v,k _ _ (.inl KB) e]
 |QP ob u ih=>obtain⟨e,q⟩:=x;exact#[k _ _ (.inl KB) e,ih q]
 |YL ps=>
  have e:h.get? a=GM { cls:= .none,data:= .fields ps } :=x
  show h'.get? a=GM { cls:= .none,data:= .fields ps }
  exact k a _ (.inl KB) e
 |met f y=>
  have e:h.get? a=GM (PB (.ref f) (.ref y)):=x
  show h'.get? a=GM (PB (.ref f) (.ref y))
  exact k a _ (.inl KB) e
 |ext φ=>obtain⟨p,⟨o,e⟩,st⟩:=x;exact#[st _ _ p λo q=>k _ _ (.inl KB) q,#[o,k _ _ (.inl KB) e],st]
theorem iR.lt (x:iR P w H h) (e:H a=GM o):a<h.objs.size:=(x a o e).lt
def iR.fresh (x:iR P w H h) (e:h.objs.size<=a):H a=Ix:=by
 cases q:H a with
 |none=>rfl
 |some u=>exact G6 (Hl (x.lt q) e) (Jp _)
def iR.kept (x:iR P w H h) (k: ∀b u,h.get? b=GM u->h'.get? b=GM u):iR P w H h':=λa o e=>
 (x a o e).QX (λb u _ q=>k b u q) [08] λ_ _ q=>q
def iR.laid (x:iR P w H h) (k: ∀b u,h.get? b=GM u->h'.get? b=GM u) (hp:h.objs.size<=a) (new:cK P w (bf H a o) h' a o):iR P w (bf H a o) h':=λb u e=>by
 have hn:=x.fresh hp;by_cases hb:b=a
 .subst hb;rw[aj] at e;cases e;exact new
 .rw[af hb] at e
  exact(x b u e).QX (λc v _ q=>k c v q) (λc q=>by rw[af (aw q hn)];exact q) λc xs q=>by rw[af (aw q hn)];exact q
end
def fG:GJ HO->Prop
 |some (.lst _)=>True
 |some (.dK _)=>True
 |some (.dT _)=>True
 |some (.set _ _)=>True
 |some (.ins _ _ _)=>True
 |some (.ext _)=>True
 |_=>False
section
variable {P:Hr}{w:HW}{H:Hp}{h h':Im}{x e:GB}{o':HO}
def iR.write (ok:iR P w H h) (mu:fG (H x)) (he:e=x\/H e=GM (.own x)) (k: ∀b u,b≠e->h.get? b=GM u->h'.get? b=GM u) (heo: ∃u,h'.get? e=GM u)
  (new:cK P w (bf H x o') h' x o'):iR P w (bf H x o') h':=λb u q=>by
 have aep: ∀c y,H c=GM (.own y)->c≠x:=λc y r z=>by subst z;rw[r] at mu;exact mu
 have ai7: ∀c xs,H c=GM (.tup xs)->c≠x:=λc xs r z=>by subst z;rw[r] at mu;exact mu
 by_cases hb:b=x
 .subst hb;rw[aj] at q;cases q;exact new
 .rw[af hb] at q
  by_cases ZF:b=e
  .have q':H b=GM (.own x):=by
    rcases he with z|z
    .exact G6 (ZF.trans z) hb
    .rw[ZF];exact z
   rw[q] at q';cases q';obtain⟨v,hv⟩:=heo;exact#[v,by rw[ZF];exact hv]
  .refine(ok b u q).QX (λc v hc r=>k c v ?_ r) (λc r=>by rw[af (aep c b r)];exact r) λc xs r=>by rw[af (ai7 c xs r)];exact r
   rcases hc with rfl|hc
   .exact ZF
   .rintro rfl
    rcases he with z|z
    .exact aep c b hc z
    .rw[hc] at z;cases z;exact hb KB
end
section
variable {fs fs' ex ex':Gr GB}{H H1 H2:Hp}{h h1 h2 h':Im}{a x e:GB}{o:HO}
def Un.any (u:Un fs ex H H1 h h1) {b:GB}(q:h.get? b=GM ob) (n:H b=Ix) (hx:b∉ex): ∃sl,h1.get? b=GM { ob with slots:=sl } :=by
 by_cases hb:b∈fs
 .exact u.slot b ob q n hb hx
 .exact#[ob.slots,u.keep b ob q n hb hx]
def Un.kept (k: ∀b u,h.get? b=GM u->h'.get? b=GM u):Un fs ex H H h h':=
 #[λb ob q _ _ _=>k b ob q,λb ob q _ _ _=>#[ob.slots,k b ob q],λ_ _ _ n _=>n,λb ob q _=>#[ob,k b ob q],λ_ _ q=>q,λ_ _ _ q=>q,λ_ ps q=>#[[].toArray,by rw[q];simp]]
def Un.refl:Un fs ex H H h h:=Un.kept λ_ _ q=>q
def Un.laid (k: ∀b u,h.get? b=GM u->h'.get? b=GM u) (hp:h.objs.size<=a) (hn:H a=Ix):Un fs ex H (bf H a o) h h' where
 keep:=λb u q _ _ _=>k b u q
 slot:=λb u q _ _ _=>#[u.slots,k b u q]
 free:=λb u q n _=>by rw[af (Ik (Hl (Hk q) hp))];exact n
 there:=λb u q _=>#[u,k b u q]
 Rc:=λb xs q=>by rw[af (aw q hn)];exact q
 QQ:=λb u xs q=>by rw[af (aw q hn)];exact q
 Rf:=λb ps q=>#[[].toArray,by rw[af (aw q hn),q];simp]
def Un.write (mu:fG (H x)) (he:e=x\/H e=GM (.own x)) (k: ∀b u,b≠e->h.get? b=GM u->h'.get? b=GM u) (heo: ∃u,h'.get? e=GM u):Un fs ex H (bf H x o) h h':=by
 have hx: ∀b,H b=Ix->b≠x:=λb n z=>by subst z;rw[n] at mu;exact mu
 have hb: ∀b,H b=Ix->b≠e:=λb n z=>by
  subst z;rcases he with r|r
  .exact hx b n r
  .rw[n] at r;cases r
 have hm: ∀b u,H b=GM u-> ¬fG (GM u)->b≠x:=λb u q nm z=>by subst z;rw[q] at mu;exact nm mu
 refine#[λb u q n _ _=>k b u (hb b n) q,λb u q n _ _=>#[u.slots,k b u (hb b n) q],λb u q n _=>by rw[af (hx b n)];exact n,λb u q _=>?_,
  λb xs q=>by rw[af (hm b _ q λz=>z)];exact q,λb u xs q=>by rw[af (hm b _ q λz=>z)];exact q,λb ps q=>#[[].toArray,by rw[af (hm b _ q λz=>z),q];simp]]
 by_cases ZF:b=e
 .subst ZF;exact heo
 .exact#[u,k b u ZF q]
end
structure Cx where
 prog:Hr
 w:HW
 K:Gy
 mg:Ha->GJ GC
 base:Im
 A:IE
 N:Gr Ha
 P9:GH
 H_0:Hp
 env:Env
 outer:Gr Env
 stack:Gr Env
 ex:Gr GB
 fn:Ha->HK
 calm:HK
 pn:Gr (GB×Kh)
 xe:GC->GH->Prop
abbrev Cx.fs (X:Cx):Gr GB:=tz X.outer
def tu (sc:Scope) (x:Ha):Prop:=sc.names.lookup x=GM .local\/sc.names.lookup x=GM .cell\/sc.names.lookup x=GM .free
def Loc (sc:Scope) (x:Ha):Prop:=sc.names.lookup x=GM .local\/sc.names.lookup x=GM .cell
def Look (env:Env) (h:Im) (m:Ha->GJ GC) (x:Ha) (u:GC):Prop:=
 (env.kindOf x=GM .local/\m x=GM u)\/((env.kindOf x=GM .cell\/env.kindOf x=GM .free)/\ ∃c,env.cells.lookup x=GM c/\h.IsCell c (GM u))
structure Cx.Ok (X:Cx):Prop where
 mod:Mod X.K X.mg X.base
 kind:X.env.scope.kind= .function
 glob:X.env.globals=Ki
 blt:X.env.builtins=Yv
 above:X.P9.heap.objs.size<=X.env.locals
 inj: ∀x y c,X.env.cells.lookup x=GM c->X.env.cells.lookup y=GM c->x=y
 has: ∀x,(X.env.kindOf x=GM .cell\/X.env.kindOf x=GM .free)-> ∃c,X.env.cells.lookup x=GM c
 Xg: ∀x c,X.fn x=IN->X.env.cells.lookup x=GM c->X.P9.heap.objs.size<=c
 hd:X.calm=IN->X.A.handled=Ix
 frames:X.A.frames=GM X.stack
 Xh:X.stack=X.outer\/(X.stack=X.env::X.outer/\X.env.frame=GM X.env.locals)
 ZG: ∀b∈X.ex,b≠X.env.locals/\ ∀x c,X.env.cells.lookup x=GM c->c≠b
 bs: ∀b o,X.base.get? b=GM o->X.P9.heap.get? b=GM o/\X.H_0 b=Ix
 Ux:X.base.objs.size<=X.P9.heap.objs.size
 So: ∀b o,X.base.get? b=GM o->b∉X.ex
 Sq: ∀b∈X.ex,b∉X.fs
 funs:X.P9.heap.FunFrames X.base X.outer
 VV: ∀b∈X.fs,X.H_0 b=Ix
structure aP (X:Cx) (pins:Gr (GB×Kh)) (σ:Gr (GJ V)) (H:Hp) (s:GH):Prop where
 ok:X.Ok
 os:s.os=X.P9.os
 bare:Qn s.gens
 base:Un X.fs X.ex X.H_0 H X.P9.heap s.heap
 loc: ∃m,s.heap.Ns X.env.locals m/\ ∀(i:GQ) (x:Ha) (v:V),X.N[i]?=GM x->σ[i]?=GM (GM v)->tu X.env.scope x-> ∃u,bD v u/\Look X.env s.heap m x u
 cell: ∀x c,X.env.cells.lookup x=GM c-> ∃v,s.heap.IsCell c v
 free:H X.env.locals=Ix
 MS: ∀x c,X.env.cells.lookup x=GM c->H c=Ix
 pin: ∀p∈X.pn++pins,s.heap.get? p.1=GM p.2/\H p.1=Ix/\p.1≠X.env.locals/\p.1∉X.fs/\ ∀v,p.2.data≠ .cell v
 JC:iR X.prog X.w H s.heap
 len:σ.length=X.N.length
section
variable {X:Cx}{pins:Gr (GB×Kh)}{σ:Gr (GJ V)}{H H':Hp}{s:GH}{h':Im}
def Cx.Ok.ai8 (ok:X.Ok) {b:GB}{o:Kh}(e:X.base.get? b=GM o):b∉X.fs:=λhb=>by
 have:=(ok.funs.mem hb).1;rw[e] at this;cases this
theorem aP.bs (I:aP X pins σ H s): ∀b o,X.base.get? b=GM o->s.heap.get? b=GM o/\H b=Ix:=λb o e=>
 #[I.base.keep b o (I.ok.bs b o e).1 (I.ok.bs b o e).2 (I.ok.ai8 e) (I.ok.So b o e),I.base.free b o (I.ok.bs b o e).1 (I.ok.bs b o e).2 (I.ok.So b o e)]
def aP.bk (I:aP X pins σ H s): ∀b o,X.base.get? b=GM o->s.heap.get? b=GM o:=λb o e=>(I.bs b o e).1
theorem aP.mod (I:aP X pins σ H s):Mod X.K X.mg X.base:=I.ok.mod
def aP.NY (I:aP X pins σ H s):X.K.In s.heap:=I.ok.mod.U9.keeps I.bk
def aP.fr (I:aP X pins σ H s): ∃m,Fr X.base X.env.locals s.heap m:=
 let ⟨m,hn,_⟩:=I.loc
 #[m,hn,I.bk,G0 I.ok.Ux I.ok.above]
theorem aP.lt (I:aP X pins σ H s):X.env.locals<s.heap.objs.size:=let ⟨_,hn,_⟩:=I.loc;hn.lt
def aP.sz (I:aP X pins σ H s):X.P9.heap.objs.size<=s.heap.objs.size:=G0 I.ok.above (Mf I.lt)
def aP.ai9 (I:aP X pins σ H s) {a:GB}(h:s.heap.objs.size<=a):a∉X.fs:=λhb=>by
 obtain⟨_,o,ho,_⟩:=I.ok.funs.mem hb;exact G6 (Hl (Hk ho) (G0 I.sz h)) (Jp _)
def aP.Xi (I:aP X pins σ H s): ∀x c,X.env.cells.lookup x=GM c->c≠X.env.locals:=λx c e z=>by
 obtain⟨v,o,ho,hd⟩:=I.cell x c e;obtain⟨m,⟨o',es,ep,QH,hd',_⟩,_⟩:=I.loc;rw[z,QH] at ho;cases ho;rw[hd'] at hd;cases hd
theorem aP.funs (I:aP X pins σ H s):s.heap.FunFrames X.base X.outer:=by
 have all: ∀(l:Gr Env),(∀b∈tz l,b∈X.fs)->X.P9.heap.FunFrames X.base l->s.heap.FunFrames X.base l:=by
  intro l
  induction l with
  |nil=>intro _ _;trivial
  |cons env r ih=>
   intro hs hl;obtain⟨hk,⟨L,o,hf,hn,ho,hd⟩,hr⟩:=hl;have hL:L∈X.fs:=hs L (by unfold tz;rw[LL,hf];exact GW);obtain⟨sl,e⟩:=I.base.slot L o ho (I.ok.VV L hL) hL λz=>I.ok.Sq L z hL;exact#[hk,#[L,_,hf,hn,e,hd],ih (λb hb=>hs b (by unfold tz;rw[LL,hf];exact Hc _ hb)) hr]
 exact all X.outer (λ_ hb=>hb) I.ok.funs
theorem aP.stack (I:aP X pins σ H s):s.heap.FunFrames X.base X.stack:=by
 rcases I.ok.Xh with e|⟨e,hf⟩
 .rw[e];exact I.funs
 .rw[e]
  obtain⟨m,hn,_⟩:=I.loc;refine .cons (by rw[I.ok.kind];decide) hf hn ?_ I.funs;exact Im.get?_none_of_le (G0 I.ok.Ux I.ok.above)
def aP.RJ (I:aP X pins σ H s): ∀b∈tz X.stack,b∈X.env.locals::X.fs:=λb hb=>by
 rcases I.ok.Xh with e|⟨e,hf⟩
 .rw[e] at hb;exact Hc _ hb
 .rw[e] at hb
  unfold tz at hb;rw[LL,hf] at hb;exact hb
def aP.QI (I:aP X pins σ H s): ∀b∈tz X.stack,H b=Ix:=λb hb=>by
 rcases Hg.mp (I.RJ b hb) with e|hb
 .rw[e];exact I.free
 .obtain⟨_,o,ho,_⟩:=I.ok.funs.mem hb
  exact I.base.free b o ho (I.ok.VV b hb) λz=>I.ok.Sq b z hb
def aP.step {g':KC Q9}{t':GQ}{d':Drawn}{ch:Gr GB}(I:aP X pins σ H s)
  (TM: ∀b∈ch,(b∈X.ex\/X.P9.heap.objs.size<=b)/\b≠X.env.locals/\(∀x c,X.env.cells.lookup x=GM c->c≠b)/\ ∀p∈X.pn++pins,p.1≠b)
  (keep: ∀b o,b≠X.env.locals->b∉X.fs->b∉ch->s.heap.get? b=GM o->H b=Ix->h'.get? b=GM o)
  (slot: ∀b o,b≠X.env.locals->b∈X.fs->b∉ch->s.heap.get? b=GM o->H b=Ix-> ∃sl,h'.get? b=GM { o with slots:=sl }) (free: ∀b o,b∉ch->s.heap.get? b=GM o->H b=Ix->H' b=Ix)
  (there: ∀b o,b∉ch->s.heap.get? b=GM o-> ∃o',h'.get? b=GM o')
  (Rc: ∀b xs,H b=GM (.tup xs)->H' b=GM (.tup xs)) (QQ: ∀b o u,H b=GM (.QP o u)->H' b=GM (.QP o u)) (Rf: ∀b ps,H b=GM (.YL ps)-> ∃more,H' b=GM (.YL (ps++more)))
  (ns: ∀m,s.heap.Ns X.env.locals m->h'.Ns X.env.locals m) (JC:iR X.prog X.w H' h') (hg:Qn g'):
  aP X pins σ H' { s with heap:=h',gens:=g',drawn:=d',toks:=t' } :=by
 have neL: ∀b o,X.P9.heap.get? b=GM o->b≠X.env.locals:=λb o e=>Ik (Hl (Hk e) I.ok.above)
 have neC: ∀b o,X.P9.heap.get? b=GM o->b∉X.ex->b∉ch:=λb o e hx hb=>by
  rcases(TM b hb).1 with z|z
  .exact hx z
  .exact G6 (Hl (Hk e) z) (Jp _)
 have cellK: ∀x c,X.env.cells.lookup x=GM c-> ∀v,s.heap.IsCell c v->h'.IsCell c v:=λx c e v ⟨o,ho,hd⟩=>by
  have nch:c∉ch:=λz=>(TM c z).2.2.1 x c e KB
  by_cases hc:c∈X.fs
  .obtain⟨sl,q⟩:=slot c o (I.Xi x c e) hc nch ho (I.MS x c e)
   exact#[_,q,hd]
  .exact#[o,keep c o (I.Xi x c e) hc nch ho (I.MS x c e),hd]
 refine#[I.ok,I.os,hg,#[λb o e n hb hx=>?_,λb o e n hb hx=>?_,λb o e n hx=>?_,λb o e hx=>?_,λb xs e=>Rc b xs (I.base.Rc b xs e),λb o xs e=>QQ b o xs (I.base.QQ b o xs e),λb ps e=>?_],?_,λx c e=>?_,?_,λx c e=>?_,λp hp=>?_,JC,I.len]
 .exact keep b o (neL b o e) hb (neC b o e hx) (I.base.keep b o e n hb hx) (I.base.free b o e n hx)
 .obtain⟨sl,e1⟩:=I.base.slot b o e n hb hx
  obtain⟨sl',e2⟩:=slot b _ (neL b o e) hb (neC b o e hx) e1 (I.base.free b o e n hx);exact#[sl',e2]
 .obtain⟨o',e1⟩:=I.base.there b o e hx
  exact free b o' (neC b o e hx) e1 (I.base.free b o e n hx)
 .obtain⟨o',e1⟩:=I.base.there b o e hx
  exact there b o' (neC b o e hx) e1
 .obtain⟨m1,e1⟩:=I.base.Rf b ps e
  obtain⟨m2,e2⟩:=Rf b _ e1;exact#[m1++m2,by rw[e2,KC.append_assoc]]
 .obtain⟨m,hn,hl⟩:=I.loc
  refine#[m,ns m hn,λi x v e1 e2 e3=>?_];obtain⟨u,r,l⟩:=hl i x v e1 e2 e3;refine#[u,r,?_];rcases l with l|⟨k,c,e,z⟩
  .exact .inl l
  .exact .inr #[k,c,e,cellK x c e _ z]
 .obtain⟨v,z⟩:=I.cell x c e
  exact#[v,cellK x c e v z]
 .obtain⟨m,⟨o,_,_,ho,_⟩,_⟩:=I.loc
  exact free _ o (λz=>(TM _ z).2.1 KB) ho I.free
 .obtain⟨v,o,ho,hd⟩:=I.cell x c e
  exact free c o (λz=>(TM c z).2.2.1 x c e KB) ho (I.MS x c e)
 .obtain⟨e,n,ne,nf,d⟩:=I.pin p hp
  have nch:p.1∉ch:=λz=>(TM p.1 z).2.2.2 p hp KB
  exact#[keep p.1 p.2 ne nf nch e n,free p.1 p.2 nch e n,ne,nf,d]
def aP.un {t':GQ}(I:aP X pins σ H s) (u:Un X.fs [] H H' s.heap h') (JC:iR X.prog X.w H' h'):aP X pins σ H' { s with heap:=h',toks:=t' } :=by
 obtain⟨m,⟨o,es,ep,ho,r⟩,_⟩:=id I.loc;obtain⟨sl,hL⟩:=u.any ho I.free (by simp);exact I.step (g':=s.gens) (d':=s.drawn) (ch:=[]) (λ_ z=>nomatch z) (λb o _ hb _ e n=>u.keep b o e n hb (by simp)) (λb o _ hb _ e n=>u.slot b o e n hb (by simp)) (λb o _ e n=>u.free b o e n (by simp)) (λb o _ e=>u.there b o e (by simp)) u.Rc u.QQ u.Rf (λm' hm=>by
  obtain⟨o',es',ep',QH,r'⟩:=hm;rw[ho] at QH;cases QH;exact#[_,es',ep',hL,r']) JC I.bare
def aP.call {g':KC Q9}{t':GQ}{d':Drawn}{ch:Gr GB}(I:aP X pins σ H s) (u:Un (tz X.stack) ch H H' s.heap h') (JC:iR X.prog X.w H' h') (hg:Qn g')
  (TM: ∀b∈ch,(b∈X.ex\/X.P9.heap.objs.size<=b)/\b≠X.env.locals/\(∀x c,X.env.cells.lookup x=GM c->c≠b)/\ ∀p∈X.pn++pins,p.1≠b):
  aP X pins σ H' { s with heap:=h',gens:=g',drawn:=d',toks:=t' } :=by
 obtain⟨m,⟨o,es,ep,ho,r⟩,_⟩:=id I.loc;obtain⟨sl,hL⟩:=u.any ho I.free λz=>(TM _ z).2.1 KB;exact I.step (ch:=ch) TM (λb o hL hb hc e n=>u.keep b o e n (λz=>(Hg.mp (I.RJ b z)).elim hL hb) hc) (λb o _ _ hc e n=>u.any e n hc) (λb o hc e n=>u.free b o e n hc) (λb o hc e=>u.there b o e hc) u.Rc u.QQ u.Rf (λm' hm=>by
  obtain⟨o',es',ep',QH,r'⟩:=hm;rw[ho] at QH;cases QH;exact#[_,es',ep',hL,r']) JC hg
def aP.turned {t':GQ}{it:GB}(I:aP X pins σ H s) (k: ∀b o,b≠it->s.heap.get? b=GM o->h'.get? b=GM o) (hn:H it=Ix) (hL:it≠X.env.locals)
  (h1:it∈X.ex\/X.P9.heap.objs.size<=it) (h2: ∀x c,X.env.cells.lookup x=GM c->c≠it) (h3: ∀p∈X.pn++pins,p.1≠it):aP X pins σ H { s with heap:=h',toks:=t' } :=by
 have Xj: ∀b u,H b=GM u->b≠it:=λb u e z=>by rw[z,hn] at e;cases e
 refine I.step (g':=s.gens) (d':=s.drawn) (ch:=[it]) (λb hb=>?_) (λb o _ _ hc e _=>k b o (λz=>hc (by simp [z])) e) (λb o _ _ hc e _=>#[o.slots,k b o (λz=>hc (by simp [z])) e]) (λ_ _ _ _ n=>n)
  (λb o hc e=>#[o,k b o (λz=>hc (by simp [z])) e]) (λ_ _ e=>e) (λ_ _ _ e=>e) (λb ps e=>#[[].toArray,by rw[e];simp]) (λm hm=>?_) (λb u e=>?_) I.bare
 .have e:b=it:=by simpa using hb
  subst e;exact#[h1,hL,h2,h3]
 .obtain⟨o,es,ep,ho,r⟩:=hm
  exact#[o,es,ep,k _ o (K3 hL) ho,r]
 .refine(I.JC b u e).QX (λc v hc q=>k c v ?_ q) [08] λ_ _ q=>q
  rcases hc with z|z
  .rw[z];exact Xj b u e
  .exact Xj c _ z
def aP.tok (I:aP X pins σ H s) (t:GQ):aP X pins σ H { s with toks:=t } :=I.un (h':=s.heap) (t':=t) Un.refl I.JC
theorem aP.kept (I:aP X pins σ H s) (k: ∀b u,s.heap.get? b=GM u->h'.get? b=GM u):aP X pins σ H { s with heap:=h',toks:=t' } :=I.un (Un.kept k) (I.JC.kept k)
theorem aP.laid {a:GB}{o:HO}(I:aP X pins σ H s) (k: ∀b u,s.heap.get? b=GM u->h'.get? b=GM u) (hp:s.heap.objs.size<=a) (new:cK X.prog X.w (bf H a o) h' a o):
  aP X pins σ (bf H a o) { s with heap:=h',toks:=t' } :=I.un (Un.laid k hp (I.JC.fresh hp)) (I.JC.laid k hp new)
theorem aP.write {x e:GB}{o:HO}(I:aP X pins σ H s) (mu:fG (H x)) (he:e=x\/H e=GM (.own x)) (k: ∀b u,b≠e->s.heap.get? b=GM u->h'.get? b=GM u) (heo: ∃u,h'.get? e=GM u)
  (new:cK X.prog X.w (bf H x o) h' x o):aP X pins σ (bf H x o) { s with heap:=h',toks:=t' } :=I.un (Un.write mu he k heo) (I.JC.write mu he k heo new)
def aP.weak (I:aP X pins σ H s) (hl:σ'.length=σ.length) (w: ∀(i:GQ) v,σ'[i]?=GM (GM v)->σ[i]?=GM (GM v)):aP X pins σ' H s:=
 #[I.ok,I.os,I.bare,I.base,let ⟨m,hn,hl'⟩:=I.loc;#[m,hn,λi x v e1 e2 e3=>hl' i x v e1 (w i v e2) e3],I.cell,I.free,I.MS,I.pin,I.JC,hl.trans I.len]
def aP.Uc (I:aP X pins σ H s) (h: ∀p∈Ud,s.heap.get? p.1=GM p.2/\H p.1=Ix/\p.1≠X.env.locals/\p.1∉X.fs/\ ∀v,p.2.data≠ .cell v):aP X Ud σ H s:=
 #[I.ok,I.os,I.bare,I.base,I.loc,I.cell,I.free,I.MS,λp hp=>(HJ.mp hp).elim (λz=>I.pin p (O8 _ z)) (h p),I.JC,I.len]
def pK {N:Gr Ha}(hN:N.Nodup) {i j:GQ}{x:Ha}(a:N[i]?=GM x) (b:N[j]?=GM x):i=j:=by
 obtain⟨h1,e1⟩:=Ho.mp a;obtain⟨h2,e2⟩:=Ho.mp b;exact(Gr.getElem_inj hN).mp (e1.trans e2.symm)
def qU {M:Model}{A:IE}{E:GC->GH->Prop}{i:GQ}{x:Ha}{v:V}{u:GC}{Q:Nq->GH->Prop}(I:aP X pins σ H s) (hN:X.N.Nodup) (hi:X.N[i]?=GM x) (hx:Loc X.env.scope x) (r:bD v u)
  (h: ∀s',aP X pins (σ.set i (GM v)) H s'->(∃a,Oy a s.heap s'.heap/\(a=X.env.locals\/X.env.cells.lookup x=GM a))->Q () s') (hf:X.fn x=IN\/X.env.scope.names.lookup x=GM .local:=by first|exact .inl rfl|exact .inr rfl|assumption):Hq M A (storeName X.env x u) Q E s:=by
 obtain⟨m,hn,hl⟩:=id I.loc;have ZH:(X.env.scope.kind == .class||(X.env.scope.kind == .module&&X.env.locals !=X.env.globals))=IR:=by rw[I.ok.kind];rfl
 have hiσ:i<σ.length:=by rw[I.len];exact(Ho.mp hi).1
 have Xi:=I.Xi
 have tracked: ∀ {a:GB}{h':Im},(∃o,s.heap.get? a=GM o/\H a=Ix)->Oy a s.heap h'->iR X.prog X.w H h':=λ{a h'} ha hs b ob e=>by
  obtain⟨_,_,Rn⟩:=ha;refine(I.JC b ob e).QX (λc w' hc q=>(hs.2 c ?_).trans q) [08] λ_ _ q=>q;rintro rfl;rcases hc with rfl|hc
  .rw[Rn] at e;cases e
  .rw[Rn] at hc;cases hc
 rcases hx with hk|hk
 .refine wpAny_storeName_local hk hn (λh' hn' hs=>?_) ZH
  obtain⟨oL,_,_,hoL,_⟩:=id hn;refine h _ #[I.ok,I.os,I.bare,#[λb o e n hb hx=>?_,λb o e n hb hx=>?_,I.base.free,λb o e hx=>?_,I.base.Rc,I.base.QQ,I.base.Rf],#[_,hn',λj y v' e1 e2 e3=>?_],λy c e=>?_,I.free,I.MS,λp hp=>?_,tracked #[oL,hoL,I.free] hs,by simpa using I.len] #[_,hs, .inl KB]
  .exact(hs.2 b (Ik (Hl (Hk e) I.ok.above))).trans (I.base.keep b o e n hb hx)
  .obtain⟨sl,e1⟩:=I.base.slot b o e n hb hx
   exact#[sl,(hs.2 b (Ik (Hl (Hk e) I.ok.above))).trans e1]
  .obtain⟨o',e1⟩:=I.base.there b o e hx
   exact#[o',(hs.2 b (Ik (Hl (Hk e) I.ok.above))).trans e1]
  .by_cases hj:j=i
   .subst hj
    rw[hi] at e1;cases e1;rw[Ov hiσ] at e2;cases e2;exact#[u,r, .inl #[hk,by simp]]
   .rw[O9 (K3 hj)] at e2
    obtain⟨u',r',q⟩:=hl j y v' e1 e2 e3;refine#[u',r',?_];rcases q with⟨k,e⟩|⟨k,c,e,z⟩
    .refine .inl #[k,?_]
     have:y≠x:=λe=>hj (pK hN e1 (e▸hi))
     simp [this,e]
    .exact .inr #[k,c,e,z.sameBut hs (Xi y c e)]
  .obtain⟨w',z⟩:=I.cell y c e
   exact#[w',z.sameBut hs (Xi y c e)]
  .obtain⟨e,n,ne,nf,d⟩:=I.pin p hp
   exact#[(hs.2 p.1 ne).trans e,n,ne,nf,d]
 .have Ue:X.fn x=IN:=by
   rcases hf with z|z
   .exact z
   .rw[z] at hk;cases hk
  obtain⟨c,hc⟩:=I.ok.has x (.inl hk);obtain⟨w',z⟩:=I.cell x c hc;refine wpAny_storeName_cell I.ok.kind hk hc z (λh' V0 hs=>?_);obtain⟨oc,hoc,aja⟩:=id z;refine h { s with heap:=h' } #[I.ok,I.os,I.bare,#[λb o e n hb hx=>?_,λb o e n hb hx=>?_,I.base.free,λb o e hx=>?_,I.base.Rc,I.base.QQ,I.base.Rf],#[m,hn.sameBut hs (K3 (Xi x c hc)),λj y v' e1 e2 e3=>?_],λy c' e=>?_,I.free,I.MS,λp hp=>?_,tracked #[oc,hoc,I.MS x c hc] hs,by simpa using I.len] #[c,hs, .inr hc]
  .exact(hs.2 b (Ik (Hl (Hk e) (I.ok.Xg x c Ue hc)))).trans (I.base.keep b o e n hb hx)
  .obtain⟨sl,e1⟩:=I.base.slot b o e n hb hx
   exact#[sl,(hs.2 b (Ik (Hl (Hk e) (I.ok.Xg x c Ue hc)))).trans e1]
  .obtain⟨o',e1⟩:=I.base.there b o e hx
   exact#[o',(hs.2 b (Ik (Hl (Hk e) (I.ok.Xg x c Ue hc)))).trans e1]
  .by_cases hj:j=i
   .subst hj
    rw[hi] at e1;cases e1;rw[Ov hiσ] at e2;cases e2;exact#[u,r, .inr #[.inl hk,c,hc,V0]]
   .rw[O9 (K3 hj)] at e2
    obtain⟨u',r',q⟩:=hl j y v' e1 e2 e3;refine#[u',r',?_];rcases q with q|⟨k,c',e,z'⟩
    .exact .inl q
    .refine .inr #[k,c',e,z'.sameBut hs ?_]
     rintro rfl;exact hj (pK hN e1 (I.ok.inj _ _ _ e hc▸hi))
  .by_cases hcc:c'=c
   .subst hcc;exact#[_,V0]
   .obtain⟨w2,z2⟩:=I.cell y c' e
    exact#[w2,z2.sameBut hs hcc]
  .obtain⟨e,n,ne,nf,d⟩:=I.pin p hp
   refine#[(hs.2 p.1 ?_).trans e,n,ne,nf,d];intro q;rw[q,hoc] at e;have q':oc=p.2:=Hb e;exact d w' (by rw[<-q'];exact aja)
def lf {A:IE}{E:GC->GH->Prop}{i:GQ}{x:Ha}{v:V}{u:GC}{Q:Nq->GH->Prop}(I:aP X pins σ H s) (hN:X.N.Nodup) (hi:X.N[i]?=GM x) (hx:Loc X.env.scope x) (r:bD v u)
  (h: ∀s',aP X pins (σ.set i (GM v)) H s'->Q () s') (hf:X.fn x=IN\/X.env.scope.names.lookup x=GM .local:=by first|exact .inl rfl|exact .inr rfl|assumption):Hq M A (storeName X.env x u) Q E s:=
 qU I hN hi hx r (λs' I' _=>h s' I') hf
def aP.VH {s':GH}(I:aP X pins σ H s) (ho:s'.os=s.os) (u:Un (tz X.stack) ch H H' s.heap s'.heap) (JC:iR X.prog X.w H' s'.heap) (hg:Qn s'.gens)
  (TM: ∀b∈ch,(b∈X.ex\/X.P9.heap.objs.size<=b)/\b≠X.env.locals/\(∀x c,X.env.cells.lookup x=GM c->c≠b)/\ ∀p∈X.pn++pins,p.1≠b):aP X pins σ H' s':=by
 obtain⟨h',g',d',t',o'⟩:=s';have e:o'=s.os:=ho;subst e;exact I.call (g':=g') (t':=t') (d':=d') u JC hg TM
end
abbrev St:=Gr (GJ V)
abbrev TE:=St->Hp->VK->Prop
abbrev TT:=St->Hp->(HK->Hp->Prop)->Prop
abbrev TA:=St->Hp->(Gr V->Hp->Prop)->Prop
structure dB where
 nx:St->Hp->Prop
 rt:VK
 bk:St->Hp->Prop:=λ_ _=>False
 ct:St->Hp->Prop:=λ_ _=>False
abbrev TS:=dB->St->Hp->Prop
inductive EP (X:Cx) (pins:Gr (GB×Kh)) (σ:St) (Q:VK) (u:GC) (s':GH):Prop
 |mk (v:V) (H':Hp) (_:aP X pins σ H' s') (_:bD v u) (_:Q v H'):EP X pins σ Q u s'
def TP (X:Cx) (pins:Gr (GB×Kh)) (σ:St) (Q:HK->Hp->Prop) (b:HK) (s':GH):Prop:= ∃H',aP X pins σ H' s'/\Q b H'
inductive AP (X:Cx) (pins:Gr (GB×Kh)) (σ:St) (Q:Gr V->Hp->Prop) (us:Gr GC) (s':GH):Prop
 |mk (vs:Gr V) (H':Hp) (_:aP X pins σ H' s') (_:bH vs us) (_:Q vs H'):AP X pins σ Q us s'
def SP (X:Cx) (pins:Gr (GB×Kh)) (D:dB) (f:Flow) (s':GH):Prop:=
 match f with
 | .next=> ∃σ' H',aP X pins σ' H' s'/\D.nx σ' H'
 | .brk=> ∃σ' H',aP X pins σ' H' s'/\D.bk σ' H'
 | .cont=> ∃σ' H',aP X pins σ' H' s'/\D.ct σ' H'
 | .ret u=> ∃v σ' H',aP X pins σ' H' s'/\bD v u/\D.rt v H'
def PE (X:Cx) (e:Jc) (t:TE):Prop:=
 ∀(pins:Gr (GB×Kh)) (s:GH) (σ:St) (H:Hp) (Q:VK),aP X pins σ H s->t σ H Q->Hq (model X.prog X.w) X.A (eval e X.env) (EP X pins σ Q) X.xe s
def PT (X:Cx) (e:Jc) (t:TT):Prop:=
 ∀(pins:Gr (GB×Kh)) (s:GH) (σ:St) (H:Hp) (Q:HK->Hp->Prop),aP X pins σ H s->t σ H Q->Hq (model X.prog X.w) X.A (isTrue e X.env (eval e X.env)) (TP X pins σ Q) X.xe s
def PW (X:Cx) (e:Jc) (t:TT):Prop:=
 ∀(whole:Sem GC) (pins:Gr (GB×Kh)) (s:GH) (σ:St) (H:Hp) (Q:HK->Hp->Prop),aP X pins σ H s->t σ H Q->Hq (model X.prog X.w) X.A (isTrue e X.env whole) (TP X pins σ Q) X.xe s
def PW.pt {X:Cx}{e:Jc}{t:TT}(h:PW X e t):PT X e t:=h _
def PA (X:Cx) (es:Gr Jc) (t:TA):Prop:=
 ∀(pos:Pos) (pins:Gr (GB×Kh)) (s:GH) (σ:St) (H:Hp) (Q:Gr V->Hp->Prop),aP X pins σ H s->t σ H Q->Hq (model X.prog X.w) X.A (spliced (J9 pos (Hf es X.env))) (AP X pins σ Q) X.xe s
def PS (X:Cx) (st:Stmt) (t:TS):Prop:=
 ∀(pins:Gr (GB×Kh)) (s:GH) (σ:St) (H:Hp) (D:dB),aP X pins σ H s->t D σ H->Hq (model X.prog X.w) X.A (exec st X.env) (SP X pins D) X.xe s
def vU (X:Cx) (st:Gr Stmt) (t:TS):Prop:=
 ∀(pins:Gr (GB×Kh)) (s:GH) (σ:St) (H:Hp) (D:dB),aP X pins σ H s->t D σ H->Hq (model X.prog X.w) X.A (execs st X.env) (SP X pins D) X.xe s
inductive Bd (X:Cx) (st:Gr Stmt) (D:dB) (σ:St) (H:Hp):Prop
 |mk (t:TS) (_:vU X st t) (_:t D σ H):Bd X st D σ H
def cG {α:Type}{t:Sem α}{Q Q':α->GH->Prop}{A:IE}{E:GC->GH->Prop}{s:GH}(h:Hq M A t Q E s) (hQ: ∀a s,Q a s->Q' a s):Hq M A t Q' E s:=JQ h hQ λ_ _ x=>x
section
variable {X:Cx}
def bin {a b:Jc}{ta tb:TE}(ha:PE X a ta) (hb:PE X b tb) {pins:Gr (GB×Kh)}{s:GH}{σ:St}{H:Hp}{R:V->V->Hp->Prop}(I:aP X pins σ H s) (h:ta σ H λx H1=>tb σ H1 λy H2=>R x y H2)
  {α:Type}{Q:α->GH->Prop}{f:GC->GC->Sem α}
  (hf: ∀v u s2 x y H2,aP X pins σ H2 s2->bD x v->bD y u->R x y H2->Hq (model X.prog X.w) X.A (f v u) Q X.xe s2):
  Hq (model X.prog X.w) X.A (eval a X.env) (λv s₁=>Hq (model X.prog X.w) X.A (eval b X.env) (λu s₂=>Hq (model X.prog X.w) X.A (f v u) Q X.xe s₂) X.xe s₁) X.xe s:=by
 refine cG (ha pins s σ H _ I h) λv s1 ⟨x,H1,I1,r1,q1⟩=>?_;refine cG (hb pins s1 σ H1 _ I1 q1) λu s2 ⟨y,H2,I2,r2,q2⟩=>?_;exact hf v u s2 x y H2 I2 r1 r2 q2
def ei:GQ->St->Hp->VK->Prop
 |0,some v::_,H,Q=>Q v H
 |i+1,_::σ,H,Q=>ei i σ H Q
 |_,_,_,_=>False
theorem CG {H:Hp}{Q:VK} : ∀ {i:GQ}{σ:St},ei i σ H Q-> ∃v,σ[i]?=GM (GM v)/\Q v H
 |0,some v::_,h=>#[v,KB,h]
 |i+1,_::σ,h=>CG (i:=i) (σ:=σ) h
theorem g0 {H:Hp}{Q:VK}{v:V}(q:Q v H): ∀ {i:GQ}{σ:St},σ[i]?=GM (GM v)->ei i σ H Q
 |0,some _::_,e=>Hb (Hb e)▸q
 |i+1,_::σ,e=>g0 q (i:=i) (σ:=σ) e
def tC (v:V):TE:=λ_ H Q=>Q v H
def iM {i:GQ}{x:Ha}{pos:Pos}(hN:X.N[i]?=GM x) (hv:tu X.env.scope x) (hd:(x == ("__debug__":Ha))=IR:=by decide) (RB:(x == ("__classdict__":Ha))=IR:=by decide):PE X (.Name x pos) (ei i):=by
 intro pins s σ H Q I h;obtain⟨v,e,h⟩:=CG h;obtain⟨m,hn,hl⟩:=I.loc;obtain⟨u,r,l⟩:=hl i x v hN e hv;have fin:EP X pins σ Q u s:=#[v,H,I,r,h];rcases l with⟨hk,hm⟩|⟨hk,c,hc,Ug⟩
 .exact Yw (V5 I.ok.kind hk hn hm fin) hd
 .rcases hk with hk|hk
  .exact Yw (WU I.ok.kind hk hc Ug fin) hd
  .exact Yw (wpAny_loadName_free I.ok.kind hk hc Ug fin RB) hd
def aG {i j pos} :PE X (.Constant (.int i) j pos) (tC (.int i)):=λ_ _ _ H _ I h=>wpAny_Constant_int #[.int i,H,I.tok _,#[_,KB],h]
def tV {b j pos} :PE X (.Constant (.bool b) j pos) (tC (.bl b)):=λ_ _ _ H _ I h=>Constant_bool #[.bl b,H,I,KB,h]
def mh {j pos} :PE X (.Constant .none j pos) (tC .Ko):=λ_ _ _ H _ I h=>Ur #[.Ko,H,I,KB,h]
def aK {x j pos} :PE X (.Constant (.str x) j pos) (tC (.str x)):=λ_ _ _ H _ I h=>Calls.Constant_str #[.str x,H,I.tok _,#[_,KB],h]
def Gl (X:Cx) (x:Ha):Prop:=X.env.kindOf x=GM .globalImplicit
def iO {E:GC->GH->Prop}{pins:Gr (GB×Kh)}{s:GH}{σ:St}{H:Hp}{x:Ha}{u:GC}{pos:Pos}{Q:GC->GH->Prop}(I:aP X pins σ H s) (hg:Gl X x) (hm:X.mg x=GM u) (h:Q u s)
  (hd:(x == ("__debug__":Ha))=IR:=by decide):Hq (model X.prog X.w) X.A (eval (.Name x pos) X.env) Q E s:=
 Q7 I.ok.kind hg (Calls.loadGlobal_global (by rw[I.ok.glob];exact I.mod.glob.keeps I.bk) hm h) hd
def sF {E:GC->GH->Prop}{pins:Gr (GB×Kh)}{s:GH}{σ:St}{H:Hp}{x:Ha}{u:GC}{pos:Pos}{Q:GC->GH->Prop}(I:aP X pins σ H s) (hg:Gl X x) (hm:X.mg x=Ix) (hv:MB x=GM u) (h:Q u s)
  (hn:x≠"__name__":=by decide) (hd:(x == ("__debug__":Ha))=IR:=by decide):Hq (model X.prog X.w) X.A (eval (.Name x pos) X.env) Q E s:=by
 obtain⟨mb,h1,h2⟩:=I.mod.blt;exact Q7 I.ok.kind hg (Calls.loadGlobal_builtin (by rw[I.ok.glob];exact I.mod.glob.keeps I.bk) hm (by rw[I.ok.blt];exact h1.keeps I.bk) ((h2 x hn).trans hv) h) hd
def sU {x:Ha}{v:V}{u:GC}{pos:Pos}(hg:Gl X x) (hm:X.mg x=GM u) (r:bD v u) (hd:(x == ("__debug__":Ha))=IR:=by decide):PE X (.Name x pos) (tC v):=
 λ_ _ _ H _ I h=>iO I hg hm #[v,H,I,r,h] hd
variable {a b:Jc}{ta tb:TE}{pos:Pos}
def PC (X:Cx) (op:CmpOp) (a b:Jc) (t:TE):Prop:=
 ∀(pins:Gr (GB×Kh)) (s:GH) (σ:St) (H:Hp) (Q:VK),aP X pins σ H s->t σ H Q->
  Hq (model X.prog X.w) X.A (eval a X.env) (λv s₁=>Hq (model X.prog X.w) X.A (eval b X.env) (λu s₂=>Hq (model X.prog X.w) X.A (J5 op v u) (EP X pins σ Q) X.xe s₂) X.xe s₁) X.xe s
def Ci (b:Jc) (h:op≠ .In) (h2:op≠ .NotIn):behindInMarks op b=IR:=by
 have e1:(op == CmpOp.In)=IR:=by cases op<;>first|rfl|exact G6 KB h
 have e2:(op == CmpOp.NotIn)=IR:=by cases op<;>first|rfl|exact G6 KB h2
 cases b<;>simp [behindInMarks,e1,e2]
def ajb (ta:TE):TE:=λσ H Q=>ta σ H λx H1=>Q (.bl (decide (x= .Ko))) H1
def aeq (ta:TE):TE:=λσ H Q=>ta σ H λx H1=>Q (.bl (!decide (x= .Ko))) H1
def bD.Sr {x:V}{v:GC}(r:bD x v):(v == Jy)=decide (x= .Ko):=by
 cases x with
 |Ko=>cases r;rfl
 |bl _=>cases r;rfl
 |int _=>obtain⟨t,rfl⟩:=r;rfl
 |str _=>obtain⟨t,rfl⟩:=r;rfl
 |Sa _=>obtain⟨t,rfl⟩:=r;rfl
 |W6 _=>obtain⟨t,rfl⟩:=r;rfl
 |ref _=>cases r;rfl
 |ty _=>cases r;rfl
def ZI {j NZ} (ha:PE X a ta):PC X .Is a (.Constant .none j NZ) (ajb ta):=by
 intro pins s σ H Q I h;refine cG (ha pins s σ H _ I h) λv s1 ⟨x,H1,I1,r1,q1⟩=>?_;exact Ur (is_none_gen #[.bl _,H1,I1,by rw[r1.Sr];rfl,q1])
def sS {j NZ} (ha:PE X a ta):PC X .IsNot a (.Constant .none j NZ) (aeq ta):=by
 intro pins s σ H Q I h;refine cG (ha pins s σ H _ I h) λv s1 ⟨x,H1,I1,r1,q1⟩=>?_;exact Ur (isnot_none_gen #[.bl _,H1,I1,by rw[r1.Sr];rfl,q1])
inductive wL (R:HK->Hp->Prop) (x:V) (H1:Hp):Prop
 |mk (c:HK) (_:x= .bl c) (_:R c H1):wL R x H1
def tB (t:TE):TT:=λσ H Q=>t σ H (wL Q)
def fE {t:TE}(h:PC X op a b t) (h1:behindInMarks op b=IR:=by first|exact Ci _ [01] [01]|rfl):PT X (.Compare a [op] [b] pos) (tB t):=by
 intro pins s σ H Q I hw;refine VO (cG (h pins s σ H _ I hw) λv s1 h1=>cG h1 λu s2 h2=>cG h2 λc s3 ⟨x,H1,I1,r1,q1⟩=>?_) h1;obtain⟨d,rfl,q⟩:=q1;cases r1;exact KP #[H1,I1,q]
def bS {e:Jc}{t:TE}(h:PE X e t) (he: ∀whole,isTrue e X.env whole=(do let v<-whole;standAt e.pos;holding [v] (truthy v)):=by intro _;rfl):PT X e (tB t):=by
 intro pins s σ H Q I hw;refine isTrue_plain (cG (h pins s σ H _ I hw) λv s1 ⟨x,H1,I1,r1,q1⟩=>?_) (he _);obtain⟨d,rfl,q⟩:=q1;cases r1;exact KP #[H1,I1,q]
variable {tA tB':TT}{rest:Gr Jc}
def ajc (t u:TT):TT:=λσ H Q=>t σ H λc H1=>if c=IN then u σ H1 Q else Q IR H1
def tOr (t u:TT):TT:=λσ H Q=>t σ H λc H1=>if c=IN then Q IN H1 else u σ H1 Q
def ajd (t:TT):TT:=λσ H Q=>t σ H λc H1=>Q (!c) H1
def lG (ha:PT X a tA):PW X (.BoolOp .And [a] pos) tA:=by
 intro wh pins s σ H Q I h;refine isTrue_and (cG (ha pins s σ H Q I h) λc s1 e=>?_);cases c with
 |true=>exact isTrue_and_nil e
 |false=>exact e
def pH (ha:PT X a tA):PW X (.BoolOp .Or [a] pos) tA:=by
 intro wh pins s σ H Q I h;refine isTrue_or (cG (ha pins s σ H Q I h) λc s1 e=>?_);cases c with
 |false=>exact isTrue_or_nil e
 |true=>exact e
def lX (ha:PT X a tA) (hb:PW X (.BoolOp .And (b::rest) pos) tB'):PW X (.BoolOp .And (a::b::rest) pos) (ajc tA tB'):=by
 intro wh pins s σ H Q I h;refine isTrue_and (cG (ha pins s σ H _ I h) λc s1 ⟨H1,I1,q1⟩=>?_);cases c with
 |true=>exact hb wh pins s1 σ H1 Q I1 q1
 |false=>exact#[H1,I1,q1]
def qS (ha:PT X a tA) (hb:PW X (.BoolOp .Or (b::rest) pos) tB'):PW X (.BoolOp .Or (a::b::rest) pos) (tOr tA tB'):=by
 intro wh pins s σ H Q I h;refine isTrue_or (cG (ha pins s σ H _ I h) λc s1 ⟨H1,I1,q1⟩=>?_);cases c with
 |true=>exact#[H1,I1,q1]
 |false=>exact hb wh pins s1 σ H1 Q I1 q1
def lT (ha:PT X a tA):PT X (.UnaryOp .Not a pos) (ajd tA):=by
 intro pins s σ H Q I h;exact isTrue_not (ha pins s σ H (λc H1=>Q (!c) H1) I h)
def aer (ta tb:TE):TE:=λσ H Q=>ta σ H (wL (λc H1=>if c=IN then tb σ H1 Q else Q (.bl IR) H1))
def aje (ta tb:TE):TE:=λσ H Q=>ta σ H (wL (λc H1=>if c=IN then Q (.bl IN) H1 else tb σ H1 Q))
def oV {op} {t:TE}(h:PE X a t):PE X (.BoolOp op [a] pos) t:=λpins s σ H Q I hw=>BoolOp_one (h pins s σ H Q I hw)
def wR (ha:PE X a ta) (hb:PE X (.BoolOp .And (b::rest) pos) tb):PE X (.BoolOp .And (a::b::rest) pos) (aer ta tb):=by
 intro pins s σ H Q I h;refine BoolOp_and (cG (ha pins s σ H _ I h) λv s1 ⟨x,H1,I1,r1,q1⟩=>?_);obtain⟨c,rfl,q1⟩:=q1;cases r1;refine KP ?_;cases c with
 |true=>exact hb pins s1 σ H1 Q I1 q1
 |false=>exact#[.bl IR,H1,I1,KB,q1]
def Bz (ha:PE X a ta) (hb:PE X (.BoolOp .Or (b::rest) pos) tb):PE X (.BoolOp .Or (a::b::rest) pos) (aje ta tb):=by
 intro pins s σ H Q I h;refine BoolOp_or (cG (ha pins s σ H _ I h) λv s1 ⟨x,H1,I1,r1,q1⟩=>?_);obtain⟨c,rfl,q1⟩:=q1;cases r1;refine KP ?_;cases c with
 |false=>exact hb pins s1 σ H1 Q I1 q1
 |true=>exact#[.bl IN,H1,I1,KB,q1]
def tIf (t:TT) (ta tb:TE):TE:=λσ H Q=>t σ H λc H1=>if c=IN then ta σ H1 Q else tb σ H1 Q
def dJ {c:Jc}(hc:PT X c tA) (ha:PE X a ta) (hb:PE X b tb):PE X (.IfExp c a b pos) (tIf tA ta tb):=by
 intro pins s σ H Q I h;refine wpAny_IfExp (cG (hc pins s σ H _ I h) λd s1 ⟨H1,I1,q1⟩=>?_);cases d with
 |true=>exact ha pins s1 σ H1 Q I1 q1
 |false=>exact hb pins s1 σ H1 Q I1 q1
end
def ajf:GC->GJ V
 | .none=>GM .Ko
 | .bool b=>GM (.bl b)
 | .int i _=>GM (.int i)
 | .str x _=>GM (.str x)
 | .bytes b _=>GM (.Sa b)
 | .float b _=>GM (.W6 b)
 | .ref a=>GM (.ref a)
 | .type n=>GM (.ty n)
 |_=>Ix
def bD.abs {x:V}{u:GC}(r:bD x u):ajf u=GM x:=by
 cases x with
 |Ko=>cases r;rfl
 |bl _=>cases r;rfl
 |int _=>obtain⟨t,rfl⟩:=r;rfl
 |str _=>obtain⟨t,rfl⟩:=r;rfl
 |Sa _=>obtain⟨t,rfl⟩:=r;rfl
 |W6 _=>obtain⟨t,rfl⟩:=r;rfl
 |ref _=>cases r;rfl
 |ty _=>cases r;rfl
def bD.inj {x y:V}{u:GC}(r:bD x u) (q:bD y u):x=y:=Hb (r.abs.symm.trans q.abs)
theorem bH.inj: ∀ {xs ys:Gr V}{us:Gr GC},bH xs us->bH ys us->xs=ys
 |_,_,_, .nil, .nil=>rfl
 |_,_,_, .cons r t, .cons r' t'=>by rw[r.inj r',bH.inj t t']
section
variable {X:Cx}{pins:Gr (GB×Kh)}{σ:St}{H:Hp}{s:GH}{a:GB}{xs ys:Gr V}
def qd.of {K:Gy}(h:H a=GM (.tup xs)):qd K H a xs:= .inl (.inl h)
def aP.list (I:aP X pins σ H s) (h:cJ X.K H a xs): ∃Jl:Gr GC,bH xs Jl/\PlainL s.heap a Jl.toArray/\xs.length<=GZ:=by
 rcases h with h|⟨o,Jl,n,hk,hc,hd,hs,hz,r⟩
 .obtain⟨z,Jl,n,r,e⟩:=h.ok I.JC
  exact#[Jl,r,#[_,n,e,KB,KB,KB],z]
 .refine#[Jl.toList,r,#[o,n,I.NY a o hk,hc,hd,by simpa using hs],?_]
  have e:=r.length;simp only[Pg] at e;lia
def aP.tuple (I:aP X pins σ H s) (h:qd X.K H a xs): ∃Jl:Gr GC,bH xs Jl/\IsTup s.heap a Jl.toArray/\xs.length<=GZ:=by
 rcases h with h|⟨o,Jl,n,hk,hc,hs,hz,r⟩
 .obtain⟨z,Jl,r,p⟩:=h.ok I.JC
  exact#[Jl,r,p,z]
 .refine#[Jl.toList,r,#[o,I.NY a o hk,hc,n,by simpa using hs],?_]
  have e:=r.length;simp only[Pg] at e;lia
def aP.QY (I:aP X pins σ H s) (h:cJ X.K H a xs) (h':cJ X.K H a ys):xs=ys:=by
 obtain⟨Jl,r,⟨o,n,e,_,_,d⟩,_⟩:=I.list h;obtain⟨its',r',⟨o',n',e',_,_,d'⟩,_⟩:=I.list h';rw[e] at e';cases e';rw[d] at d';injection d' with d1 _;have:Jl=its':=by simpa using Hv R7 d1
 subst this;exact r.inj r'
end
abbrev Cx.Rj (X:Cx) (E:GC->GH->Prop):Cx:= { X with xe:=E }
abbrev Cx.nox (X:Cx):Cx:=X.Rj λ_ _=>False
theorem Cx.Ok.Rj {X:Cx}(ok:X.Ok) (E:GC->GH->Prop):(X.Rj E).Ok:=
 #[ok.mod,ok.kind,ok.glob,ok.blt,ok.above,ok.inj,ok.has,ok.Xg,ok.hd,ok.frames,ok.Xh,ok.ZG,ok.bs,ok.Ux,ok.So,ok.Sq,ok.funs,ok.VV]
def Cx.Ok.OT {X:Cx}{E:GC->GH->Prop}(ok:(X.Rj E).Ok):X.Ok:=
 #[ok.mod,ok.kind,ok.glob,ok.blt,ok.above,ok.inj,ok.has,ok.Xg,ok.hd,ok.frames,ok.Xh,ok.ZG,ok.bs,ok.Ux,ok.So,ok.Sq,ok.funs,ok.VV]
section
variable {X:Cx}{pins:Gr (GB×Kh)}{σ:St}{H:Hp}{s:GH}{E:GC->GH->Prop}
theorem aP.Rj (I:aP X pins σ H s) (E:GC->GH->Prop):aP (X.Rj E) pins σ H s:=#[I.ok.Rj E,I.os,I.bare,I.base,I.loc,I.cell,I.free,I.MS,I.pin,I.JC,I.len]
theorem aP.OT (I:aP (X.Rj E) pins σ H s):aP X pins σ H s:=#[I.ok.OT,I.os,I.bare,I.base,I.loc,I.cell,I.free,I.MS,I.pin,I.JC,I.len]
theorem SP.OT {f:Flow}{s':GH}(h:SP (X.Rj E) pins D f s'):SP X pins D f s':=by
 cases f with
 |next=>obtain⟨σ',H',I,q⟩:=h;exact#[σ',H',I.OT,q]
 |brk=>obtain⟨σ',H',I,q⟩:=h;exact#[σ',H',I.OT,q]
 |cont=>obtain⟨σ',H',I,q⟩:=h;exact#[σ',H',I.OT,q]
 |ret u=>obtain⟨v,σ',H',I,r,q⟩:=h;exact#[v,σ',H',I.OT,r,q]
theorem vU.nox {st:Gr Stmt}{t:TS}(h:vU X.nox st t):vU X st t:=λpins s σ H D I hw=>
 JQ (h pins s σ H D (I.Rj _) hw) (λ_ _ q=>q.OT) λ_ _ z=>JW z
end
section
variable {X:Cx}{st:Stmt}{rest:Gr Stmt}{t u:TS}{e:Jc}{te:TE}{pos:Pos}
def Xk:TS:=λD σ H=>D.nx σ H
def uD (t u:TS):TS:=λD σ H=>t { D with nx:=u D } σ H
def aQ:vU X [] Xk:=λ_ _ σ H _ I h=>NA #[σ,H,I,h]
def ai (h1:PS X st t) (h2:vU X rest u):vU X (st::rest) (uD t u):=by
 intro pins s σ H D I h;refine wpAny_execs_cons (cG (h1 pins s σ H { D with nx:=u D } I h) λf s1 q=>?_);cases f with
 |next=>
  obtain⟨σ',H',I',q⟩:=q;exact h2 pins s1 σ' H' D I' q
 |ret v=>exact q
 |brk=>exact q
 |cont=>exact q
def ak (h1:PS X st t):vU X [st] t:=by
 intro pins s σ H D I h;refine wpAny_execs_cons (cG (h1 pins s σ H D I h) λf s1 q=>?_);cases f with
 |next=>exact NA q
 |ret v=>exact q
 |brk=>exact q
 |cont=>exact q
def ZJ:TS:=λD σ H=>D.bk σ H
def CV:PS X (.Break pos) ZJ:=λ_ _ σ H _ I h=>wpAny_Break #[σ,H,I,h]
def aP.quiet {pins:Gr (GB×Kh)}{σ:St}{H:Hp}{s:GH}(I:aP X pins σ H s):interactive X.env=IR:=by simp [interactive,I.ok.kind]
def tG (te:TE):TS:=λD σ H=>te σ H λ_ H1=>D.nx σ H1
def a6 (he:PE X e te) (hs:Lf e Ix pos.line X.env=pure IR:=by rfl):PS X (.Expr e pos) (tG te):=by
 intro pins s σ H D I h;exact wpAny_Expr_any (cG (he pins s σ H _ I h) λv s1 ⟨x,H1,I1,r1,q1⟩=>#[σ,H1,I1,q1]) I.quiet hs
def ZK (te:TE):TS:=λD σ H=>te σ H D.rt
def aB (he:PE X e te):PS X (.Return (GM e) pos) (ZK te):=by
 intro pins s σ H D I h;exact wpAny_Return_some (cG (he pins s σ H _ I h) λv s1 ⟨x,H1,I1,r1,q1⟩=>#[x,σ,H1,I1,r1,q1])
def ZL (c:TT) (t u:TS):TS:=λD σ H=>c σ H λb H1=>if b=IN then t D σ H1 else u D σ H1
def bz {c:Jc}{a b:Gr Stmt}{tc:TT}(hc:PT X c tc) (ha:vU X a t) (hb:vU X b u):PS X (.If c a b pos) (ZL tc t u):=by
 intro pins s σ H D I h;refine wpAny_If (cG (hc pins s σ H _ I h) λd s1 ⟨H1,I1,q1⟩=>?_);cases d with
 |true=>exact ha pins s1 σ H1 D I1 q1
 |false=>exact hb pins s1 σ H1 D I1 q1
end
abbrev TG:=V->St->Hp->(St->Hp->Prop)->Prop
abbrev ZM:=Gr V->St->Hp->(St->Hp->Prop)->Prop
def PG (X:Cx) (target:Jc) (t:TG):Prop:=
 ∀(pins:Gr (GB×Kh)) (s:GH) (σ:St) (H:Hp) (v:V) (u:GC) (Q:St->Hp->Prop),aP X pins σ H s->bD v u->t v σ H Q->
  Hq (model X.prog X.w) X.A (assign target X.env u) (λ_ s'=> ∃σ' H',aP X pins σ' H' s'/\Q σ' H') X.xe s
def PGs (X:Cx) (ts:Gr Jc) (t:ZM):Prop:=
 ∀(pins:Gr (GB×Kh)) (s:GH) (σ:St) (H:Hp) (vs:Gr V) (us:Gr GC) (Q:St->Hp->Prop),aP X pins σ H s->bH vs us->t vs σ H Q->
  Hq (model X.prog X.w) X.A (assignInOrder ((QM ts X.env).map (·.2)) us) (λ_ s'=> ∃σ' H',aP X pins σ' H' s'/\Q σ' H') X.xe s
abbrev TIp:=V->V->Hp->VK->Prop
def PIp (X:Cx) (op:Operator) (t:TIp):Prop:=
 ∀(pins:Gr (GB×Kh)) (s:GH) (σ:St) (H:Hp) (x y:V) (v u:GC) (Q:VK),aP X pins σ H s->bD x v->bD y u->t x y H Q->
  Hq (model X.prog X.w) X.A (inplaceOp op v u) (EP X pins σ Q) X.xe s
section
variable {X:Cx}{pos:Pos}
def gI (i:GQ):TG:=λv σ H Q=>Q (σ.set i (GM v)) H
def cY {i:GQ}{x:Ha}(hN:X.N.Nodup) (hi:X.N[i]?=GM x) (hx:Loc X.env.scope x) (hf:X.fn x=IN\/X.env.scope.names.lookup x=GM .local:=by first|exact .inl rfl|exact .inr rfl|assumption):PG X (.Name x pos) (gI i):=by
 intro pins s σ H v u Q I r h;exact wpAny_assign_Name (lf I hN hi hx r (λs' I'=>#[_,H,I',h]) hf)
def ajg:ZM:=λvs σ H Q=>vs=[]/\Q σ H
def aes (t:TG) (u:ZM):ZM:=λvs σ H Q=> ∃v r,vs=v::r/\t v σ H λσ' H'=>u r σ' H' Q
def Fd:PGs X [] ajg:=by
 intro pins s σ H vs us Q I r h;obtain⟨e,h⟩:=h;subst e;cases r;exact assignInOrder_nil #[σ,H,I,h]
def uQ {e:Jc}{es:Gr Jc}{t:TG}{u:ZM}(h1:PG X e t) (h2:PGs X es u)
  (hs:(QM (e::es) X.env).map (·.2)=assign e X.env::(QM es X.env).map (·.2):=by rfl):PGs X (e::es) (aes t u):=by
 intro pins s σ H vs us Q I r h;obtain⟨v,vr,e1,h⟩:=h;subst e1;cases r with
 |cons r rr=>
  rw[hs];refine assignInOrder_cons (cG (h1 pins s σ H _ _ _ I r h) λ_ s1 ⟨σ1,H1,I1,q1⟩=>?_);exact h2 pins s1 σ1 H1 _ _ Q I1 rr q1
def ajh (K:Gy) (n:GQ) (t:ZM):TG:=λv σ H Q=> ∃a xs,v= .ref a/\qd K H a xs/\xs.length=n/\t xs σ H Q
def ZN {es:Gr Jc}{k:GQ}{t:ZM}(hc:X.calm=IN) (h:PGs X es t)
  (hn:(QM es X.env).length=n:=by rfl) (Mu:(QM es X.env).findIdx? (·.1)=Ix:=by rfl):PG X (.Tuple es k pos) (ajh X.K n t):=by
 intro pins s σ H v u Q I r hw;obtain⟨a,xs,e1,hq,hl,hw⟩:=hw;subst e1;cases r;obtain⟨Jl,rv,ht,hz⟩:=I.tuple hq;refine assign_Tuple_tuple (I.ok.hd hc) ht (by simp [hn,<-hl,rv.length]) Mu λh' hx=>?_;have I1:aP X pins σ H { s with heap:=h' } :=I.kept (t':=s.toks) λb o e=>hx b o (Ik (Hk e)) e
 exact h pins _ σ H xs _ Q I1 (by simpa using rv) hw
def BV (te:TE) (g:TG):TS:=λD σ H=>te σ H λx H1=>g x σ H1 D.nx
def b4 {i:GQ}{x:Ha}{e:Jc}{te:TE}{NZ:Pos}(hN:X.N.Nodup) (hi:X.N[i]?=GM x) (hx:Loc X.env.scope x) (he:PE X e te) (hs:Lf e (GM (.Name x NZ)) pos.line X.env=pure IR:=by rfl) (hf:X.fn x=IN\/X.env.scope.names.lookup x=GM .local:=by first|exact .inl rfl|exact .inr rfl|assumption):
  PS X (.Assign [.Name x NZ] e pos) (BV te (gI i)):=by
 intro pins s σ H D I h;refine wpAny_Assign_Name (cG (he pins s σ H _ I h) λv s1 ⟨y,H1,I1,r1,q1⟩=>?_) hs;exact lf I1 hN hi hx r1 (λs2 I2=>#[_,H1,I2,q1]) hf
def aji (i:GQ) (te:TE) (ti:TIp):TS:=λD σ H=> ∃x,σ[i]?=GM (GM x)/\te σ H λy H1=>ti x y H1 λz H2=>D.nx (σ.set i (GM z)) H2
def lY {i:GQ}{x:Ha}{e:Jc}{te:TE}{NZ:Pos}(hN:X.N.Nodup) (hi:X.N[i]?=GM x) (hx:Loc X.env.scope x) (he:PE X e te) (ho:PIp X op ti) (hf:X.fn x=IN\/X.env.scope.names.lookup x=GM .local:=by first|exact .inl rfl|exact .inr rfl|assumption):
  PS X (.AugAssign (.Name x NZ) op e pos) (aji i te ti):=by
 intro pins s σ H D I h;obtain⟨v,e1,h⟩:=h;obtain⟨m,hn,hl⟩:=I.loc;have vis:tu X.env.scope x:=by rcases hx with k|k;exact .inl k;exact .inr (.inl k)
 obtain⟨u,r,l⟩:=hl i x v hi e1 vis;refine wpAny_AugAssign_Name ?_;have go:Hq (model X.prog X.w) X.A (eval e X.env) (λw s₂=>Hq (model X.prog X.w) X.A (inplaceOp op u w) (λr s₃=>Hq (model X.prog X.w) X.A (storeName X.env x r) (λ_=>SP X pins D .next) X.xe s₃) X.xe s₂) X.xe s:=by
  refine cG (he pins s σ H _ I h) λw s1 ⟨y,H1,I1,r1,q1⟩=>?_;refine cG (ho pins s1 σ H1 v y u w _ I1 r r1 q1) λz s2 ⟨zv,H2,I2,r2,q2⟩=>?_;exact lf I2 hN hi hx r2 (λs3 I3=>#[_,H2,I3,q2]) hf
 rcases l with⟨hk,hm⟩|⟨hk,c,hc,Ug⟩
 .exact V5 I.ok.kind hk hn hm go
 .rcases hk with hk|hk
  .exact WU I.ok.kind hk hc Ug go
  .rcases hx with k|k
   .have:X.env.scope.names.lookup x=GM .free:=hk
    rw[k] at this;cases this
   .have:X.env.scope.names.lookup x=GM .free:=hk
    rw[k] at this;cases this
def ipI (f:Int->Int->Int):TIp:=λx y H Q=> ∃i j,x= .int i/\y= .int j/\Q (.int (f i j)) H
def l0:PIp X .Add (ipI λi j=>i+j):=by
 intro pins s σ H x y v u Q I r1 r2 h;obtain⟨i,j,e1,e2,q⟩:=h;subst e1;subst e2;obtain⟨t,rfl⟩:=r1;obtain⟨t',rfl⟩:=r2;exact iadd_int #[.int _,H,I.tok _,#[_,KB],q]
end
section
variable {X:Cx}{pos:Pos}
def ZO (c:TT) (tb:TS):TS:=λD σ H=> ∃W:GQ->St->Hp->Prop,(∃m,W m σ H)/\ ∀m σ H,W m σ H->
 c σ H λb H1=>if b=IN then∃N:St->Hp->Prop,(∀σ' H',N σ' H'-> ∃m',m'<m/\W m' σ' H')/\tb { D with nx:=N,ct:=N,bk:=D.nx } σ H1 else D.nx σ H1
def jl {c:Jc}{tc:TT}{tb:TS}(hp:Rv (model X.prog X.w) X.A X.env X.xe) (hc:PT X c tc) (hb:vU X body tb):PS X (.While c body [] pos) (ZO tc tb):=by
 intro pins s σ H D I h;obtain⟨W,⟨m0,w0⟩,turn⟩:=h;refine wpAny_While (codeAny_whileLoop (λn s'=> ∃σ' H',aP X pins σ' H' s'/\W n σ' H') ?_ m0 #[σ,H,I,w0]);rintro n s1 ⟨σ1,H1,I1,w1⟩;refine Lx hp (cG (hc pins s1 σ1 H1 _ I1 (turn n σ1 H1 w1)) λb s2 ⟨H2,I2,q2⟩=>?_);cases b with
 |true=>
  obtain⟨N,hN,q2⟩:=q2;rw[GI KB];refine Lx hp (cG (hb pins s2 σ1 H2 _ I2 q2) λf s3 q3=>?_);cases f with
  |next=>
   obtain⟨σ3,H3,I3,n3⟩:=q3;obtain⟨m',hm,w3⟩:=hN σ3 H3 n3;exact#[m',hm,σ3,H3,I3,w3]
  |cont=>
   obtain⟨σ3,H3,I3,n3⟩:=q3;obtain⟨m',hm,w3⟩:=hN σ3 H3 n3;exact#[m',hm,σ3,H3,I3,w3]
  |brk=>exact q3
  |ret v=>exact q3
 |false=>
  rw[GG Gu];exact NA #[σ1,H2,I2,q2]
end
structure It where
 go:GQ->Hp->Prop
 Xl:GQ->Hp->V->Hp->Prop
 stop:GQ->Hp->Prop
def m7 (X:Cx) (pins:Gr (GB×Kh)) (H:Hp) (b:GB):Prop:=
 H b=Ix/\b≠X.env.locals/\b∉X.fs/\(b∈X.ex\/X.P9.heap.objs.size<=b)/\(∀x c,X.env.cells.lookup x=GM c->c≠b)/\ ∀p∈X.pn++pins,p.1≠b
def aP.WH {X:Cx}{pins:Gr (GB×Kh)}{σ:St}{H H':Hp}{s:GH}{b:GB}(I:aP X pins σ H s) (hb:s.heap.objs.size<=b) (hn:H' b=Ix):m7 X pins H' b:=by
 refine#[hn,Qy (Hl I.lt hb),I.ai9 hb, .inr (G0 I.sz hb),λx c e z=>?_,λp hp z=>?_]
 .obtain⟨v,q⟩:=I.cell x c e
  exact G6 (Hl q.lt (by rw[z];exact hb)) (Jp _)
 .exact G6 (Hl (Hk (I.pin p hp).1) (by rw[z];exact hb)) (Jp _)
structure Eh (P:Hr) (w:HW) (K:Gy) (tg:Jc) (J:It) (fp:Gr GB) (it:GB) (tn:GQ->Im->Prop):Prop where
 mem:it∈fp
 obj: ∀i h,tn i h-> ∀b∈fp,∃o,h.get? b=GM o/\ ∀v,o.data≠ .cell v
 keep: ∀i h h',tn i h->(∀b∈fp,∀o,h.get? b=GM o->h'.get? b=GM o)->tn i h'
 item: ∀(X:Cx),X.prog=P->X.w=w->X.K=K->X.calm=IN-> ∀(i:GQ) (pins:Gr (GB×Kh)) (s:GH) (σ:St) (H:Hp) (E:GC->GH->Prop),aP X pins σ H s->(∀b∈fp,m7 X pins H b)->tn i s.heap->J.go i H->
  Hq (model P w) X.A (pyNext (.ref it)) (λr s1=> ∃u,r=GM u/\
   Hq (model P w) X.A (Pp tg (.ref it) u) (λ_ s2=> ∃x H',aP X pins σ H' s2/\bD x u/\J.Xl i H x H'/\tn (i+1) s2.heap/\ ∀b∈fp,H' b=Ix) E s1) E s
 done: ∀(X:Cx),X.prog=P->X.w=w->X.K=K->X.calm=IN-> ∀(i:GQ) (pins:Gr (GB×Kh)) (s:GH) (σ:St) (H:Hp) (E:GC->GH->Prop),aP X pins σ H s->(∀b∈fp,m7 X pins H b)->tn i s.heap->J.stop i H->
  Hq (model P w) X.A (pyNext (.ref it)) (λr s1=>r=Ix/\aP X pins σ H s1) E s
 self: ∀(A:IE) (i:GQ) (s:GH) (Q:GC->GH->Prop) (E:GC->GH->Prop),tn i s.heap->Q (.ref it) s->Hq (model P w) A (pyIter (.ref it)) Q E s
abbrev TI:=St->Hp->(It->Hp->Prop)->Prop
def PIE (X:Cx) (pins:Gr (GB×Kh)) (σ:St) (tg:Jc) (R:It->Hp->Prop) (itv:GC) (s2:GH):Prop:=
 ∃(it:GB) (fp:Gr GB) (tn:GQ->Im->Prop) (J:It) (H':Hp),itv= .ref it/\aP X pins σ H' s2/\Eh X.prog X.w X.K tg J fp it tn/\tn 0 s2.heap/\(∀b∈fp,m7 X pins H' b)/\R J H'
def PI (X:Cx) (tg Mv:Jc) (wi:TI):Prop:=
 ∀(pins:Gr (GB×Kh)) (s:GH) (σ:St) (H:Hp) (R:It->Hp->Prop),aP X pins σ H s->wi σ H R->
  Hq (model X.prog X.w) X.A (eval Mv X.env) (λv s1=>Hq (model X.prog X.w) X.A (pyIter v) (PIE X pins σ tg R) X.xe s1) X.xe s
def Xm {A:IE}{E:GC->GH->Prop}{s:GH}{tg:Jc}{it:GB}{u:GC}{o:Kh}{Q:Nq->GH->Prop}(ho:s.heap.get? it=GM o) (hc:o.cls= .type n) (hd:o.data= .fields vs)
  (hn:["enumerate","zip","dict_itemiterator","dict_reverseitemiterator","odict_iterator","itertools.zip_longest","itertools.pairwise"].contains n=IR) (hQ:Q () s):Hq M A (Pp tg (.ref it) u) Q E s:=by
 unfold Pp;cases tg<;>first
  |exact HX hQ
  | (cases u<;>first
    |exact HX hQ
    | (refine Hi (wpAny_load ho ?_)
       rw[hc,hd];show Hq M A (if(["enumerate","zip","dict_itemiterator","dict_reverseitemiterator","odict_iterator","itertools.zip_longest","itertools.pairwise"].contains n&&vs[0]? == GM (P6 _))=IN then _ else _) Q E s
       rw[GG (by intro h;rw[hn,WW] at h;cases h)];exact HX hQ))
def Xn (K:Gy) (a:GB):It:=
 #[λi H=> ∃xs x,cJ K H a xs/\xs[i]?=GM x,λi H x H'=>H'=H/\ ∀xs,cJ K H a xs->xs[i]?=GM x,λi H=> ∃xs,cJ K H a xs/\xs.length<=i]
def AN {P:Hr}{w:HW}{K:Gy}{tg:Jc}(a it:GB):Eh P w K tg (Xn K a) [it] it (λi h=>h.IsListIter it a i) where
 mem:=by simp
 obj:=λi h st b hb=>by
  have e:b=it:=by simpa using hb
  subst e;obtain⟨o,e,c,d⟩:=st;exact#[o,e,λv z=>by rw[d] at z;cases z]
 keep:=λi h h' st k=>st.at λo e=>k it (by simp) o e
 item:=by
  intro X hP hw hK hc i pins s σ H E I hf st hg;subst hP hw hK;obtain⟨xs,x,hq,hx⟩:=hg;obtain⟨Jl,rv,p,hz⟩:=I.list hq;obtain⟨u,hu,ru⟩:=rv.get hx;obtain⟨f0,f1,f2,f3,f4,f5⟩:=hf it (by simp);refine wpAny_pyNext_list_item st p.isList (x:=u) (by simpa using hu) λh' st' sb=>?_;have I1:aP X pins σ H { s with heap:=h' } :=I.turned (t':=s.toks) (λb o hb e=>(sb.2 b hb).trans e) f0 f1 f3 f4 f5
  obtain⟨o,e,c,d⟩:=id st';exact#[u,KB,Xm (s:= { s with heap:=h' }) e c d [01] #[x,H,I1,ru,#[KB,λys hy=>by rw[I.QY hy hq];exact hx],st',λb hb=>(hf b hb).1]]
 done:=by
  intro X hP hw hK hc i pins s σ H E I hf st hg;subst hP hw hK;obtain⟨xs,hq,hx⟩:=hg;obtain⟨Jl,rv,p,hz⟩:=I.list hq;obtain⟨f0,f1,f2,f3,f4,f5⟩:=hf it (by simp);have hl:=rv.length;exact wpAny_pyNext_list_end (I.ok.hd hc) st p.isList (by simp;lia) λh' eb=>#[KB,I.turned (t':=s.toks) (λb o hb e=>eb b o hb e) f0 f1 f3 f4 f5]
 self:=λ_ _ _ _ _ st h=>wpAny_pyIter_listiter st h
section
variable {X:Cx}{tg:Jc}
inductive Xo (K:Gy) (R:It->Hp->Prop) (x:V) (H1:Hp):Prop
 |mk (a:GB) (_:x= .ref a) (_:(∃xs,cJ K H1 a xs)) (_:R (Xn K a) H1):Xo K R x H1
def qK (K:Gy) (tl:TE):TI:=λσ H R=>tl σ H (Xo K R)
def fN {l:Jc}{tl:TE}(hl:PE X l tl):PI X tg l (qK X.K tl):=by
 intro pins s σ H R I h;refine cG (hl pins s σ H _ I h) λv s1 ⟨x,H1,I1,r1,q1⟩=>?_;obtain⟨a,e,⟨xs,hq⟩,q⟩:=q1;subst e;cases r1;obtain⟨Jl,rv,p,hz⟩:=I1.list hq;refine wpAny_pyIter_list p.isList ?_;refine#[s1.heap.objs.size,[s1.heap.objs.size],_,_,H1,KB,I1.kept (t':=s1.toks) λb o e=>GV _ e,AN a _,#[_,Iu _ KB,KB,KB],λb hb=>?_,q];have e:b=s1.heap.objs.size:=by simpa using hb
 subst e;exact I1.WH (GY _) (I1.JC.fresh (GY _))
def aet (wi:TI) (g:TG) (tb:TS):TS:=λD σ H=>wi σ H λJ H1=> ∃W:GQ->GQ->St->Hp->Prop,(∃m,W 0 m σ H1)/\ ∀i m σ H,W i m σ H->
 (J.stop i H/\D.nx σ H)\/(J.go i H/\ ∃N:St->Hp->Prop,(∀σ' H',N σ' H'-> ∃m',m'<m/\W (i+1) m' σ' H')/\ ∀x H',J.Xl i H x H'->g x σ H' λσ2 H2=>tb { D with nx:=N,ct:=N,bk:=D.nx } σ2 H2)
def nW (fp:Gr GB) (h:Im):Gr (GB×Kh):=fp.filterMap λb=>(h.get? b).map λo=>(b,o)
def j4 {h:Im}{b:GB}{o:Kh}(hb:b∈fp) (e:h.get? b=GM o):(b,o)∈nW fp h:=UP.mpr #[b,hb,by rw[e];rfl]
def zZ {h:Im}{p:GB×Kh}(hp:p∈nW fp h):p.1∈fp/\h.get? p.1=GM p.2:=by
 obtain⟨b,hb,e⟩:=UP.mp hp;cases q:h.get? b with
 |none=>rw[q] at e;cases e
 |some o=>
  rw[q] at e;have e':(b,o)=p:=Hb e;subst e';exact#[hb,q]
def aP.pinned {pins:Gr (GB×Kh)}{σ:St}{H:Hp}{s:GH}(I:aP X pins σ H s) (hf: ∀b∈fp,m7 X pins H b) (ho: ∀b∈fp,∃o,s.heap.get? b=GM o/\ ∀v,o.data≠ .cell v):aP X (pins++nW fp s.heap) σ H s:=
 I.Uc λp hp=>(HJ.mp hp).elim (λz=>I.pin p (JD _ z)) λz=>by
  obtain⟨hb,e⟩:=zZ z;obtain⟨f0,f1,f2,_⟩:=hf p.1 hb;obtain⟨o,e',d⟩:=ho p.1 hb;rw[e] at e';cases e';exact#[e,f0,f1,f2,d]
def aP.P0 {pins pl:Gr (GB×Kh)}{σ:St}{H:Hp}{s:GH}(I:aP X (pins++pl) σ H s):aP X pins σ H s:=I.Uc λp hp=>I.pin p (JD _ (O8 _ hp))
def j6 {g:TG}{tb:TS}{pos:Pos}(hp:Rv (model X.prog X.w) X.A X.env X.xe) (hc:X.calm=IN) (hi:PI X tg Mv wi) (hg:PG X tg g) (hb:vU X body tb)
  (hs: ∀x,KQ Mv X.env x=pure x:=by intro _;rfl):PS X (.For tg Mv body [] pos) (aet wi g tb):=by
 intro pins s σ H D I h;refine wpAny_For (cG (hi pins s σ H _ I h) λv s1 h1=>cG h1 λitv s2 h2=>?_) hs;obtain⟨it,fp,tn,J,H2,e,I2,T,st2,f2,W,⟨m0,w0⟩,turn⟩:=h2;subst e;have TN: ∀ {H':Hp},(∀b∈fp,H' b=Ix)-> ∀b∈fp,m7 X pins H' b:=λhn b hb=>#[hn b hb,(f2 b hb).2]
 refine codeAny_forLoop_any (λn s'=> ∃i σ' H',aP X pins σ' H' s'/\tn i s'.heap/\(∀b∈fp,H' b=Ix)/\W i n σ' H') ?_ m0 #[0,σ,H2,I2,st2,λb hb=>(f2 b hb).1,w0];rintro n s3 ⟨i,σ3,H3,I3,st3,fr3,w3⟩;rcases turn i n σ3 H3 w3 with⟨stop,qn⟩|⟨go,N,hN,step⟩
 .refine Lx hp (cG (T.done X KB KB KB hc i pins s3 σ3 H3 X.xe I3 (TN fr3) st3 stop) λr s4 ⟨hr,I4⟩=>?_)
  subst hr;exact NA #[σ3,H3,I4,qn]
 .refine Lx hp (cG (T.item X KB KB KB hc i pins s3 σ3 H3 X.xe I3 (TN fr3) st3 go) λr s4 ⟨u,hr,h4⟩=>?_)
  subst hr;refine Lx hp (cG h4 λ_ s5 ⟨x,H5,I5,r5,y5,st5,fr5⟩=>?_);have I5':=I5.pinned (TN fr5) (T.obj _ _ st5);refine Lx hp (cG (hg _ s5 σ3 H5 x u _ I5' r5 (step x H5 y5)) λ_ s6 ⟨σ6,H6,I6,q6⟩=>?_);refine Lx hp (cG (hb _ s6 σ6 H6 _ I6 q6) λf s7 q7=>?_);have again: ∀ {σ7:St}{H7:Hp},aP X (pins++nW fp s5.heap) σ7 H7 s7->N σ7 H7-> ∃m,m<n/\ ∃i σ' H',aP X pins σ' H' s7/\tn i s7.heap/\(∀b∈fp,H' b=Ix)/\W i m σ' H':=λ{σ7 H7} I7 n7=>by
   obtain⟨m',hm,w7⟩:=hN σ7 H7 n7;refine#[m',hm,i+1,σ7,H7,I7.P0,T.keep _ _ _ st5 λb hb o e=>(I7.pin (b,o) (JD _ (JD _ (j4 hb e)))).1,λb hb=>?_,w7];obtain⟨o,e,d⟩:=T.obj _ _ st5 b hb;exact(I7.pin (b,o) (JD _ (JD _ (j4 hb e)))).2.1
  cases f with
  |next=>obtain⟨σ7,H7,I7,n7⟩:=q7;exact again I7 n7
  |cont=>obtain⟨σ7,H7,I7,n7⟩:=q7;exact again I7 n7
  |brk=>obtain⟨σ7,H7,I7,q7⟩:=q7;exact#[σ7,H7,I7.P0,q7]
  |ret v=>obtain⟨x7,σ7,H7,I7,r7,q7⟩:=q7;exact#[x7,σ7,H7,I7.P0,r7,q7]
end
def iq {K:Gy}{a:GB}{xs:Gr V}{g:TG}{tb:TS}{D:dB}{σ:St}{H:Hp}(Pv:GQ->St->Hp->Prop) (h0:Pv 0 σ H) (hl: ∀i σ H,i<=xs.length->Pv i σ H->cJ K H a xs)
  (hs: ∀i x σ H,xs[i]?=GM x->Pv i σ H->g x σ H λσ2 H2=>tb { D with nx:=Pv (i+1),ct:=Pv (i+1),bk:=D.nx } σ2 H2) (hd: ∀σ H,Pv xs.length σ H->D.nx σ H):
  ∃W:GQ->GQ->St->Hp->Prop,(∃m,W 0 m σ H)/\ ∀i m σ H,W i m σ H->
   ((Xn K a).stop i H/\D.nx σ H)\/((Xn K a).go i H/\ ∃N:St->Hp->Prop,(∀σ' H',N σ' H'-> ∃m',m'<m/\W (i+1) m' σ' H')/\ ∀x H',(Xn K a).Xl i H x H'->g x σ H' λσ2 H2=>tb { D with nx:=N,ct:=N,bk:=D.nx } σ2 H2):=by
 refine#[λi m σ H=>m=xs.length-i/\i<=xs.length/\Pv i σ H,#[xs.length,by simp,HG _,h0],?_];rintro i m σ H ⟨rfl,hi,p⟩;have q:=hl i σ H hi p;by_cases RW:i<xs.length
 .refine .inr #[#[xs,xs[i],q,by simp [RW]],Pv (i+1),λσ' H' p'=>#[xs.length-(i+1),by lia,KB,RW,p'],λx H' y=>?_]
  obtain⟨e,y⟩:=y;subst e;exact hs i x σ _ (y xs q) p
 .have e:i=xs.length:=by lia
  subst e;exact .inl #[#[xs,q,GY _],hd σ H p]
abbrev R2:=V->V->Hp->VK->Prop
def lQ (X:Cx) (f:GC->GC->Sem GC) (r:R2):Prop:=
 ∀(pins:Gr (GB×Kh)) (s:GH) (σ:St) (H:Hp) (x y:V) (v u:GC) (Q:VK),aP X pins σ H s->bD x v->bD y u->r x y H Q->
  Hq (model X.prog X.w) X.A (f v u) (EP X pins σ Q) X.xe s
def UnR (X:Cx) (f:GC->Sem GC) (r:V->Hp->VK->Prop):Prop:=
 ∀(pins:Gr (GB×Kh)) (s:GH) (σ:St) (H:Hp) (x:V) (v:GC) (Q:VK),aP X pins σ H s->bD x v->r x H Q->
  Hq (model X.prog X.w) X.A (f v) (EP X pins σ Q) X.xe s
def gB (X:Cx) (f:GC) (r:Gr V->Hp->VK->Prop):Prop:=
 ∀(pins:Gr (GB×Kh)) (s:GH) (σ:St) (H:Hp) (xs:Gr V) (us:Gr GC) (Q:VK),aP X pins σ H s->bH xs us->r xs H Q->
  Hq (model X.prog X.w) X.A (call f us) (EP X pins σ Q) X.xe s
def Bg (r:R2) (ta tb:TE):TE:=λσ H Q=>ta σ H λx H1=>tb σ H1 λy H2=>r x y H2 Q
def tUn (r:V->Hp->VK->Prop) (ta:TE):TE:=λσ H Q=>ta σ H λx H1=>r x H1 Q
inductive rI (C:Int->Int->Prop) (g:Int->Int->V) (x:V) (y:V) (H:Hp) (Q:VK):Prop
 |mk (i j:Int) (_:x= .int i) (_:y= .int j) (_:C i j) (_:Q (g i j) H):rI C g x y H Q
inductive vW (g:Int->Int->V) (x:V) (y:V) (H:Hp) (Q:VK):Prop
 |mk (i j:Int) (_:x= .int i) (_:y= .int j) (_:Q (g i j) H):vW g x y H Q
inductive rU (g:Int->V) (x:V) (H:Hp) (Q:VK):Prop
 |mk (i:Int) (_:x= .int i) (_:Q (g i) H):rU g x H Q
section
variable {X:Cx}{a b c:Jc}{ta tb tc:TE}{pos:Pos}
def ZP (ha:PE X a ta) (hb:PE X b tb) {pins:Gr (GB×Kh)}{s:GH}{σ:St}{H:Hp}{R:V->V->Hp->Prop}(I:aP X pins σ H s)
  (h:ta σ H λx H1=>tb σ H1 λy H2=>R x y H2) {Q:GC->GH->Prop}{f:GC->GC->Sem GC}
  (hf: ∀v u s2 x y H2,aP X pins σ H2 s2->bD x v->bD y u->R x y H2->Hq (model X.prog X.w) X.A (f v u) Q X.xe s2):
  Hq (model X.prog X.w) X.A (eval a X.env) (λv s₁=>Hq (model X.prog X.w) X.A (eval b X.env) (λu s₂=>Hq (model X.prog X.w) X.A (f v u) Q X.xe s₂) X.xe s₁) X.xe s:=by
 refine cG (ha pins s σ H _ I h) λv s1 ⟨x,H1,I1,r1,q1⟩=>?_;refine cG (hb pins s1 σ H1 _ I1 q1) λu s2 ⟨y,H2,I2,r2,q2⟩=>?_;exact hf v u s2 x y H2 I2 r1 r2 q2
def aZ {r:R2}(ho:lQ X (Oa op) r) (ha:PE X a ta) (hb:PE X b tb):PE X (.BinOp a op b pos) (Bg r ta tb):=by
 intro pins s σ H Q I h;exact wpAny_BinOp (ZP ha hb I h λv u s2 x y H2 I2 rx ry q=>ho pins s2 σ H2 x y v u Q I2 rx ry q)
def Xp {r:V->Hp->VK->Prop}(ho:UnR X (unaryOp op) r) (ha:PE X a ta):PE X (.UnaryOp op a pos) (tUn r ta):=by
 intro pins s σ H Q I h;exact UnaryOp_ (cG (ha pins s σ H _ I h) λv s1 ⟨x,H1,I1,r1,q1⟩=>ho pins s1 σ H1 x v Q I1 r1 q1)
def opI {f:GC->GC->Sem GC}{C:Int->Int->Prop}{g:Int->Int->Int}
  (rule: ∀(i j:Int) (t u:Tok) (s:GH) (Q:GC->GH->Prop) (E:GC->GH->Prop),C i j->Q (.int (g i j) s.toks) { s with toks:=s.toks+1 } ->Hq (model X.prog X.w) X.A (f (.int i t) (.int j u)) Q E s):
  lQ X f (rI C λi j=> .int (g i j)):=by
 intro pins s σ H x y v u Q I rx ry h;obtain⟨i,j,rfl,rfl,hc,q⟩:=h;obtain⟨t,rfl⟩:=rx;obtain⟨t',rfl⟩:=ry;exact rule i j t t' s _ _ hc #[.int (g i j),H,I.tok _,#[_,KB],q]
def aeu {f:GC->GC->Sem GC}{g:Int->Int->Int}
  (rule: ∀(i j:Int) (t u:Tok) (s:GH) (Q:GC->GH->Prop) (E:GC->GH->Prop),Q (.int (g i j) s.toks) { s with toks:=s.toks+1 } ->Hq (model X.prog X.w) X.A (f (.int i t) (.int j u)) Q E s):
  lQ X f (vW λi j=> .int (g i j)):=by
 intro pins s σ H x y v u Q I rx ry h;obtain⟨i,j,rfl,rfl,q⟩:=h;obtain⟨t,rfl⟩:=rx;obtain⟨t',rfl⟩:=ry;exact rule i j t t' s _ _ #[.int (g i j),H,I.tok _,#[_,KB],q]
def FK {f:GC->GC->Sem GC}{g:Int->Int->HK}
  (rule: ∀(i j:Int) (t u:Tok) (s:GH) (Q:GC->GH->Prop) (E:GC->GH->Prop),Q (.bool (g i j)) s->Hq (model X.prog X.w) X.A (f (.int i t) (.int j u)) Q E s):
  lQ X f (vW λi j=> .bl (g i j)):=by
 intro pins s σ H x y v u Q I rx ry h;obtain⟨i,j,rfl,rfl,q⟩:=h;obtain⟨t,rfl⟩:=rx;obtain⟨t',rfl⟩:=ry;exact rule i j t t' s _ _ #[.bl (g i j),H,I,KB,q]
def ZQ (i j:Int):Prop:=(-(2 ^ 64)<i/\i<2 ^ 64)\/(-(2 ^ 64)<j/\j<2 ^ 64)
def ZQ.ok {i j:Int}(h:ZQ i j):IntMulOk i j:=by
 rcases h with⟨h1,h2⟩|⟨h1,h2⟩
 .exact .of_left (intBits_le_64 h1 h2)
 .exact .of_right (intBits_le_64 h1 h2)
def eu:lQ X (Oa .Add) (vW λi j=> .int (i+j)):=aeu λ_ _ _ _ _ _ _ q=>add_int q
def eM:lQ X (Oa .Sub) (vW λi j=> .int (i-j)):=aeu λ_ _ _ _ _ _ _ q=>sub_int q
def EE:lQ X (Oa .Mult) (rI ZQ λi j=> .int (i*j)):=opI λ_ _ _ _ _ _ _ hc q=>mul_int q hc.ok
def Gk:lQ X (Oa .Mod) (rI (λ_ j=>j≠0) λi j=> .int (i.fmod j)):=opI λ_ _ _ _ _ _ _ hc q=>mod_int' hc q
def unI {f:GC->Sem GC}{g:Int->Int}
  (rule: ∀(i:Int) (t:Tok) (s:GH) (Q:GC->GH->Prop) (E:GC->GH->Prop),Q (.int (g i) s.toks) { s with toks:=s.toks+1 } ->Hq (model X.prog X.w) X.A (f (.int i t)) Q E s):
  UnR X f (rU λi=> .int (g i)):=by
 intro pins s σ H x v Q I rx h;obtain⟨i,rfl,q⟩:=h;obtain⟨t,rfl⟩:=rx;exact rule i t s _ _ #[.int (g i),H,I.tok _,#[_,KB],q]
def B3:UnR X (unaryOp .USub) (rU λi=> .int (-i)):=unI λ_ _ _ _ _ q=>neg_int q
end
def ZR:V->V->HK
 | .Ko, .Ko=>IN| .Ko, .int _=>IN| .int _, .Ko=>IN| .Ko, .bl _=>IN| .bl _, .Ko=>IN| .Ko, .str _=>IN| .str _, .Ko=>IN
 | .int _, .int _=>IN| .bl _, .bl _=>IN| .str _, .str _=>IN| .Sa _, .Sa _=>IN
 | .int _, .str _=>IN| .str _, .int _=>IN| .bl _, .str _=>IN| .str _, .bl _=>IN
 |_,_=>IR
inductive rEq (x:V) (y:V) (H:Hp) (Q:VK):Prop
 |mk (_:ZR x y=IN) (_:Q (.bl (decide (x=y))) H):rEq x y H Q
inductive rNe (x:V) (y:V) (H:Hp) (Q:VK):Prop
 |mk (_:ZR x y=IN) (_:Q (.bl (!decide (x=y))) H):rNe x y H Q
def zz {i j:Int} :decide (V.int i=V.int j)=(i == j):=by
 rw[Iv];simp
def CO {i j:HK} :decide (V.bl i=V.bl j)=(i == j):=by
 rw[Iv];simp
def zu {i j:Ha} :decide (V.str i=V.str j)=(i == j):=by
 rw[Iv];simp
def yB {i j:KC JZ} :decide (V.Sa i=V.Sa j)=(i.toList == j.toList):=by
 rw[Iv];cases i;cases j;simp
section
variable {X:Cx}{a b c:Jc}{ta tb tc:TE}{pos:Pos}
def bR {pins:Gr (GB×Kh)}{σ:St}{H:Hp}{s:GH}{Q:VK}{k k':HK}(I:aP X pins σ H s) (q:Q (.bl k) H) (e:k=k'):EP X pins σ Q (.bool k') s:=by
 subst e;exact#[.bl k,H,I,KB,q]
def cu:lQ X (J5 .Eq) rEq:=by
 intro pins s σ H x y v u Q I rx ry h;obtain⟨hs,q⟩:=h;cases x with
 |Ko=>
  cases rx;cases y with
  |Ko=>cases ry;exact PySem.EqNone.eq_none_none (bR I q (by simp))
  |bl j=>cases ry;exact PySem.EqNone.eq_none_bool (bR I q (by simp))
  |int j=>obtain⟨t',rfl⟩:=ry;exact PySem.EqNone.eq_none_int (bR I q (by simp))
  |str j=>obtain⟨t',rfl⟩:=ry;exact PySem.EqNone.eq_none_str (bR I q (by simp))
  |_=>exact G6 (show IR=IN from hs) Gu
 |bl i=>
  cases rx;cases y with
  |Ko=>cases ry;exact PySem.EqNone.eq_bool_none (bR I q (by simp))
  |bl j=>cases ry;exact eq_bool (bR I q CO)
  |str j=>obtain⟨t',rfl⟩:=ry;exact PySem.EqMixed.eq_bool_str (bR I q (by simp))
  |_=>exact G6 (show IR=IN from hs) Gu
 |int i=>
  obtain⟨t,rfl⟩:=rx;cases y with
  |Ko=>cases ry;exact PySem.EqNone.eq_int_none (bR I q (by simp))
  |int j=>obtain⟨t',rfl⟩:=ry;exact eq_int (bR I q zz)
  |str j=>obtain⟨t',rfl⟩:=ry;exact PySem.EqMixed.eq_int_str (bR I q (by simp))
  |_=>exact G6 (show IR=IN from hs) Gu
 |str i=>
  obtain⟨t,rfl⟩:=rx;cases y with
  |Ko=>cases ry;exact PySem.EqNone.eq_str_none (bR I q (by simp))
  |bl j=>cases ry;exact PySem.EqMixed.eq_str_bool (bR I q (by simp))
  |int j=>obtain⟨t',rfl⟩:=ry;exact PySem.EqMixed.eq_str_int (bR I q (by simp))
  |str j=>obtain⟨t',rfl⟩:=ry;exact eq_str (bR I q zu)
  |_=>exact G6 (show IR=IN from hs) Gu
 |Sa i=>
  obtain⟨t,rfl⟩:=rx;cases y with
  |Sa j=>obtain⟨t',rfl⟩:=ry;exact PySem.W.eq_bytes (bR I q yB)
  |_=>exact G6 (show IR=IN from hs) Gu
 |_=>cases y<;>exact G6 (show IR=IN from hs) Gu
def uK:lQ X (J5 .NotEq) rNe:=by
 intro pins s σ H x y v u Q I rx ry h;obtain⟨hs,q⟩:=h;cases x with
 |Ko=>
  cases rx;cases y with
  |Ko=>cases ry;exact PySem.EqNone.ne_none_none (bR I q (by simp))
  |bl j=>cases ry;exact PySem.EqNone.ne_none_bool (bR I q (by simp))
  |int j=>obtain⟨t',rfl⟩:=ry;exact PySem.EqNone.ne_none_int (bR I q (by simp))
  |str j=>obtain⟨t',rfl⟩:=ry;exact PySem.EqNone.ne_none_str (bR I q (by simp))
  |_=>exact G6 (show IR=IN from hs) Gu
 |bl i=>
  cases rx;cases y with
  |Ko=>cases ry;exact PySem.EqNone.ne_bool_none (bR I q (by simp))
  |bl j=>cases ry;exact ne_bool (bR I q (Hv not CO))
  |str j=>obtain⟨t',rfl⟩:=ry;exact PySem.EqMixed.ne_bool_str (bR I q (by simp))
  |_=>exact G6 (show IR=IN from hs) Gu
 |int i=>
  obtain⟨t,rfl⟩:=rx;cases y with
  |Ko=>cases ry;exact PySem.EqNone.ne_int_none (bR I q (by simp))
  |int j=>obtain⟨t',rfl⟩:=ry;exact ne_int (bR I q (Hv not zz))
  |str j=>obtain⟨t',rfl⟩:=ry;exact PySem.EqMixed.ne_int_str (bR I q (by simp))
  |_=>exact G6 (show IR=IN from hs) Gu
 |str i=>
  obtain⟨t,rfl⟩:=rx;cases y with
  |Ko=>cases ry;exact PySem.EqNone.ne_str_none (bR I q (by simp))
  |bl j=>cases ry;exact PySem.EqMixed.ne_str_bool (bR I q (by simp))
  |int j=>obtain⟨t',rfl⟩:=ry;exact PySem.EqMixed.ne_str_int (bR I q (by simp))
  |str j=>obtain⟨t',rfl⟩:=ry;exact ne_str (bR I q (Hv not zu))
  |_=>exact G6 (show IR=IN from hs) Gu
 |Sa i=>
  obtain⟨t,rfl⟩:=rx;cases y with
  |Sa j=>obtain⟨t',rfl⟩:=ry;exact PySem.W.ne_bytes (bR I q (Hv not yB))
  |_=>exact G6 (show IR=IN from hs) Gu
 |_=>cases y<;>exact G6 (show IR=IN from hs) Gu
def iQ:lQ X (J5 .Lt) (vW λi j=> .bl (decide (i<j))):=FK λ_ _ _ _ _ _ _ q=>lt_int q
def ji:lQ X (J5 .LtE) (vW λi j=> .bl (decide (i<=j))):=FK λ_ _ _ _ _ _ _ q=>le_int q
def qg:lQ X (J5 .Gt) (vW λi j=> .bl (decide (j<i))):=FK λ_ _ _ _ _ _ _ q=>gt_int q
def aev:lQ X (J5 .GtE) (vW λi j=> .bl (decide (j<=i))):=FK λ_ _ _ _ _ _ _ q=>ge_int q
def fW:lQ X (J5 .Is) (λx y H Q=>y= .Ko/\Q (.bl (decide (x= .Ko))) H):=by
 intro pins s σ H x y v u Q I rx ry h;obtain⟨rfl,q⟩:=h;cases ry;refine is_none_gen (bR I q ?_);cases x<;>first
  | (cases rx;rfl)
  | (obtain⟨t,rfl⟩:=rx;rfl)
def iD:lQ X (J5 .IsNot) (λx y H Q=>y= .Ko/\Q (.bl (!decide (x= .Ko))) H):=by
 intro pins s σ H x y v u Q I rx ry h;obtain⟨rfl,q⟩:=h;cases ry;refine isnot_none_gen (bR I q ?_);cases x<;>first
  | (cases rx;rfl)
  | (obtain⟨t,rfl⟩:=rx;rfl)
def a0 (b:Jc) (h:op≠ .In:=by decide) (h2:op≠ .NotIn:=by decide):behindInMarks op b=IR:=by
 have e1:(op == CmpOp.In)=IR:=by cases op<;>first|rfl|exact G6 KB h
 have e2:(op == CmpOp.NotIn)=IR:=by cases op<;>first|rfl|exact G6 KB h2
 cases b<;>simp [behindInMarks,e1,e2]
def cH {r:R2}(ho:lQ X (J5 op) r) (ha:PE X a ta) (hb:PE X b tb) (hm:behindInMarks op b=IR):PE X (.Compare a [op] [b] pos) (Bg r ta tb):=by
 intro pins s σ H Q I h;exact wpAny_Compare1 (ZP ha hb I h λv u s2 x y H2 I2 rx ry q=>ho pins s2 σ H2 x y v u Q I2 rx ry q) hm
def Xq (t:TE):TT:=λσ H Q=>t σ H (wL Q)
def bg {r:R2}(ho:lQ X (J5 op) r) (ha:PE X a ta) (hb:PE X b tb) (hm:behindInMarks op b=IR):PT X (.Compare a [op] [b] pos) (Xq (Bg r ta tb)):=by
 intro pins s σ H Q I h;refine VO (cG (ha pins s σ H _ I h) λv s1 ⟨x,H1,I1,r1,q1⟩=>cG (hb pins s1 σ H1 _ I1 q1) λu s2 ⟨y,H2,I2,r2,q2⟩=>
  cG (ho pins s2 σ H2 x y v u _ I2 r1 r2 q2) λc s3 ⟨z,H3,I3,r3,k,e,q3⟩=>?_) hm
 subst e;cases r3;exact KP #[H3,I3,q3]
def D6 (r r':R2) (ta tb tc:TE):TE:=λσ H Q=>ta σ H λx H1=>tb σ H1 λy H2=>r x y H2 λz H3=> ∃k,z= .bl k/\
 (if k=IN then tc σ H3 λw' H4=>r' y w' H4 Q else Q (.bl IR) H3)
def lD {r r':R2}(ho:lQ X (J5 op) r) (QH:lQ X (J5 op') r') (ha:PE X a ta) (hb:PE X b tb) (hc:PE X c tc)
  (hm:lastMarks [op,op'] [b,c]=IR:=by with_unfolding_all rfl):PE X (.Compare a [op,op'] [b,c] pos) (D6 r r' ta tb tc):=by
 intro pins s σ H Q I h;refine Compare_chain (cG (ha pins s σ H _ I h) λv s1 ⟨x,H1,I1,r1,q1⟩=>chain_link (cG (hb pins s1 σ H1 _ I1 q1) λu s2 ⟨y,H2,I2,r2,q2⟩=>
  cG (ho pins s2 σ H2 x y v u _ I2 r1 r2 q2) λd s3 ⟨z,H3,I3,r3,k,e,q3⟩=>?_)) hm
 subst e;cases r3;refine KP ?_;cases k with
 |false=>exact ite_ff #[.bl IR,H3,I3,KB,q3]
 |true=>exact ite_tt (chain_last (cG (hc pins s3 σ H3 _ I3 q3) λw' s4 ⟨z',H4,I4,r4,q4⟩=>QH pins s4 σ H4 y z' u w' Q I4 r2 r4 q4))
def sH:(GZ:GQ)<2 ^ 63:=by rw[Nj];decide
def lE {x:V}(r:bH [x] us): ∃u,us=[u]/\bD x u:=by
 cases r with
 |cons r1 r2=>cases r2;exact#[_,KB,r1]
def vals2 {x y:V}(r:bH [x,y] us): ∃u w',us=[u,w']/\bD x u/\bD y w':=by
 cases r with
 |cons r1 r2=>
  cases r2 with
  |cons r3 r4=>cases r4;exact#[_,_,KB,r1,r3]
def vh:gB X (.builtin "abs") (λxs H Q=> ∃i,xs=[.int i]/\Q (.int (if i<0 then-i else i)) H):=by
 intro pins s σ H xs us Q I r h;obtain⟨i,rfl,q⟩:=h;obtain⟨u,rfl,t,rfl⟩:=lE r;exact call_abs_int λu tk=>#[.int (if i<0 then-i else i),H,I.tok _,#[_,KB],q]
def sk:gB X (.type "str") (λxs H Q=> ∃i,xs=[.int i]/\i.natAbs.log2<1920/\Q (.str (toString i)) H):=by
 intro pins s σ H xs us Q I r h;obtain⟨i,rfl,hz,q⟩:=h;obtain⟨u,rfl,t,rfl⟩:=lE r;exact PySem.P.str_of_int hz #[.str _,H,I.tok _,#[_,KB],q]
def Cd:gB X (.builtin "ord") (λxs H Q=> ∃x,xs=[.str x]/\x.length=1/\Q (.int (x.cps.getD 0 0:GQ)) H):=by
 intro pins s σ H xs us Q I r h;obtain⟨x,rfl,hz,q⟩:=h;obtain⟨u,rfl,t,rfl⟩:=lE r;exact ord_of_one hz #[.int _,H,I.tok _,#[_,KB],q]
end
structure xu (h:Im) (x dx C:GB) (mA:Ha->GJ GC):Prop where
 obj:h.get? x=GM (Ku C dx)
 ns:h.Ns1 dx mA
 ne:dx≠x
def AJ {h:Im}{dx:GB}{mA:Ha->GJ GC}(n:h.Ns1 dx mA): ∃od,h.get? dx=GM od/\ ∀name,OE name od=GM (mA name):=by
 obtain⟨o,es,ep,ho,hd,hk,_,hm⟩:=n;refine#[o,ho,λname=>?_];have e:=hm name;unfold nsFind findBy at e;rw[<-Ut] at e;unfold OE;rw[hd];dsimp only;split
 .rename_i y q
  rw[q] at e;exact Hv GM e
 .rename_i q
  rw[q] at e;have a:es.toList.any (·.refKey)=IR:=by
   rw[Qi];intro y hy;obtain⟨z,t,ajj⟩:=hk y (Th.mp hy);simp [O4.refKey,ajj]
  have a': ¬es.toList.any (·.refKey)=IN:=by rw[a];exact Gu
  rw[GG a'];exact Hv GM e
def xu.look {h:Im}{x dx C:GB}{mA:Ha->GJ GC}(I:xu h x dx C mA): ∃od,PySem.W.InstAt h x (Ku C dx) C (GM od)/\ ∀name,OE name od=GM (mA name):=
 let ⟨od,ho,hl⟩:=AJ I.ns
 #[od,#[I.obj,KB,KB,ho],hl]
section
variable {prog:Hr}{w:HW}{A:IE}{E:GC->GH->Prop}{s:GH}{K:Gy}{x dx C f:GB}{mA:Ha->GJ GC}{name:Ha}{v:GC}
def Fy {Q:GC->GH->Prop}(X:K.In s.heap) (I:xu s.heap x dx C mA) (hg:NS K C name=IN) (hh:PD K C=IN)
  (ha:Jq K (.ref C) name=GM Ix) (hv:mA name=GM v) (hv':Uv v=IN) (h:Q v { s with toks:=s.toks+1 }):
  Hq (model prog w) A (SW (.ref x) name expr) Q E s:=by
 obtain⟨od,J,hl⟩:=I.look;exact PySem.W.get_value X J (O3 hg).1 (PySem.W.findObj_own hh ha KB (by rw[hl,hv])) hv' h
def DI {Q:GC×Gr GC->GH->Prop}(X:K.In s.heap) (I:xu s.heap x dx C mA) (hg:NS K C name=IN)
  (hf:Jq K (.ref C) name=GM (GM (.ref f))) (ht:PN K (.ref f)=IN) (hv:mA name=Ix) (h:Q (.ref f,[.ref x]) s):
  Hq (model prog w) A (O5 (.ref x) name pl) Q E s:=by
 obtain⟨od,J,hl⟩:=I.look;exact PySem.W.method_fn X J (O3 hg).1 (O3 hg).2 hf (beq_iff_eq.mp ht) (by show(OE name od).map (·.isSome)=GM IR;rw[hl,hv];rfl) h
def EU {ns:Gr Ha}{Q:Nq->GH->Prop}(X:K.In s.heap) (I:xu s.heap x dx C mA)
  (hs:Jq K (.ref C) "__setattr__"=GM (GM (.builtin "object.__setattr__"))) (hp:T3 K C=IN) (ht:Qz K C name=GM Ix) (hh:PD K C=IN)
  (hw:Ou mA ns) (hsz:ns.length<=GZ)
  (h: ∀h',xu h' x dx C (λy=>if y=name then GM v else mA y)->Oy dx s.heap h'->Q () { s with heap:=h',toks:=s.toks+2 }):
  Hq (model prog w) A (SX (.ref x) name v) Q E s:=by
 obtain⟨od,J,hl⟩:=I.look;refine PySem.W.set_plain X J hs (PySem.W.osa_open (s:= { s with toks:=s.toks+1 }) (r:=Ix) X J hp ht λb=>?_);obtain⟨cd,hc,hd'⟩:=PySem.W.any_some hh;have hx:s.heap.get? x=GM ⟨.ref C,GM dx, .plain, [].toArray⟩:=I.obj;refine Hi (HX (Hi (Hi (wpAny_loadPart hx (Hi (PySem.W.Looks.here (s:= { s with toks:=s.toks+1 }) (PySem.W.looks_clsIn X hc) ?_))))));rw[hd'];refine HX (a:=GM dx) (Hi (HX (Hi ?_)));refine Vg (s:= { s with toks:=s.toks+1 }) I.ns λh' hn2 hs2=>?_;obtain⟨oD,esD,epD,hoD,hdD,hcD⟩:=hn2.count (Ou.cons name v hw);refine Hi (Rr hoD (by rw[hdD];exact Rt (G0 hcD (by rw[Gv];lia))) ?_);exact HX (h _ #[(hs2.2 _ (K3 I.ne)).trans I.obj,hn2,I.ne] hs2)
def CL {R:Result->GH->Prop}(X:K.In s.heap) (hm:U2 K C=IN)
  (hi:Jq K (.ref C) "__init__"=GM (GM (.ref f))) (hf:Vo K (.ref f)=GM (.type "function"))
  (h:ME (model prog w) (A.under (.builtin "type.__call__" #[.ref C::vs,kw])) (.call (.ref f) #[.ref (s.heap.objs.size+1)::vs,kw]) (PySem.W.InitBack (s.heap.objs.size+1) R)
   { s with heap:=(s.heap.push JR).push (Ku C s.heap.objs.size) }):
  ME (model prog w) A (.call (.ref C) #[vs,kw]) R s:=by
 obtain⟨hh,g,d,t,os⟩:=s;exact PySem.W.make_core (PySem.W.makes_of X hm) (PySem.W.looks_findIn X hi) (λself=>PySem.W.bind_fn X self hf) (.inl KB) h
end
def Lj (f:Ha) (v:V):Gr (Ha×V)->Gr (Ha×V)
 |[]=>[(f,v)]
 | (g,x)::r=>if g=f then(g,v)::r else(g,x)::Lj f v r
theorem jg (f g:Ha) (v:V): ∀fs:Gr (Ha×V),(Lj f v fs).lookup g=if g=f then GM v else fs.lookup g
 |[]=>by
  show Km g [(f,v)]=_
  by_cases h:g=f
  .have hb:(g == f)=IN:=beq_iff_eq.mpr h
   simp only[Km,hb,GI h]
  .have hb:(g == f)=IR:=beq_eq_false_iff_ne.mpr h
   simp only[Km,hb,GG h]
 | (k,x)::r=>by
  have ih:=jg f g v r;rw[show Lj f v ((k,x)::r)=(if k=f then(k,v)::r else(k,x)::Lj f v r) from KB]
  by_cases hk:k=f
  .rw[GI hk]
   by_cases h:g=k
   .have hb:(g == k)=IN:=beq_iff_eq.mpr h
    simp only[Km,hb,GI (h.trans hk)]
   .have hb:(g == k)=IR:=beq_eq_false_iff_ne.mpr h
    simp only[Km,hb,GG (λe:g=f=>h (e.trans hk.symm))]
  .rw[GG hk]
   by_cases h:g=k
   .have hb:(g == k)=IN:=beq_iff_eq.mpr h
    simp only[Km,hb,GG (λe:g=f=>hk (h.symm.trans e))]
   .have hb:(g == k)=IR:=beq_eq_false_iff_ne.mpr h
    simp only[Km,hb];exact ih
theorem ii (f:Ha) (v:V): ∀fs:Gr (Ha×V),f∈(Lj f v fs).map (·.1)/\ ∀g,g∈fs.map (·.1)->g∈(Lj f v fs).map (·.1)
 |[]=>#[by simp [Lj],λg h=>by simp at h]
 | (k,x)::r=>by
  obtain⟨i1,i2⟩:=ii f v r;rw[show Lj f v ((k,x)::r)=(if k=f then(k,v)::r else(k,x)::Lj f v r) from KB]
  by_cases hk:k=f
  .rw[GI hk]
   subst hk;exact#[by simp,λg h=>by simpa using h]
  .rw[GG hk]
   refine#[?_,λg h=>?_]
   .rw[G8]
    exact Hc _ i1
   .rw[G8] at h ⊢
    rcases Hg.mp h with e|e
    .exact Hg.mpr (.inl e)
    .exact Hc _ (i2 g e)
theorem du (f:Ha) (v:V): ∀fs:Gr (Ha×V),(Lj f v fs).length<=fs.length+1
 |[]=>by simp [Lj]
 | (k,x)::r=>by
  have ih:=du f v r;rw[show Lj f v ((k,x)::r)=(if k=f then(k,v)::r else(k,x)::Lj f v r) from KB]
  by_cases hk:k=f
  .rw[GI hk,Gv,Gv];lia
  .rw[GG hk,Gv,Gv];lia
def gA.some_of {v:V}{o:GJ GC}(r:gA (GM v) o): ∃u,o=GM u/\bD v u:=by
 cases o with
 |none=>exact(show False from r).elim
 |some u=>exact#[u,KB,r]
def gA.none_of {o:GJ GC}(r:gA Ix o):o=Ix:=by
 cases o with
 |none=>rfl
 |some u=>exact(show False from r).elim
def qH {v:V}{u:GC}(r:bD v u):Uv u=IN:=by
 cases v with
 |Ko=>cases (show u=Jy from r);rfl
 |bl b=>cases (show u=LW b from r);rfl
 |int i=>obtain⟨t,e⟩:=(show∃t,u=Lk i t from r);cases e;rfl
 |str x=>obtain⟨t,e⟩:=(show∃t,u=Pc x t from r);cases e;rfl
 |Sa b=>obtain⟨t,e⟩:=(show∃t,u=GC.bytes b t from r);cases e;rfl
 |W6 b=>obtain⟨t,e⟩:=(show∃t,u=Ts b t from r);cases e;rfl
 |ref a=>cases (show u=Hn a from r);rfl
 |ty n=>cases (show u=Np n from r);rfl
section
variable {P:Hr}{w:HW}{H H':Hp}{h h':Im}{a C dx:GB}{fs fs':Gr (Ha×V)}
def nE (JC:iR P w H h) (e:H a=GM (.ins C dx fs)): ∃mA,xu h a dx C mA/\(∀f,gA (fs.lookup f) (mA f))/\Ou mA (fs.map (·.1))/\fs.length<=1000/\H dx=GM (.own a):=by
 obtain⟨d,z,ne,ob,mA,n,r,q⟩:=(show cK P w H h a (.ins C dx fs) from JC a _ e);exact#[mA,#[ob,n,ne],r,q,z,d]
end
def iZ.get {K:Gy}{C:GB}(c:iZ K C) (f:Ha):NS K C f=IN:=c.pg
def aH.aew {K:Gy}{C:GB}{f:Ha}(n:aH K C f):Qz K C f=GM Ix:=by
 unfold Qz;rw[show Jq K (.ref C) f=GM Ix from n]
 rfl
section
variable {X:Cx}{pins:Gr (GB×Kh)}{σ:St}{H:Hp}{s:GH}{a C dx:GB}{fs:Gr (Ha×V)}{f:Ha}{v:V}{A:IE}{E:GC->GH->Prop}
def oC {b:HK}{Q:GC->GH->Prop}(I:aP X pins σ H s) (e:H a=GM (.ins C dx fs)) (c:iZ X.K C) (n:aH X.K C f) (l:fs.lookup f=GM v)
  (h: ∀u s',aP X pins σ H s'->bD v u->Q u s'):Hq (model X.prog X.w) A (SW (.ref a) f b) Q E s:=by
 obtain⟨mA,O,r,_,_,_⟩:=nE I.JC e;obtain⟨u,hu,ru⟩:=gA.some_of (v:=v) (o:=mA f) (by rw[<-l];exact r f);exact Fy I.NY O (c.get f) c.hd n hu (qH ru) (h u _ (I.tok _) ru)
def oU {m:Ha}{g:GB}{Q:GC×Gr GC->GH->Prop}(I:aP X pins σ H s) (e:H a=GM (.ins C dx fs)) (c:iZ X.K C) (k:Meth X.K C m g) (l:fs.lookup m=Ix)
  (h:Q (.ref g,[.ref a]) s):Hq (model X.prog X.w) A (O5 (.ref a) m pl) Q E s:=by
 obtain⟨mA,O,r,_,_,_⟩:=nE I.JC e;have hn:mA m=Ix:=gA.none_of (by rw[<-l];exact r m);exact DI I.NY O (c.get m) k.at_ k.fn hn h
def oW {y:V}{u:GC}{Q:Nq->GH->Prop}(I:aP X pins σ H s) (e:H a=GM (.ins C dx fs)) (c:iZ X.K C) (n:aH X.K C f) (hl:fs.length<1000) (ry:bD y u)
  (h: ∀s',aP X pins σ (bf H a (.ins C dx (Lj f y fs))) s'->Q () s'):Hq (model X.prog X.w) A (SX (.ref a) f u) Q E s:=by
 obtain⟨mA,O,r,wi,_,ho⟩:=nE I.JC e;have hz:(fs.map (·.1)).length<=GZ:=by rw[GK,Nj];lia
 refine EU I.NY O c.sa c.po n.aew c.hd wi hz λh' O' sb=>h _ ?_;have hd: ∃o,h'.get? dx=GM o:=let ⟨o,_,_,e',_⟩:=O'.ns;#[o,e'];refine I.write (x:=a) (e:=dx) (by rw[e];exact IS) (.inr ho) (λb q hb z=>(sb.2 b hb).trans z) hd ?_;refine#[by rw[af O.ne];exact ho,?_,O.ne,O'.obj,_,O'.ns,λg=>?_,λg hg=>?_]
 .have:=du f y fs;lia
 .show gA ((Lj f y fs).lookup g) (if g=f then GM u else mA g)
  rw[jg];by_cases q:g=f
  .rw[GI q,GI q];exact ry
  .rw[GG q,GG q];exact r g
 .by_cases q:g=f
  .rw[q];exact(ii f y fs).1
  .refine(ii f y fs).2 g (wi g λz=>hg ?_)
   show(if g=f then GM u else mA g)=Ix
   rw[GG q];exact z
def aP.made (I:aP X pins σ H s):aP X pins σ (bf (bf H s.heap.objs.size (.own (s.heap.objs.size+1))) (s.heap.objs.size+1) (.ins C s.heap.objs.size []))
  { s with heap:=(s.heap.push JR).push (Ku C s.heap.objs.size) } :=by
 have e1:(s.heap.push JR).get? s.heap.objs.size=GM JR:=Iu s.heap KB
 have e2:((s.heap.push JR).push (Ku C s.heap.objs.size)).get? (s.heap.objs.size+1)=GM (Ku C s.heap.objs.size):=by
  have:=Iu (s.heap.push JR) (o:=Ku C s.heap.objs.size) KB
  rwa [Ju] at this
 have e3:(s.heap.push JR).Ns s.heap.objs.size (λ_=>Ix):=#[JR, [].toArray,_,e1,KB,(λe he=>G6 he (by simp)),λ_=>rfl]
 have I1:=I.laid (a:=s.heap.objs.size) (o:= .own (s.heap.objs.size+1)) (h':=s.heap.push JR) (t':=s.toks) (λb u q=>GV _ q) (GY _) #[_,e1]
 refine I1.laid (a:=s.heap.objs.size+1) (o:= .ins C s.heap.objs.size []) (t':=s.toks) (λb u q=>GV _ q) (OD (Ju _ _)) ?_;have ne:s.heap.objs.size≠s.heap.objs.size+1:=Ik (MC _);refine#[by rw[af ne,aj],HG _,ne,e2,λ_=>Ix,(Pw e3).at λo q=>GV _ q,λ_=>IS,λy hy=>G6 KB hy]
def zh {prog:Hr}{w:HW}{env:Env}{e:Jc}{f:Ha}{pos:Pos}{s:GH}{Q:GC->GH->Prop}(hb:JN e f env (eval e env)=eval e env)
  (h:Hq (model prog w) A (eval e env) (λo s₁=>Hq (model prog w) A (SW o f IN) Q E s₁) E s):Hq (model prog w) A (eval (.Attribute e f pos) env) Q E s:=
 Attribute_any_ h (by rw[arm_eval_Attribute,hb])
end
inductive pd (K:Gy) (f:Ha) (R:V->Hp->Prop) (x:V) (H1:Hp):Prop
 |mk (a C dx:GB) (fs:Gr (Ha×V)) (v:V) (_:x= .ref a) (_:H1 a=GM (.ins C dx fs)) (_:iZ K C) (_:aH K C f) (_:fs.lookup f=GM v) (_:R v H1):pd K f R x H1
def m8 (K:Gy) (ta:TE) (f:Ha):TE:=λσ H Q=>ta σ H (pd K f Q)
def ajk (K:Gy) (ta tv:TE) (f:Ha):TS:=λD σ H=>tv σ H λy H1=>ta σ H1 λx H2=> ∃a C dx fs,x= .ref a/\H2 a=GM (.ins C dx fs)/\iZ K C/\aH K C f/\fs.length<1000/\
 D.nx σ (bf H2 a (.ins C dx (Lj f y fs)))
def aex (X:Cx) (op:Operator) (rd:V->V->Hp->VK->Prop):Prop:=
 ∀(pins:Gr (GB×Kh)) (s:GH) (σ:St) (H:Hp) (x y:V) (u v:GC) (Q:VK),aP X pins σ H s->bD x u->bD y v->rd x y H Q->Hq (model X.prog X.w) X.A (inplaceOp op u v) (EP X pins σ Q) X.xe s
def FX (K:Gy) (ta tv:TE) (rd:V->V->Hp->VK->Prop) (f:Ha):TS:=λD σ H=>ta σ H λx H1=> ∃a C dx fs v,x= .ref a/\H1 a=GM (.ins C dx fs)/\iZ K C/\aH K C f/\fs.lookup f=GM v/\
 tv σ H1 λy H2=>rd v y H2 λz H3=> ∃dx' fs',H3 a=GM (.ins C dx' fs')/\fs'.length<1000/\D.nx σ (bf H3 a (.ins C dx' (Lj f z fs')))
section
variable {X:Cx}{o e Ln:Jc}{f:Ha}{pos NZ UE:Pos}{ta tv:TE}
def az (he:PE X e ta) (hb:JN e f X.env (eval e X.env)=eval e X.env):PE X (.Attribute e f pos) (m8 X.K ta f):=by
 intro pins s σ H Q I h;refine zh hb (cG (he pins s σ H _ I h) λu s1 ⟨x,H1,I1,rx,a,C,dx,fs,v,ex,ea,c,n,l,q⟩=>?_);subst ex;obtain rfl:u=Hn a:=rx;exact oC I1 ea c n l λu' s2 I2 ru=>#[v,H1,I2,ru,q]
def fV (ha:PE X o ta) (hv:PE X Ln tv) (hs:Lf Ln (GM (.Attribute o f NZ)) pos.line X.env=pure IR):PS X (.Assign [.Attribute o f NZ] Ln pos) (ajk X.K ta tv f):=by
 intro pins s σ H D I h;refine MT (cG (hv pins s σ H _ I h) λu s1 ⟨y,H1,I1,ry,q⟩=>cG (ha pins s1 σ H1 _ I1 q) λov s2 ⟨x,H2,I2,rx,a,C,dx,fs,ex,ea,c,n,l,q2⟩=>?_) hs;subst ex;obtain rfl:ov=Hn a:=rx;exact oW I2 ea c n l ry λs3 I3=>#[σ,_,I3,q2]
def mt {rd:V->V->Hp->VK->Prop}(ha:PE X o ta) (hv:PE X Ln tv) (Xr:aex X op rd):PS X (.AugAssign (.Attribute o f UE) op Ln pos) (FX X.K ta tv rd f):=by
 intro pins s σ H D I h;refine wpAny_AugAssign_AttributeAny (cG (ha pins s σ H _ I h) λov s1 ⟨x,H1,I1,rx,a,C,dx,fs,v,ex,ea,c,n,l,q⟩=>?_);subst ex;obtain rfl:ov=Hn a:=rx;refine oC I1 ea c n l λu s2 I2 ru=>cG (hv pins s2 σ H1 _ I2 q) λw3 s3 ⟨y,H2,I3,ry,q3⟩=>cG (Xr pins s3 σ H2 v y u w3 _ I3 ru ry q3) λw4 s4 ⟨z,H3,I4,rz,dx',fs',ea',l',q4⟩=>?_;exact oW I4 ea' c n l' rz λs5 I5=>#[σ,_,I5,q4]
def ajl:V->V->Hp->VK->Prop:=λx y H Q=> ∃i j,x= .int i/\y= .int j/\Q (.int (i+j)) H
def wJ:aex X .Add ajl:=by
 rintro pins s σ H x y u v Q I rx ry ⟨i,j,rfl,rfl,q⟩;obtain⟨t,rfl⟩:=(show∃t,u=Lk i t from rx);obtain⟨t',rfl⟩:=(show∃t',v=Lk j t' from ry);exact PyProof.Rows.iadd_int #[.int (i+j),H,I.tok _,#[_,KB],q]
end
section
variable {X:Cx}{pins:Gr (GB×Kh)}{σ:St}{H:Hp}{s:GH}{A:IE}{E:GC->GH->Prop}{Q:GC->GH->Prop}{c:GC}{b:HK}
inductive jh (K:Gy) (H:Hp):V->GC->Prop where
 |Ko:jh K H .Ko (.type "NoneType")
 |bl (x:HK):jh K H (.bl x) (.type "bool")
 |int (i:Int):jh K H (.int i) (.type "int")
 |str (x:Ha):jh K H (.str x) (.type "str")
 |W6 (x:UInt64):jh K H (.W6 x) (.type "float")
 |lst {a:GB}{xs:Gr V}(e:H a=GM (.lst xs)):jh K H (.ref a) (.type "list")
 |QP {a:GB}{o:Kh}{xs:Gr V}(e:H a=GM (.QP o (.lst xs))):jh K H (.ref a) (.type "list")
 |tup {a:GB}{xs:Gr V}(e:H a=GM (.tup xs)):jh K H (.ref a) (.type "tuple")
 |dK {a:GB}{IB:Gr (cf×V)}(e:H a=GM (.dK IB)):jh K H (.ref a) (.type "dict")
 |dT {a:GB}{IB:Gr (Gr cf×V)}(e:H a=GM (.dT IB)):jh K H (.ref a) (.type "dict")
 |ins {a C dx:GB}{fs:Gr (Ha×V)}(e:H a=GM (.ins C dx fs)) (cl:iZ K C) (ha:Jq K (.ref C) "__class__"=GM (GM (.builtin "object.__class__")))
   (hn:PH K (.builtin "object.__class__") "__get__"=GM (GM (.builtin "getset_descriptor.__get__"))) (htk:U3 K (.builtin "object.__class__")=GM IN)
   (hm:VT K C (.type "object")=GM IN):jh K H (.ref a) (.ref C)
def An {x:V}{u t:GC}(I:aP X pins σ H s) (rx:bD x u) (ty:jh X.K H x t) (e:Jk X.K t c=GM b) (h: ∀tk,Q (.bool b) { s with toks:=tk }):
  Hq (model X.prog X.w) A (call (.builtin "isinstance") [u,c]) Q E s:=by
 cases ty with
 |Ko=>cases (show u=Jy from rx);exact JE PySem.W.kitx_none I.NY IS e (λz=>nomatch z) h
 |bl y=>cases (show u=LW y from rx);exact JE PySem.W.kitx_bool I.NY IS e (λz=>nomatch z) h
 |int i=>obtain⟨t,q⟩:=(show∃t,u=Lk i t from rx);cases q;exact JE PySem.W.kitx_int I.NY IS e (λz=>nomatch z) h
 |str y=>obtain⟨t,q⟩:=(show∃t,u=Pc y t from rx);cases q;exact JE PySem.W.kitx_str I.NY IS e (λz=>nomatch z) h
 |W6 y=>obtain⟨t,q⟩:=(show∃t,u=Ts y t from rx);cases q;exact JE PySem.W.kitx_float I.NY IS e (λz=>nomatch z) h
 | @lst a xs ea=>
  cases (show u=Hn a from rx);obtain⟨_,_,n,_,h1⟩:=(show cK X.prog X.w H s.heap a (.lst xs) from I.JC a _ ea);exact JE T4 I.NY #[_,h1,KB] e (λz=>nomatch z) h
 | @QP a ob xs ea=>
  cases (show u=Hn a from rx);obtain⟨_,_,_,n,_,h1⟩:=(show cK X.prog X.w H s.heap a (.QP ob (.lst xs)) from I.JC a _ ea);exact JE T4 I.NY #[_,h1,KB] e (λz=>nomatch z) h
 | @tup a xs ea=>
  cases (show u=Hn a from rx);obtain⟨_,_,_,p⟩:=(show cK X.prog X.w H s.heap a (.tup xs) from I.JC a _ ea);obtain⟨o,h1,h2,_⟩:=p;exact JE PySem.W.kitx_tuple I.NY #[o,h1,h2] e (λz=>nomatch z) h
 | @dK a IB ea=>
  cases (show u=Hn a from rx);obtain⟨_,_,vs,_,p⟩:=(show cK X.prog X.w H s.heap a (.dK IB) from I.JC a _ ea);obtain⟨o,es,ep,h1,h2,_⟩:=p;exact JE T5 I.NY #[o,h1,h2.1] e (λz=>nomatch z) h
 | @dT a IB ea=>
  cases (show u=Hn a from rx);obtain⟨_,_,xs,_,o,es,ep,h1,h2,_⟩:=(show cK X.prog X.w H s.heap a (.dT IB) from I.JC a _ ea);exact JE T5 I.NY #[o,h1,h2.1] e (λz=>nomatch z) h
 | @ins a C dx fs ea cl ha hn htk hm=>
  cases (show u=Hn a from rx);obtain⟨mA,O,_⟩:=nE I.JC ea;obtain⟨od,J,_⟩:=O.look;exact JE (PySem.W.kitx_own (cl.get _) cl.hd ha hn htk hm) I.NY J e (λz=>nomatch z) h
end
def cx.mono {j k:GQ}{A:IE}(r:cx k A) (h:j<=k):cx j A:=#[r.hd,by have:=r.dp;lia,by have:=r.un;lia]
theorem cx.deeper {k:GQ}{A:IE}(r:cx (k+1) A) (env:Env):cx k (A.deeper env):=
 #[r.hd,by have:=r.dp;show A.depth+1+2*k+5<_;lia,by have:=r.un;show A.units+3+16*k+200<_;lia]
def w6 {A:IE}{C:GB} :(A.under (.builtin "type.__call__" #[.ref C::us,kw])).depth=A.depth+1:=by
 first|rfl|simp [RR,Code.weight,Code.isCreation,Code.isGuard,Code.isCaller,Code.frames,SY,guardIds]
def xC {A:IE}{C:GB} :(A.under (.builtin "type.__call__" #[.ref C::us,kw])).units=A.units+1:=by
 first|rfl|simp [RR,Code.cUnits,Code.frames,SY]
def cx.make {k:GQ}{A:IE}(r:cx (k+1) A) (C:GB) (us:Gr GC) (kw:Gr (Ha×GC)):cx k (A.under (.builtin "type.__call__" #[.ref C::us,kw])):=
 #[r.hd,by have:=r.dp;rw[w6];lia,by have:=r.un;rw[xC];lia]
theorem cx.depth {k:GQ}{A:IE}(r:cx k A):A.depth<recursionLimit:=by have:=r.dp;lia
theorem cx.units {k:GQ}{A:IE}(r:cx k A):A.units+64<P7:=by have:=r.un;lia
def j9:TA:=λ_ H Q=>Q [] H
def fz (ta:TE) (tr:TA):TA:=λσ H Q=>ta σ H λx H1=>tr σ H1 λxs H2=>Q (x::xs) H2
section
variable {X:Cx}{e:Jc}{es:Gr Jc}{te:TE}{t:TA}{pos:Pos}
def ac:PA X [] j9:=λ_ _ _ _ H Q I h=>NL #[[],H,I, .nil,h]
def aa (ha:PE X e te) (hr:PA X es t) (hs:Hf (e::es) X.env=(IR,eval e X.env)::Hf es X.env:=by rfl):PA X (e::es) (fz te t):=by
 intro pos pins s σ H Q I h;rw[hs];show Hq _ _ (spliced ((IR,eval e X.env)::J9 pos (Hf es X.env))) _ _ s;refine Ni (cG (ha pins s σ H _ I h) λu s1 ⟨x,H1,I1,r1,q1⟩=>?_);exact cG (hr pos pins s1 σ H1 _ I1 q1) λus s2 ⟨xs,H2,I2,r2,q2⟩=>#[x::xs,H2,I2, .cons r1 r2,q2]
def ajm (t:TA):TE:=λσ H Q=>t σ H λxs H1=>xs.length<=GZ/\ ∀p,H1 p=Ix->Q (.ref p) (bf H1 p (.tup xs))
inductive Ep (Q:VK) (xs:Gr V) (H1:Hp):Prop
 |mk (_:xs.length<=GZ) (_: ∀p,H1 p=Ix->Q (.ref p) (bf H1 p (.lst xs))):Ep Q xs H1
def ZS (t:TA):TE:=λσ H Q=>t σ H (Ep Q)
def D5 {x1} (h:PA X es t):PE X (.Tuple es x1 pos) (ajm t):=by
 intro pins s σ H Q I hq;refine wpAny_Tuple_spliced (cG (h pos pins s σ H _ I hq) λus s1 ⟨xs,H1,I1,r,z,q⟩=>#[by rw[<-r.length];exact z,?_]);have hf:H1 s1.heap.objs.size=Ix:=I1.JC.fresh (GY _);refine#[.ref s1.heap.objs.size,bf H1 s1.heap.objs.size (.tup xs),I1.laid (t':=s1.toks) (λb u e=>GV _ e) (GY _) ?_,KB,q _ hf];exact#[z,us,r,#[_,Iu _ KB,KB,_,KB]]
def bn (h:PA X es t):PE X (.List es pos) (ZS t):=by
 intro pins s σ H Q I hq;refine wpAny_List_spliced (cG (h pos pins s σ H _ I hq) λus s1 ⟨xs,H1,I1,r,z,q⟩=>#[by rw[<-r.length];exact z,?_]);have hf:H1 s1.heap.objs.size=Ix:=I1.JC.fresh (GY _);refine#[.ref s1.heap.objs.size,bf H1 s1.heap.objs.size (.lst xs),I1.laid (t':=s1.toks) (λb u e=>GV _ e) (GY _) ?_,KB,q _ hf];exact#[z,us,0,r,Iu _ KB]
end
theorem b6.mono {P:Hr}{w:HW}{K:Gy}{mg:Ha->GJ GC}{base:Im}{CX:qO}{j k:GQ}{f:GB}{fd:Ia}{ps:Gr Ha}{sp:Sp}(F:b6 P w K mg base CX j f fd ps sp) (h:j<=k):
  b6 P w K mg base CX k f fd ps sp:=#[F.len,λA outer s H args us vs Q E hr=>F.run A outer s H args us vs Q E (hr.mono h)]
def b6.imp {P:Hr}{w:HW}{K:Gy}{mg:Ha->GJ GC}{base:Im}{CX:qO}{k:GQ}{f:GB}{fd:Ia}{ps:Gr Ha}{sp sp':Sp}(F:b6 P w K mg base CX k f fd ps sp)
  (h: ∀vs H Q E,sp' vs H Q E->sp vs H Q E):b6 P w K mg base CX k f fd ps sp':=
 #[λvs H Q E q=>F.len vs H Q E (h _ _ _ _ q),λA outer s H args us vs Q E hr he hb hv hs=>F.run A outer s H args us vs Q E hr he hb hv (h _ _ _ _ hs)]
def we.make {P:Hr}{w:HW}{K:Gy}{mg:Ha->GJ GC}{base:Im}{A:IE}{s:GH}{H:Hp}(e:we P w K mg base A outer s H) (C:GB) (us:Gr GC) (kw:Gr (Ha×GC)):
  we P w K mg base (A.under (.builtin "type.__call__" #[.ref C::us,kw])) outer s H:=#[by first|exact e.frames|(simpa [RR,Code.envs,SY,pushEnvs] using e.frames),e.mod,e.bs,e.Ux,e.funs,e.VV,e.JC,e.bare]
section
variable {X:Cx}{pins:Gr (GB×Kh)}{σ:St}{H:Hp}{s s':GH}
def aP.ZT (I:aP X pins σ H s):we X.prog X.w X.K X.mg X.base X.A X.stack s H:=
 #[I.ok.frames,I.ok.mod,I.bs,G0 I.ok.Ux I.sz,I.stack,I.QI,I.JC,I.bare]
def aP.after {Q:VK}{u:GC}(I:aP X pins σ H s) (h:CE X.stack X.prog X.w H s Q u s'):EP X pins σ Q u s':=by
 obtain⟨v,H',os,bare,un,JC,r,q⟩:=h;obtain⟨hh,g,d,t,os'⟩:=s';obtain rfl:os'=s.os:=os;exact#[v,H',I.call (h':=hh) (g':=g) (d':=d) (t':=t) (ch:=[]) un JC bare (λb z=>G6 z (by simp)),r,q]
end
def iV (sp:Sp) (RV:Gr V) (E:XK) (t:TA):TE:=λσ H Q=>t σ H λvs H1=>sp (vs++RV) H1 Q E
inductive DB (C:GB) (m:Ha) (R:V->Hp->Prop) (x:V) (H1:Hp):Prop
 |mk (a dx:GB) (fs:Gr (Ha×V)) (_:x= .ref a) (_:H1 a=GM (.ins C dx fs)) (_:fs.lookup m=Ix) (_:R x H1):DB C m R x H1
def Xs (C:GB) (m:Ha) (sp:Sp) (RV:Gr V) (E:XK) (ta:TE) (t:TA):TE:=λσ H Q=>ta σ H (DB C m (λx H1=>t σ H1 λvs H2=>sp (x::(vs++RV)) H2 Q E))
def Xt (C:GB) (sp:Sp) (RV:Gr V) (E:XK) (t:TA):TE:=λσ H Q=>t σ H λvs H1=> ∀x dx,H1 x=Ix->H1 dx=Ix->dx≠x->
 sp (.ref x::(vs++RV)) (bf (bf H1 dx (.own x)) x (.ins C dx [])) (λv H2=>v= .Ko/\Q (.ref x) H2) E
def eN (CX:qO) (X:Cx) (E:XK):Prop:= ∀(pins:Gr (GB×Kh)) (σ:St) (H:Hp) (s:GH) (e:GC) (s':GH),aP X pins σ H s->CX X.stack H s E e s'->X.xe e s'
section
variable {X:Cx}{CX:qO}{k:GQ}{f C:GB}{fd:Ia}{ps:Gr Ha}{sp:Sp}{RV:Gr V}{ds:Gr GC}{E:XK}{x m:Ha}{p pos Mb:Pos}{e o:Jc}{es:Gr Jc}{ta:TE}{t:TA}
def sQ {pins:Gr (GB×Kh)}{σ:St}{H:Hp}{s:GH}{Q:VK}(F:b6 X.prog X.w X.K X.mg X.base CX k f fd ps sp) (hr:cx k X.A) (hb:ib X.K fd ps ds) (hd:bH RV ds) (hx:eN CX X E)
  (I:aP X pins σ H s) (r:bH vs us) (h:sp (vs++RV) H Q E):Hq (model X.prog X.w) X.A (call (.ref f) us) (EP X pins σ Q) X.xe s:=by
 have r2:bH (vs++RV) (us++ds):=r.append hd
 have hl:(us++ds).length=ps.length:=by rw[<-r2.length];exact F.len _ _ _ _ h
 refine QN (NN (F.run X.A X.stack s H #[us,[]] (us++ds) (vs++RV) Q E hr I.ZT (hb s us I.NY hl) r2 h) λr s' hq=>?_);cases r with
 |error e=>exact hx pins σ H s e s' I hq
 |ok fl=>
  cases fl with
  |ret u=>exact I.after hq
  |next=>exact JW hq
  |brk=>exact JW hq
  |cont=>exact JW hq
def aq (F:b6 X.prog X.w X.K X.mg X.base CX k f fd ps sp) (hr:cx k X.A) (hg:Gl X x) (d:CD X.K X.mg x f fd ps) (hx:eN CX X E)
  (ha:PA X (e::es) t) (Ss:(x == ("__debug__":Ha))=IR:=by decide) (he:Hf (e::es) X.env=(IR,eval e X.env)::Hf es X.env:=by rfl) (MU:(J9 pos (Hf es X.env)).any (·.1)=IR:=by rfl):
  PE X (.Call (.Name x p) (e::es) [] pos) (iV sp [] E t):=by
 intro pins s σ H Q I h;refine Lq (iO I hg d.m ?_ Ss);refine LP (h₀:=X.base) I.ok.mod.U9 d.k (cG (ha pos pins s σ H _ I h) λus s1 ⟨vs,H1,I1,r,q⟩=>#[I1.NY,?_]) he MU;exact sQ F hr d.b .nil hx I1 r q
def eW (he:PE X o ta) (c:iZ X.K C) (d:MD X.K C m f fd ps) (F:b6 X.prog X.w X.K X.mg X.base CX k f fd ps sp) (hr:cx k X.A) (hx:eN CX X E) (ha:PA X (e::es) t)
  (Mu:Hf (e::es) X.env=(IR,eval e X.env)::Hf es X.env:=by rfl) (MU:(J9 pos (Hf es X.env)).any (·.1)=IR:=by rfl)
  (ht:eval (.Call (.Attribute o m Mb) (e::es) [] pos) X.env=(do
   let ov<-eval o X.env
   standAt Mb.atName
   let (f,first)<-holding [ov] (O5 ov m pl)
   Tn pos f first (J9 pos (Hf (e::es) X.env)) (Ob pos (LO [] X.env))):=by rfl):
  PE X (.Call (.Attribute o m Mb) (e::es) [] pos) (Xs C m sp [] E ta t):=by
 intro pins s σ H Q I h;refine Md (pl:=pl) (cG (he pins s σ H _ I h) λu s1 ⟨x,H1,I1,rx,a,dx,fs,ex,ea,l,q⟩=>?_) ht;subst ex;obtain rfl:u=Hn a:=rx;refine oU I1 ea c d.m l ?_;refine LP (first:=[.ref a]) (h₀:=X.base) I.ok.mod.U9 d.m.kp (cG (ha pos pins s1 σ H1 _ I1 q) λus s2 ⟨vs,H2,I2,r,q2⟩=>#[I2.NY,?_]) Mu MU
 exact sQ (us:= .ref a::us) (vs:= .ref a::vs) F hr d.b .nil hx I2 (.cons KB r) q2
def cV (he:PE X o ta) (c:iZ X.K C) (d:MD X.K C m f fd ps) (F:b6 X.prog X.w X.K X.mg X.base CX k f fd ps sp) (hr:cx k X.A) (hx:eN CX X E)
  (ht:eval (.Call (.Attribute o m Mb) [] [] pos) X.env=(do
   let ov<-eval o X.env
   standAt Mb.atName
   let (f,first)<-holding [ov] (O5 ov m pl)
   Tn pos f first (J9 pos (Hf [] X.env)) (Ob pos (LO [] X.env))):=by rfl):
  PE X (.Call (.Attribute o m Mb) [] [] pos) (Xs C m sp [] E ta j9):=by
 intro pins s σ H Q I h;refine Md (pl:=pl) (cG (he pins s σ H _ I h) λu s1 ⟨x,H1,I1,rx,a,dx,fs,ex,ea,l,q⟩=>?_) ht;subst ex;obtain rfl:u=Hn a:=rx;refine oU I1 ea c d.m l ?_;exact SQ (first:=[.ref a]) I1.NY d.m.kp (sQ (us:=[.ref a]) (vs:=[.ref a]) F hr d.b .nil hx I1 (.cons KB .nil) q)
def C6 {pins:Gr (GB×Kh)}{σ:St}{H:Hp}{s:GH}{Q:VK}(M:Mk X.K C f) (F:b6 X.prog X.w X.K X.mg X.base CX k f fd ps sp) (hr:cx (k+1) X.A) (hb:ib X.K fd ps ds) (hd:bH RV ds)
  (hx:eN CX X E) (I:aP X pins σ H s) (r:bH vs us)
  (h: ∀x dx,H x=Ix->H dx=Ix->dx≠x->sp (.ref x::(vs++RV)) (bf (bf H dx (.own x)) x (.ins C dx [])) (λv H2=>v= .Ko/\Q (.ref x) H2) E):
  Hq (model X.prog X.w) X.A (call (.ref C) us) (EP X pins σ Q) X.xe s:=by
 have hq:=h (s.heap.objs.size+1) s.heap.objs.size (I.JC.fresh (N7 _)) (I.JC.fresh (GY _)) (Ik (MC _))
 have I2:=aP.made (C:=C) I
 have r2:bH (V.ref (s.heap.objs.size+1)::(vs++RV)) (Hn (s.heap.objs.size+1)::(us++ds)):= .cons KB (r.append hd)
 have hl:(Hn (s.heap.objs.size+1)::us++ds).length=ps.length:=by
  have e:=r2.length;rw[F.len _ _ _ _ hq] at e;exact e.symm
 refine QN (CL (f:=f) I.NY M.makes M.init (beq_iff_eq.mp M.fn) (NN (F.run _ X.stack _ _ #[Hn (s.heap.objs.size+1)::us,[]] (Hn (s.heap.objs.size+1)::(us++ds)) _ _ E (hr.make C us [])
  (I2.ZT.make C us []) (hb _ (Hn (s.heap.objs.size+1)::us) I2.NY hl) r2 hq) λr s' Tc=>?_))
 cases r with
 |error e=>exact hx pins σ _ _ e s' I2 Tc
 |ok fl=>
  cases fl with
  |ret u=>
   obtain⟨v,H',I3,rv,ev,q3⟩:=I2.after Tc;subst ev;exact#[rv,#[V.ref (s.heap.objs.size+1),H',I3,KB,q3]]
  |next=>exact JW Tc
  |brk=>exact JW Tc
  |cont=>exact JW Tc
def kX (M:Mk X.K C f) (F:b6 X.prog X.w X.K X.mg X.base CX k f fd ps sp) (hr:cx (k+1) X.A) (hg:Gl X x) (hm:X.mg x=GM (.ref C)) (hb:ib X.K fd ps ds) (hd:bH RV ds) (hx:eN CX X E)
  (ha:PA X (e::es) t) (Ss:(x == ("__debug__":Ha))=IR:=by decide) (he:Hf (e::es) X.env=(IR,eval e X.env)::Hf es X.env:=by rfl) (MU:(J9 pos (Hf es X.env)).any (·.1)=IR:=by rfl):
  PE X (.Call (.Name x p) (e::es) [] pos) (Xt C sp RV E t):=by
 intro pins s σ H Q I h;refine Lq (iO I hg hm ?_ Ss);refine LP (h₀:=X.base) I.ok.mod.U9 M.kp (cG (ha pos pins s σ H _ I h) λus s1 ⟨vs,H1,I1,r,q⟩=>#[I1.NY,?_]) he MU;exact C6 M F hr hb hd hx I1 r q
end
structure ax (N P:Gr Ha) (sc:Scope):Prop where
 kind:sc.kind= .function
 co:sc.isCoroutine=IR
 gen:sc.isGenerator=IR
 nd:N.Nodup
 pre:N.take P.length=P
 par: ∀x∈P,sc.names.lookup x=GM .local\/sc.names.lookup x=GM .cell
 ZU: ∀y∈sc.names,y.2≠ .free
theorem qp {kindOf:Ha->GJ KU}{x:Ha} : ∀ {binds:Gr (Ha×GC)}{m:Ha->GJ GC},(∀v,(x,v)∉binds)->U5 kindOf binds m x=m x
 |[],_,_=>rfl
 | (n,v)::r,m,h=>by
  unfold U5;rw[qp λw hw=>h w (Hc _ hw)];split
  .have:x≠n:=by rintro rfl;exact h v GW
   simp [this]
  .rfl
theorem qo {kindOf:Ha->GJ KU}{x:Ha} : ∀ {binds:Gr (Ha×GC)}{m:Ha->GJ GC},(∀v,(x,v)∉binds)->U6 kindOf binds m x=m x
 |[],_,_=>rfl
 | (n,v)::r,m,h=>by
  unfold U6;rw[qo λw hw=>h w (Hc _ hw)];split
  .rfl
  .have:x≠n:=by rintro rfl;exact h v GW
   simp [this]
theorem qh {kindOf:Ha->GJ KU}{x:Ha}{v:GC} : ∀ {P:Gr Ha}{vs:Gr GC}{i:GQ}{m:Ha->GJ GC},P.Nodup->P[i]?=GM x->vs[i]?=GM v->kindOf x=GM .local->
  U5 kindOf (P.zip vs) m x=GM v
 |[],_,_,_,_,h,_,_=>by simp at h
 |_::_,[],_,_,_,_,h,_=>by simp at h
 |p::P,w::vs,0,m,nd,h1,h2,hk=>by
  simp at h1 h2;subst h1;subst h2;show U5 kindOf ((p,w)::P.zip vs) m p=_;unfold U5;rw[qp λv hv=>(J1.mp nd).1 (Q5 hv).1,GI hk];simp
 |p::P,w::vs,i+1,m,nd,h1,h2,hk=>by
  show U5 kindOf ((p,w)::P.zip vs) m x=_
  unfold U5;exact qh (i:=i) (J1.mp nd).2 (by simpa using h1) (by simpa using h2) hk
theorem qD {kindOf:Ha->GJ KU}{x:Ha}{v:GC} : ∀ {P:Gr Ha}{vs:Gr GC}{i:GQ}{m:Ha->GJ GC},P.Nodup->P[i]?=GM x->vs[i]?=GM v->kindOf x≠GM .local->
  U6 kindOf (P.zip vs) m x=GM v
 |[],_,_,_,_,h,_,_=>by simp at h
 |_::_,[],_,_,_,_,h,_=>by simp at h
 |p::P,w::vs,0,m,nd,h1,h2,hk=>by
  simp at h1 h2;subst h1;subst h2;show U6 kindOf ((p,w)::P.zip vs) m p=_;unfold U6;rw[qo λv hv=>(J1.mp nd).1 (Q5 hv).1,GG hk];simp
 |p::P,w::vs,i+1,m,nd,h1,h2,hk=>by
  show U6 kindOf ((p,w)::P.zip vs) m x=_
  unfold U6;exact qD (i:=i) (J1.mp nd).2 (by simpa using h1) (by simpa using h2) hk
def start (N:Gr Ha) (vs:Gr V):St:=vs.map GM++Jv (N.length-vs.length) Ix
def gU (CX:qO) (P:Hr) (w:HW) (K:Gy) (mg:Ha->GJ GC) (base:Im) (N:Gr Ha) (Ja:Ha) (scope:Scope) (f:GB) (cd:GC) (A:IE) (outer:Gr Env) (s:GH) (H:Hp) (E:XK):Cx where
 prog:=P
 w:=w
 K:=K
 mg:=mg
 base:=base
 A:=A.deeper (Lg Ja scope s.heap.objs.size f cd)
 N:=N
 P9:=s
 H_0:=H
 env:=Lg Ja scope s.heap.objs.size f cd
 outer:=outer
 stack:=Lg Ja scope s.heap.objs.size f cd::outer
 ex:=[]
 calm:=IN
 fn:=λ_=>IN
 pn:=[]
 xe:=λe s'=>Hq (model P w) (A.deeper (Lg Ja scope s.heap.objs.size f cd)) (leaving (Lg Ja scope s.heap.objs.size f cd) e) (λ_ s''=>CX outer H s E e s'') (λe' s''=>CX outer H s E e' s'') s'
def tS {sc:Scope}{n:GQ}{x:Ha}(h:sc.names.lookup x=GM .cell): ∃c,(Jz n sc.names []).lookup x=GM c:=by
 have q:=Ru sc.names n [] (.inl h);exact LK.mp q
def zH {CX:qO}{P:Hr}{w:HW}{K:Gy}{mg:Ha->GJ GC}{base:Im}{N ps:Gr Ha}{Ja:Ha}{scope:Scope}{f:GB}{cd:GC}{A:IE}{outer:Gr Env}{s s1:GH}{H:Hp}{E:XK}{us:Gr GC}{vs:Gr V}
  (S:ax N ps scope) (hd:A.handled=Ix) (e0:we P w K mg base A outer s H) (hl:vs.length=ps.length) (r:bH vs us)
  (x:InCallC s s.heap.objs.size (U5 (Lg Ja scope s.heap.objs.size f cd).kindOf (ps.zip us) λ_=>Ix) (Jz (s.heap.objs.size+1) scope.names []) (U6 (Lg Ja scope s.heap.objs.size f cd).kindOf (ps.zip us) λ_=>Ix) s1):
  aP (gU CX P w K mg base N Ja scope f cd A outer s H E) [] (start N vs) H s1:=by
 have MU:ps.length<=N.length:=by have:=Hv MR S.pre;rw[Mx] at this;lia
 obtain⟨h1,tk,rfl,hk⟩:=x.done;have noA: ∀b:GB,b∉(gU CX P w K mg base N Ja scope f cd A outer s H E).ex:=λb z=>G6 (show b∈([]:Gr GB) from z) (by simp)
 refine#[#[e0.mod,S.kind,KB,KB,GY _,λy z c h1 h2=>?_,λy hy=>?_,λy c _ h=>?_,λ_=>hd,IE.frames_deeper e0.frames, .inr #[KB,KB],λb z=>G6 z (noA b),e0.bs,e0.Ux,λb _ _=>noA b,λb z=>G6 z (noA b),e0.funs,e0.VV],
  rfl,e0.bare,Un.kept hk,#[_,x.toInCall.ns,λi y v h1 h2 h3=>?_],λy c h=>#[_,x.cell y c h],e0.JC.fresh (GY _),λy c h=>?_,λp hp=>G6 (show p∈([]:Gr (GB×Kh)) from hp) (by simp),e0.JC.kept hk,?_]
 .exact name_of_addr x.apart (Ij h1) (Ij h2)
 .have hy:scope.names.lookup y=GM .cell\/scope.names.lookup y=GM .free:=hy
  rcases hy with hy|hy
  .exact tS hy
  .exact G6 KB (S.ZU _ (Ij hy))
 .exact Mf (x.above y c (Ij h))
 .have hi:i<vs.length:=by
   unfold start at h2;by_cases hi:i<vs.length
   .exact hi
   .rw[LC (by simpa using hi)] at h2
    rw[LY] at h2;split at h2<;>cases h2
  have ha:vs[i]?=GM v:=by
   unfold start at h2;rw[Rp (by simpa using hi),HI] at h2;cases e:vs[i]? with
   |none=>rw[e] at h2;cases h2
   |some a=>rw[e] at h2;cases h2;rfl
  obtain⟨u,hu,rv⟩:=r.get ha;have hp:ps[i]?=GM y:=by
   rw[<-S.pre,Gr.getElem?_take_of_lt (by lia)];exact h1
  have ndP:ps.Nodup:=by rw[<-S.pre];exact S.nd.sublist (Gr.take_sublist _ _)
  refine#[u,rv,?_];rcases S.par y (Iz hp) with k|k
  .exact .inl #[k,qh ndP hp hu k]
  .obtain⟨c,e⟩:=tS (n:=s.heap.objs.size+1) k
   refine .inr #[.inl k,c,e,?_];have q:=x.cell y c e;rw[qD ndP hp hu (by show scope.names.lookup y≠_;rw[k];decide)] at q;exact q
 .exact e0.JC.fresh (Mf (x.above y c (Ij h)))
 .unfold start
  show _=N.length
  rw[Gw,GK,OV];lia
def Xu {CX:qO}{P:Hr}{w:HW}{K:Gy}{mg:Ha->GJ GC}{base:Im}{k:GQ}{f:GB}{name Ja:Ha}{params:Arguments}{body:Gr Stmt}{scope:Scope}{dV kV doc pm IF ct oc:GC}{an od:GJ GB}
  {VW:KC (GJ GC)}{N ps:Gr Ha}{sp:Sp}(lk:K.lookup f=GM #[oc,od, .func (JF name Ja params body scope dV kV doc pm an IF ct),VW]) (RB:LZ K IF Ja=IN) (S:ax N ps scope)
  (len: ∀vs H Q E,sp vs H Q E->vs.length=ps.length)
  (K9: ∀(A:IE) (outer:Gr Env) (s:GH) (H:Hp) (vs:Gr V) (Q:VK) (E:XK),cx k (A.deeper (Lg Ja scope s.heap.objs.size f IF))->sp vs H Q E->
   Bd (gU CX P w K mg base N Ja scope f IF A outer s H E) body { nx:=λ_ H'=>Q .Ko H',rt:=Q } (start N vs) H):
  b6 P w K mg base CX (k+1) f (JF name Ja params body scope dV kV doc pm an IF ct) ps sp:=by
 refine#[len,λA outer s H args us vs Q E hr e0 hb r Tu=>?_];have hl:=len _ _ _ _ Tu;have KX:K.In s.heap:=e0.mod.U9.keeps λb o e=>(e0.bs b o e).1
 have lim:s.heap.NoLimit:=e0.mod.nolimit.keeps λb o e=>(e0.bs b o e).1
 have aey: ∀y∈ps.zip us,scope.names.lookup y.1=GM .local\/(scope.names.lookup y.1=GM .cell/\((Jz (s.heap.objs.size+1) scope.names []).lookup y.1).isSome=IN):=λ⟨n,v⟩ hy=>by
  rcases S.par n (Q5 hy).1 with q|q
  .exact .inl q
  .exact .inr #[q,Ru _ _ _ (.inl q)]
 refine codeAny_call_function hr.depth (KX _ _ lk) KB S.co S.gen KB (PySem.W.codeRec_of KX RB) (hb _ _ _ _ ?_);refine wpAny_newFunctionEnv_cells S.kind aey λenv he s1 x=>?_;subst he;refine#[lim.keeps x.toInCall.keep,codeAny_func ?_];obtain⟨t,ht,hq⟩:=K9 A outer s H vs Q E (hr.deeper _) Tu;have I:aP (gU CX P w K mg base N Ja scope f IF A outer s H E) [] (start N vs) H s1:=zH S hr.hd e0 hl r x;refine JQ (ht [] s1 (start N vs) H _ I hq) (λfl s' hs=>?_) λe s' hs=>hs;have fin: ∀ {σ':St}{H':Hp}{v:V}{u:GC},aP (gU CX P w K mg base N Ja scope f IF A outer s H E) [] σ' H' s'->bD v u->Q v H'->CE outer P w H s Q u s':=
  λ{σ' H' v u} J rv q=>#[v,H',J.os,J.bare,J.base,J.JC,rv,q]
 cases fl with
 |ret u=>
  obtain⟨v,σ',H',J,rv,q⟩:=hs;exact fin J rv q
 |next=>
  obtain⟨σ',H',J,q⟩:=hs;exact fin (v:=V.Ko) (u:=Jy) J KB q
 |brk=>
  obtain⟨_,_,_,q⟩:=hs;exact JW q
 |cont=>
  obtain⟨_,_,_,q⟩:=hs;exact JW q
section
variable {X:Cx}{x:Ha}{p pos:Pos}{e:Jc}{es:Gr Jc}{t:TA}{id T:String}{r:Gr V->Hp->VK->Prop}
def tCB (r:Gr V->Hp->VK->Prop) (t:TA):TE:=λσ H Q=>t σ H λvs H1=>r vs H1 Q
def aS (hc:gB X (.builtin id) r) (hg:Gl X x) (hm:X.mg x=Ix) (hv:MB x=GM (.builtin id)) (ha:PA X (e::es) t) (hn:x≠"__name__":=by decide) (Ss:(x == ("__debug__":Ha))=IR:=by decide)
  (he:Hf (e::es) X.env=(IR,eval e X.env)::Hf es X.env:=by rfl) (MU:(J9 pos (Hf es X.env)).any (·.1)=IR:=by rfl):PE X (.Call (.Name x p) (e::es) [] pos) (tCB r t):=by
 intro pins s σ H Q I h;refine Lq (sF I hg hm hv ?_ hn Ss);exact O7 (cG (ha pos pins s σ H _ I h) λus s1 ⟨vs,H1,I1,r1,q1⟩=>hc pins s1 σ H1 vs us Q I1 r1 q1) he MU
def io (hc:gB X (.type T) r) (hg:Gl X x) (hm:X.mg x=Ix) (hv:MB x=GM (.type T)) (ha:PA X (e::es) t) (hn:x≠"__name__":=by decide) (Ss:(x == ("__debug__":Ha))=IR:=by decide)
  (he:Hf (e::es) X.env=(IR,eval e X.env)::Hf es X.env:=by rfl) (MU:(J9 pos (Hf es X.env)).any (·.1)=IR:=by rfl):PE X (.Call (.Name x p) (e::es) [] pos) (tCB r t):=by
 intro pins s σ H Q I h;refine Lq (sF I hg hm hv ?_ hn Ss);exact Pz (cG (ha pos pins s σ H _ I h) λus s1 ⟨vs,H1,I1,r1,q1⟩=>hc pins s1 σ H1 vs us Q I1 r1 q1) he MU
end
end L2
namespace HT
open PySem PyProof.Rows
section
variable {prog:Hr}{w:HW}{A:IE}{E:GC->GH->Prop}{s:GH}
def RY (n d:GQ):GJ Int->GQ
 |none=>d
 |some v=>if v<0 then(v+(n:Int)).toNat else min v.toNat n
def Sv (n d:GQ):RY n d Ix=d:=rfl
def QJ (n d k:GQ):RY n d (GM (k:Int))=min k n:=by
 show(if(k:Int)<0 then((k:Int)+(n:Int)).toNat else min (k:Int).toNat n)=min k n
 rw[GG (by lia),Qw]
end
end HT
namespace L2
open PySem PySem.Spec PyProof.Rows
abbrev TO:=St->Hp->(GJ Int->Hp->Prop)->Prop
def PO (X:Cx) (e:GJ Jc) (t:TO):Prop:=
 ∀(pins:Gr (GB×Kh)) (s:GH) (σ:St) (H:Hp) (Q:GJ Int->Hp->Prop),aP X pins σ H s->t σ H Q->
  Hq (model X.prog X.w) X.A (evalPart e X.env) (λu s'=> ∃o H',aP X pins σ H' s'/\IsPart u o/\Q o H') X.xe s
def EX:TO:=λ_ H Q=>Q Ix H
def aez (t:TE):TO:=λσ H Q=>t σ H λx H1=> ∃i,x= .int i/\Q (GM i) H1
section
variable {X:Cx}{e:Jc}{te:TE}{lo hi:GJ Jc}{tl th:TO}{pos p2:Pos}
def rL:PO X Ix EX:=by
 intro pins s σ H Q I h;rw[evalPart_none];exact HX #[Ix,H,I, .none,h]
def gk (h:PE X e te):PO X (GM e) (aez te):=by
 intro pins s σ H Q I hw;rw[evalPart_some];refine cG (h pins s σ H _ I hw) λu s1 ⟨x,H1,I1,r1,q1⟩=>?_;obtain⟨i,rfl,q⟩:=q1;obtain⟨t,rfl⟩:=r1;exact#[GM i,H1,I1, .int i t,q]
def SlR (X:Cx) (r:V->GJ Int->GJ Int->Hp->VK->Prop):Prop:=
 ∀(pins:Gr (GB×Kh)) (s:GH) (σ:St) (H:Hp) (x:V) (v vl vu:GC) (lo hi:GJ Int) (sl:GB) (Q:VK),aP X pins σ H s->bD x v->s.heap.IsSliceOf sl vl vu .none->IsPart vl lo->IsPart vu hi->r x lo hi H Q->
  ∃T id,JH (.type T) "__getitem__"=pure (GM (.builtin id))/\s.TypeIs v T/\Hq (model X.prog X.w) X.A (S6 v (.ref sl)) (EP X pins σ Q) X.xe s
def tSl (r:V->GJ Int->GJ Int->Hp->VK->Prop) (te:TE) (tl th:TO):TE:=λσ H Q=>te σ H λx H1=>tl σ H1 λl H2=>th σ H2 λu H3=>r x l u H3 Q
def ig {r:V->GJ Int->GJ Int->Hp->VK->Prop}(hr:SlR X r) (he:PE X e te) (hl:PO X lo tl) (hu:PO X hi th):PE X (.Subscript e (.Slice lo hi Ix p2) pos) (tSl r te tl th):=by
 intro pins s σ H Q I h;refine Yx (cG (he pins s σ H _ I h) λv s1 ⟨x,H1,I1,r1,q1⟩=>?_);refine wpAny_Slice (cG (hl pins s1 σ H1 _ I1 q1) λvl s2 ⟨l,H2,I2,pl,q2⟩=>cG (hu pins s2 σ H2 _ I2 q2) λvu s3 ⟨u,H3,I3,pu,q3⟩=>?_);rw[evalPart_none];refine HX ?_;have I4:aP X pins σ H3 { s3 with heap:=s3.heap.push { cls:= .type "slice",data:= .fields [vl,vu, .none].toArray } } :=I3.kept (t':=s3.toks) λb ob q=>GV _ q
 obtain⟨T,id,hT,ht,hg⟩:=hr pins { s3 with heap:=s3.heap.push { cls:= .type "slice",data:= .fields [vl,vu, .none].toArray } } σ H3 x v vl vu l u s3.heap.objs.size Q I4 r1 (abm ..) pl pu q3;show Hq (model X.prog X.w) X.A (Us e (.Slice lo hi Ix p2) v (.ref s3.heap.objs.size)) (EP X pins σ Q) X.xe { s3 with heap:=s3.heap.push { cls:= .type "slice",data:= .fields [vl,vu, .none].toArray } };exact tail_any (ops:=[.ref s3.heap.objs.size,v]) ht hT hg (by with_unfolding_all rfl)
def lq (xs:Gr V) (lo hi:GJ Int):Gr V:=(xs.drop (HT.RY xs.length 0 lo)).take (HT.RY xs.length xs.length hi-HT.RY xs.length 0 lo)
def vE (xs:Gr V) (lo hi:GJ Int):(lq xs lo hi).length<=xs.length:=by
 unfold lq;rw[Mx,J7];lia
end
def ixN (n:GQ) (i:Int):GJ GQ:=if 0<=i then(if i<n then GM i.toNat else Ix) else if-(n:Int)<=i then GM (i+n).toNat else Ix
def Dg {α:Type}(xs:Gr α) (i:Int):GJ α:=(ixN xs.length i).bind λj=>xs[j]?
def Fi {i:Int}(h:ixN n i=GM j):seqIndex? i n=GM j/\j<n/\ -(n:Int)<=i/\i<n:=by
 unfold ixN at h;by_cases h0:0<=i
 .rw[GI h0] at h
  by_cases h1:i<n
  .rw[GI h1] at h
   have e:i.toNat=j:=Hb h;exact#[by rw[seqIndex_of h0 h1,e],by lia,by lia,h1]
  .rw[GG h1] at h;cases h
 .rw[GG h0] at h
  by_cases h1: -(n:Int)<=i
  .rw[GI h1] at h
   have e:(i+n).toNat=j:=Hb h;exact#[by rw[seqIndex_neg (by lia) h1,e],by lia,h1,by lia]
  .rw[GG h1] at h;cases h
def sX {α:Type}{xs:Gr α}{i:Int}{v:α}(h:Dg xs i=GM v): ∃j,seqIndex? i xs.length=GM j/\xs[j]?=GM v/\j<xs.length/\ -(xs.length:Int)<=i/\i<xs.length:=by
 unfold Dg at h;cases e:ixN xs.length i with
 |none=>rw[e] at h;cases h
 |some j=>
  rw[e] at h;obtain⟨h1,h2,h3,h4⟩:=Fi e;exact#[j,h1,h,h2,h3,h4]
def ci {α:Type}{xs:Gr α}{j:GQ}{v:α}(h:xs[j]?=GM v):Dg xs (j:Int)=GM v:=by
 have hj:j<xs.length:=(Ho.mp h).1
 have e:ixN xs.length (j:Int)=GM j:=by
  unfold ixN;rw[GI (by lia),GI (by lia)];simp
 unfold Dg;rw[e];exact h
def sO (b:Jc):Prop:= ∀o i,subscripted b IR o i=operate [o,i] (S6 o i)
def IxR (X:Cx) (r:R2):Prop:=
 ∀(Ln slice:Jc) (pins:Gr (GB×Kh)) (s:GH) (σ:St) (H:Hp) (x y:V) (v u:GC) (Q:VK),aP X pins σ H s->bD x v->bD y u->r x y H Q->
  subscripted slice IR v u=operate [v,u] (S6 v u)->Hq (model X.prog X.w) X.A (Us Ln slice v u) (EP X pins σ Q) X.xe s
def MtR (X:Cx) (id:String) (r:V->Gr V->Hp->VK->Prop):Prop:=
 ∀(pins:Gr (GB×Kh)) (s:GH) (σ:St) (H:Hp) (x:V) (xs:Gr V) (v:GC) (us:Gr GC) (Q:VK),aP X pins σ H s->bD x v->bH xs us->r x xs H Q->
  Hq (model X.prog X.w) X.A (call (.builtin id) (v::us)) (EP X pins σ Q) X.xe s
section
variable {X:Cx}{a b:Jc}{ta tb:TE}{pos:Pos}
def eS {r:R2}(hr:IxR X r) (ha:PE X a ta) (hb:PE X b tb) (hs:sO b):PE X (.Subscript a b pos) (Bg r ta tb):=by
 intro pins s σ H Q I h;exact Yx (ZP ha hb I h λv u s2 x y H2 I2 rx ry q=>hr a b pins s2 σ H2 x y v u Q I2 rx ry q (hs _ _))
inductive ZV (K:Gy) (x:V) (y:V) (H:Hp) (Q:VK):Prop
 |mk (p:GB) (xs:Gr V) (i:Int) (v:V) (_:x= .ref p) (_:y= .int i) (_:cJ K H p xs) (_:Dg xs i=GM v) (_:Q v H):ZV K x y H Q
inductive aeA (K:Gy) (x:V) (y:V) (H:Hp) (Q:VK):Prop
 |mk (p:GB) (xs:Gr V) (i:Int) (v:V) (_:x= .ref p) (_:y= .int i) (_:qd K H p xs) (_:Dg xs i=GM v) (_:Q v H):aeA K x y H Q
inductive aeB (x:V) (y:V) (H:Hp) (Q:VK):Prop
 |mk (z:Ha) (i:Int) (c:GQ) (_:x= .str z) (_:y= .int i) (_:z.length<=GZ) (_:Dg z.cps.toList i=GM c) (_:Q (.str ⟨[c].toArray⟩) H):aeB x y H Q
def cX:IxR X (ZV X.K):=by
 intro Ln slice pins s σ H x y v u Q I rx ry h hs;obtain⟨p,xs,i,z,rfl,rfl,hq,he,q⟩:=h;cases rx;obtain⟨t,rfl⟩:=ry;obtain⟨Jl,r,pl,hz⟩:=I.list hq;obtain⟨j,h1,h2,h3,h4,h5⟩:=sX he;obtain⟨w,ew,TQ⟩:=r.get h2;have hl:=r.length;have hn:=sH;have fin:EP X pins σ Q w s:=#[z,H,I,TQ,q];by_cases h0:0<=i
 .have hj:i.toNat=j:=by
   rw[seqIndex_of h0 h5] at h1;exact Hb h1
  exact item_listR pl.isList h0 (by lia) (by rw[hj];simpa using ew) fin hs
 .have hj:(i+(Jl.toArray.size:Int)).toNat=j:=by
   rw[seqIndex_neg (by lia) h4] at h1;rw[Hz,<-hl];exact Hb h1
  exact Vd (x:=w) pl.isList.typeIs slot_list_getitem.lookup
   (wpAny_getItem_list_neg (Q:=λr s'=>r=w/\EP X pins σ Q r s') pl.isList (by lia) (by rw[Hz]<;>lia) (by lia) (by rw[hj];simpa using ew) #[KB,fin]) hs
def ZW:IxR X (aeA X.K):=by
 intro Ln slice pins s σ H x y v u Q I rx ry h hs;obtain⟨p,xs,i,z,rfl,rfl,hq,he,q⟩:=h;cases rx;obtain⟨t,rfl⟩:=ry;obtain⟨Jl,r,pl,hz⟩:=I.tuple hq;obtain⟨j,h1,h2,h3,h4,h5⟩:=sX he;obtain⟨w,ew,TQ⟩:=r.get h2;have hl:=r.length;have hn:=sH;have fin:EP X pins σ Q w s:=#[z,H,I,TQ,q];exact Vd (x:=w) pl.typeIs slot_tuple_getitem.lookup
  (getItem_tuple (j:=j) (Q:=λr s'=>r=w/\EP X pins σ Q r s') pl (by lia) (by lia) (by rw[Hz,<-hl];exact h1) (by simpa using ew) #[KB,fin]) hs
def ZX:IxR X aeB:=by
 intro Ln slice pins s σ H x y v u Q I rx ry h hs;obtain⟨z,i,c,rfl,rfl,hz,he,q⟩:=h;obtain⟨t,rfl⟩:=rx;obtain⟨t',rfl⟩:=ry;obtain⟨j,h1,h2,h3,h4,h5⟩:=sX he;have hl:z.cps.toList.length=z.length:=by simp [Ha.length]
 rw[hl] at h1 h4 h5;have hn:=sH;exact tail_any (Yy s z t) slot_str_getitem.lookup (getItem_str (c:=c) (by
  have e1:decide (i< -(2 ^ 63:Int))=IR:=He (by lia)
  have e2:decide (i ≥ 2 ^ 63)=IR:=He (by lia);rw[e1,e2,PJ]) (by rw[h1];simpa using h2) #[.str #[[c].toArray],H,I.tok _,#[_,KB],q]) hs
def r6 (lo hi:GJ Int) (n:GQ):(Nk lo hi Ix n).1=((HT.RY n 0 lo:GQ):Int)/\(Nk lo hi Ix n).2.1=((HT.RY n n hi:GQ):Int)/\(Nk lo hi Ix n).2.2=1:=by
 refine#[?_,?_,KB]
 .cases lo with
  |none=>simp [Nk,HT.RY]
  |some i=>
   simp only[Nk,HT.RY,UX,show(1:Int)>0 by decide,S7];by_cases h:i<0
   .simp only[h,S7]<;>lia
   .simp only[h,Nl]<;>lia
 .cases hi with
  |none=>simp [Nk,HT.RY]
  |some i=>
   simp only[Nk,HT.RY,UX,show(1:Int)>0 by decide,S7];by_cases h:i<0
   .simp only[h,S7]<;>lia
   .simp only[h,Nl]<;>lia
def qb (Jl:Gr GC) (lo hi:GJ Int):slicePick Jl.toArray lo hi Ix=((Jl.drop (HT.RY Jl.length 0 lo)).take (HT.RY Jl.length Jl.length hi-HT.RY Jl.length 0 lo)).toArray:=by
 obtain⟨h1,h2,h3⟩:=r6 lo hi Jl.toArray.size;unfold slicePick;rw[h1,h2,h3];simp only[sliceRange_one,pick_run,Hz]<;>rfl
def ajn (K:Gy):V->GJ Int->GJ Int->Hp->VK->Prop:=λx lo hi H Q=> ∃a xs,x= .ref a/\cJ K H a xs/\ ∀p,H p=Ix->Q (.ref p) (bf H p (.lst (lq xs lo hi)))
def jP:SlR X (ajn X.K):=by
 intro pins s σ H x v vl vu lo hi sl Q I rx hs pl pu h;obtain⟨a,xs,rfl,hx,q⟩:=h;cases rx;obtain⟨Jl,r,ht,hz⟩:=I.list hx;have hlen:=r.length;refine#["list",_,slot_list_getitem.lookup,ht.isList.typeIs,?_];refine wpAny_getItem_list_slice ht.isList hs pl pu .none (by simp) ?_ (by rw[Hz]<;>lia);rw[qb,<-hlen];refine#[.ref s.heap.objs.size,_,I.laid (t':=s.toks) (o:= .lst (lq xs lo hi)) (λb ob q=>GV _ q) (GY _) ?_,KB,q _ (I.JC.fresh (GY _))];exact#[G0 (vE xs lo hi) hz,_,0,(r.drop (HT.RY xs.length 0 lo)).take (HT.RY xs.length xs.length hi-HT.RY xs.length 0 lo),Iu _ KB]
def ja:V->HK
 | .Ko=>IN
 | .bl _=>IN
 | .int _=>IN
 | .str _=>IN
 |_=>IR
def Fc:V->V->HK
 | .Ko, .Ko=>IN
 | .bl a, .bl b=>a == b
 | .bl a, .int b=>(if a then 1 else 0) == b
 | .int a, .bl b=>a == (if b then 1 else 0)
 | .int a, .int b=>a == b
 | .str a, .str b=>a == b
 |_,_=>IR
def ZY {A:IE}{s:GH}{y x:V}{u v:GC}(ry:bD y u) (rx:bD x v) (fy:ja y=IN) (fx:ja x=IN):SeqAt.EqAt A s u v (Fc y x):=by
 cases y with
 |Ko=>
  cases ry;cases x with
  |Ko=>cases rx;exact SeqAt.EqAt.same _
  |bl b=>cases rx;exact SeqAt.EqAt.none_bool b
  |int b=>obtain⟨t,rfl⟩:=rx;exact SeqAt.EqAt.none_int b t
  |str b=>obtain⟨t,rfl⟩:=rx;exact SeqAt.EqAt.none_str b t
  |_=>exact G6 (show IR=IN from fx) Gu
 |bl a=>
  cases ry;cases x with
  |Ko=>cases rx;exact SeqAt.EqAt.bool_none a
  |bl b=>cases rx;exact SeqAt.EqAt.bool_bool a b
  |int b=>obtain⟨t,rfl⟩:=rx;exact SeqAt.EqAt.bool_int a b t
  |str b=>obtain⟨t,rfl⟩:=rx;exact SeqAt.EqAt.bool_str a b t
  |_=>exact G6 (show IR=IN from fx) Gu
 |int a=>
  obtain⟨t',rfl⟩:=ry;cases x with
  |Ko=>cases rx;exact SeqAt.EqAt.int_none a t'
  |bl b=>cases rx;exact SeqAt.EqAt.int_bool a t' b
  |int b=>obtain⟨t,rfl⟩:=rx;exact SeqAt.EqAt.int_int a t' b t
  |str b=>obtain⟨t,rfl⟩:=rx;exact RP a t' b t
  |_=>exact G6 (show IR=IN from fx) Gu
 |str a=>
  obtain⟨t',rfl⟩:=ry;cases x with
  |Ko=>cases rx;exact SeqAt.EqAt.str_none a t'
  |bl b=>cases rx;exact SeqAt.EqAt.str_bool a t' b
  |int b=>obtain⟨t,rfl⟩:=rx;exact RQ a t' b t
  |str b=>obtain⟨t,rfl⟩:=rx;exact SeqAt.EqAt.str_str a t' b t
  |_=>exact G6 (show IR=IN from fx) Gu
 |_=>exact G6 (show IR=IN from fy) Gu
def wK (x:V) (u:GC):HK:=match u with
 | .none=>Fc .Ko x
 | .bool b=>Fc (.bl b) x
 | .int i _=>Fc (.int i) x
 | .str z _=>Fc (.str z) x
 |_=>IR
def Cb {x y:V}{u:GC}(r:bD y u) (f:ja y=IN):wK x u=Fc y x:=by
 cases y with
 |Ko=>cases r;rfl
 |bl b=>cases r;rfl
 |int i=>obtain⟨t,rfl⟩:=r;rfl
 |str z=>obtain⟨t,rfl⟩:=r;rfl
 |_=>exact G6 (show IR=IN from f) Gu
theorem kI {x:V} : ∀ {xs:Gr V}{us:Gr GC},bH xs us->xs.all ja=IN->us.any (wK x)=xs.any λy=>Fc y x
 |_,_, .nil,_=>rfl
 |y::xs,u::us, .cons r t,f=>by
  rw[PK,Jx] at f;rw[Ka,Ka,Cb r f.1,kI t f.2]
theorem jq {A:IE}{s:GH}{x:V}{v:GC}(rx:bD x v) (fx:ja x=IN): ∀ {xs:Gr V}{us:Gr GC},bH xs us->xs.all ja=IN-> ∀u∈us,SeqAt.EqAt A s u v (wK x u)
 |_,_, .nil,_=>λu hu=>by cases hu
 |y::xs,u::us, .cons r t,f=>λu' hu=>by
  rw[PK,Jx] at f;rcases Hg.mp hu with rfl|hu
  .rw[Cb r f.1];exact ZY r rx f.1 fx
  .exact jq rx fx t f.2 u' hu
def uF (x:V) (xs:Gr V):HK:=xs.any λy=>Fc y x
inductive rIn (K:Gy) (neg:HK) (x:V) (y:V) (H:Hp) (Q:VK):Prop
 |mk (p:GB) (xs:Gr V) (_:y= .ref p) (_:(cJ K H p xs\/qd K H p xs)) (_:ja x=IN) (_:xs.all ja=IN) (_:Q (.bl (if neg then !uF x xs else uF x xs)) H):rIn K neg x y H Q
def jG:lQ X (J5 .In) (rIn X.K IR):=by
 intro pins s σ H x y v u Q I rx ry h;obtain⟨p,xs,rfl,hq,fx,fs,q⟩:=h;cases ry;rcases hq with hq|hq
 .obtain⟨Jl,r,pl,hz⟩:=I.list hq
  refine SeqAt.in_listAt (wK x) pl.isList (λw hw=>jq rx fx r fs w (by simpa using hw)) #[.bl _,H,I,KB,?_];rw[show Jl.toArray.any (wK x)=Jl.any (wK x) by simp,kI r fs];exact q
 .obtain⟨Jl,r,pl,hz⟩:=I.tuple hq
  refine SeqAt.in_tupleAt (wK x) pl (λw hw=>jq rx fx r fs w (by simpa using hw)) #[.bl _,H,I,KB,?_];rw[show Jl.toArray.any (wK x)=Jl.any (wK x) by simp,kI r fs];exact q
def iK:lQ X (J5 .NotIn) (rIn X.K IN):=by
 intro pins s σ H x y v u Q I rx ry h;obtain⟨p,xs,rfl,hq,fx,fs,q⟩:=h;cases ry;rcases hq with hq|hq
 .obtain⟨Jl,r,pl,hz⟩:=I.list hq
  refine SeqAt.notIn_listAt (wK x) pl.isList (λw hw=>jq rx fx r fs w (by simpa using hw)) #[.bl _,H,I,KB,?_];rw[show Jl.toArray.any (wK x)=Jl.any (wK x) by simp,kI r fs];exact q
 .obtain⟨Jl,r,pl,hz⟩:=I.tuple hq
  refine SeqAt.notIn_tupleAt (wK x) pl (λw hw=>jq rx fx r fs w (by simpa using hw)) #[.bl _,H,I,KB,?_];rw[show Jl.toArray.any (wK x)=Jl.any (wK x) by simp,kI r fs];exact q
inductive aeC (K:Gy) (xs:Gr V) (H:Hp) (Q:VK):Prop
 |mk (p:GB) (ys:Gr V) (_:xs=[.ref p]) (_:(cJ K H p ys\/qd K H p ys)) (_:Q (.int ys.length) H):aeC K xs H Q
def bL:gB X (.builtin "len") (aeC X.K):=by
 intro pins s σ H xs us Q I r h;obtain⟨p,ys,rfl,hq,q⟩:=h;obtain⟨u,rfl,rx⟩:=lE r;cases rx;have hn:=sH;rcases hq with hq|hq
 .obtain⟨Jl,r',pl,hz⟩:=I.list hq
  have hlen:=r'.length;exact Calls.call_len_list pl.isList (by simp only[Hz]<;>lia) #[.int ys.length,H,I.tok _,#[s.toks+1,by rw[Hz,hlen]],q]
 .obtain⟨Jl,r',pl,hz⟩:=I.tuple hq
  have hlen:=r'.length;exact len_tuple pl (by simp only[Hz]<;>lia) #[.int ys.length,H,I.tok _,#[s.toks+1,by rw[Hz,hlen]],q]
def gV:gB X (.type "tuple") (λxs H Q=> ∃p ys,xs=[.ref p]/\((cJ X.K H p ys/\ ∀l,H l=Ix->Q (.ref l) (bf H l (.tup ys)))\/(qd X.K H p ys/\Q (.ref p) H))):=by
 intro pins s σ H xs us Q I r h;obtain⟨p,ys,rfl,h⟩:=h;obtain⟨u,rfl,rx⟩:=lE r;cases rx;rcases h with⟨hq,q⟩|⟨hq,q⟩
 .obtain⟨Jl,r',pl,hz⟩:=I.list hq
  have hlen:=r'.length;refine call_tuple_list pl.isList (λh' kp=>?_) (by simp only[Hz]<;>lia)
  have I1:aP X pins σ H { s with heap:=h' } :=I.kept (t':=s.toks) kp
  have I2:aP X pins σ (bf H h'.objs.size (.tup ys)) { s with heap:=h'.push { cls:= .type "tuple",data:= .seq Jl.toArray } } :=
   I1.laid (t':=s.toks) (λb o e=>GV _ e) (GY _) (show cK X.prog X.w _ _ _ (.tup ys) from#[hz,Jl,r',IsTup.new _ _])
  exact#[.ref h'.objs.size,_,I2,KB,q _ (I1.JC.fresh (GY _))]
 .obtain⟨Jl,r',pl,hz⟩:=I.tuple hq
  exact call_tuple_same pl #[.ref p,H,I,KB,q]
def tyV (K:Gy) (T:String) (x:V) (H:Hp):Prop:=match x with
 | .str _=>T="str"
 | .int _=>T="int"
 | .ref p=>(T="list"/\ ∃xs,cJ K H p xs)\/(T="tuple"/\ ∃o,K.lookup p=GM o/\o.cls= .type "tuple"/\o.dict=Ix)\/
   (T="dict"/\((∃IB,H p=GM (.dK IB))\/ ∃IB,H p=GM (.dT IB)))\/(T="set"/\ ∃S n,H p=GM (.set S n))
 |_=>False
def ZZ {pins:Gr (GB×Kh)}{σ:St}{H:Hp}{s:GH}{T:String}{x:V}{v:GC}(I:aP X pins σ H s) (r:bD x v) (ty:tyV X.K T x H):
  s.TypeIs v T/\ ∀a,v= .ref a-> ∃ob,s.heap.get? a=GM ob/\ob.dict=Ix:=by
 cases x with
 |str z=>
  obtain⟨t,rfl⟩:=r;cases (show T="str" from ty);exact#[Yy s z t,λ_ e=>nomatch e]
 |int i=>
  obtain⟨t,rfl⟩:=r;cases (show T="int" from ty);exact#[typeIs_int s i t,λ_ e=>nomatch e]
 |ref p=>
  cases r;rcases ty with⟨rfl,xs,hq⟩|⟨rfl,o,hk,hc,hd⟩|⟨rfl,hk⟩|⟨rfl,S,n,hk⟩
  .obtain⟨Jl,_,pl,_⟩:=I.list hq
   refine#[pl.isList.typeIs,λa e=>?_];cases e;obtain⟨o,n,e,c,hd,_⟩:=pl;exact#[o,e,hd]
  .refine#[#[o,I.NY p o hk,hc],λa e=>?_]
   cases e;exact#[o,I.NY _ o hk,hd]
  .have z: ∃o,s.heap.get? p=GM o/\o.ExactDict:=by
    rcases hk with⟨IB,hk⟩|⟨IB,hk⟩
    .obtain⟨_,_,_,_,o,_,_,e,ex,_⟩:=I.JC p _ hk
     exact#[o,e,ex]
    .obtain⟨_,_,_,_,o,_,_,e,ex,_⟩:=I.JC p _ hk
     exact#[o,e,ex]
   obtain⟨o,e,ex⟩:=z;refine#[#[o,e,ex.1],λa e2=>?_];cases e2;exact#[o,e,ex.2.1]
  .obtain⟨o,_,_,_,e,ex,_⟩:=I.JC p _ hk
   refine#[#[o,e,ex.1],λa e2=>?_];cases e2;exact#[o,e,ex.2.1]
 |_=>exact JW ty
inductive aeD (K:Gy) (T:String) (R:V->Hp->Prop) (x:V) (H1:Hp):Prop
 |mk (_:tyV K T x H1) (_:R x H1):aeD K T R x H1
def tBM (K:Gy) (T:String) (r:V->Gr V->Hp->VK->Prop) (to:TE) (t:TA):TE:=λσ H Q=>to σ H (aeD K T (λx H1=>t σ H1 λxs H2=>r x xs H2 Q))
variable {o e:Jc}{es:Gr Jc}{to:TE}{t:TA}{name:Ha}{Mb MN:Pos}{T id:String}{r:V->Gr V->Hp->VK->Prop}
def df (pa:PlainAttrs T) (slot:Slot T name id) (hty:typeOf (.builtin id)=pure (.type "method_descriptor")) (hm:MtR X id r) (ho:PE X o to) (ha:PA X (e::es) t)
  (Sw:JN o name X.env (eval o X.env)=eval o X.env:=by rfl)
  (ajo:((J9 MN (Hf (e::es) X.env)).all (λx=>!x.1)&&(Ob MN (LO [] X.env)).all (λx=>x.1.isSome)
   &&decide ((e::es).length+([]:Gr Keyword).length+(if([]:Gr Keyword).isEmpty then 0 else 1)<30))=IN:=by rfl)
  (Sx:(Mb.endLine == MN.line)=IN:=by rfl) (hs:Hf (e::es) X.env=(IR,eval e X.env)::Hf es X.env:=by rfl) (Z0:(J9 MN (Hf es X.env)).any (·.1)=IR:=by rfl):
  PE X (.Call (.Attribute o name Mb) (e::es) [] MN) (tBM X.K T r to t):=by
 intro pins s σ H Q I h;refine wpAny_Call_method_late Sw ajo Sx KB (cG (ho pins s σ H _ I h) λv s1 ⟨x,H1,I1,r1,ty,q1⟩=>?_);obtain⟨h1,h2⟩:=ZZ I1 r1 ty;refine#[T,id,pa,slot,hty,h1,h2,?_];have hA:=ha MN pins s1 σ H1 _ I1 q1;rw[hs] at hA ⊢;refine Oq (by show(IR||(J9 MN (Hf es X.env)).any (·.1))=IR;rw[Z0]<;>rfl) (O2 ?_)
 exact cG hA λus s2 ⟨vs,H2,I2,r2,q2⟩=>hm pins s2 σ H2 x vs v us Q I2 r1 r2 q2
end
def MtM (X:Cx) (id:String) (r:V->Gr V->Hp->VK->Prop):Prop:=
 ∀(pins:Gr (GB×Kh)) (s:GH) (σ:St) (H:Hp) (x:V) (xs:Gr V) (v:GC) (us:Gr GC) (Q:VK),aP X pins σ H s->bD x v->bH xs us->r x xs H Q->
  Hq (model X.prog X.w) X.A (call (.builtin id) (v::us)) (EP X pins σ Q) X.xe s
def bH.one: ∀ {x:V}{us:Gr GC},bH [x] us-> ∃u,us=[u]/\bD x u
 |_,_, .cons r .nil=>#[_,KB,r]
section
variable {X:Cx}{pins:Gr (GB×Kh)}{σ:St}{H:Hp}{s:GH}{l b:GB}{xs ys zs:Gr V}
def aP.aeE {Jl its':Gr GC}{f:KC GC->KC GC}(I:aP X pins σ H s) (hH:H l=GM (.lst xs))
  (e:s.heap.get? l=GM { cls:= .type "list",data:= .seq Jl.toArray n }) (hf:f Jl.toArray=its'.toArray) (hv:bH ys its') (hz:ys.length<=GZ):
  aP X pins σ (bf H l (.lst ys)) { s with heap:=s.heap.update l (Kh.mapSeq f),toks:=t' } :=by
 have q:=PySem.IsL.update e f;rw[hf] at q;refine I.write (x:=l) (e:=l) (by rw[hH];exact trivial) (.inl KB) (λb' u hb hu=>(IG s.heap (Kh.mapSeq f) (K3 hb)).trans hu) #[_,q] ?_
 exact#[hz,its',_,hv,q]
def aP.ajp {Jl:Gr GC}(I:aP X pins σ H s) (hv:bH ys Jl) (hz:ys.length<=GZ):
  aP X pins σ (bf H s.heap.objs.size (.lst ys)) { s with heap:=s.heap.push { cls:= .type "list",data:= .seq Jl.toArray },toks:=t' } :=
 I.laid (λ_ _ q=>GV _ q) (GY _) #[hz,Jl,0,hv,Iu _ KB]
theorem aP.fresh (I:aP X pins σ H s):H s.heap.objs.size=Ix:=I.JC.fresh (GY _)
def aP.UG (I:aP X pins σ H s) (hH:H l=GM (.lst xs)):xs.length<=GZ/\ ∃(Jl:Gr GC) (n:GQ),bH xs Jl/\xs.length=Jl.length/\s.heap.get? l=GM { cls:= .type "list",data:= .seq Jl.toArray n } :=by
 obtain⟨z,Jl,n,r,e⟩:=I.JC l _ hH;exact#[z,Jl,n,r,r.length,e]
def EB (h:n<=GZ):MW n=IR:=by
 unfold MW;exact He (by lia)
end
section
variable {X:Cx}
inductive nS (x:V) (vs:Gr V) (H:Hp) (Q:VK):Prop
 |mk (l:GB) (xs:Gr V) (y:V) (_:x= .ref l) (_:vs=[y]) (_:H l=GM (.lst xs)) (_:xs.length<GZ) (_:Q .Ko (bf H l (.lst (xs++[y])))):nS x vs H Q
def dh:MtM X "list.append" nS:=by
 intro pins s σ H x vs v us Q I rx rv h;obtain⟨l,xs,y,rfl,rfl,hH,hz,q⟩:=h;cases rx;obtain⟨u,rfl,ru⟩:=rv.one;obtain⟨z,Jl,n,r,hl,e⟩:=I.UG hH;refine call_meets F.slot_list_append #[_,e,KB] F.entry_list_append (F.args_list_append_2 _ _) (PySem.list_append l Jl.toArray n u (by rw[Hz];lia)) #[e,?_];refine#[.Ko,_,I.aeE (its':=Jl++[u]) hH e (by simp) (r.append (.cons ru .nil)) ?_,KB,q];rw[Gw,Ks];lia
inductive nv (x:V) (vs:Gr V) (H:Hp) (Q:VK):Prop
 |mk (l b:GB) (xs zs:Gr V) (_:x= .ref l) (_:vs=[.ref b]) (_:H l=GM (.lst xs)) (_:H b=GM (.lst zs)) (_:xs.length+zs.length<=GZ) (_:Q .Ko (bf H l (.lst (xs++zs)))):nv x vs H Q
def bZ:MtM X "list.extend" nv:=by
 intro pins s σ H x vs v us Q I rx rv h;obtain⟨l,b,xs,zs,rfl,rfl,hH,hB,hz,q⟩:=h;cases rx;obtain⟨u,rfl,ru⟩:=rv.one;cases ru;obtain⟨z,Jl,n,r,hl,e⟩:=I.UG hH;obtain⟨z2,QZ,n2,r2,V1,e2⟩:=I.UG hB;have hsz:Jl.toArray.size+QZ.toArray.size<=GZ:=by rw[Hz,Hz];lia
 have aeF: ¬(! Jl.toArray.isEmpty&&MW (Jl.toArray.size+QZ.toArray.size))=IN:=by
  rw[EB hsz,HK.and_false];exact Gu
 refine call_meets F.slot_list_extend #[_,e,KB] F.entry_list_extend (F.args_list_extend_2 _ _)
  (AutoSeq1.list_extend_list_list_0 l Jl.toArray n b QZ.toArray n2 aeF (by rw[Hz];lia) (by lia)) #[e,e2,?_]
 refine#[.Ko,_,I.aeE (its':=Jl++QZ) hH e (by simp) (r.append r2) ?_,KB,q];rw[Gw];lia
inductive Ft (x:V) (y:V) (H:Hp) (Q:VK):Prop
 |mk (l b:GB) (xs zs:Gr V) (_:x= .ref l) (_:y= .ref b) (_:H l=GM (.lst xs)) (_:H b=GM (.lst zs)) (_:xs.length+zs.length<=GZ) (_: ∀p,H p=Ix->Q (.ref p) (bf H p (.lst (xs++zs)))):Ft x y H Q
def bC:lQ X (Oa .Add) Ft:=by
 intro pins s σ H x y v u Q I rx ry h;obtain⟨l,b,xs,zs,rfl,rfl,hH,hB,hz,q⟩:=h;cases rx;cases ry;obtain⟨z,Jl,n,r,hl,e⟩:=I.UG hH;obtain⟨z2,QZ,n2,r2,V1,e2⟩:=I.UG hB;refine PySem.P.add_list e e2 ?_ (by rw[Hz,Hz];lia);have ea:Jl.toArray++QZ.toArray=(Jl++QZ).toArray:=by simp
 rw[ea];exact#[.ref _,_,I.ajp (t':=s.toks) (r.append r2) (by rw[Gw];lia),KB,q _ I.fresh]
end
section
variable {prog:Hr}{w:HW}{A:IE}{E:GC->GH->Prop}{s:GH}
set_option maxRecDepth 100000 in
end
theorem bH.bls: ∀ {bs:Gr HK}{us:Gr GC},bH (bs.map V.bl) us->us=bs.map LW
 |[],us,h=>by
  rw[Gr.map_nil] at h;cases h
  rfl
 |b::bs,us,h=>by
  rw[G8] at h;cases h with
  |cons r t=>
   cases r;rw[bH.bls t,G8]
def bH.aeG {a:GB}(r:bH [V.ref a] us):us=[Hn a]:=by
 cases r with
 |cons r t=>
  cases t;cases r
  rfl
def uS {prog:Hr}{w:HW}{A:IE}{E:GC->GH->Prop}{s:GH}{l:GB}{Q:GC->GH->Prop}(hl:s.heap.IsList l items)
  (h: ∀s₂:GH,s₂= { s with heap:=s.heap.push { cls:= .type "list_iterator",data:= .fields [.ref l, .int 0 0].toArray } } ->
   (s₂.heap.IsListIter s.heap.objs.size l 0/\s₂.heap.IsList l items)->l≠s.heap.objs.size->Q (.ref s.heap.objs.size) s₂):Hq (model prog w) A (pyIter (.ref l)) Q E s:=by
 have RW:l<s.heap.objs.size:=by obtain⟨_,e,_⟩:=hl;exact Hk e
 exact wpAny_pyIter_list hl (h _ KB #[#[_,Iu _ KB,KB,KB],hl.push _] (Ik RW))
def mU {prog:Hr}{w:HW}{A:IE}{bs:Gr HK}{Jl:Gr GC}(e:Jl=bs.map LW):
  TruthOf prog w A (λi v=>Jl.toArray[i]?=GM v) (λi=>bs.getD i IR):=λi v s Q E hv hq=>by
 have hv':Jl[i]?=GM v:=by simpa using hv
 rw[e,HI] at hv';obtain⟨b,hb,rfl⟩:=IT.mp hv';have hg:bs.getD i IR=b:=by rw[Rk,hb]<;>rfl
 have Tc:Q (bs.getD i IR) s:=hq;rw[hg] at Tc;exact KP Tc
theorem qk: ∀bs:Gr HK,(Nv bs.length).any (λi=>bs.getD i IR)=bs.any id
 |[]=>rfl
 |b::bs=>by
  rw[Gv,SH,Ka,Oz,Ka,<-qk bs]
  all_goals rfl
theorem qj: ∀bs:Gr HK,(Nv bs.length).all (λi=>bs.getD i IR)=bs.all id
 |[]=>rfl
 |b::bs=>by
  rw[Gv,SH,PK,S8,PK,<-qj bs]
  all_goals rfl
section
variable {X:Cx}
def ajq (K:Gy):Gr V->Hp->VK->Prop:=λvs H Q=> ∃(a:GB) (bs:Gr HK),vs=[V.ref a]/\cJ K H a (bs.map V.bl)/\Q (.bl (bs.any id)) H
def ajr (K:Gy):Gr V->Hp->VK->Prop:=λvs H Q=> ∃(a:GB) (bs:Gr HK),vs=[V.ref a]/\cJ K H a (bs.map V.bl)/\Q (.bl (bs.all id)) H
def Z1 (hc:X.calm=IN):gB X (.builtin "any") (ajq X.K):=by
 intro pins s σ H vs us Q I r h;obtain⟨a,bs,rfl,hs,q⟩:=h;obtain⟨Jl,rv,hl,_⟩:=I.list hs;rw[bH.aeG r];have hb:=rv.bls;refine call_any_walk (uS hl.isList λs₂ e2 st hne=>?_);subst e2;refine#[_,_,_,_,_,_,_,KB,Walks.list (A:=X.A.in1) (I.ok.hd hc) _ a hne Jl.toArray,st,mU hb,λh' tk hk=>?_];refine#[.bl _,H,I.kept λb o eo=>hk b o (λTR=>?_) (GV _ eo),?_,q]
 .rcases Hg.mp TR with e1|TR
  .exact G6 (e1▸Hk eo) (Jp _)
  .cases TR
 .show LW _=LW _
  rw[<-qk,hb,Hz,GK]
def Z2 (hc:X.calm=IN):gB X (.builtin "all") (ajr X.K):=by
 intro pins s σ H vs us Q I r h;obtain⟨a,bs,rfl,hs,q⟩:=h;obtain⟨Jl,rv,hl,_⟩:=I.list hs;rw[bH.aeG r];have hb:=rv.bls;refine call_all_walk (uS hl.isList λs₂ e2 st hne=>?_);subst e2;refine#[_,_,_,_,_,_,_,KB,Walks.list (A:=X.A.in1) (I.ok.hd hc) _ a hne Jl.toArray,st,mU hb,λh' tk hk=>?_];refine#[.bl _,H,I.kept λb o eo=>hk b o (λTR=>?_) (GV _ eo),?_,q]
 .rcases Hg.mp TR with e1|TR
  .exact G6 (e1▸Hk eo) (Jp _)
  .cases TR
 .show LW _=LW _
  rw[<-qj,hb,Hz,GK]
end
abbrev Cr (h:Im) (c:GB) (v:GJ GC):Prop:=h.IsCell c v
def ajs (scope sc:Scope):Scope:=
 { scope with names:=scope.names.map λ(n,k)=>if(k == .free&&sc.kind == .function&&sc.names.lookup n == GM .cell) then(n, .cell) else(n,k) }
def cw (cells:Gr (Ha×GB)):Gr (Ha×KU)->Gr (Ha×GB)->Gr (Ha×GB)
 |[],acc=>acc
 | (n,k)::r,acc=>if k == .free then cw cells r ((n,(cells.lookup n).getD 0)::acc) else cw cells r acc
theorem lA (env:Env) (f:Ha×KU->Gr (Ha×GB)->Sem (ForInStep (Gr (Ha×GB))))
  (hf: ∀n k c,f (n,k) c=if k == .free then(do let a<-cellOf env n;pure (.yield ((n,a)::c))) else pure (.yield c)):
  ∀(names:Gr (Ha×KU)) (acc:Gr (Ha×GB)),(∀y∈names,y.2= .free-> ∃c,env.cells.lookup y.1=GM c)->forIn names acc f=pure (cw env.cells names acc)
 |[],acc,_=>by rw[WX];rfl
 | (n,k)::r,acc,h=>by
  rw[Gr.forIn_cons,hf];have ih:=λacc=>lA env f hf r acc λy hy=>h y (Hc _ hy)
  unfold cw;by_cases hk:(k == Mi)=IN
  .rw[GI hk,GI hk]
   obtain⟨c,hc⟩:=h (n,k) GW (by simpa using hk);have e:cellOf env n=pure c:=by unfold cellOf;rw[hc]
   rw[e];have e2:(env.cells.lookup n).getD 0=c:=by rw[hc];rfl
   rw[e2];exact ih _
  .rw[GG hk,GG hk]
   exact ih _
def wC {scope:Scope}{env:Env}(h: ∀y∈scope.names,y.2= .free-> ∃c,env.cells.lookup y.1=GM c):closureFor scope env=pure (cw env.cells scope.names []):=by
 simp only[closureFor];rw[lA env _ (λn k c=>rfl) scope.names [] h]
 rfl
theorem j3 {α:Type} : ∀ {l:Gr (Ha×α)}{n:Ha}{c:α},(n,c)∈l-> ∃c',l.lookup n=GM c'
 | (k,v)::r,n,c,h=>by
  rw[KW];cases hb:n == k with
  |true=>exact#[_,KB]
  |false=>
   rcases Hg.mp h with e|h
   .cases e;simp at hb
   .exact j3 h
theorem gN {cells:Gr (Ha×GB)} : ∀ {names:Gr (Ha×KU)}{acc:Gr (Ha×GB)}{n:Ha}{c:GB},(n,c)∈cw cells names acc->(n,c)∈acc\/((n, .free)∈names/\c=(cells.lookup n).getD 0)
 |[],_,_,_,h=> .inl h
 | (m,k)::r,acc,n,c,h=>by
  unfold cw at h;split at h
  .rename_i hk
   have hk:k= .free:=by simpa using hk
   rcases gN h with h|⟨h1,h2⟩
   .rcases Hg.mp h with e|h
    .cases e;exact .inr #[hk▸GW,KB]
    .exact .inl h
   .exact .inr #[Hc _ h1,h2]
  .rcases gN h with h|⟨h1,h2⟩
   .exact .inl h
   .exact .inr #[Hc _ h1,h2]
theorem jA {cells:Gr (Ha×GB)} : ∀ {names:Gr (Ha×KU)}{acc:Gr (Ha×GB)}{p:Ha×GB},p∈acc->p∈cw cells names acc
 |[],_,_,h=>h
 | (m,k)::r,acc,p,h=>by
  unfold cw;split
  .exact jA (Hc _ h)
  .exact jA h
theorem jv {cells:Gr (Ha×GB)} : ∀ {names:Gr (Ha×KU)}{acc:Gr (Ha×GB)}{n:Ha},(n, .free)∈names->(n,(cells.lookup n).getD 0)∈cw cells names acc
 | (m,k)::r,acc,n,h=>by
  unfold cw;rcases Hg.mp h with e|h
  .cases e
   exact jA GW
  .split
   .exact jv h
   .exact jv h
theorem ip: ∀ {names:Gr (Ha×KU)}{h:Im}{acc:Gr (Ha×GB)}{x:Ha}{c:GB},(x,c)∈Jz h.objs.size names acc->
  (x,c)∈acc\/((x, .cell)∈names/\h.objs.size<=c/\Cr (N5 h names) c Ix)
 |[],_,_,_,_,h=> .inl h
 | (n,k)::r,h,acc,x,c,hm=>by
  unfold Jz at hm;unfold N5;split at hm
  .rename_i hk
   rw[GI hk];have hk:k= .cell:=by simpa using hk
   rw[<-Ju h { cls:= .type "cell",data:= .cell Ix }] at hm;rcases ip hm with hm|⟨h1,h2,h3⟩
   .rcases Hg.mp hm with e|hm
    .cases e
     exact .inr #[hk▸GW,GY _,_,Pq r _ _ _ (Iu _ KB),KB]
    .exact .inl hm
   .rw[Ju] at h2
    exact .inr #[Hc _ h1,N3 h2,h3]
  .rename_i hk
   rw[GG hk];rcases ip hm with hm|⟨h1,h2,h3⟩
   .exact .inl hm
   .exact .inr #[Hc _ h1,h2,h3]
theorem jE: ∀ {names:Gr (Ha×KU)}{n:GQ}{acc:Gr (Ha×GB)}{p:Ha×GB},p∈acc->p∈Jz n names acc
 |[],_,_,_,h=>h
 | (m,k)::r,n,acc,p,h=>by
  unfold Jz;split
  .exact jE (Hc _ h)
  .exact jE h
theorem mx: ∀ {names:Gr (Ha×KU)}{n:GQ}{acc:Gr (Ha×GB)}{x:Ha},(x, .cell)∈names-> ∃c,(x,c)∈Jz n names acc
 | (m,k)::r,n,acc,x,h=>by
  unfold Jz;rcases Hg.mp h with e|h
  .cases e
   exact#[n,jE GW]
  .split
   .exact mx h
   .exact mx h
theorem mz: ∀ {names:Gr (Ha×KU)}{h:Im}{acc:Gr (Ha×GB)}{x y:Ha}{c:GB},(∀p∈acc,p.2<h.objs.size)->(∀x y c,(x,c)∈acc->(y,c)∈acc->x=y)->
  (x,c)∈Jz h.objs.size names acc->(y,c)∈Jz h.objs.size names acc->x=y
 |[],_,_,_,_,_,_,hi,h1,h2=>hi _ _ _ h1 h2
 | (n,k)::r,h,acc,x,y,c,hl,hi,h1,h2=>by
  unfold Jz at h1 h2;split at h1
  .rename_i hk
   rw[GI hk] at h2;rw[<-Ju h { cls:= .type "cell",data:= .cell Ix }] at h1 h2;refine mz (h:=h.push _) (λp hp=>?_) (λx y c a b=>?_) h1 h2
   .rw[Ju]
    rcases Hg.mp hp with rfl|hp
    .exact MC _
    .exact Qx (hl p hp)
   .rcases Hg.mp a with e|a<;>rcases Hg.mp b with e'|b
    .cases e;cases e';rfl
    .cases e;exact G6 (hl _ b) (Jp _)
    .cases e';exact G6 (hl _ a) (Jp _)
    .exact hi _ _ _ a b
  .rename_i hk
   rw[GG hk] at h2;exact mz hl hi h1 h2
def tH {M:Model}{A:IE}{E:GC->GH->Prop}{s:GH}{scope:Scope}{globals:GB}{closure:Gr (Ha×GB)}{Ja:Ha}{func:GJ GB}{code:GC}{around:Env}{builtins:GB}{Q:Env->GH->Prop}
  (h:Q (newEnv scope s.heap.objs.size globals (Jz (s.heap.objs.size+1) scope.names closure) Ja func code (GM around) builtins)
   { s with heap:=N5 (s.heap.push { cls:= .type "dict",data:= .dict [].toArray }) scope.names }):
  Hq M A (newFunctionEnv scope globals closure [] Ja func code (GM around) builtins) Q E s:=by
 simp only[newFunctionEnv,T1,S7];refine Hi (wpAny_alloc ?_);refine Hi (wpAny_layCells _ (λn k c=>rfl) scope.names closure _ _ ?_);rw[show({ s with heap:=s.heap.push { cls:= .type "dict",data:= .dict [].toArray } } :GH).heap.objs.size=s.heap.objs.size+1 from Ju ..];rw[WX];exact Hi (HX (HX h))
theorem jz {sc:Scope} : ∀ {names:Gr (Ha×KU)}{x:Ha}{k:KU},
  (names.map λ(n,k)=>if(k == Mi&&sc.kind == .function&&sc.names.lookup n == GM .cell) then(n,Q6) else(n,k)).lookup x=GM k->
  ∃k',names.lookup x=GM k'/\(k=k'\/(k'= .free/\k= .cell))
 |[],_,_,h=>by simp at h
 | (n,k₀)::r,x,k,h=>by
  have ih:= @jz sc r x k
  have h':Km x ((if(k₀ == Mi&&sc.kind == .function&&sc.names.lookup n == GM .cell)=IN then(n,Q6) else(n,k₀))::(r.map _))=GM k:=h
  cases hx:x == n with
  |true=>
   simp only[KW,hx];by_cases hc:(k₀ == Mi&&sc.kind == .function&&sc.names.lookup n == GM .cell)=IN
   .rw[GI hc] at h'
    simp only[KW,hx] at h';cases h';simp only[Jx,beq_iff_eq] at hc;exact#[k₀,KB, .inr #[hc.1.1,KB]]
   .rw[GG hc] at h'
    simp only[KW,hx] at h';cases h';exact#[_,KB, .inl KB]
  |false=>
   simp only[KW,hx];by_cases hc:(k₀ == Mi&&sc.kind == .function&&sc.names.lookup n == GM .cell)=IN
   .rw[GI hc] at h'
    simp only[KW,hx] at h';exact ih h'
   .rw[GG hc] at h'
    simp only[KW,hx] at h';exact ih h'
structure pA (N:Gr Ha) (sc scope:Scope) (own:Gr (Ha×GQ)):Prop where
 kind:scope.kind= .function
 uniq: ∀y∈scope.names,scope.names.lookup y.1=GM y.2
 ix: ∀p∈own,N[p.2]?=GM p.1
 free: ∀y∈scope.names,y.2= .free->sc.names.lookup y.1=GM .cell\/sc.names.lookup y.1=GM .free
 own: ∀y∈scope.names,y.2= .local\/y.2= .cell->y.1∈own.map (·.1)\/y.1∉N
def dO (σ:St):Gr GQ->St
 |[]=>σ
 |v::vs=>(dO σ vs).set v Ix
theorem jf (σ:St): ∀vs:Gr GQ,(dO σ vs).length=σ.length
 |[]=>rfl
 |v::vs=>by unfold dO;rw[Gr.length_set,jf σ vs]
theorem lW {σ:St}{i:GQ}{x:V} : ∀ {vs:Gr GQ},(dO σ vs)[i]?=GM (GM x)->σ[i]?=GM (GM x)/\i∉vs
 |[],h=>#[h,by simp]
 |v::vs,h=>by
  unfold dO at h;by_cases hi:v=i
  .subst hi
   by_cases hv:v<(dO σ vs).length
   .rw[Ov hv] at h;cases h
   .rw[Te (by simpa using hv)] at h;cases h
  .rw[O9 hi] at h
   obtain⟨h1,h2⟩:=lW h;exact#[h1,by simp only[Hg,not_or];exact#[λe=>hi e.symm,h2]]
abbrev Cx.Q0 (X:Cx) (s:GH) (H:Hp) (scope:Scope) (LX:Env) (fp:Gr GB):Cx:= { X with P9:=s,H_0:=H,env:=LX,outer:=X.stack,ex:=fp,fn:=λx=>scope.names.lookup x == GM .cell,pn:=[],xe:=λ_ _=>False }
section
variable {X:Cx}{pins:Gr (GB×Kh)}{σ:St}{H:Hp}{s:GH}
def va {scope:Scope}{own:Gr (Ha×GQ)}{fp:Gr GB}(I:aP X pins σ H s) (ok:pA X.N X.env.scope scope own) (hN:X.N.Nodup) (hfp: ∀b∈fp,m7 X pins H b/\b<s.heap.objs.size):
  aP (X.Q0 s H scope (KA scope (Jz (s.heap.objs.size+1) scope.names (cw X.env.cells scope.names [])) s.heap.objs.size X.env) fp) [] (dO σ (own.map (·.2))) H { s with heap:=N5 (s.heap.push { cls:= .type "dict",data:= .dict [].toArray }) scope.names } :=by
 have Rn: ∀y∈scope.names,y.2= .free-> ∃c,X.env.cells.lookup y.1=GM c:=λy hy e=>by
  rcases ok.free y hy e with k|k
  .exact I.ok.has _ (.inl k)
  .exact I.ok.has _ (.inr k)
 generalize Sy:KA scope (Jz (s.heap.objs.size+1) scope.names (cw X.env.cells scope.names [])) s.heap.objs.size X.env=LX;have kp: ∀b o,s.heap.get? b=GM o->(N5 (s.heap.push { cls:= .type "dict",data:= .dict [].toArray }) scope.names).get? b=GM o:=λb o e=>Pq _ _ _ _ (GV _ e)
 have hL:LX.locals=s.heap.objs.size:=by rw[<-Sy];rfl
 have Z3:LX.cells=Jz (s.heap.objs.size+1) scope.names (cw X.env.cells scope.names []):=by rw[<-Sy];rfl
 have hsc:LX.scope=ajs scope X.env.scope:=by rw[<-Sy];rfl
 rw[<-Ju s.heap { cls:= .type "dict",data:= .dict [].toArray }] at Z3;have cm: ∀ {y c},(y,c)∈cw X.env.cells scope.names []->X.env.cells.lookup y=GM c/\c<s.heap.objs.size:=λ{y c} hm=>by
  rcases gN hm with hm|⟨h1,rfl⟩
  .cases hm
  .obtain⟨c,hc⟩:=Rn _ h1 KB
   rw[hc];obtain⟨w,z⟩:=I.cell _ _ hc;exact#[KB,z.lt]
 have mem: ∀ {y c},LX.cells.lookup y=GM c->(X.env.cells.lookup y=GM c/\c<s.heap.objs.size)\/(s.heap.objs.size+1<=c/\Cr (N5 (s.heap.push { cls:= .type "dict",data:= .dict [].toArray }) scope.names) c Ix):=λ{y c} e=>by
  rw[Z3] at e;rcases ip (Ij e) with hm|⟨_,h2,h3⟩
  .exact .inl (cm hm)
  .rw[Ju] at h2;exact .inr #[h2,h3]
 have look: ∀ {y},scope.names.lookup y=GM .free-> ∃c,LX.cells.lookup y=GM c/\X.env.cells.lookup y=GM c:=λ{y} hl=>by
  have hy:(y,Mi)∈scope.names:=Ij hl;obtain⟨c',e'⟩:=j3 (jE (names:=scope.names) (n:=(s.heap.push { cls:= .type "dict",data:= .dict [].toArray }).objs.size) (jv (cells:=X.env.cells) (acc:=[]) hy));rw[<-Z3] at e';refine#[c',e',?_];rw[Z3] at e';rcases ip (Ij e') with hm|⟨h1,_,_⟩
  .exact(cm hm).1
  .have:=ok.uniq _ h1
   rw[hl] at this;cases this
 have okB:(X.Q0 s H scope LX fp).Ok:=by
  refine#[I.ok.mod,by show LX.scope.kind=_;rw[hsc];exact ok.kind,by show LX.globals=_;rw[<-Sy];exact I.ok.glob,by show LX.builtins=_;rw[<-Sy];exact I.ok.blt,by show s.heap.objs.size<=LX.locals;rw[hL];exact GY _,
   λy z c e1 e2=>?_,λy hy=>?_,λy c z e=>?_,I.ok.hd,I.ok.frames, .inl KB,λb hb=>#[?_,λy c e z=>?_],I.bs,G0 I.ok.Ux I.sz,λb o e hb=>?_,λb hb z=>?_,I.stack,I.QI]
  .have e1:LX.cells.lookup y=GM c:=e1
   have e2:LX.cells.lookup z=GM c:=e2;rw[Z3] at e1 e2;refine mz (λp hp=>?_) (λy z c a b=>I.ok.inj y z c (cm a).1 (cm b).1) (Ij e1) (Ij e2)
   rw[Ju];exact Qx (cm (y:=p.1) (c:=p.2) hp).2
  .show∃c,LX.cells.lookup y=GM c
   have key: ∀k,LX.kindOf y=GM k->(k= .cell\/k= .free)-> ∃c,LX.cells.lookup y=GM c:=λk hk WI=>by
    unfold Env.kindOf at hk;rw[hsc] at hk;obtain⟨k',e,r⟩:=jz hk;have:k'= .cell\/k'= .free:=by
     rcases r with rfl|⟨rfl,_⟩
     .exact WI
     .exact .inr KB
    rcases this with rfl|rfl
    .obtain⟨c,hm⟩:=mx (n:=(s.heap.push { cls:= .type "dict",data:= .dict [].toArray }).objs.size) (acc:=cw X.env.cells scope.names []) (Ij e)
     obtain⟨c',e'⟩:=j3 hm;exact#[c',by rw[Z3];exact e']
    .obtain⟨c,h1,_⟩:=look e
     exact#[c,h1]
   rcases hy with hy|hy
   .exact key _ hy (.inl KB)
   .exact key _ hy (.inr KB)
  .have z:(scope.names.lookup y == GM Q6)=IN:=z
   have z:scope.names.lookup y=GM .cell:=by simpa using z
   have e:LX.cells.lookup y=GM c:=e;rw[Z3] at e;rcases ip (Ij e) with hm|⟨_,h2,_⟩
   .rcases gN hm with hm|⟨h1,_⟩
    .cases hm
    .have q:=ok.uniq _ h1
     rw[z] at q;cases q
   .rw[Ju] at h2
    exact N3 h2
  .show b≠LX.locals
   rw[hL];exact Ik (hfp b hb).2
  .have e:LX.cells.lookup y=GM c:=e
   rcases mem e with⟨h1,_⟩|⟨h1,_⟩
   .exact(hfp b hb).1.2.2.2.2.1 y c h1 z
   .have h2:s.heap.objs.size+1<=b:=by rw[<-z];exact h1
    exact G6 (Hl (hfp b hb).2 (N3 h2)) (Jp _)
  .rcases(hfp b hb).1.2.2.2.1 with z|z
   .exact I.ok.So b o e z
   .exact G6 (Hl (Hk e) (G0 I.ok.Ux z)) (Jp _)
  .rcases Hg.mp (I.RJ b z) with z|z
   .exact(hfp b hb).1.2.1 z
   .exact(hfp b hb).1.2.2.1 z
 refine#[okB,KB,I.bare,Un.kept kp,#[λ_=>Ix,?_,λi y av e1 e2 e3=>?_],λy c e=>?_,?_,λy c e=>?_,λp hp=>?_,I.JC.kept kp,by rw[jf];exact I.len]
 .show Im.Ns _ LX.locals _
  rw[hL];exact Im.Ns.keeps (Im.Ns.new ..) λb o e=>Pq _ _ _ _ e
 .obtain⟨e2,hne⟩:=lW e2
  have RZ:scope.names.lookup y=GM .free/\(LX.kindOf y=GM .cell\/LX.kindOf y=GM .free):=by
   have key: ∀k,LX.scope.names.lookup y=GM k->k= .local\/k= .cell\/k= .free->scope.names.lookup y=GM .free/\(LX.kindOf y=GM .cell\/LX.kindOf y=GM .free):=λk hk WI=>by
    have hk0:=hk;rw[hsc] at hk;obtain⟨k',e,r⟩:=jz hk
    have no: ¬(k'= .local\/k'= .cell):=λhh=>by
     rcases ok.own _ (Ij e) hh with e'|e'
     .obtain⟨p,hp,hpy⟩:=Nf.mp e'
      have e3:=ok.ix p hp
      have:p.1=y:=hpy;rw[this] at e3;exact hne (Nf.mpr #[p,hp,pK hN e3 e1])
     .exact e' (Iz e1)
    rcases r with rfl|⟨rfl,rfl⟩
    .rcases WI with rfl|rfl|rfl
     .exact G6 (.inl KB) no
     .exact G6 (.inr KB) no
     .exact#[e, .inr hk0]
    .exact#[e, .inl hk0]
   have e3:tu LX.scope y:=e3;rcases e3 with e3|e3|e3
   .exact key _ e3 (.inl KB)
   .exact key _ e3 (.inr (.inl KB))
   .exact key _ e3 (.inr (.inr KB))
  obtain⟨m,hn,hl⟩:=I.loc;have ajt:tu X.env.scope y:=(ok.free _ (Ij RZ.1) KB).elim (λk=> .inr (.inl k)) (λk=> .inr (.inr k))
  obtain⟨w,r,q⟩:=hl i y av e1 e2 ajt;refine#[w,r, .inr #[RZ.2,?_]];obtain⟨c,h1,h2⟩:=look RZ.1;rcases q with⟨k,_⟩|⟨_,c',e',z⟩
  .have k:X.env.scope.names.lookup y=GM .local:=k
   rcases ok.free _ (Ij RZ.1) KB with k'|k'<;>rw[show X.env.scope.names.lookup y=_ from k'] at k<;>cases k
  .rw[h2] at e';cases e'
   exact#[c,h1,z.keeps kp]
 .have e:LX.cells.lookup y=GM c:=e
  rcases mem e with⟨h1,_⟩|⟨_,z⟩
  .obtain⟨w,z⟩:=I.cell y c h1
   exact#[w,z.keeps kp]
  .exact#[_,z]
 .show H LX.locals=Ix
  rw[hL];exact I.JC.fresh (GY _)
 .have e:LX.cells.lookup y=GM c:=e
  rcases mem e with⟨h1,_⟩|⟨h1,_⟩
  .exact I.MS y c h1
  .exact I.JC.fresh (N3 h1)
 .exact G6 (show p∈([]:Gr (GB×Kh))++[] from hp) (by simp)
def Z4 {E:GC->GH->Prop}{xs:Gr V}{y:V}{v:GC}{Q:GC->GH->Prop}(I:aP X pins σ H s) (hD:H D=GM (.lst xs)) (hz:xs.length<GZ) (r:bD y v)
  (h: ∀s',aP X pins σ (bf H D (.lst (xs++[y]))) s'->Q .none s'):Hq (model X.prog X.w) X.A (call (.builtin "list.append") [.ref D,v]) Q E s:=by
 obtain⟨hz',Jl,n,ri,e⟩:=I.JC D _ hD;have hl:=ri.length;refine append_at (hsz:=by rw[Hz];lia) e λh' sb QH=>?_;refine h { s with heap:=h' } (I.write (t':=s.toks) (by rw[hD];trivial) (.inl KB) (λb u hb q=>(sb.2 b hb).trans q) #[_,QH] #[by rw[Gw];exact hz,Jl++[v],n+1,ri.append (.cons r .nil),?_]);rw[QH];simp
def PTs (X:Cx) (ifs:Gr Jc) (t:TT):Prop:=
 ∀(pins:Gr (GB×Kh)) (s:GH) (σ:St) (H:Hp) (Q:HK->Hp->Prop),aP X pins σ H s->t σ H Q->
  Hq (model X.prog X.w) X.A (forIn ifs IN λc r=>if r=IN then do let ok<-isTrue c X.env (eval c X.env);pure (N8 ok) else pure (N8 r)) (TP X pins σ Q) X.xe s
def qc:TT:=λ_ H Q=>Q IN H
def lc:PTs X [] qc:=λ_ _ _ H _ I h=>wpAny_tests_nil #[H,I,h]
end
def zI {α:Type}{t:Sem α}{Q Q':α->GH->Prop}{A:IE}{E:GC->GH->Prop}{s:GH}(h:Hq M A t Q (λ_ _=>False) s) (hQ: ∀a s,Q a s->Q' a s):Hq M A t Q' E s:=JQ h hQ λ_ _ z=>JW z
def sx {prog:Hr}{w:HW}{A:IE}{R:Result->GH->Prop}{s:GH}{elt target Mv:Jc}{scope:Scope}{pos:Pos}{it acc:GC}{env:Env}(I:GQ->GH->Prop)
  (turn: ∀n s,I n s->Hq (model prog w) A (pyNext it) (λr s₁=>match r with
   |none=>R (.ok .next) s₁
   |some v=>Hq (model prog w) A (Pp target it v) (λ_ s₁'=>Hq (model prog w) A (assign target env v) (λ_ s₂=>
     Hq (model prog w) A (forIn ifs IN λc r=>if r=IN then do let ok<-isTrue c env (eval c env);pure (N8 ok) else pure (N8 r)) (λok s₃=>
      if ok=IN then Hq (model prog w) A (eval elt env) (λx s₄=>
       Hq (model prog w) A (call (.builtin "list.append") [acc,x]) (λ_ s₅=> ∃m,m<n/\I m s₅) (S9 (model prog w) A env λe s'=>R (.error e) s') s₄) (S9 (model prog w) A env λe s'=>R (.error e) s') s₃
      else∃m,m<n/\I m s₃) (S9 (model prog w) A env λe s'=>R (.error e) s') s₂) (S9 (model prog w) A env λe s'=>R (.error e) s') s₁') (S9 (model prog w) A env λe s'=>R (.error e) s') s₁) (S9 (model prog w) A env λe s'=>R (.error e) s') s)
  (n:GQ) (h:I n s):
  ME (model prog w) A (.compLoop (.ListComp elt [#[target,Mv,ifs,0]] scope pos) 0 it acc env) R s:=by
 refine codeAny_loop KB I (λn s hI=>?_) n h;show Hq _ A ((compTurn (.ListComp elt [#[target,Mv,ifs,0]] scope pos) 0 it acc env).onRaise (λx=>do Qk x env;theTreesLotGoes x)) _ _ s;refine wpAny_noted ?_;rw[compTurn_list];refine Hi (Nb (Hi (JQ (turn n s hI) (λr s₁ h₁=>?_) λ_ _ h'=>h')));cases r with
 |none=>exact HX h₁
 |some v=>
  refine Hi (JQ h₁ (λ_ s₁' h₁'=>?_) λ_ _ h'=>h');refine Hi (JQ h₁' (λ_ s₂ h₂=>Hi (JQ h₂ (λok s₃ h₃=>?_) λ_ _ h'=>h')) λ_ _ h'=>h');cases ok with
  |false=>exact HX #[KB,h₃]
  |true=>
   exact Hi (Hi (JQ h₃ (λx s₄ h₄=>Hi (JQ h₄ (λ_ s₅ h₅=>HX (HX #[KB,h₅])) λ_ _ h'=>h')) λ_ _ h'=>h'))
section
variable {X:Cx}
def EZ (wi:TI) (g:TG) (tt:TT) (te:TE) (vs:Gr GQ):TE:=λσ H Q=>wi σ H λJ H1=> ∀D,H1 D=Ix-> ∃W:GQ->GQ->Hp->Prop,(∃m,W 0 m (bf H1 D (.lst [])))/\ ∀i m H,W i m H->
 (J.stop i H/\Q (.ref D) H)\/(J.go i H/\ ∃Nx:Hp->Prop,(∀H',Nx H'-> ∃m',m'<m/\W (i+1) m' H')/\ ∀x H',J.Xl i H x H'->g x (dO σ vs) H' λσ2 H2=>dO σ2 vs=dO σ vs/\tt σ2 H2 λb H3=>
  if b=IN then te σ2 H3 λy H4=> ∃acc,H4 D=GM (.lst acc)/\acc.length<GZ/\Nx (bf H4 D (.lst (acc++[y]))) else Nx H3)
def yR {pins:Gr (GB×Kh)}{s:GH}{σ:St}{H:Hp}{Q:VK}{elt tg Mv:Jc}{ifs:Gr Jc}{scope:Scope}{own:Gr (Ha×GQ)}{pos NZ:Pos}{wi:TI}{g:TG}{tt:TT}{te:TE}{use:GJ (GC->Sem Nq)}{Qf:GC->GH->Prop}
  (hc:X.calm=IN) (hN:X.N.Nodup) (I:aP X pins σ H s) (hi:PI X tg Mv wi) (ok:pA X.N X.env.scope scope own)
  (hg: ∀(s:GH) (H:Hp) (C:GB) (cl:Gr (Ha×GB)) (fp:Gr GB),PG (X.Q0 s H scope (KA scope cl C X.env) fp) tg g) (ht: ∀(s:GH) (H:Hp) (C:GB) (cl:Gr (Ha×GB)) (fp:Gr GB),PTs (X.Q0 s H scope (KA scope cl C X.env) fp) ifs tt)
  (he: ∀(s:GH) (H:Hp) (C:GB) (cl:Gr (Ha×GB)) (fp:Gr GB),PE (X.Q0 s H scope (KA scope cl C X.env) fp) elt te) (hs: ∀x,KQ Mv X.env x=pure x)
  (h:EZ wi g tt te (own.map (·.2)) σ H Q)
  (hRR: ∀D C s' m H',aP X pins σ H' s'->Q (.ref D) H'->s'.heap.Ns C m->m7 X pins H' C->compPost (model X.prog X.w) X.A X.xe use Qf (.ref D) C (.ok .next) s'):
  Hq (model X.prog X.w) X.A (comprehension (.ListComp elt [#[tg,Mv,ifs,0]] scope pos) scope X.env NZ (newList []) IR (eval Mv X.env) use) Qf X.xe s:=by
 have Rn: ∀y∈scope.names,y.2= .free-> ∃c,X.env.cells.lookup y.1=GM c:=λy hy e=>by
  rcases ok.free y hy e with k|k
  .exact I.ok.has _ (.inl k)
  .exact I.ok.has _ (.inr k)
 refine wpAny_comprehension_free (use:=use) KB hs (wC Rn) ok.kind (λy hy e=>by rw[ok.uniq y hy,e])
  (cG (hi pins s σ H _ I h) λxv s1 hx=>cG hx λitv s2 h2=>?_)
 obtain⟨it,fp,tn,J,H2,e,I2,T,st2,f2,q⟩:=h2;subst e;refine wpAny_newObj_type (tH ?_) (by show 0<=GZ;decide);generalize hD:s2.heap.objs.size=D;have hDn:H2 D=Ix:=I2.JC.fresh (OD hD);obtain⟨W,⟨m0,w0⟩,turn⟩:=q D hDn;generalize hs3:({ s2 with heap:=s2.heap.push { cls:= .type "list",data:= .seq ([]:Gr GC).toArray } } :GH)=s3;have I3:aP X pins σ (bf H2 D (.lst [])) s3:=by
  rw[<-hs3];refine I2.laid (t':=s2.toks) (λb o e=>GV _ e) (OD hD) #[HG _,[],0, .nil,?_];rw[<-hD];exact Iu _ KB
 have h3:s3.heap=s2.heap.push { cls:= .type "list",data:= .seq ([]:Gr GC).toArray } :=by rw[<-hs3]
 have sz: ∀b∈fp,b<s2.heap.objs.size:=λb hb=>by
  obtain⟨o,e,_⟩:=T.obj _ _ st2 b hb;exact Hk e
 have f3: ∀b∈fp,m7 X pins (bf H2 D (.lst [])) b/\b<s3.heap.objs.size:=λb hb=>by
  have RW:=sz b hb;refine#[#[?_,(f2 b hb).2],by rw[h3,Ju];exact Qx RW];rw[af (by rw[<-hD];exact Ik RW)];exact(f2 b hb).1
 have st3:tn 0 s3.heap:=T.keep _ _ _ st2 λb _ o e=>by rw[h3];exact GV _ e
 have I4:=va I3 ok hN f3
 have pg:=hg s3 (bf H2 D (.lst [])) s3.heap.objs.size (Jz (s3.heap.objs.size+1) scope.names (cw X.env.cells scope.names [])) fp
 have pt:=ht s3 (bf H2 D (.lst [])) s3.heap.objs.size (Jz (s3.heap.objs.size+1) scope.names (cw X.env.cells scope.names [])) fp
 have pe:=he s3 (bf H2 D (.lst [])) s3.heap.objs.size (Jz (s3.heap.objs.size+1) scope.names (cw X.env.cells scope.names [])) fp
 show ME _ _ (.compStart (.ListComp elt [#[tg,Mv,ifs,0]] scope pos) 0 (.ref it) (.ref D) (KA scope (Jz (s3.heap.objs.size+1) scope.names (cw X.env.cells scope.names [])) s3.heap.objs.size X.env)) (compPost (model X.prog X.w) X.A X.xe use Qf (.ref D) s3.heap.objs.size) { s3 with heap:=N5 (s3.heap.push { cls:= .type "dict",data:= .dict [].toArray }) scope.names }
 have nfp: ∀b∈fp,(bf H2 D (.lst [])) b=Ix:=λb hb=>(f3 b hb).1.1
 generalize hce:KA scope (Jz (s3.heap.objs.size+1) scope.names (cw X.env.cells scope.names [])) s3.heap.objs.size X.env=ce at I4 pg pt pe ⊢;have cL:ce.locals=s3.heap.objs.size:=by subst hce;rfl
 generalize hH3:bf H2 D (.lst [])=H3 at I3 I4 pg pt pe w0 nfp f3;generalize hs4:({ s3 with heap:=N5 (s3.heap.push { cls:= .type "dict",data:= .dict [].toArray }) scope.names } :GH)=s4 at I4 ⊢;have st4:tn 0 s4.heap:=T.keep _ _ _ st3 λb _ o e=>by rw[<-hs4];exact Pq _ _ _ _ (GV _ e)
 have TN: ∀ {σ':St}{H':Hp}{s':GH},aP (X.Q0 s3 H3 scope ce fp) [] σ' H' s'->(∀b∈fp,H' b=Ix)-> ∀b∈fp,m7 (X.Q0 s3 H3 scope ce fp) [] H' b:=λ{σ' H' s'} I' hn b hb=>
  #[hn b hb,(I'.ok.ZG b hb).1,I'.ok.Sq b hb, .inl hb,λx c e=>(I'.ok.ZG b hb).2 x c e,λp hp=>G6 (show p∈([]:Gr (GB×Kh))++[] from hp) (by simp)]
 have loop:ME (model X.prog X.w) X.A (.compLoop (.ListComp elt [⟨tg,Mv,ifs,0⟩] scope pos) 0 (.ref it) (.ref D) ce) (compPost (model X.prog X.w) X.A X.xe use Qf (.ref D) s3.heap.objs.size) s4:=by
  refine sx (λn s'=> ∃i H',aP (X.Q0 s3 H3 scope ce fp) [] (dO σ (own.map (·.2))) H' s'/\tn i s'.heap/\(∀b∈fp,H' b=Ix)/\W i n H') ?_ m0 #[0,H3,I4,st4,nfp,w0];rintro n s5 ⟨i,H5,I5,st5,n5,w5⟩;rcases turn i n H5 w5 with⟨stop,qq⟩|⟨go,Nx,hNx,step⟩
  .have td:=T.done (X.Q0 s3 H3 scope ce fp) KB KB KB hc i [] s5 _ H5 (λ_ _=>False) I5 (TN I5 n5) st5 stop
   refine zI td λr s6 ⟨hr,I6⟩=>?_;subst hr;have I7:aP X pins σ H5 s6:=I3.VH (ch:=fp) I6.os I6.base I6.JC I6.bare λb hb=>#[(f3 b hb).1.2.2.2.1,(f3 b hb).1.2.1,(f3 b hb).1.2.2.2.2.1,(f3 b hb).1.2.2.2.2.2]
   have nC:H5 s3.heap.objs.size=Ix:=by
    have z:H5 ce.locals=Ix:=I6.free;rw[cL] at z;exact z
   obtain⟨m,hn,_⟩:=I6.loc;have hn:s6.heap.Ns ce.locals m:=hn;rw[cL] at hn;exact hRR D s3.heap.objs.size s6 m H5 I7 qq hn (I3.WH (GY _) nC)
  .have ti:=T.item (X.Q0 s3 H3 scope ce fp) KB KB KB hc i [] s5 _ H5 (λ_ _=>False) I5 (TN I5 n5) st5 go
   refine zI ti λr s6 ⟨u,hr,h6⟩=>?_;subst hr;refine zI h6 λ_ s7 ⟨x,H7,I7,r7,y7,st7,n7⟩=>?_;have I7':=I7.pinned (TN I7 n7) (T.obj _ _ st7);refine zI (pg _ s7 _ H7 x u _ I7' r7 (step x H7 y7)) λ_ s8 ⟨σ8,H8,I8,hw8,q8⟩=>?_;refine zI (pt _ s8 σ8 H8 _ I8 q8) λb s9 ⟨H9,I9,q9⟩=>?_;have fin: ∀ {s':GH}{H':Hp},aP (X.Q0 s3 H3 scope ce fp) ([]++nW fp s7.heap) σ8 H' s'->Nx H'-> ∃m,m<n/\ ∃i H',aP (X.Q0 s3 H3 scope ce fp) [] (dO σ (own.map (·.2))) H' s'/\tn i s'.heap/\(∀b∈fp,H' b=Ix)/\W i m H':=λ{s' H'} I' nx=>by
    obtain⟨m',hm,w'⟩:=hNx H' nx;have aeH: ∀b∈fp,∀o,s7.heap.get? b=GM o->s'.heap.get? b=GM o/\H' b=Ix:=λb hb o e=>
     let z:=I'.pin (b,o) (JD _ (JD _ (j4 hb e)))
     #[z.1,z.2.1]
    have hl:(dO σ (own.map (·.2))).length=σ8.length:=by rw[<-hw8,jf]
    refine#[m',hm,i+1,H',(I'.P0 (pins:=[])).weak hl (λj v e=>?_),T.keep _ _ _ st7 λb hb o e=>(aeH b hb o e).1,λb hb=>?_,w']
    .rw[<-hw8] at e
     exact(lW e).1
    .obtain⟨o,e,_⟩:=T.obj _ _ st7 b hb
     exact(aeH b hb o e).2
   cases b with
   |false=>
    simp only[J6,Nl] at q9 ⊢;exact fin I9 q9
   |true=>
    simp only[S7] at q9 ⊢;refine zI (pe _ s9 σ8 H9 _ I9 q9) λz s10 ⟨yv,H10,I10,r10,acc,aju,ajv,nx⟩=>?_;exact Z4 (X:=X.Q0 s3 H3 scope ce fp) I10 aju ajv r10 λs11 I11=>fin I11 nx
 exact codeAny_compStart_list loop (T.self X.A 0 _ _ _ st4 loop)
def yL {elt tg Mv:Jc}{scope:Scope}{pos:Pos}{g:TG}{tt:TT}{te:TE}(hc:X.calm=IN) (hN:X.N.Nodup) (hi:PI X tg Mv wi) (ok:pA X.N X.env.scope scope own)
  (hg: ∀(s:GH) (H:Hp) (C:GB) (cl:Gr (Ha×GB)) (fp:Gr GB),PG (X.Q0 s H scope (KA scope cl C X.env) fp) tg g) (ht: ∀(s:GH) (H:Hp) (C:GB) (cl:Gr (Ha×GB)) (fp:Gr GB),PTs (X.Q0 s H scope (KA scope cl C X.env) fp) ifs tt)
  (he: ∀(s:GH) (H:Hp) (C:GB) (cl:Gr (Ha×GB)) (fp:Gr GB),PE (X.Q0 s H scope (KA scope cl C X.env) fp) elt te) (hs: ∀x,KQ Mv X.env x=pure x:=by intro _;rfl):
  PE X (.ListComp elt [#[tg,Mv,ifs,0]] scope pos) (EZ wi g tt te (own.map (·.2))):=by
 intro pins s σ H Q I h;rw[eval_ListComp];refine yR hc hN I hi ok hg ht he hs h λD C s' m H' I' q hn f=>#[m,hn,λh'' sb=>?_];obtain⟨f0,f1,f2,f3,f4,f5⟩:=f;exact#[.ref D,H',I'.turned (t':=s'.toks) (λb o hb e=>(sb.2 b hb).trans e) f0 f1 f3 f4 f5,KB,q]
def BF {i:GQ}{y:Ha}{elt tg Mv:Jc}{scope:Scope}{pos aeI:Pos}{g:TG}{tt:TT}{te:TE}(hc:X.calm=IN) (hN:X.N.Nodup) (hy:X.N[i]?=GM y) (hyl:X.env.scope.names.lookup y=GM .local)
  (hsw:Lf (.ListComp elt [#[tg,Mv,ifs,0]] scope pos) (GM (.Name y py)) aeI.line X.env=pure IN) (hi:PI X tg Mv wi) (ok:pA X.N X.env.scope scope own)
  (hg: ∀(s:GH) (H:Hp) (C:GB) (cl:Gr (Ha×GB)) (fp:Gr GB),PG (X.Q0 s H scope (KA scope cl C X.env) fp) tg g) (ht: ∀(s:GH) (H:Hp) (C:GB) (cl:Gr (Ha×GB)) (fp:Gr GB),PTs (X.Q0 s H scope (KA scope cl C X.env) fp) ifs tt)
  (he: ∀(s:GH) (H:Hp) (C:GB) (cl:Gr (Ha×GB)) (fp:Gr GB),PE (X.Q0 s H scope (KA scope cl C X.env) fp) elt te) (hs: ∀x,KQ Mv X.env x=pure x:=by intro _;rfl):
  PS X (.Assign [.Name y py] (.ListComp elt [#[tg,Mv,ifs,0]] scope pos) aeI) (BV (EZ wi g tt te (own.map (·.2))) (gI i)):=by
 intro pins s σ H D I h;rw[exec_Assign_Name_used _ _ _ _ hsw];refine Hi (Nb (Hi ?_));show Hq _ X.A (do let _<-comprehension (.ListComp elt [#[tg,Mv,ifs,0]] scope pos) scope X.env (firstIterPos [#[tg,Mv,ifs,0]] pos) (newList []) IR (eval Mv X.env) (GM (assign (.Name y py) X.env))) _ _ s;have h:EZ wi g tt te (own.map (·.2)) σ H (λx H1=>gI i x σ H1 D.nx):=h
 refine Hi (cG (yR (Qf:=λ_ s'=>SP X pins D .next s') hc hN I hi ok hg ht he hs h λL C s' m H' I' q hn f=>?_) λ_ s' hq=>HX (HX hq));show Hq _ _ (assign (.Name y py) X.env (.ref L)) _ _ _;refine wpAny_assign_Name (qU (v:=V.ref L) I' hN hy (.inl hyl) KB (λs2 I2 ⟨a,sb,ha⟩=>?_) (.inr hyl));obtain⟨f0,f1,f2,f3,f4,f5⟩:=f;have haC:C≠a:=by
  rcases ha with z|z
  .rw[z];exact f1
  .exact λe=>f4 y a z e.symm
 refine#[m,hn.sameBut sb haC,λh3 sb3=>?_];exact#[_,H',I2.turned (t':=s2.toks) (λb o hb e=>(sb3.2 b hb).trans e) f0 f1 f3 f4 f5,q]
def nF {elt:Jc}{scope:Scope}{pos py:Pos}{y:Ha}{l:GQ}{env:Env}(hk:env.scope.kind= .function) (hy:env.scope.names.lookup y=GM .local) (hl:(py.line == pos.line)=IN)
  (ha:(scope.names.any λ(n,k)=>n == y&&(k == .local||k == .cell))=IR):Lf (.ListComp elt gs scope pos) (GM (.Name y py)) l env=pure IN:=by
 have ky:env.kindOf y=GM .local:=hy
 have hb:env.blockKind= .function:=by unfold Env.blockKind;rw[hk];rfl
 unfold Lf;simp only[hb,ky,ha,Jc.pos,hl]
 rfl
end
def rp {K:Gy}{a:GB}{xs:Gr V}{g:TG}{tt:TT}{te:TE}{σ:St}{H1:Hp}{Qd:Hp->Prop}(Pv:GQ->Hp->Prop) (h0:Pv 0 (bf H1 D (.lst []))) (hl: ∀i H,i<=xs.length->Pv i H->cJ K H a xs)
  (hs: ∀i x H,xs[i]?=GM x->Pv i H->g x (dO σ vs) H λσ2 H2=>dO σ2 vs=dO σ vs/\tt σ2 H2 λb H3=>
   if b=IN then te σ2 H3 λy H4=> ∃acc,H4 D=GM (.lst acc)/\acc.length<GZ/\Pv (i+1) (bf H4 D (.lst (acc++[y]))) else Pv (i+1) H3) (hd: ∀H,Pv xs.length H->Qd H):
  ∃W:GQ->GQ->Hp->Prop,(∃m,W 0 m (bf H1 D (.lst [])))/\ ∀i m H,W i m H->
   ((Xn K a).stop i H/\Qd H)\/((Xn K a).go i H/\ ∃Nx:Hp->Prop,(∀H',Nx H'-> ∃m',m'<m/\W (i+1) m' H')/\ ∀x H',(Xn K a).Xl i H x H'->g x (dO σ vs) H' λσ2 H2=>dO σ2 vs=dO σ vs/\tt σ2 H2 λb H3=>
    if b=IN then te σ2 H3 λy H4=> ∃acc,H4 D=GM (.lst acc)/\acc.length<GZ/\Nx (bf H4 D (.lst (acc++[y]))) else Nx H3):=by
 refine#[λi m H=>m=xs.length-i/\i<=xs.length/\Pv i H,#[xs.length,by simp,HG _,h0],?_];rintro i m H ⟨rfl,hi,p⟩;have q:=hl i H hi p;by_cases RW:i<xs.length
 .refine .inr #[#[xs,xs[i],q,by simp [RW]],Pv (i+1),λH' p'=>#[xs.length-(i+1),by lia,KB,RW,p'],λx H' y=>?_]
  obtain⟨e,y⟩:=y;subst e;exact hs i x _ (y xs q) p
 .have e:i=xs.length:=by lia
  subst e;exact .inl #[#[xs,q,GY _],hd H p]
def m6 (N:Gr Ha) (sc scope:Scope) (own:Gr (Ha×GQ)):HK:=
 (match scope.kind with| .function=>IN|_=>IR)&&(scope.names.all λy=>decide (scope.names.lookup y.1=GM y.2))&&(own.all λp=>decide (N[p.2]?=GM p.1))&&
  (scope.names.all λy=>match y.2 with
   | .free=>(match sc.names.lookup y.1 with|some .cell=>IN|some .free=>IN|_=>IR)
   | .local=>decide (y.1∈own.map (·.1))||decide (y.1∉N)
   | .cell=>decide (y.1∈own.map (·.1))||decide (y.1∉N)
   |_=>IN)
def eE {sc scope:Scope}(h:m6 N sc scope own=IN):pA N sc scope own:=by
 unfold m6 at h;simp only[Jx,LG,Ow] at h;obtain⟨⟨⟨h1,h2⟩,h3⟩,h4⟩:=h;refine#[?_,h2,h3,λy hy e=>?_,λy hy e=>?_]
 .split at h1
  .assumption
  .cases h1
 .have q:=h4 y hy
  simp only[e] at q;split at q<;>first|exact .inl (by assumption)|exact .inr (by assumption)|cases q
 .have q:=h4 y hy
  rcases e with e|e<;>(simp only[e,OB,Ow] at q;exact q)
section
variable {κ:Type} [DecidableEq κ]
def cT (IB:Gr (κ×V)) (k:κ):GJ V:=(IB.find? λkv=>decide (kv.1=k)).map (·.2)
def fX (IB:Gr (κ×V)) (k:κ) (v:V):Gr (κ×V):=
 if(IB.any λkv=>decide (kv.1=k))=IN then IB.map (λkv=>if kv.1=k then(kv.1,v) else kv) else IB++[(k,v)]
def f7 (IB:Gr (κ×V)) (k:κ):Gr (κ×V):=IB.filter λkv=>decide (kv.1≠k)
def cO {p:κ×V}{r:Gr (κ×V)}{k:κ}(e:p.1=k):cT (p::r) k=GM p.2:=by simp [cT,IC,e]
def cF {p:κ×V}{r:Gr (κ×V)}{k:κ}(e: ¬p.1=k):cT (p::r) k=cT r k:=by simp [cT,IC,e]
theorem lw (k:κ): ∀IB:Gr (κ×V),(IB.any λkv=>decide (kv.1=k))=(cT IB k).isSome
 |[]=>rfl
 |p::r=>by
  rw[Ka];by_cases e:p.1=k
  .simp only[cO e,HC e,Ta,T1]
  .rw[cF e,He e,PL];exact lw k r
theorem vM (k j:κ) (y:V): ∀IB:Gr (κ×V),cT (IB.map λkv=>if kv.1=k then(kv.1,y) else kv) j=(cT IB j).map λx=>if j=k then y else x
 |[]=>rfl
 |p::r=>by
  have ih:=vM k j y r;rw[G8];by_cases h:p.1=k
  .rw[GI h]
   by_cases e:p.1=j
   .rw[cO (p:=(p.1,y)) e,cO e,MQ,GI (e.symm.trans h)]
   .rw[cF (p:=(p.1,y)) e,cF e,ih]
  .rw[GG h]
   by_cases e:p.1=j
   .rw[cO (p:=p) e,cO e,MQ,GG (λz=>h (e.trans z))]
   .rw[cF (p:=p) e,cF e,ih]
theorem rn (k j:κ) (y:V): ∀IB:Gr (κ×V),cT IB k=Ix->cT (IB++[(k,y)]) j=if j=k then GM y else cT IB j
 |[],_=>by
  by_cases e:k=j
  .rw[GI e.symm];exact cO (p:=(k,y)) e
  .rw[GG (λz=>e z.symm)];exact cF (p:=(k,y)) e
 |p::r,hn=>by
  rw[Jo];have hk: ¬p.1=k:=λz=>by rw[cO z] at hn;cases hn
  rw[cF hk] at hn;have ih:=rn k j y r hn;by_cases e:p.1=j
  .rw[cO e,cO e,GG (λz=>hk (e.trans z))]
  .rw[cF e,cF e,ih]
def uO (IB:Gr (κ×V)) (k j:κ) (y:V):cT (fX IB k y) j=if j=k then GM y else cT IB j:=by
 unfold fX;by_cases a:(IB.any λkv=>decide (kv.1=k))=IN
 .rw[GI a,vM]
  rw[lw] at a;by_cases e:j=k
  .obtain⟨x,hx⟩:=LK.mp a
   rw[GI e,e,hx,MQ,GI KB]
  .rw[GG e]
   cases cT IB j with
   |none=>rfl
   |some x=>rw[MQ,GG e]
 .rw[GG a]
  refine rn k j y IB ?_;rw[lw] at a;cases q:cT IB k with
  |none=>rfl
  |some x=>rw[q] at a;exact(a KB).elim
def fR (IB:Gr (κ×V)) (k:κ) (v:V):(fX IB k v).length<=IB.length+1:=by
 unfold fX;split
 .rw[GK];lia
 .rw[Gw,Gv,GU];lia
def gA.Mo {o:GJ V}{u:GJ GC}(r:gA o u):o.isSome=u.isSome:=by
 cases o with
 |none=>cases u with
  |none=>rfl
  |some _=>exact(show False from r).elim
 |some _=>cases u with
  |none=>exact(show False from r).elim
  |some _=>rfl
def KV.val {IB:Gr (κ×V)}(r:KV IB vs) (k:κ):gA (cT IB k) (Qp vs k):=by
 unfold KV at r
 induction r with
 |nil=>exact IS
 | @cons p q ps qs h t ih=>
  obtain⟨h1,h2⟩:=h;by_cases e:p.1=k
  .have e':q.1=k:=h1.symm.trans e
   have b:Qp (q::qs) k=GM q.2:=by simp [Qp,IC,e']
   rw[cO e,b];exact h2
  .have e': ¬q.1=k:=λz=>e (h1.trans z)
   have b:Qp (q::qs) k=Qp qs k:=by simp [Qp,IC,e']
   rw[cF e,b];exact ih
theorem KV.any {IB:Gr (κ×V)}(r:KV IB vs) (k:κ):(IB.any λkv=>decide (kv.1=k))=vs.any λkv=>decide (kv.1=k):=by
 unfold KV at r
 induction r with
 |nil=>rfl
 |cons h t ih=>rw[Ka,Ka,ih,h.1]
def KV.Z5 {IB:Gr (κ×V)}(r:KV IB vs) (k:κ) {y:V}{u:GC}(ry:bD y u):
  KV (IB.map λkv=>if kv.1=k then(kv.1,y) else kv) (vs.map λkv=>if kv.1=k then(kv.1,u) else kv):=by
 unfold KV at r ⊢
 induction r with
 |nil=>exact .nil
 | @cons p q ps qs h t ih=>
  rw[G8,G8];refine .cons ?_ ih;obtain⟨h1,h2⟩:=h;by_cases e:p.1=k
  .rw[GI e,GI (h1.symm.trans e)];exact#[h1,ry]
  .rw[GG e,GG (λz=>e (h1.trans z))];exact#[h1,h2]
def KV.put {IB:Gr (κ×V)}(r:KV IB vs) (k:κ) {y:V}{u:GC}(ry:bD y u):KV (fX IB k y) (stored vs k u):=by
 unfold fX stored;rw[r.any k];by_cases e:(vs.any λkv=>decide (kv.1=k))=IN
 .rw[GI e,GI e];exact r.Z5 k ry
 .rw[GG e,GG e];exact YC r #[KB,ry]
def KV.drop {IB:Gr (κ×V)}(r:KV IB vs) (k:κ):KV (f7 IB k) (without vs k):=by
 unfold KV at r ⊢;unfold f7 without
 induction r with
 |nil=>exact .nil
 | @cons p q ps qs h t ih=>
  obtain⟨h1,h2⟩:=h;rw[QF,QF];by_cases e:p.1=k
  .have a: ¬decide (p.1≠k)=IN:=by simp [e]
   have b: ¬decide (q.1≠k)=IN:=by simp [h1.symm.trans e]
   rw[GG a,GG b];exact ih
  .have e': ¬q.1=k:=λz=>e (h1.trans z)
   have a:decide (p.1≠k)=IN:=by simp [e]
   have b:decide (q.1≠k)=IN:=by simp [e']
   rw[GI a,GI b];exact .cons #[h1,h2] ih
theorem KV.length {IB:Gr (κ×V)}(r:KV IB vs):IB.length=vs.length:=Rm r
def Es (IB:Gr (κ×V)) (k:κ):(f7 IB k).length<=IB.length:=OW _ _
end
def pk {P:Hr}{w:HW}{k:cf}{u:GC}(r:bD (kV k) u):(bK P w).is k u=IN:=by
 cases k with
 |inl i=>obtain⟨t,e⟩:=(show∃t,u=Lk i t from r);subst e;exact uA P w i t
 |inr x=>obtain⟨t,e⟩:=(show∃t,u=Pc x t from r);subst e;exact uU P w x t
theorem qA {P:Hr}{w:HW} : ∀ {ks:Gr cf}{us:Gr GC},bH (ks.map kV) us->ItemsAre (bK P w) ks us
 |[],_,r=>by rw[Gr.map_nil] at r;cases r;exact .nil
 |k::ks,_,r=>by
  rw[G8] at r;cases r with
  |cons h t=>exact .cons (pk h) (qA t)
abbrev KT (H:Hp):Gr (Gr cf×V)->Gr (Gr cf×GB×GC)->Prop:=Paired λp q=>p.1=q.1/\H q.2.1=GM (.tup (p.1.map kV))/\bD p.2 q.2.2
def KT.val {H:Hp}{IB:Gr (Gr cf×V)}{xs:Gr (Gr cf×GB×GC)}(r:KT H IB xs) (k:Gr cf):gA (cT IB k) ((Ra xs k).map (·.2)):=by
 induction r with
 |nil=>exact IS
 | @cons p q ps qs h t ih=>
  obtain⟨h1,_,h2⟩:=h;by_cases e:p.1=k
  .have e':q.1=k:=h1.symm.trans e
   have b:Ra (q::qs) k=GM q.2:=by simp [Ra,IC,e']
   rw[cO e,b];exact h2
  .have e': ¬q.1=k:=λz=>e (h1.trans z)
   have b:Ra (q::qs) k=Ra qs k:=by simp [Ra,IC,e']
   rw[cF e,b];exact ih
def KT.Z5 {H:Hp}{IB:Gr (Gr cf×V)}{xs:Gr (Gr cf×GB×GC)}(r:KT H IB xs) (k:Gr cf) {y:V}{u:GC}(ry:bD y u):
  KT H (IB.map λkv=>if kv.1=k then(kv.1,y) else kv) (xs.map (putAt k u)):=by
 induction r with
 |nil=>exact .nil
 | @cons p q ps qs h t ih=>
  rw[G8,G8];refine .cons ?_ ih;obtain⟨h1,h2,h3⟩:=h;unfold putAt;by_cases e:p.1=k
  .rw[GI e,GI (h1.symm.trans e)];exact#[h1,h2,ry]
  .rw[GG e,GG (λz=>e (h1.trans z))];exact#[h1,h2,h3]
def KT.put {H:Hp}{IB:Gr (Gr cf×V)}{xs:Gr (Gr cf×GB×GC)}(r:KT H IB xs) (k:Gr cf) {b:GB}{y:V}{u:GC}(hb:H b=GM (.tup (k.map kV))) (ry:bD y u):
  KT H (fX IB k y) (storedH xs k b u):=by
 have e:(IB.any λkv=>decide (kv.1=k))=(Ra xs k).isSome:=by
  rw[lw,(r.val k).Mo,JU]
 unfold fX storedH;rw[e];by_cases q:(Ra xs k).isSome=IN
 .rw[GI q,GI q];exact r.Z5 k ry
 .rw[GG q,GG q];exact YC r #[KB,hb,ry]
def KT.keeps {H H':Hp}{IB:Gr (Gr cf×V)}{xs:Gr (Gr cf×GB×GC)}(r:KT H IB xs) (ht: ∀b ys,H b=GM (.tup ys)->H' b=GM (.tup ys)):KT H' IB xs:=
 Paired.Nt r λ_ _ z=>#[z.1,ht _ _ z.2.1,z.2.2]
section
variable {P:Hr}{w:HW}{H:Hp}{h:Im}{a:GB}
def Xv {u:HO}(ok:iR P w H h) (e:Rd H a u):cK P w H h a u:=e.ok ok
def oB {IB:Gr (cf×V)}(ok:iR P w H h) (e:Rd H a (.dK IB)):IB.length<=GZ/\(a == J4)=IR/\ ∃vs,KV IB vs/\h.DictOf (bK P w) a vs:=
 show cK P w H h a (.dK IB) from Xv ok e
def Xw {IB:Gr (cf×V)}(ok:iR P w H h) (e:H a=GM (.dK IB)):IB.length<=GZ/\(a == J4)=IR/\ ∃vs,KV IB vs/\h.DictOf (bK P w) a vs:=oB ok (.inl e)
def kc {ks:Gr cf}(ok:iR P w H h) (e:H a=GM (.tup (ks.map kV))):(N4 (bK P w)).is h ks a:=by
 obtain⟨_,Jl,r,o,h1,h2,n,h3⟩:=(show cK P w H h a (.tup (ks.map kV)) from ok a _ e);exact#[o,Jl.toArray,n,h1,h2,h3,by simpa using qA r]
def qN {IB:Gr (Gr cf×V)}(ok:iR P w H h) (e:Rd H a (.dT IB)):IB.length<=GZ/\(a == J4)=IR/\
  ∃xs,KT H IB xs/\h.DictOfH (N4 (bK P w)) a xs:=by
 obtain⟨z,y,xs,r,o,es,ep,h1,h2,h3,h4,h5⟩:=(show cK P w H h a (.dT IB) from Xv ok e);refine#[z,y,xs,r,o,es,ep,h1,h2,h3,h4,λx hx=>?_,h5];have all: ∀ {l:Gr (Gr cf×V)}{m:Gr (Gr cf×GB×GC)},KT H l m-> ∀x∈m,(N4 (bK P w)).is h x.1 x.2.1:=by
  intro l m q
  induction q with
  |nil=>intro x hx;exact nomatch hx
  | @cons p q ps qs hq t ih=>
   intro x hx;rcases Hg.mp hx with e|hx
   .subst e
    exact kc ok (by rw[<-hq.1];exact hq.2.1)
   .exact ih x hx
 exact all r x hx
def aeJ {IB:Gr (Gr cf×V)}(ok:iR P w H h) (e:H a=GM (.dT IB)):IB.length<=GZ/\(a == J4)=IR/\
  ∃xs,KT H IB xs/\h.DictOfH (N4 (bK P w)) a xs:=qN ok (.inl e)
end
def kG (H:Hp) (a:GB) (y:V) (r:GJ V):Prop:=
 (∃IB k,Rd H a (.dK IB)/\y=kV k/\r=cT IB k)\/ ∃IB k b,Rd H a (.dT IB)/\y= .ref b/\H b=GM (.tup (k.map kV))/\r=cT IB k
def Dz (H:Hp) (a:GB) (y v:V) (H':Hp):Prop:=
 (∃IB k,H a=GM (.dK IB)/\y=kV k/\IB.length<GZ/\H'=bf H a (.dK (fX IB k v)))\/
 ∃IB k b,H a=GM (.dT IB)/\y= .ref b/\H b=GM (.tup (k.map kV))/\IB.length<GZ/\H'=bf H a (.dT (fX IB k v))
theorem kG.k {H:Hp}{a:GB}{IB:Gr (cf×V)}{k:cf}(e:H a=GM (.dK IB)):kG H a (kV k) (cT IB k):= .inl #[IB,k, .inl e,KB,KB]
theorem Dz.k {H:Hp}{a:GB}{IB:Gr (cf×V)}{k:cf}{v:V}(e:H a=GM (.dK IB)) (hl:IB.length<GZ):Dz H a (kV k) v (bf H a (.dK (fX IB k v))):= .inl #[IB,k,e,KB,hl,KB]
section
variable {X:Cx}{pins:Gr (GB×Kh)}{σ:St}{H:Hp}{s:GH}{a:GB}{y v:V}{u r:GC}{o:GJ V}{A:IE}{E:GC->GH->Prop}
def aP.big (I:aP X pins σ H s):J4<s.heap.objs.size:=by
 have h:Ki<s.heap.objs.size:=(I.mod.glob.keeps I.bk).lt;exact GQ.lt_trans [01] h
def zA {Q:GC->GH->Prop}(hu:A.units+1<P7) (I:aP X pins σ H s) (g:kG H a y (GM v)) (ry:bD y u) (h: ∀w' s',aP X pins σ H s'->bD v w'->Q w' s'):
  Hq (model X.prog X.w) A (S6 (.ref a) u) Q E s:=by
 rcases g with⟨IB,k,e,ey,l⟩|⟨IB,k,b,e,ey,eb,l⟩
 .subst ey
  obtain⟨z,hd,vs,rel,dd⟩:=oB I.JC e;obtain⟨w',hw,TQ⟩:=gA.some_of (v:=v) (o:=Qp vs k) (by rw[l];exact rel.val k);exact wpAny_getItem_of (pk ry) dd.mapOf hw (h w' _ (I.tok _) TQ)
 .subst ey
  cases (show u=Hn b from ry);obtain⟨z,hd,xs,rel,dd⟩:=qN I.JC e;obtain⟨w',hw,TQ⟩:=gA.some_of (v:=v) (o:=(Ra xs k).map (·.2)) (by rw[l];exact rel.val k);obtain⟨p,hp,hp2⟩:=IT.mp hw;refine Yu (Lr hu) (kc I.JC eb) dd hp ?_;rw[hp2];exact h w' _ (I.tok _) TQ
def ajw {Q:GC->GH->Prop}(hu:A.units+1<P7) (I:aP X pins σ H s) (g:kG H a y o) (ry:bD y u) (h: ∀s',aP X pins σ H s'->Q (.bool o.isSome) s'):
  Hq (model X.prog X.w) A (J5 .In u (.ref a)) Q E s:=by
 rcases g with⟨IB,k,e,ey,l⟩|⟨IB,k,b,e,ey,eb,l⟩
 .subst ey
  obtain⟨z,hd,vs,rel,dd⟩:=oB I.JC e;refine wpAny_in_of (pk ry) hd dd.mapOf ?_;rw[<-(rel.val k).Mo,<-l];exact h _ (I.tok _)
 .subst ey
  cases (show u=Hn b from ry);obtain⟨z,hd,xs,rel,dd⟩:=qN I.JC e;refine wpAny_in_heap (Lr hu) (kc I.JC eb) hd dd ?_;have q:=(rel.val k).Mo;rw[JU] at q;rw[<-q,<-l];exact h _ (I.tok _)
def F7 {Q:GC->GH->Prop}(hu:A.units+1<P7) (I:aP X pins σ H s) (g:kG H a y o) (ry:bD y u) (h: ∀s',aP X pins σ H s'->Q (.bool (!o.isSome)) s'):
  Hq (model X.prog X.w) A (J5 .NotIn u (.ref a)) Q E s:=by
 rcases g with⟨IB,k,e,ey,l⟩|⟨IB,k,b,e,ey,eb,l⟩
 .subst ey
  obtain⟨z,hd,vs,rel,dd⟩:=oB I.JC e;refine wpAny_notIn_of (pk ry) hd dd.mapOf ?_;rw[<-(rel.val k).Mo,<-l];exact h _ (I.tok _)
 .subst ey
  cases (show u=Hn b from ry);obtain⟨z,hd,xs,rel,dd⟩:=qN I.JC e;refine wpAny_notIn_heap (Lr hu) (kc I.JC eb) hd dd ?_;have q:=(rel.val k).Mo;rw[JU] at q;rw[<-q,<-l];exact h _ (I.tok _)
def rM {h':Im}(I:aP X pins σ H s) (mu:fG (H a)) (hs:Oy a s.heap h') (he: ∃q,h'.get? a=GM q) (new:cK X.prog X.w (bf H a ob) h' a ob):
  aP X pins σ (bf H a ob) { s with heap:=h',toks:=t' } :=
 I.write (x:=a) (e:=a) mu (.inl KB) (λb q hb z=>(hs.2 b hb).trans z) he new
def xm {P:Hr}{w:HW}{H':Hp}{h':Im}{IB:Gr (cf×V)}(z:IB.length<=GZ) (hd:(a == J4)=IR) (rel:KV IB vs) (dd:h'.DictOf (bK P w) a vs):
  cK P w H' h' a (.dK IB):=#[z,hd,vs,rel,dd]
def Ba {H':Hp}{Q:Nq->GH->Prop}(hu:A.units+1<P7) (I:aP X pins σ H s) (g:Dz H a y v H') (ry:bD y u) (rv:bD v r) (h: ∀s',aP X pins σ H' s'->Q () s'):
  Hq (model X.prog X.w) A (setItem (.ref a) u r) Q E s:=by
 rcases g with⟨IB,k,e,ey,l,eH⟩|⟨IB,k,b,e,ey,eb,l,eH⟩
 .subst ey eH
  obtain⟨z,hd,vs,rel,dd⟩:=Xw I.JC e;have hz:vs.length<=GZ:=by rw[<-rel.length];exact z
  have hl:(fX IB k v).length<=GZ:=by have:=fR IB k v;lia
  refine wpAny_setItem_pairs (hsz:=hz) (pk ry) dd λh' V2 hs=>h _ ?_;have he: ∃q,h'.get? a=GM q:=let ⟨q,_,_,hq,_⟩:=V2;#[q,hq];exact rM I (by rw[e];exact IS) hs he (xm hl hd (rel.put k rv) V2)
 .subst ey eH
  cases (show u=Hn b from ry);obtain⟨z,hd,xs,rel,dd⟩:=aeJ I.JC e;have hz:xs.length<=GZ:=by rw[<-Rm rel];exact z
  have hl:(fX IB k v).length<=GZ:=by have:=fR IB k v;lia
  refine wpAny_setItem_heap (hsz:=hz) (Lr hu) (kc I.JC eb) dd λh' V2 hs=>h _ ?_;obtain⟨q,es,ep,hq,h2,h3,h4,_,h5⟩:=V2;refine rM I (by rw[e];exact IS) hs #[q,hq] #[hl,hd,_,(rel.put k eb rv).keeps λc ys ec=>?_,q,es,ep,hq,h2,h3,h4,h5];rw[af (aeo ec e (λz=>nomatch z))]
  exact ec
end
section
variable {X:Cx}{pins:Gr (GB×Kh)}{σ:St}{H:Hp}{s:GH}{a:GB}{IB:Gr (cf×V)}{k:cf}{u:GC}{A:IE}{E:GC->GH->Prop}
def aeK {v:V}{Q:GC->GH->Prop}(I:aP X pins σ H s) (e:H a=GM (.dK IB)) (ry:bD (kV k) u) (l:cT IB k=GM v) (hm:more=[]\/ ∃x,more=[x])
  (h: ∀w' s',aP X pins σ (bf H a (.dK (f7 IB k))) s'->bD v w'->Q w' s'):Hq (model X.prog X.w) A (call (.builtin "dict.pop") (.ref a::u::more)) Q E s:=by
 obtain⟨z,hd,vs,rel,dd⟩:=Xw I.JC e;obtain⟨w',hw,TQ⟩:=gA.some_of (v:=v) (o:=Qp vs k) (by rw[<-l];exact rel.val k);have hp:(keyPart u).isSome=IN:=by
  cases k with
  |inl i=>obtain⟨t,q⟩:=(show∃t,u=Lk i t from ry);subst q;rfl
  |inr x=>obtain⟨t,q⟩:=(show∃t,u=Pc x t from ry);subst q;rfl
 have ha:argsOk "dict.pop" ⟨.ref a::u::more,[]⟩:=by
  rcases hm with q|⟨x,q⟩
  .subst q;exact PySem.F.args_dict_pop_2 _ _
  .subst q;exact PySem.F.args_dict_pop_3 _ _ _
 refine call_meetsIn RN dd.typeIs PySem.F.entry_dict_pop ha (meets_dict_pop_there (bK X.prog X.w) a (pk ry) more hm hp)
  #[vs,w',dd,by rw[<-rel.length];exact z,hw,λh' V2 hs=>h w' _ ?_ TQ]
 have he: ∃q,h'.get? a=GM q:=let ⟨q,_,_,hq,_⟩:=V2;#[q,hq];exact rM I (by rw[e];exact IS) hs he (xm (G0 (Es IB k) z) hd (rel.drop k) V2)
def aeL {Q:GC->GH->Prop}(I:aP X pins σ H s) (e:Rd H a (.dK IB)) (h: ∀t s',aP X pins σ H s'->Q (.int IB.length t) s'):Hq (model X.prog X.w) A (call (.builtin "len") [.ref a]) Q E s:=by
 obtain⟨z,hd,vs,rel,dd⟩:=oB I.JC e;refine call_len_dict hd dd (by rw[<-rel.length];rw[Nj] at z;lia) ?_;rw[<-rel.length];exact h _ _ (I.tok _)
end
def FZ (i:Jc):Prop:= ∀ov iv,subscripted i IR ov iv=operate [ov,iv] (S6 ov iv)
def yt {prog:Hr}{w:HW}{A:IE}{E:GC->GH->Prop}{s:GH}{env:Env}{Ln slice:Jc}{pos:Pos}{T id:String}{Q:GC->GH->Prop}
  (hl:JH (.type T) "__getitem__"=pure (GM (.builtin id))) (hs:FZ slice)
  (h:Hq (model prog w) A (eval Ln env) (λo s₁=>Hq (model prog w) A (eval slice env) (λi s₂=>s₂.TypeIs o T/\Hq (model prog w) A (S6 o i) Q E s₂) E s₁) E s):
  Hq (model prog w) A (eval (.Subscript Ln slice pos) env) Q E s:=by
 refine Yx (JQ h (λo s₁ h₁=>JQ h₁ (λi s₂ h₂=>?_) λ_ _ x=>x) λ_ _ x=>x);obtain⟨hT,h₂⟩:=h₂;unfold Us;refine Hi ?_;rw[getitemInPython_of_ne hT.not_modules];refine Hi (wpAny_specialOf hT hl ?_);have fin:Hq (model prog w) A (subscripted slice IR o i) (λr s₃=>Hq (model prog w) A (letTemporaryGo Ln o r>>=λ_=>pure r) Q E s₃) E s₂:=by
  rw[hs o i];exact wpAny_operating (JQ h₂ (λr s₃ h₃=>Hi (wpAny_letTemporaryGo (HX h₃))) λ_ _ x=>x)
 first
  |exact HX (Hi fin)
  |exact Hi (HX (Hi fin))
  |exact Hi fin
def vq {X:Cx}{pins:Gr (GB×Kh)}{σ:St}{H:Hp}{s:GH}{a:GB}{y:V}{o:GJ V}(I:aP X pins σ H s) (g:kG H a y o):s.TypeIs (.ref a) "dict":=by
 rcases g with⟨IB,k,e,_,_⟩|⟨IB,k,b,e,_,_,_⟩
 .obtain⟨_,_,vs,_,dd⟩:=oB I.JC e
  exact dd.typeIs
 .obtain⟨_,_,xs,_,dd⟩:=qN I.JC e
  exact dd.typeIs
def aeM (td ty:TE):TE:=λσ H Q=>td σ H λx H1=>ty σ H1 λy H2=> ∃a v,x= .ref a/\kG H2 a y (GM v)/\Q v H2
inductive Dv (y:V) (R:GJ V->Hp->Prop) (x:V) (H2:Hp):Prop
 |mk (a:GB) (o:GJ V) (_:x= .ref a) (_:kG H2 a y o) (_:R o H2):Dv y R x H2
def ajx (ty td:TE):TE:=λσ H Q=>ty σ H λy H1=>td σ H1 (Dv y (λo H2=>Q (.bl o.isSome) H2))
def FN (ty td:TE):TE:=λσ H Q=>ty σ H λy H1=>td σ H1 (Dv y (λo H2=>Q (.bl (!o.isSome)) H2))
def aeN (td ty tv:TE):TS:=λD σ H=>tv σ H λv H1=>td σ H1 λx H2=>ty σ H2 λy H3=> ∃a H4,x= .ref a/\Dz H3 a y v H4/\D.nx σ H4
section
variable {X:Cx}{o i e Ln:Jc}{pos NZ UE:Pos}{td ty tv:TE}
def Fn (hu:X.A.units+1<P7) (ho:PE X o td) (hi:PE X i ty) (hs:FZ i):PE X (.Subscript o i pos) (aeM td ty):=by
 intro pins s σ H Q I h;refine yt Q3.lookup hs (cG (ho pins s σ H _ I h) λu s1 ⟨x,H1,I1,rx,q1⟩=>cG (hi pins s1 σ H1 _ I1 q1) λiv s2 ⟨y,H2,I2,ry,a,v,ex,g,q2⟩=>?_);subst ex;obtain rfl:u=Hn a:=rx;exact#[vq I2 g,zA hu I2 g ry λw' s3 I3 TQ=>#[v,H2,I3,TQ,q2]]
def sM (hu:X.A.units+1<P7) (hi:PE X i ty) (ho:PE X o td):PC X .In i o (ajx ty td):=by
 intro pins s σ H Q I h;refine cG (hi pins s σ H _ I h) λiv s1 ⟨y,H1,I1,ry,q1⟩=>cG (ho pins s1 σ H1 _ I1 q1) λu s2 ⟨x,H2,I2,rx,a,ov,ex,g,q2⟩=>?_;subst ex;obtain rfl:u=Hn a:=rx;exact ajw hu I2 g ry λs3 I3=>#[.bl ov.isSome,H2,I3,KB,q2]
def qG (hu:X.A.units+1<P7) (hi:PE X i ty) (ho:PE X o td):PC X .NotIn i o (FN ty td):=by
 intro pins s σ H Q I h;refine cG (hi pins s σ H _ I h) λiv s1 ⟨y,H1,I1,ry,q1⟩=>cG (ho pins s1 σ H1 _ I1 q1) λu s2 ⟨x,H2,I2,rx,a,ov,ex,g,q2⟩=>?_;subst ex;obtain rfl:u=Hn a:=rx;exact F7 hu I2 g ry λs3 I3=>#[.bl (!ov.isSome),H2,I3,KB,q2]
def nI (hu:X.A.units+1<P7) (ho:PE X o td) (hi:PE X i ty) (hv:PE X Ln tv) (hs:Lf Ln (GM (.Subscript o i NZ)) pos.line X.env=pure IR):
  PS X (.Assign [.Subscript o i NZ] Ln pos) (aeN td ty tv):=by
 intro pins s σ H D I h;refine wpAny_Assign_Subscript (cG (hv pins s σ H _ I h) λr s1 ⟨v,H1,I1,rv,q1⟩=>cG (ho pins s1 σ H1 _ I1 q1) λu s2 ⟨x,H2,I2,rx,q2⟩=>cG (hi pins s2 σ H2 _ I2 q2) λiv s3 ⟨y,H3,I3,ry,a,H4,ex,g,q3⟩=>?_) hs;subst ex;obtain rfl:u=Hn a:=rx;exact Ba hu I3 g ry rv λs4 I4=>#[σ,H4,I4,q3]
end
def Dj {P:Hr}{w:HW}{H:Hp}(h:Im) (hb:J4<h.objs.size):cK P w H (h.push { cls:= .type "dict",data:= .dict [].toArray }) h.objs.size (.dK []):=
 #[HG _,beq_eq_false_iff_ne.mpr (K3 (Ik hb)),[], .nil,Im.DictOf.new h]
def Z6:TE:=λ_ H Q=> ∀p,H p=Ix->Q (.ref p) (bf H p (.dK []))
section
variable {X:Cx}{pos:Pos}
def lj:PE X (.Dict [] [] pos) Z6:=λpins s σ H Q I h=>
 wpAny_Dict_empty #[.ref s.heap.objs.size,_,I.laid (a:=s.heap.objs.size) (o:= .dK []) (t':=s.toks) (λ_ _ q=>GV _ q) (GY _) (Dj s.heap I.big),KB,h _ (I.JC.fresh (GY _))]
end
structure M1 (X:Cx) (o:Jc) (m:Ha) (Mb:Pos) (e:Jc) (MN:Pos):Prop where
 base:JN o m X.env (eval o X.env)=eval o X.env
 few:((J9 MN (Hf [e] X.env)).all (λx=>!x.1)&&(Ob MN (LO [] X.env)).all (λx=>x.1.isSome)
  &&decide (([e]:Gr Jc).length+([]:Gr Keyword).length+(if([]:Gr Keyword).isEmpty then 0 else 1)<30))=IN
 line:(Mb.endLine == MN.line)=IN
 trees:J9 MN (Hf [e] X.env)=[(IR,eval e X.env)]
def IsD (H:Hp) (a:GB):Prop:=(∃IB,Rd H a (.dK IB))\/ ∃IB,Rd H a (.dT IB)
def Z7 {X:Cx}{pins:Gr (GB×Kh)}{σ:St}{H:Hp}{s:GH}{a:GB}(I:aP X pins σ H s) (d:IsD H a):
  s.TypeIs (.ref a) "dict"/\(∀b,Hn a= .ref b-> ∃ob,s.heap.get? b=GM ob/\ob.dict=Ix)/\(a == J4)=IR:=by
 rcases d with⟨IB,e⟩|⟨IB,e⟩
 .obtain⟨_,hd,vs,_,dd⟩:=oB I.JC e
  refine#[dd.typeIs,λb q=>?_,hd];cases q;obtain⟨ob,_,_,h1,h2,_⟩:=dd;exact#[ob,h1,h2.2.1]
 .obtain⟨_,hd,xs,_,dd⟩:=qN I.JC e
  refine#[dd.typeIs,λb q=>?_,hd];cases q;obtain⟨ob,_,_,h1,h2,_⟩:=dd;exact#[ob,h1,h2.2.1]
def Z8 (td ty:TE):TE:=λσ H Q=>td σ H λx H1=> ∃a,x= .ref a/\IsD H1 a/\ty σ H1 λy H2=> ∃IB k v,H2 a=GM (.dK IB)/\y=kV k/\cT IB k=GM v/\Q v (bf H2 a (.dK (f7 IB k)))
section
variable {X:Cx}{o e f:Jc}{Mb MN:Pos}{td ty tx:TE}
def DU (ho:PE X o td) (he:PE X e ty) (m:M1 X o "pop" Mb e MN):PE X (.Call (.Attribute o "pop" Mb) [e] [] MN) (Z8 td ty):=by
 intro pins s σ H Q I h;refine wpAny_Call_method m.base m.few m.line PySem.F.plainAttrs_dict RN PySem.F.type_dict_pop (cG (ho pins s σ H _ I h) λu s1 ⟨x,H1,I1,rx,a,ex,d,q1⟩=>?_);subst ex;obtain rfl:u=Hn a:=rx;obtain⟨t1,t2,_⟩:=Z7 I1 d;refine#[t1,t2,?_];rw[m.trees];refine Oq KB (O2 (Ni (cG (he pins s1 σ H1 _ I1 q1) λiv s2 ⟨y,H2,I2,ry,IB,k,v,ea,ey,l,q2⟩=>NL ?_)));subst ey;exact aeK I2 ea ry l (.inl KB) λw' s3 I3 TQ=>#[v,_,I3,TQ,q2]
end
section
variable {X:Cx}{pins:Gr (GB×Kh)}{σ:St}{H:Hp}{s:GH}{h':Im}
def aP.WJ {t':GQ}{ch:Gr GB}(I:aP X pins σ H s) (k: ∀b o,b∉ch->s.heap.get? b=GM o->h'.get? b=GM o) (hf: ∀b∈ch,m7 X pins H b):aP X pins σ H { s with heap:=h',toks:=t' } :=by
 have Xj: ∀b u,H b=GM u->b∉ch:=λb u e z=>by
  have q:=(hf b z).1;rw[q] at e;cases e
 refine I.step (g':=s.gens) (d':=s.drawn) (ch:=ch) (λb hb=>#[(hf b hb).2.2.2.1,(hf b hb).2.1,(hf b hb).2.2.2.2.1,(hf b hb).2.2.2.2.2]) (λb o _ _ hc e _=>k b o hc e) (λb o _ _ hc e _=>#[o.slots,k b o hc e])
  (λ_ _ _ _ n=>n) (λb o hc e=>#[o,k b o hc e]) (λ_ _ e=>e) (λ_ _ _ e=>e) (λb ps e=>#[[].toArray,by rw[e];simp]) (λm hm=>?_) (λb u e=>?_) I.bare
 .obtain⟨o,es,ep,ho,r⟩:=hm
  exact#[o,es,ep,k _ o (λz=>(hf _ z).2.1 KB) ho,r]
 .refine(I.JC b u e).QX (λc v hc q=>k c v ?_ q) [08] λ_ _ q=>q
  rcases hc with z|z
  .rw[z];exact Xj b u e
  .exact Xj c _ z
def aP.UH {t':GQ}{ch:Gr GB}{T:GB}{ob:HO}(I:aP X pins σ H s) (k: ∀b o,b∉ch->s.heap.get? b=GM o->h'.get? b=GM o) (hf: ∀b∈ch,m7 X pins H b) (hT:s.heap.objs.size<=T)
  (new:cK X.prog X.w (bf H T ob) h' T ob):aP X pins σ (bf H T ob) { s with heap:=h',toks:=t' } :=by
 have hn:H T=Ix:=I.JC.fresh hT
 have Xj: ∀b u,H b=GM u->b∉ch:=λb u e z=>by
  have q:=(hf b z).1;rw[q] at e;cases e
 refine I.step (g':=s.gens) (d':=s.drawn) (ch:=ch) (λb hb=>#[(hf b hb).2.2.2.1,(hf b hb).2.1,(hf b hb).2.2.2.2.1,(hf b hb).2.2.2.2.2]) (λb o _ _ hc e _=>k b o hc e) (λb o _ _ hc e _=>#[o.slots,k b o hc e])
  (λb o _ e n=>?_) (λb o hc e=>#[o,k b o hc e]) (λb xs e=>?_) (λb o u e=>?_) (λb ps e=>#[[].toArray,?_]) (λm hm=>?_) (λb u e=>?_) I.bare
 .rw[af (Ik (Hl (Hk e) hT))];exact n
 .rw[af (aw e hn)];exact e
 .rw[af (aw e hn)];exact e
 .rw[af (aw e hn),e];simp
 .obtain⟨o,es,ep,ho,r⟩:=hm
  exact#[o,es,ep,k _ o (λz=>(hf _ z).2.1 KB) ho,r]
 .by_cases hb:b=T
  .subst hb
   rw[aj] at e;cases e;exact new
  .rw[af hb] at e
   refine(I.JC b u e).QX (λc v hc q=>k c v ?_ q) (λc q=>by rw[af (aw q hn)];exact q) λc xs q=>by rw[af (aw q hn)];exact q
   rcases hc with z|z
   .rw[z];exact Xj b u e
   .exact Xj c _ z
end
section
variable {X:Cx}
def Ey {tg:Jc}{pins:Gr (GB×Kh)}{σ:St}{H:Hp}{s:GH}{R:It->Hp->Prop}{tn:GQ->Im->Prop}{tk:GQ}(I:aP X pins σ H s) (o:Kh)
  (T:Eh X.prog X.w X.K tg J [s.heap.objs.size] s.heap.objs.size tn) (st:tn 0 (s.heap.push o)) (q:R J H):PIE X pins σ tg R (.ref s.heap.objs.size) { s with heap:=s.heap.push o,toks:=tk } :=by
 refine#[s.heap.objs.size,[s.heap.objs.size],tn,J,H,KB,I.kept λb ob e=>GV _ e,T,st,λb hb=>?_,q];have e:b=s.heap.objs.size:=by simpa using hb
 subst e;exact I.WH (GY _) (I.JC.fresh (GY _))
end
def Its (x:Ha):It:=#[λi _=>i<x.cps.size,λi H v H'=>H'=H/\ ∃c,x.cps[i]?=GM c/\v= .str #[[c].toArray],λi _=>x.cps.size<=i]
def uw {P:Hr}{w:HW}{K:Gy}{tg:Jc}(it:GB) (x:Ha) (t:Tok) (ty:String) (hty:ty="str_ascii_iterator"\/ty="str_iterator"):
  Eh P w K tg (Its x) [it] it (λi h=>h.IsStrIter it ty x t i) where
 mem:=by simp
 obj:=λi h st b hb=>by
  have e:b=it:=by simpa using hb
  subst e;obtain⟨o,e,c,d⟩:=st;exact#[o,e,λv z=>by rw[d] at z;cases z]
 keep:=λi h h' st k=>let ⟨o,ho,r⟩:=st;#[o,k it (by simp) o ho,r]
 item:=by
  intro X hP hw hK hc i pins s σ H E I hf st hg;subst hP hw hK;obtain⟨f0,f1,f2,f3,f4,f5⟩:=hf it (by simp);have W:Walks X.prog X.w X.A it [it] [it] x.cps.size (SignAt x) (λi h=>h.IsStrIter it ty x t i):=by
   rcases hty with e|e
   .rw[e];exact Walks.strAscii (I.ok.hd hc) it x t
   .rw[e];exact Walks.strWide (I.ok.hd hc) it x t
  have hno:["enumerate","zip","dict_itemiterator","dict_reverseitemiterator","odict_iterator","itertools.zip_longest","itertools.pairwise"].contains ty=IR:=by
   rcases hty with e|e
   .rw[e];decide
   .rw[e];decide
  refine W.item i s _ _ hg st λv h' tk hv st' kk=>?_;obtain⟨c,u,hcx,rfl⟩:=hv;have I1:aP X pins σ H { s with heap:=h',toks:=tk } :=I.turned (λb o hb e=>kk b o (by simpa using hb) e) f0 f1 f3 f4 f5
  obtain⟨oi,e,cc,dd⟩:=id st';exact#[_,KB,Xm (s:= { s with heap:=h',toks:=tk }) e cc dd hno #[.str #[[c].toArray],H,I1,#[u,KB],#[KB,c,hcx,KB],st',λb hb=>(hf b hb).1]]
 done:=by
  intro X hP hw hK hc i pins s σ H E I hf st hg;subst hP hw hK;obtain⟨f0,f1,f2,f3,f4,f5⟩:=hf it (by simp);have hx:x.cps[i]?=Ix:=KC.getElem?_eq_none hg;rcases hty with e|e
  .rw[e] at st
   exact wpAny_pyNext_ascii_end (I.ok.hd hc) st hx λh' eb=>#[KB,I.turned (t':=s.toks) (λb o hb e=>eb b o hb e) f0 f1 f3 f4 f5]
  .rw[e] at st
   exact wpAny_pyNext_wide_end (I.ok.hd hc) st hx λh' eb=>#[KB,I.turned (t':=s.toks) (λb o hb e=>eb b o hb e) f0 f1 f3 f4 f5]
 self:=λA i s Q E st h=>by
  rcases hty with e|e
  .rw[e] at st;exact wpAny_pyIter_striter_ascii st h
  .rw[e] at st;exact wpAny_pyIter_striter_wide st h
def ajy (te:TE):TI:=λσ H R=>te σ H λv H1=> ∃x,v= .str x/\R (Its x) H1
def Z9 {X:Cx}{tg e:Jc}{te:TE}(he:PE X e te):PI X tg e (ajy te):=by
 intro pins s σ H R I h;refine cG (he pins s σ H _ I h) λv s1 ⟨y,H1,I1,r1,x,ex,q⟩=>?_;subst ex;obtain⟨t,rfl⟩:=r1;cases ha:x.cps.all (· <128)
 .exact wpAny_pyIter_wide ha (Ey (tk:=s1.toks) I1 _ (uw _ x t "str_iterator" (.inr KB)) #[_,Iu _ KB,KB,KB] q)
 .exact wpAny_pyIter_ascii ha (Ey (tk:=s1.toks) I1 _ (uw _ x t "str_ascii_iterator" (.inl KB)) #[_,Iu _ KB,KB,KB] q)
def iE {α β:Type}{G:α->β->Prop}{l₁:Gr α}{l₂:Gr β}(h:Paired G l₁ l₂): ∀ {i:GQ}{a:α},l₁[i]?=GM a-> ∃b,l₂[i]?=GM b/\G a b:=by
 induction h with
 |nil=>intro i a e;simp at e
 | @cons a b l₁ l₂ r t ih=>
  intro i a' e;cases i with
  |zero=>
   simp only[Gr.getElem?_cons_zero,GJ.some.injEq] at e;subst e;exact#[b,KB,r]
  |succ j=>
   simp only[R5] at e ⊢;exact ih e
def A7:MB "zip"=GM (.type "zip"):=by decide+kernel
def Xx (K:Gy) (a b:GB):It:=
 #[λi H=> ∃(xs ys:Gr V) (x y:V),cJ K H a xs/\cJ K H b ys/\xs[i]?=GM x/\ys[i]?=GM y,
  λi H v H'=> ∃T x y,v= .ref T/\H T=Ix/\H'=bf H T (.tup [x,y])/\(∀xs,cJ K H a xs->xs[i]?=GM x)/\ ∀ys,cJ K H b ys->ys[i]?=GM y,
  λi H=> ∃xs ys:Gr V,cJ K H a xs/\cJ K H b ys/\(xs.length<=i\/ys.length<=i)]
def Dq {P:Hr}{w:HW}{K:Gy}{elts:Gr Jc}{kk:GQ}{UE:Pos}{a b z TI TO i1 i2:GB}(D:ZipApart z TI TO i1 i2 a b):
  Eh P w K (.Tuple elts kk UE) (Xx K a b) [z,TI,TO,i1,i2] z (λi h=>IsZip h z TI TO .none/\IsPair h TI (.ref i1) (.ref i2)/\(∃x y,IsPair h TO x y)/\h.IsListIter i1 a i/\h.IsListIter i2 b i) where
 mem:=by simp
 obj:=λi h st c hc=>by
  obtain⟨hz,VI,⟨x,y,V3⟩,⟨o1,e1,_,d1⟩,⟨o2,e2,_,d2⟩⟩:=st;have e':c=z\/c=TI\/c=TO\/c=i1\/c=i2:=by simpa using hc
  rcases e' with q|q|q|q|q
  .rw[q];exact#[_,hz,λv q=>nomatch q]
  .rw[q];exact#[_,VI,λv q=>nomatch q]
  .rw[q];exact#[_,V3,λv q=>nomatch q]
  .rw[q];exact#[o1,e1,λv q=>by rw[d1] at q;cases q]
  .rw[q];exact#[o2,e2,λv q=>by rw[d2] at q;cases q]
 keep:=λi h h' st k=>by
  obtain⟨hz,VI,⟨x,y,V3⟩,h1,h2⟩:=st;exact#[k z (by simp) _ hz,k TI (by simp) _ VI,#[x,y,k TO (by simp) _ V3],h1.at λo q=>k i1 (by simp) o q,h2.at λo q=>k i2 (by simp) o q]
 item:=by
  intro X hP hw hK hc i pins s σ H E I hf st hg;subst hP hw hK;obtain⟨hz,VI,⟨x0,y0,V3⟩,h1,h2⟩:=st;obtain⟨xs,ys,x,y,hqx,hqy,hx,hy⟩:=hg;obtain⟨Jl,rv,p,_⟩:=I.list hqx;obtain⟨QZ,rv2,p2,_⟩:=I.list hqy;obtain⟨u,hu,ru⟩:=rv.get hx;obtain⟨u2,hu2,ru2⟩:=rv2.get hy;have hzl:z<s.heap.objs.size:=Hk hz;refine wpAny_pyNext_zip_item D hz VI V3 h1 h2 p.isList p2.isList (x:=u) (y:=u2) (by simpa using hu) (by simpa using hu2) λh' z' TO' h1' h2' hT hsz hk=>?_;refine#[_,KB,wpAny_letOwnedTupleGo_zip (s:= { s with heap:=h' }) z' λh'' z'' sb=>?_];have hT2:h''.get? s.heap.objs.size=GM { cls:= .type "tuple",data:= .seq [u,u2].toArray } :=(sb.2 _ (Qy hzl)).trans hT;have new:cK X.prog X.w (bf H s.heap.objs.size (.tup [x,y])) h'' s.heap.objs.size (.tup [x,y]):=
   #[by show 2<=GZ;decide,[u,u2], .cons ru (.cons ru2 .nil),#[_,hT2,KB,_,KB]]
  have I1:aP X pins σ (bf H s.heap.objs.size (.tup [x,y])) { s with heap:=h'' } :=
   I.UH (t':=s.toks) (ch:=[z,TI,TO,i1,i2]) (λc o hb q=>(sb.2 c (λq'=>hb (by simp [q']))).trans (hk c o (λq'=>hb (by simp [q'])) (λq'=>hb (by simp [q'])) (λq'=>hb (by simp [q'])) (λq'=>hb (by simp [q'])) q)) hf (GY _) new
  refine#[.ref s.heap.objs.size,_,I1,KB,#[_,x,y,KB,I.JC.fresh (GY _),KB,λl hl=>by rw[I.QY hl hqx];exact hx,λl hl=>by rw[I.QY hl hqy];exact hy],#[z'',?_,#[u,u2,?_],?_,?_],λc hcm=>?_]
  .exact(sb.2 _ D.TIz).trans (hk _ _ D.TIz D.TITO D.TIi1 D.TIi2 VI)
  .exact(sb.2 _ D.TOz).trans TO'
  .exact h1'.at λo q=>(sb.2 _ D.i1z).trans q
  .exact h2'.at λo q=>(sb.2 _ D.i2z).trans q
  .have RW:c<s.heap.objs.size:=by
    have e':c=z\/c=TI\/c=TO\/c=i1\/c=i2:=by simpa using hcm
    rcases e' with q|q|q|q|q
    .rw[q];exact hzl
    .rw[q];exact Hk VI
    .rw[q];exact Hk V3
    .rw[q];obtain⟨_,e1,_⟩:=h1;exact Hk e1
    .rw[q];obtain⟨_,e2,_⟩:=h2;exact Hk e2
   rw[af (Ik RW)];exact(hf c hcm).1
 done:=by
  intro X hP hw hK hc i pins s σ H E I hf st hg;subst hP hw hK;obtain⟨hz,VI,⟨x0,y0,V3⟩,h1,h2⟩:=st;obtain⟨xs,ys,hqx,hqy,ajz⟩:=hg;obtain⟨Jl,rv,p,_⟩:=I.list hqx;obtain⟨QZ,rv2,p2,_⟩:=I.list hqy;have l1:=rv.length;have l2:=rv2.length;have he:Jl.toArray[i]?=Ix\/QZ.toArray[i]?=Ix:=by
   rcases ajz with q|q
   .exact .inl (by simp;lia)
   .exact .inr (by simp;lia)
  exact wpAny_pyNext_zip_end (I.ok.hd hc) D hz VI V3 h1 h2 p.isList p2.isList he λh' hk=>#[KB,I.WJ (t':=s.toks) (ch:=[z,TI,TO,i1,i2]) (λc o hb q=>
   hk c o (λq'=>hb (by simp [q'])) (λq'=>hb (by simp [q'])) (λq'=>hb (by simp [q'])) (λq'=>hb (by simp [q'])) q) hf]
 self:=λA i s Q E st h=>wpAny_pyIter_zip st.1 h
def aeO (K:Gy) (ta:TA):TI:=λσ H R=>ta σ H λvs H1=> ∃a b xs ys,vs=[.ref a, .ref b]/\cJ K H1 a xs/\cJ K H1 b ys/\R (Xx K a b) H1
def aaa {X:Cx}{e e2:Jc}{ta:TA}{p pos UE:Pos}(hg:Gl X "zip") (hm:X.mg "zip"=Ix) (ha:PA X [e,e2] ta)
  (hs:Hf [e,e2] X.env=(IR,eval e X.env)::Hf [e2] X.env:=by rfl) (MU:(J9 pos (Hf [e2] X.env)).any (·.1)=IR:=by rfl):
  PI X (.Tuple elts kk UE) (.Call (.Name "zip" p) [e,e2] [] pos) (aeO X.K ta):=by
 intro pins s σ H R I h;refine Call_ (sF I hg hm A7 (Pz (cG (ha pos pins s σ H _ I h) λus s1 ⟨vs,H1,I1,r1,q1⟩=>?_) hs MU));obtain⟨a,b,xs,ys,ex,hqx,hqy,q⟩:=q1;subst ex;cases r1 with
 |cons r rr=>
  cases rr with
  |cons r' rr=>
   cases rr;cases r;cases r';obtain⟨Jl,rv,p1,_⟩:=I1.list hqx;obtain⟨QZ,rv2,p2,_⟩:=I1.list hqy;have la:a<s1.heap.objs.size:=p1.lt;have lb:b<s1.heap.objs.size:=p2.lt;refine call_zip_2 p1.isList p2.isList λh' hz VI V3 h1 h2 hsz hk=>wpAny_pyIter_zip hz ?_;have I2:aP X pins σ H1 { s1 with heap:=h' } :=I1.kept (t':=s1.toks) hk;refine#[s1.heap.objs.size+4,[s1.heap.objs.size+4,s1.heap.objs.size+2,s1.heap.objs.size+3,s1.heap.objs.size,s1.heap.objs.size+1],_,_,H1,KB,I2,Dq (PySem.W.ktu_apart s1.heap.objs.size a b la lb),#[hz,VI,#[_,_,V3],h1,h2],λc hcm=>?_,q];have e':c=s1.heap.objs.size+4\/c=s1.heap.objs.size+2\/c=s1.heap.objs.size+3\/c=s1.heap.objs.size\/c=s1.heap.objs.size+1:=by simpa using hcm
   have hle:s1.heap.objs.size<=c:=by
    rcases e' with z|z|z|z|z
    .rw[z];exact JO _ _
    .rw[z];exact JO _ _
    .rw[z];exact JO _ _
    .rw[z];exact GY _
    .rw[z];exact JO _ _
   exact I1.WH hle (I1.JC.fresh hle)
end L2
namespace TL
open PySem PySem.Builtin PySem.Builtin.Str PySem.StrLaws
abbrev tl (x:Ha):Gr GQ:=x.cps.toList
def VJ {x y:Ha}(h:tl x=tl y):x=y:=Ha.ext' (Vk.mp h)
def MZ (x y:Ha):tl (x++y)=tl x++tl y:=by
 show(x++y).cps.toList=_
 rw[Ha.cps_append,TZ]
def Sz (S:Gr GQ):Gr (Gr GQ)->Gr GQ
 |[]=>[]
 |[p]=>p
 |p::q::r=>p++(S++Sz S (q::r))
theorem Uh (y:Ha): ∀parts:Gr Ha,tl (QA y parts)=Sz (tl y) (parts.map tl)
 |[]=>rfl
 |[_]=>rfl
 |x::z::r=>by
  show tl (x++y++QA y (z::r))=tl x++(tl y++Sz (tl y) ((z::r).map tl))
  rw[MZ,MZ,Uh y (z::r),Hj]
def join_eq (y:Ha) (parts:Gr Ha):Uw y parts=QA y parts:=glued_eq_join y parts
end TL
namespace L2
open PySem PySem.Spec PyProof.Rows
theorem iB: ∀ {ys:Gr Ha}{us:Gr GC},bH (ys.map V.str) us->StrsAre us ys
 |[],_, .nil=> .nil
 |y::ys,_, .cons r t=>by
  obtain⟨k,rfl⟩:=r;exact .cons y k (iB t)
section
variable {X:Cx}
def Fw:MtR X "str.join" (λx xs H Q=> ∃a p,∃ys:Gr Ha,x= .str a/\xs=[.ref p]/\(cJ X.K H p (ys.map V.str)\/qd X.K H p (ys.map V.str))/\
  (ys.map (·.length)).sum+ys.length*a.length<=16777216/\Q (.str (Uw a ys)) H):=by
 intro pins s σ H x xs v us Q I rx rs h;obtain⟨a,p,ys,rfl,rfl,hp,hz,h⟩:=h;obtain⟨t,rfl⟩:=rx;cases rs with
 |cons r1 rs=>
  cases rs;cases r1;rcases hp with hp|hp
  .obtain⟨Jl,r,⟨o,n,ho,hc,_,hd⟩,_⟩:=I.list hp
   exact PyProof.Rows.join_list (items:=Jl.toArray) #[o,ho,hc,n,hd] (by rw[Um];exact iB r) hz λt' k=>#[.str _,H,I.tok k,#[t',KB],h]
  .obtain⟨Jl,r,ht,_⟩:=I.tuple hp
   exact PyProof.Rows.join_tuple (items:=Jl.toArray) ht (by rw[Um];exact iB r) hz λt' k=>#[.str _,H,I.tok k,#[t',KB],h]
end
section
variable {X:Cx}{o e:Jc}{to te:TE}
def tM1 (r:V->Gr V->Hp->VK->Prop) (to te:TE):TE:=λσ H Q=>to σ H λx H1=>(∃a,x= .str a)/\te σ H1 λy H2=>r x [y] H2 Q
def aeP {id:String}{name:Ha}{Mb pos:Pos}{r:V->Gr V->Hp->VK->Prop}(slot:Slot "str" name id) (ty:typeOf (.builtin id)=pure (.type "method_descriptor")) (rule:MtR X id r) (ho:PE X o to) (he:PE X e te)
  (hs:Hf [e] X.env=[(IR,eval e X.env)]:=by rfl) (Sw:JN o name X.env (eval o X.env)=eval o X.env:=by rfl) (Sx:(Mb.endLine == pos.line)=IN:=by rfl):
  PE X (.Call (.Attribute o name Mb) [e] [] pos) (tM1 r to te):=by
 intro pins s σ H Q I h;refine PySem.Call_method1 Sw hs Sx (cG (ho pins s σ H _ I h) λv s1 ⟨x,H1,I1,r1,q1⟩=>?_);obtain⟨⟨a,rfl⟩,q1⟩:=q1;obtain⟨t,rfl⟩:=_root_.id r1;refine#["str",_,F.plainAttrs_str,slot,ty,Yy _ _ _,(λ_ e=>nomatch e),Oq KB (O2 (Ni ?_))]
 exact cG (he pins s1 σ H1 _ I1 q1) λu s2 ⟨y,H2,I2,r2,q2⟩=>NL (rule pins s2 σ H2 _ [y] _ [u] Q I2 r1 (.cons r2 .nil) q2)
def yU {Mb pos:Pos}(ho:PE X o to) (he:PE X e te) (hs:Hf [e] X.env=[(IR,eval e X.env)]:=by rfl) (Sw:JN o "join" X.env (eval o X.env)=eval o X.env:=by rfl) (Sx:(Mb.endLine == pos.line)=IN:=by rfl):
  PE X (.Call (.Attribute o "join" Mb) [e] [] pos) (tM1 (λx xs H Q=> ∃a p,∃ys:Gr Ha,x= .str a/\xs=[.ref p]/\(cJ X.K H p (ys.map V.str)\/qd X.K H p (ys.map V.str))/\
   (ys.map (·.length)).sum+ys.length*a.length<=16777216/\Q (.str (Uw a ys)) H) to te):=
 aeP F.slot_str_join F.type_str_join Fw ho he hs Sw Sx
end
abbrev E0:XK:=λ_ _ _=>False
def aC {X:Cx} :eN nJ X E0:=λ_ _ _ _ _ _ _ h=>h.elim
section
variable {P:Hr}{w:HW}{K:Gy}{mg:Ha->GJ GC}{base:Im}
def sd.ok {x Ja:Ha}{st:Stmt}{f:GB}{fd:Ia}{N ps:Gr Ha}{k:GQ}{sp:Sp}(F:sd K x Ja st f fd) (S:ax N ps (ah st)) (len: ∀vs H Q E,sp vs H Q E->vs.length=ps.length)
  (K9: ∀(IF:GC) (A:IE) (outer:Gr Env) (s:GH) (H:Hp) (vs:Gr V) (Q:VK) (E:XK),cx k (A.deeper (Lg Ja (ah st) s.heap.objs.size f IF))->sp vs H Q E->
   Bd (gU nJ P w K mg base N Ja (ah st) f IF A outer s H E).nox (bq st) { nx:=λ_ H'=>Q .Ko H',rt:=Q } (start N vs) H):b6 P w K mg base nJ (k+1) f fd ps sp:=by
 obtain⟨oc,od,kV,doc,pm,an,IF,ct,VW,rfl,lk,RB⟩:=F.ex;refine Xu lk RB S len λA outer s H vs Q E hr Tu=>?_;obtain⟨t,h,q⟩:=K9 IF A outer s H vs Q E hr Tu;exact#[t,h.nox,q]
end
def gP {A:IE}{k:GQ}(hr:cx k A):A.units+1<P7:=HH (Na (by decide:1<=64) _) hr.units
section
variable {X:Cx}
def pv (i:GQ) {x:Ha}{pos:Pos}(hN:X.N[i]?=GM x:=by rfl) (hv:tu X.env.scope x:=by first|exact HF rfl|exact RU (HF KB)|exact RU (RU KB)) (hd:(x == ("__debug__":Ha))=IR:=by decide)
  (RB:(x == ("__classdict__":Ha))=IR:=by decide):PE X (.Name x pos) (ei i):=iM hN hv hd RB
def zM:gB X (.builtin "len") (λxs H Q=> ∃a IB,xs=[V.ref a]/\H a=GM (.dK IB)/\Q (.int IB.length) H):=by
 intro pins s σ H xs us Q I r h;obtain⟨a,IB,rfl,ha,q⟩:=h;obtain⟨u,rfl,ru⟩:=lE r;cases ru;exact aeL I (.inl ha) λt s' I'=>#[.int IB.length,H,I',#[t,KB],q]
end
def cW {A B:Prop}(h:B):if IR=IN then A else B:=by
 rw[GG Gu];exact h
def dR {A B:Prop}(h:A):if IN=IN then A else B:=by
 rw[GI KB];exact h
def aI (H H':Hp):Prop:= ∀b o,H b=GM o->H' b=GM o
def aI.refl (H:Hp):aI H H:=λ_ _ h=>h
def aI.trans {H H1 H2:Hp}(a:aI H H1) (b:aI H1 H2):aI H H2:=λc o h=>b c o (a c o h)
def aI.seq {K:Gy}{H H':Hp}{a:GB}{xs:Gr V}(e:aI H H') (h:cJ K H a xs):cJ K H' a xs:=by
 rcases h with(h|⟨o,h⟩)|h
 .exact .inl (.inl (e _ _ h))
 .exact .inl (.inr #[o,e _ _ h])
 .exact .inr h
end L2
namespace OS
open PySem
structure AI (l:Gr GB) (ch:Gr GB) (a:GB) (oe:Kh) (h h':Im):Prop where
 keep: ∀b o,b∉l->b∉ch->h.get? b=GM o->h'.get? b=GM o
 slot: ∀b o,b∈l->b∉ch->h.get? b=GM o-> ∃sl,h'.get? b=GM { o with slots:=sl }
 there: ∀b o,h.get? b=GM o-> ∃u,h'.get? b=GM u
 fly: ∃vs T oT ts,h'.get? a=GM #[oe.cls,oe.dict, .fields vs,oe.slots]/\vs[1]?=GM (.ref T)/\h.objs.size<=T/\T≠a/\h'.get? T=GM oT/\oT.data= .fields ts/\ts[3]?=GM .none
def rR {o:Kh}{vs:KC GC}(hd:o.data= .fields vs) (f:KC GC->KC GC):o.mapFields f=#[o.cls,o.dict, .fields (f vs),o.slots]:=by
 obtain⟨c,d,dt,sl⟩:=o;cases hd
 rfl
section
variable {E:GC->GH->Prop}{base:Im}{a:GB}{Q:Nq->GH->Prop}
def o5 {head:GC}{WK:HK}(RZ:A.frames=GM (env::outer)) (hl:s.heap.FunFrames base (env::outer)) (hf:env.frame=GM L)
  (he:s.heap.get? a=GM oe) (hd:oe.data= .fields vs) (hsz:1<vs.size)
  (h: ∀h',AI ((env::outer).filterMap (·.frame)) [a] a oe s.heap h'->Q () { s with heap:=h' }):
  Hq M A (frameOf env>>=λx=>entryPlaceOf L WK>>=λpl=>Rx head x .none (P6 L) .none pl>>=λb=>setField (.ref a) 1 b) (λ_ s'=>Hq M A (Rw (.ref a) Ix) Q E s') E s:=by
 have na:a∉(env::outer).filterMap (·.frame):=λhm=>by
  obtain⟨_,o,ho,hn⟩:=hl.mem hm;rw[he] at ho;cases ho;exact hn vs hd
 refine Hi (wpAny_frameOf_fun RZ hl hf λh1 S=>Hi (wpAny_entryPlaceOf λpl MU=>?_));unfold Rx newFields;refine Hi (wpAny_newObj_type ?_ (MU.sizeOk5 _ _ _ _ _));have e1:h1.get? a=GM oe:=(S.2.1 a na).trans he;generalize ht:({ cls:= .type "traceback",dict:=Ix,data:= .fields ([head, .ref L, .none,P6 L, .none]++(if pl.isEmpty then Jv 6 Jy else pl)).toArray } :Kh)=tb
 have td:tb.data= .fields ([head, .ref L, .none,P6 L, .none]++(if pl.isEmpty then Jv 6 Jy else pl)).toArray:=by rw[<-ht]
 have tf:tb.isFreed=IR:=Mw td
 have e2:(h1.push tb).get? a=GM oe:=GV tb e1;refine Ti e2 hd hsz ?_
 have ne:h1.objs.size≠a:=Qy (Hk e1)
 have hd3:=P5 hd (·.setIfInBounds 1 (Hn h1.objs.size))
 have e3:=Kt (JI (·.setIfInBounds 1 (Hn h1.objs.size))) e2 (Mw hd3)
 have t3:((h1.push tb).update a (JI (·.setIfInBounds 1 (Hn h1.objs.size)))).get? h1.objs.size=GM tb:=
  (IG (h1.push tb) _ (K3 ne)).trans (Iu h1 tf)
 unfold Rw;refine Hi (wpAny_field e3 hd3 (x:= .ref h1.objs.size) (by simp [hsz]) ?_);rw[GI (show(Hn h1.objs.size !=Jy)=IN from by simp)];have sz3:3<([head, .ref L, .none,P6 L, .none]++(if pl.isEmpty then Jv 6 Jy else pl)).toArray.size:=by
  simp only[Hz,Gw,Gv,GU];lia
 refine Ti t3 td sz3 (h _ ?_);have other: ∀b,b≠a->b≠h1.objs.size-> ∀f,(((h1.push tb).update a (JI (·.setIfInBounds 1 (Hn h1.objs.size)))).update h1.objs.size f).get? b=(h1.push tb).get? b:=λb x y f=>by
  rw[IG _ _ (K3 y),IG _ _ (K3 x)]
 have old: ∀b o,s.heap.get? b=GM o->b≠h1.objs.size:=λb o q=>by
  rw[S.1];exact Ik (Hk q)
 have d4:=P5 td (·.setIfInBounds 3 ((Ix:GJ GB).elim Jy λf=>P6 f))
 have t4:=Kt (JI (·.setIfInBounds 3 ((Ix:GJ GB).elim Jy λf=>P6 f))) t3 (Mw d4)
 have a4:(((h1.push tb).update a (JI (·.setIfInBounds 1 (Hn h1.objs.size)))).update h1.objs.size (JI (·.setIfInBounds 3 ((Ix:GJ GB).elim Jy λf=>P6 f)))).get? a=GM #[oe.cls,oe.dict, .fields (vs.setIfInBounds 1 (Hn h1.objs.size)),oe.slots]:=by
  rw[IG _ _ ne,e3,rR hd]
 refine#[λb o nl nc q=>?_,λb o hb nc q=>?_,λb o q=>?_,?_]
 .rw[other b (λz=>nc (by rw[z];exact GW)) (old b o q)]
  exact GV tb ((S.2.1 b nl).trans q)
 .obtain⟨sl,z⟩:=S.2.2 b o q
  exact#[sl,by rw[other b (λy=>nc (by rw[y];exact GW)) (old b o q)];exact GV tb z]
 .by_cases ba:b=a
  .rw[ba];exact#[_,a4]
  .obtain⟨sl,z⟩:=S.2.2 b o q
   exact#[_,by rw[other b ba (old b o q)];exact GV tb z]
 .refine#[_,h1.objs.size,_,_,a4,by simp [hsz],OD S.1.symm,ne,t4,d4,?_]
  simp
def AC (RZ:A.frames=GM (env::outer)) (hl:s.heap.FunFrames base (env::outer)) (hf:env.frame=GM L)
  (he:s.heap.get? a=GM oe) (hd:oe.data= .fields vs) (h1:vs[1]?=GM .none)
  (h: ∀h',AI ((env::outer).filterMap (·.frame)) [a] a oe s.heap h'->Q () { s with heap:=h' }):Hq M A (leaving env (.ref a)) Q E s:=by
 unfold leaving Qk;simp only[hf];refine Hi (Hi (wpAny_field he hd h1 ?_));rw[GG [01]];exact o5 RZ hl hf he hd (Kr.mp h1).1 h
def yZ (RZ:A.frames=GM (env::outer)) (hl:s.heap.FunFrames base (env::outer)) (hf:env.frame=GM L)
  (he:s.heap.get? a=GM oe) (hd:oe.data= .fields vs) (h1:vs[1]?=GM (.ref T)) (ne:T≠a) (hT:s.heap.get? T=GM oT) (hdT:oT.data= .fields ts) (h3:ts[3]?=GM .none)
  (h: ∀h',AI ((env::outer).filterMap (·.frame)) [a,T] a oe s.heap h'->Q () { s with heap:=h' }):Hq M A (Qk (.ref a) env) (λ_ s'=>Hq M A (Rw (.ref a) Ix) Q E s') E s:=by
 unfold Qk;simp only[hf];refine Hi (wpAny_field he hd h1 ?_);rw[GI (show(Hn T !=Jy)=IN from by simp)];refine Hi (wpAny_field hT hdT h3 ?_);rw[GG (show¬((Jy == P6 L)=IN) from by simp [P6])];refine Hi (Ti hT hdT (Kr.mp h3).1 ?_);have other: ∀b,b≠T->(s.heap.update T (JI (·.setIfInBounds 3 Jy))).get? b=s.heap.get? b:=λb hb=>IG _ _ (K3 hb)
 have nT:T∉(env::outer).filterMap (·.frame):=λhm=>by
  obtain⟨_,o,ho,hn⟩:=hl.mem hm;rw[hT] at ho;cases ho;exact hn ts hdT
 have sT:=Kt (JI (·.setIfInBounds 3 Jy)) hT (Mw (P5 hdT _));refine o5 (s:= { s with heap:=s.heap.update T (JI (·.setIfInBounds 3 Jy)) }) RZ (hl.of_keeps λb o hb hn=>#[o,(other b λq=>by rw[q,hT] at hb;cases hb;exact hn ts hdT).trans hb,KB]) hf ((other a (K3 ne)).trans he) hd (Kr.mp h1).1 λh' X=>h h' ?_
 have size:(s.heap.update T (JI (·.setIfInBounds 3 Jy))).objs.size=s.heap.objs.size:=Im.size_after_update ..;refine#[λb o nl nc q=>X.keep b o nl (λz=>nc (by rcases Hg.mp z with z|z;rw[z];exact GW;cases z)) ((other b λz=>nc (by rw[z];simp)).trans q),
  λb o hb nc q=>X.slot b o hb (λz=>nc (by rcases Hg.mp z with z|z;rw[z];exact GW;cases z)) ((other b λz=>nc (by rw[z];simp)).trans q),λb o q=>?_,?_]
 .by_cases bT:b=T
  .rw[bT];exact X.there T _ sT
  .exact X.there b o ((other b bT).trans q)
 .obtain⟨ws,T',oT',ts',x1,x2,x3,x4⟩:=X.fly
  exact#[ws,T',oT',ts',x1,x2,by rw[<-size];exact x3,x4]
def Da (RZ:A.frames=GM (env::outer)) (hl:s.heap.FunFrames base (env::outer)) (hf:env.frame=GM L)
  (he:s.heap.get? a=GM oe) (hd:oe.data= .fields vs) (h1:vs[1]?=GM (.ref T)) (ne:T≠a) (hT:s.heap.get? T=GM oT) (hdT:oT.data= .fields ts) (h3:ts[3]?=GM .none)
  (h: ∀h',AI ((env::outer).filterMap (·.frame)) [a,T] a oe s.heap h'->Q () { s with heap:=h' }):Hq M A (leaving env (.ref a)) Q E s:=by
 unfold leaving;exact Hi (yZ RZ hl hf he hd h1 ne hT hdT h3 h)
end
end OS
namespace OS
open PySem
section
variable {prog:Hr}{w:HW}{A:IE}{E:GC->GH->Prop}{h:Im}{g:KC Q9}{d:Drawn}{t:GQ}{os:OsState}
variable {nm q:Ha}{C N:GB}{bs bm bmB:Gr GC}{SA:HK}{sn:Gr Ha}{sub:Gr GC}{ab:HK}{col:GJ HK}{dd:GJ GB}{k0 k1 k2 k3 k5:GJ GC}{B La OU:String}
def LA (h:Im) (l:Gr GC) (name:Ha) (y:GJ GC):Prop:= ∀(M:Model) (A:IE) (E:GC->GH->Prop) (g:KC Q9) (d:Drawn) (t:GQ) (os:OsState) (Q:GJ GC->GH->Prop),Q y #[h,g,d,t,os]->Hq M A (lookupAlong l name) Q E #[h,g,d,t,os]
def LA.of (m:mroOf (.type B)=pure l) (k:JH (.type B) name=pure y):LA h l name y:=by
 rw[typeLookup_eq,m] at k;intro M A E g d t os Q q;rw[show lookupAlong l name=pure y from k];exact HX q
def LA.own {a:GB}{mA:Ha->GJ GC}(o:h.get? a=GM #[c0,da, .cls cd,sl]) (n:h.Ns cd.ns mA) (z:mA name=Ix) (k:LA h l name y):LA h (.ref a::l) name y:=by
 intro M A E g d t os Q q;rw[lookupAlong_cons];refine Hi (wpAny_classOwn_cls o n ?_);rw[z];exact k M A E g d t os Q q
def iz {mN:Ha->GJ GC}{Q:GJ GC->GH->Prop}(hC:h.get? C=GM (JJ nm q C N bs bm SA sn sub ab col dd k0 k1 k2 k3 k5 La)) (n:h.Ns N mN) (k:mN name=Ix->LA h bm name y)
  (q:Q (match mN name with|some v=>GM v|none=>y) #[h,g,d,t,os]):Hq M A (JH (.ref C) name) Q E #[h,g,d,t,os]:=by
 rw[typeLookup_eq];refine Hi (wpAny_mroOf_exc hC ?_);rw[lookupAlong_cons];refine Hi (wpAny_classOwn_exc hC n ?_);cases z:mN name with
 |some v=>rw[z] at q;exact HX q
 |none=>rw[z] at q;exact k z M A E g d t os Q q
abbrev dM (C T:GB):Kh:= { cls:= .ref C,data:= .fields [.ref T, .none, .none, .none, .bool IR, .none].toArray }
abbrev eZ (l:Gr GC):Kh:= { cls:= .type "tuple",data:= .seq l.toArray }
def xX (x:GB) (Q:GC->GH->Prop) (E:GC->GH->Prop) (r:Result) (s':GH):Prop:=match r with
 | .ok (.ret v)=>v= .none/\Q (.ref x) s'
 | .ok _=>False
 | .error e=>E e s'
structure Up (bm l:Gr GC) (B:String):Prop where
 b:l.contains (.type B)=IN
 a:l.contains (.type "AttributeError")=IR
 n:l.contains (.type "NameError")=IR
def CK (F:NO B La OU bmB) (U:Up bm (.ref C::bm) B) {Q:Nq->GH->Prop}(hC:h.get? C=GM (JJ nm q C N bs bm SA sn sub ab col dd k0 k1 k2 k3 k5 La)) (z:Q () #[h,g,d,t,os]):Hq M A (Kw La #[.ref C::rest,[]]) Q E #[h,g,d,t,os]:=by
 have u:=U.b
 have st:=F.noStar;simp only[F.newRow,F.newSplit,F.newKind,Kw]
 repeat (first|(refine wpAny_isSubtype_exc hC ?_;rw[u])|refine HN hC ?_|refine wpAny_madeBy_exc hC ?_|refine wpAny_staticBase_exc hC ?_|simp only[bne_self_eq_false,J6,Nl]|wp_step)
 exact z
def BS (F:NO B La OU bmB) (U:Up bm (.ref C::bm) B) {R:Result->GH->Prop}(hC:h.get? C=GM (JJ nm q C N bs bm SA sn sub ab col dd k0 k1 k2 k3 k5 La)) (z:R (.ok (.ret (.ref (h.objs.size+1)))) #[(h.push (eZ rest)).push (dM C h.objs.size),g,d,t,os]) (Ui:rest.length<=GZ):
  ME (model prog w) A (.builtin La #[.ref C::rest,[]]) R #[h,g,d,t,os]:=by
 have ak4:=F.ends
 have u1:=U.b
 have u2:=U.a
 have u3:=U.n;refine codeAny_builtinAt F.entry ?_;unfold Builtin.«BaseException.__new__»;refine wpAt_bind ?_
 show wpAt _ _ _ (stack>>=_) _ _ _
 refine wpAt_bind (wpAt_stack λ_ _=>wpAt_of_wpAny ?_)
 wp_walk
 refine wpAt_of_wpAny ?_;rw[F.owner]
 repeat (first|(with_reducible refine wpAny_isSubtype_exc hC ?_;first|rw[u1]|rw[u2]|rw[u3])|with_reducible refine wpAny_madeHere_exc F.canon hC ?_|with_reducible refine HN hC ?_|wp_step)
 show R _ _
 rw[Ju];exact z
def zX (F:NO B La OU bmB) (U:Up bm (.ref C::bm) B) {Q:Nq->GH->Prop}
  (hC:h.get? C=GM (JJ nm q C N bs bm SA sn sub ab col dd k0 k1 k2 k3 k5 La)) (he:h.get? e=GM oe) (ZH:oe.cls= .ref C) (z:Q () #[h,g,d,t,os]):Hq M A (Kw OU #[.ref e::rest,[]]) Q E #[h,g,d,t,os]:=by
 have u:=U.b
 have st:=F.noStar;simp only[F.initRow,F.initSplit,F.initKind,Kw]
 repeat (first|(with_reducible refine wpAny_isSubtype_exc hC ?_;rw[u])|(with_reducible refine HN he ?_;rw[ZH])|with_reducible refine HN hC ?_|wp_step)
 refine wpAny_onRaise ?_;rw[show∀(a b:String) (n:GQ),Bind.check #[.positional,"*",B, .self,[#["args", .varPos,IR]]] a b n (W5 (λx=>x.1) ({ pos:=Hn e::rest } :Args).kw)=pure () from λ_ _ _=>check_star_args _ _ _ _ _ _];exact HX z
def pT (F:NO B La OU bmB) (U:Up bm (.ref C::bm) B) {mN:Ha->GJ GC}{Q:Fin->GH->Prop}
  (hC:h.get? C=GM (JJ nm q C N bs bm SA sn sub ab col dd k0 k1 k2 k3 k5 La)) (hn:h.Ns N mN) (WL:mN "__init__"=GM (.ref fI)) (hI:h.get? fI=GM oI) (hIc:oI.cls= .type "function")
  (hq:ME (model prog w) A (.call (.ref fI) #[.ref (h.objs.size+1)::rest,[]]) (xX (h.objs.size+1) (λv s'=>Q (.done (.ret v)) s') E) #[(h.push (eZ rest)).push (dM C h.objs.size),g,d,t,os])
  (Ui:rest.length<=GZ):
  Hq (model prog w) A (Builtin.«type.__call__» #[.ref C::rest,[]]) Q E #[h,g,d,t,os]:=by
 repeat (first|with_reducible refine HN hC ?_|with_reducible refine wpAny_madeBy_exc hC ?_|wp_step)
 refine codeAny_call_builtin_code (UQ _ F.quiet) (CK F U hC ?_);refine BS F U hC ?_ Ui;show Hq _ _ _ _ _ _;have c1:((h.push (eZ rest)).push (dM C h.objs.size)).get? C=GM (JJ nm q C N bs bm SA sn sub ab col dd k0 k1 k2 k3 k5 La):=GV _ (GV _ hC);have n1:((h.push (eZ rest)).push (dM C h.objs.size)).Ns N mN:=
  let ⟨o,es,ep,e,r⟩:=hn;#[o,es,ep,GV _ (GV _ e),r]
 have i1:((h.push (eZ rest)).push (dM C h.objs.size)).get? fI=GM oI:=GV _ (GV _ hI)
 have e1:((h.push (eZ rest)).push (dM C h.objs.size)).get? (h.objs.size+1)=GM (dM C h.objs.size):=by heap_get
 have hcC:(Hn C::bm).contains (.ref C)=IN:=by simp
 unfold Yz
 repeat (first|with_reducible refine HN e1 ?_|(with_reducible refine wpAny_isSubtype_exc c1 ?_;rw[hcC])|wp_step)
 show Hq _ _ (JH (.ref C) _) _ _ _
 refine iz (y:=Ix) c1 n1 (λz=>by rw[WL] at z;cases z) ?_;rw[WL];refine wpAny_holding ?_;unfold bindSpecial;refine Hi (Hi ?_);have hT:(⟨(h.push (eZ rest)).push (dM C h.objs.size),g,d,t,os⟩:GH).TypeIs (.ref fI) "function":=#[_,i1,hIc];refine wpAny_typeOf hT (HX (Hi (QN (NN hq λr s' z=>?_))));rcases r with e|(v|_|_|_)
 .exact z
 .exact z.elim
 .exact z.elim
 .exact z.elim
 .obtain⟨rfl,z⟩:=z
  exact HX (HX z)
def Ej (F:NO B La OU bmB) (U:Up bm (.ref C::bm) B) {mN:Ha->GJ GC}{R:Result->GH->Prop}
  (hC:h.get? C=GM (JJ nm q C N bs bm SA sn sub ab col dd k0 k1 k2 k3 k5 La)) (hn:h.Ns N mN) (WL:mN "__init__"=GM (.ref fI)) (hI:h.get? fI=GM oI) (hIc:oI.cls= .type "function")
  (hq:ME (model prog w) (A.under (.builtin "type.__call__" #[.ref C::rest,[]])) (.call (.ref fI) #[.ref (h.objs.size+1)::rest,[]]) (xX (h.objs.size+1) (λv s'=>R (.ok (.ret v)) s') (λe s'=>R (.error e) s')) #[(h.push (eZ rest)).push (dM C h.objs.size),g,d,t,os])
  (Ui:rest.length<=GZ):
  ME (model prog w) A (.call (.ref C) #[rest,[]]) R #[h,g,d,t,os]:=by
 have f1:=tc_lookup
 have f2:=tc_bind (.ref C)
 have hT:(⟨h,g,d,t,os⟩:GH).TypeIs (.ref C) "type":=#[_,hC,KB];refine codeAny_of_tree ?_
 show Hq _ _ (callAny (.ref C) _) _ _ _
 repeat (any_goals (first|assumption|with_reducible refine HN hC ?_|wp_step))
 refine#[KB,?_];refine codeAny_call_builtin_at (UQ _ [00]) entry_typeCall (wpAny_check_type_call_sub hC (pT F U hC hn WL hI hIc ?_ Ui));exact hq
def AQ (F:NO B La OU bmB) (U:Up bm (.ref C::bm) B) {R:Result->GH->Prop}
  (hC:h.get? C=GM (JJ nm q C N bs bm SA sn sub ab col dd k0 k1 k2 k3 k5 La)) (he:h.get? e=GM (dM C T))
  (hq:R (.ok (.ret .none)) #[(h.push (eZ [])).update e (JI (·.setIfInBounds 0 (.ref h.objs.size))),g,d,t,os]):
  ME (model prog w) A (.call (.builtin OU) #[[.ref e],[]]) R #[h,g,d,t,os]:=by
 refine P4 F.init.plain F.initEntry (zX F U hC he KB ?_);unfold Builtin.«BaseException.__init__»
 wp_walk
 exact hq
end
def aeQ:JH (.type "Exception") "__getattribute__"=pure (GM (.builtin "BaseException.__getattribute__")):=by rw[Ly,Kc];kernel_rfl
def aeR:JH (.type "Exception") "__getattr__"=pure Ix:=by rw[Ly,Kc];kernel_rfl
def yJ:Slot "Exception" "__getattribute__" "BaseException.__getattribute__":=
 .of (owner:="BaseException") (n:="__getattribute__") (by rw[Ly,Kc];kernel_rfl) [00] [00] [00]
  (by first|exact .inl [00]|exact .inr [00]) (by rw[isSubtype_type];kernel_rfl)
section
open Builtin Builtin.ObjectAttr
variable {prog:Hr}{w:HW}{A:IE}{E:GC->GH->Prop}{h:Im}{g:KC Q9}{d:Drawn}{t:GQ}{os:OsState}
variable {nm q:Ha}{C N x:GB}{bs bm:Gr GC}{sn:Gr Ha}{sub:Gr GC}{ab:HK}{col:GJ HK}{dd:GJ GB}{k0 k1 k2 k3 k5:GJ GC}{La:String}
 {mN mA:Ha->GJ GC}{name:Ha}{v:GC}
def zQ {Q:Vq->GH->Prop}
  (hC:h.get? C=GM (JJ nm q C N bs bm IN sn sub ab col dd k0 k1 k2 k3 k5 La)) (hn:h.Ns N mN) (hna:mN name=Ix)
  (hB:LA h bm name Ix) (I:h.Inst x C mA) (hv:mA name=GM v) (hq:Q (.done (.ret v)) #[h,g,d,t,os]):
  Hq (model prog w) A (Builtin.«object.__getattribute__» #[[.ref x, .str name tk],[]]) Q E #[h,g,d,t,os]:=by
 obtain⟨o,hx,hc,hnc,hd⟩:=I;rcases hd with⟨_,hmA⟩|⟨dx,WM,hne,hns⟩
 .rw[hmA name] at hv;cases hv
 unfold Builtin.«object.__getattribute__»
 repeat (first|(with_reducible refine HN hx ?_;rw[hc])|(with_reducible refine iz hC hn (λ_=>hB) ?_;rw[hna])|wp_step)
 split
 .rename_i c RB
  exact G6 RB (hnc c)
 unfold instanceDict
 repeat (first|(with_reducible refine HN hx ?_;rw[hc])|with_reducible refine HN hC ?_|wp_step)
 rw[WM]
 repeat (first|(with_reducible refine wpAny_nsGet hns.ns ?_;rw[hv])|wp_step)
 exact hq
def Bb (hcB:(Hn C::bm).contains (.type "BaseException")=IN) {Q:Nq->GH->Prop}(hC:h.get? C=GM (JJ nm q C N bs bm IN sn sub ab col dd k0 k1 k2 k3 k5 La))
  (hx:h.get? x=GM o) (hc:o.cls= .ref C) (hq:Q () #[h,g,d,t,os]):Hq M A (Kw "BaseException.__getattribute__" #[[.ref x,jd],[]]) Q E #[h,g,d,t,os]:=by
 have hk:builtinKind "BaseException.__getattribute__"=GM .slot:=by decide+kernel
 have aab:splitId "BaseException.__getattribute__"=GM ("BaseException","__getattribute__"):=by decide+kernel
 have ha:=PySem.F.args_bexc_ga (.ref x) jd;simp only[Kw,hk,aab];refine Hi ?_;unfold Yz
 repeat (first|(with_reducible refine HN hx ?_;rw[hc])|(with_reducible refine wpAny_isSubtype_exc hC ?_;rw[hcB])|wp_step)
 exact hq
def EV (hcB:(Hn C::bm).contains (.type "BaseException")=IN) (l1:LA h bm "__getattribute__" (GM (.builtin "BaseException.__getattribute__"))) (l2:LA h bm "__getattr__" Ix) {Q:GC->GH->Prop}
  (hC:h.get? C=GM (JJ nm q C N bs bm IN sn sub ab col dd k0 k1 k2 k3 k5 La)) (hn:h.Ns N mN) (hng:mN "__getattribute__"=Ix) (hnh:mN "__getattr__"=Ix) (hna:mN name=Ix)
  (hB:LA h bm name Ix) (I:h.Inst x C mA) (hv:mA name=GM v) (hh:handedOut v=pure v) (hq:Q v #[h,g,d,t+1,os]):
  Hq (model prog w) A (SW (.ref x) name expr) Q E #[h,g,d,t,os]:=by
 obtain⟨o,hx,hc,_⟩:=id I;have f3:=yJ.bind (.ref x);have hx0:(expr&&onTheHeap (NT "BaseException.__getattribute__"))=IR:=by cases expr<;>rfl
 have hx2:(NT "BaseException.__getattribute__" == NT "object.__getattribute__")=IR:=by decide+kernel
 have hx1:(onTheHeap (Hn C)&&NT "BaseException.__getattribute__" == NT "object.__getattribute__")=IR:=by rw[hx2];rfl
 have hx3:onTheHeap (Hn C)=IN:=rfl;unfold SW getAttrBy
 repeat (any_goals (first|assumption|(with_reducible refine HN hx ?_;rw[hc])|(with_reducible refine iz hC hn (λ_=>l1) ?_;rw[hng])|(with_reducible refine iz hC hn (λ_=>l2) ?_;rw[hnh])|wp_step))
 exact P4 yJ.plain PySem.F.entry_bexc_ga (Bb hcB hC hx hc (zQ hC hn hna hB I hv (by show Hq _ _ (handedOut v) _ _ _;rw[hh];exact HX hq)))
end
end OS
namespace OS
open PySem
section
open Builtin Builtin.ObjectAttr
variable {prog:Hr}{w:HW}{A:IE}{E:GC->GH->Prop}{h:Im}{g:KC Q9}{d:Drawn}{t:GQ}{os:OsState}
variable {nm q:Ha}{C N x R:GB}{bs bm:Gr GC}{sn:Gr Ha}{sub:Gr GC}{ab:HK}{col:GJ HK}{dd:GJ GB}{k0 k1 k2 k3 k5:GJ GC}{La:String}
 {mN mA:Ha->GJ GC}{name:Ha}{v:GC}{o:Kh}{vs:KC GC}{sa owner B:String}
def FB {Q:Nq->GH->Prop}(SF:M0 B bm sa owner) (hC:h.get? C=GM (JJ nm q C N bs (.ref R::bm) IN sn sub ab col dd k0 k1 k2 k3 k5 La)) (hx:h.get? x=GM o) (hc:o.cls= .ref C) (z:Q () #[h,g,d,t,os]):
  Hq M A (Kw sa #[[.ref x,y,v],[]]) Q E #[h,g,d,t,os]:=by
 have u:(Hn C:: .ref R::bm).contains (.type owner)=IN:=by rw[HS,HS,SF.hasOwner,Qq,Qq]
 have ha:=SF.args (.ref x) y v;simp only[SF.split,SF.kind,Kw];refine Hi ?_;unfold Yz
 repeat (first|(with_reducible refine wpAny_isSubtype_exc hC ?_;rw[u])|(with_reducible refine HN hx ?_;rw[hc])|wp_step)
 cases hs:Manifest.signature? sa with
 |none=>exact HX z
 |some r=>
  simp only[argsOk,hs] at ha;show Hq M A (WY sa r #[[.ref x,y,v],[]]) Q E _;rw[show WY sa r #[[.ref x,y,v],[]]=pure () from ha];exact HX z
def Bo {Q:Vq->GH->Prop}(SF:M0 B bm sa owner) (hC:h.get? C=GM (JJ nm q C N bs (.ref R::bm) IN sn sub ab col dd k0 k1 k2 k3 k5 La)) (hn:h.Ns N mN) (hna:mN name=Ix)
  (hB:LA h (.ref R::bm) name Ix) (hx:h.get? x=GM o) (hc:o.cls= .ref C) (hdn:o.dict=Ix) (hfd:o.data= .fields vs)
  (hq: ∀h' Vb,(∀b ob,b≠x->h.get? b=GM ob->h'.get? b=GM ob)->h'.get? x=GM #[o.cls,GM h.objs.size,o.data,o.slots]->h'.Ns1 h.objs.size (λy=>if y=name then GM v else Ix)->
   Q (.done (.ret .none)) #[h',g,d,Vb,os]):
  Hq (model prog w) A (Builtin.«object.__setattr__» #[[.ref x, .str name tk,v],[]]) Q E #[h,g,d,t,os]:=by
 have VL:=SF.passes (.ref x);unfold Builtin.«object.__setattr__»
 repeat (first|rw[refuse_eq]|(rw[refuseLoop_ref,refuseLoop_ref,VL])|(with_reducible refine HN hx ?_;rw[hc])|with_reducible refine wpAny_mroOf_exc hC ?_|(with_reducible refine iz hC hn (λ_=>hB) ?_;rw[hna])|wp_step)
 rw[hdn,GG (by simp [typeHasDict])];split
 .rename_i z
  cases z
 split
 .rename_i c z
  rw[hfd] at z;cases z
 .have x1:(h.push { cls:= .type "dict",data:= .dict [].toArray }).get? x=GM o:=GV _ hx
  have ne:x≠h.objs.size:=Ik (Hk hx);refine Hi (wpAny_alloc' ?_);refine Hi (wpAny_update' x1 ?_);refine HX ?_
  have hgd:((h.push { cls:= .type "dict",data:= .dict [].toArray }).update x λo=> { cls:=o.cls,dict:=GM h.objs.size,data:=o.data,slots:=o.slots }).get? h.objs.size
    =GM { cls:= .type "dict",data:= .dict [].toArray } :=
   (Uo _ _ _ _ ne.symm).trans (Im.get?_push_at KB KB)
  have Xy:((h.push { cls:= .type "dict",data:= .dict [].toArray }).update x λo=> { cls:=o.cls,dict:=GM h.objs.size,data:=o.data,slots:=o.slots }).Ns h.objs.size (λ_=>Ix):=
   #[_, [].toArray,_,hgd,KB,λe he=>G6 he (by simp),λ_=>rfl]
  show Hq _ _ (storeInDict h.objs.size (.str name tk) name v) _ _ _
  unfold storeInDict newKeyGuard;refine Hi (HX (Hi (Vg (Pw Xy) λh' hn' hs=>?_)));obtain⟨oD,esD,epD,hoD,hdD,hcD⟩:=hn'.count (YD name v Within.nil);refine Hi (Rr hoD (by rw[hdD];exact Rt (G0 hcD (by rw[Gv,GU,Nj];lia))) ?_)
  wp_walk
  refine hq h' _ (λb ob hb e=>?_) ?_ hn'
  .exact(hs.2 b (Ik (Hk e))).trans ((Uo _ _ _ _ hb).trans (GV _ e))
  .refine(hs.2 x ne).trans (Kt _ x1 ?_)
   have RZ:=(Im.get?_some_iff.mp hx).2;obtain⟨oc,od,odt,VW⟩:=o;cases odt<;>first|rfl|exact RZ
def CJ {Q:Vq->GH->Prop}(SF:M0 B bm sa owner) (hC:h.get? C=GM (JJ nm q C N bs (.ref R::bm) IN sn sub ab col dd k0 k1 k2 k3 k5 La)) (hn:h.Ns N mN) (hna:mN name=Ix)
  (hB:LA h (.ref R::bm) name Ix) (hx:h.get? x=GM o) (hc:o.cls= .ref C) (WM:o.dict=GM dx) (hd:h.Ns1 dx mA) (hw:Within mA ns) (hsz:ns.length<=1000)
  (hq: ∀h' Vb,(∀b ob,b≠dx->h.get? b=GM ob->h'.get? b=GM ob)->h'.Ns1 dx (λy=>if y=name then GM v else mA y)->Q (.done (.ret .none)) #[h',g,d,Vb,os]):
  Hq (model prog w) A (Builtin.«object.__setattr__» #[[.ref x, .str name tk,v],[]]) Q E #[h,g,d,t,os]:=by
 have VL:=SF.passes (.ref x);unfold Builtin.«object.__setattr__»
 repeat (first|rw[refuse_eq]|(rw[refuseLoop_ref,refuseLoop_ref,VL])|(with_reducible refine HN hx ?_;rw[hc])|with_reducible refine wpAny_mroOf_exc hC ?_|(with_reducible refine iz hC hn (λ_=>hB) ?_;rw[hna])|wp_step)
 rw[WM];refine HX ?_;show Hq _ _ (storeInDict dx (.str name tk) name v) _ _ _;unfold storeInDict newKeyGuard;refine Hi (HX (Hi (Vg hd λh' n' hs=>?_)));obtain⟨o1,es1,ep1,h1,d1,c1⟩:=n'.count (YD name v hw);refine Hi (Rr h1 (by rw[d1];exact Rt (G0 c1 (by rw[Gv,Nj];lia))) ?_)
 wp_walk
 exact hq h' _ (λb ob hb e=>(hs.2 b hb).trans e) n'
def zk {Q:Nq->GH->Prop}(SF:M0 B bm sa owner) (hC:h.get? C=GM (JJ nm q C N bs (.ref R::bm) IN sn sub ab col dd k0 k1 k2 k3 k5 La)) (hn:h.Ns N mN) (hns:mN "__setattr__"=Ix) (l:LA h (.ref R::bm) "__setattr__" (GM (.builtin sa))) (hx:h.get? x=GM o) (hc:o.cls= .ref C)
  (hq: ∀tk t,Hq (model prog w) A.in1 (Builtin.«object.__setattr__» #[[.ref x, .str name tk,v],[]]) (λf s'=>f= .done (.ret .none)/\Q () s') (λ_ _=>False) #[h,g,d,t,os]):
  Hq (model prog w) A (SX (.ref x) name v) Q E #[h,g,d,t,os]:=by
 have f3:=SF.slot.bind (.ref x);unfold SX callSpecial? specialOf
 repeat (any_goals (first|assumption|(with_reducible refine HN hx ?_;rw[hc])|(with_reducible refine iz hC hn (λ_=>l) ?_;rw[hns])|wp_step))
 refine P4 SF.slot.plain SF.entry (FB SF hC hx hc (JQ (hq _ _) (λf s' z=>?_) λ_ _ z=>z.elim));obtain⟨rfl,z⟩:=z
 repeat (any_goals (first|assumption|wp_step))
end
end OS
namespace OS
open PySem PySem.Spec L2
open PyProof.Rows hiding St
def EN (H:Hp) (ch:Gr GB):Hp:=λb=>if b∈ch then Ix else H b
def fM {H:Hp}(h:b∉ch):EN H ch b=H b:=GG h
def n6 {H:Hp}(h:b∈ch):EN H ch b=Ix:=GI h
def D7 {H:Hp}(h: ∀b∈ch,H b=Ix):EN H ch=H:=by
 funext b
 by_cases hb:b∈ch
 .rw[n6 hb,h b hb]
 .exact fM hb
def FQ {H:Hp}{a:GB}(I:aP X pins σ H s) (hex:X.ex=[])
  (L:AI (tz X.stack) ch a oe s.heap h') (TM: ∀b∈ch,X.P9.heap.objs.size<=b) (htr: ∀b∈ch,H b=Ix\/ ∃φ,H b=GM (.ext φ)):
  Un X.fs [] X.H_0 (EN H ch) X.P9.heap h'/\iR X.prog X.w (EN H ch) h':=by
 have old: ∀b o,X.P9.heap.get? b=GM o->b∉ch:=λb o e hb=>G6 (Hl (Hk e) (TM b hb)) (Jp _)
 have nex: ∀b,b∉X.ex:=λb hb=>by rw[hex] at hb;exact nomatch hb
 have nst: ∀b o,X.P9.heap.get? b=GM o->b∉X.fs->b∉tz X.stack:=λb o e hb hs=>by
  rcases Hg.mp (I.RJ b hs) with z|z
  .rw[z] at e
   exact G6 (Hl (Hk e) I.ok.above) (Jp _)
  .exact hb z
 have Bm: ∀b u,H b=GM u->(∀φ,u≠ .ext φ)->b∉ch:=λb u e ne hb=>by
  rcases htr b hb with z|⟨φ,z⟩
  .rw[e] at z;cases z
  .rw[e] at z;exact ne φ (Hb z)
 have fin: ∀b,b∈X.fs->b∈tz X.stack:=λb hb=>by
  rcases I.ok.Xh with e|⟨e,hf⟩
  .rw[e];exact hb
  .rw[e];unfold tz;rw[LL,hf];exact Hc _ hb
 refine#[#[λb o e n hb _=>?_,λb o e n hb _=>?_,λb o e n _=>?_,λb o e _=>?_,λb xs e=>?_,λb o u e=>?_,λb ps e=>?_],λx u q=>?_]
 .exact L.keep b o (nst b o e hb) (old b o e) (I.base.keep b o e n hb (nex b))
 .obtain⟨sl,z⟩:=I.base.slot b o e n hb (nex b)
  obtain⟨sl',z'⟩:=L.slot b _ (fin b hb) (old b o e) z;exact#[sl',z']
 .rw[fM (old b o e)]
  exact I.base.free b o e n (nex b)
 .obtain⟨o',z⟩:=I.base.there b o e (nex b)
  exact L.there b o' z
 .have z:=I.base.Rc b xs e
  rw[fM (Bm b _ z λφ y=>nomatch y)]
  exact z
 .have z:=I.base.QQ b o u e
  rw[fM (Bm b _ z λφ y=>nomatch y)]
  exact z
 .obtain⟨more,z⟩:=I.base.Rf b ps e
  exact#[more,by rw[fM (Bm b _ z λφ y=>nomatch y)];exact z]
 .have hx:x∉ch:=λz=>by rw[n6 z] at q;cases q
  rw[fM hx] at q;refine(I.JC x u q).QX (λb v hb e=>?_) (λb e=>?_) λb xs e=>?_
  .refine L.keep b v (λz=>?_) (λz=>?_) e
   .have y:=I.QI b z
    rcases hb with rfl|hb
    .rw[q] at y;cases y
    .rw[hb] at y;cases y
   .rcases hb with rfl|hb
    .exact hx z
    .exact Bm b _ hb (λφ y=>nomatch y) z
  .rw[fM (Bm b _ e λφ y=>nomatch y)];exact e
  .rw[fM (Bm b _ e λφ y=>nomatch y)];exact e
def aeS (C d a:GB) (n:GQ) (H:Hp) (h:Im):Prop:= ∃oe vs T oT ts,h.get? a=GM oe/\oe.cls= .ref C/\oe.dict=GM d/\oe.data= .fields vs/\vs[1]?=GM (.ref T)/\n<=T/\T≠a/\H T=Ix/\
 h.get? T=GM oT/\oT.data= .fields ts/\ts[3]?=GM .none
def jR (P:Hr) (w:HW):qO:=λouter H s E e s'=> ∃(C a d:GB) (H':Hp),e= .ref a/\s'.os=s.os/\Qn s'.gens/\Un (tz outer) [] H H' s.heap s'.heap/\iR P w H' s'.heap/\
 s.heap.objs.size<=a/\H' a=Ix/\aeS C d a s.heap.objs.size H' s'.heap/\E (.ref C) (GM d) H'
section
variable {P:Hr}{w:HW}{K:Gy}{mg:Ha->GJ GC}{base:Im}{H0:Hp}{E:XK}{CX:qO}
def vj {H:Hp}{a d:GB}(I:aP (gU CX P w K mg base N Ja scope f cd A outer s0 H0 E) pins σ H s)
  (L:AI (tz (Lg Ja scope s0.heap.objs.size f cd::outer)) ch a oe s.heap h') (TM: ∀b∈ch,s0.heap.objs.size<=b) (htr: ∀b∈ch,H b=Ix\/ ∃φ,H b=GM (.ext φ)) (ha:a∈ch)
  (hc:oe.cls= .ref C) (hd:oe.dict=GM d) (hE:E (.ref C) (GM d) (EN H ch)):jR P w outer H0 s0 E (.ref a) { s with heap:=h' } :=by
 obtain⟨u,k⟩:=FQ I KB L TM htr;obtain⟨vs,T,oT,ts,x1,x2,x3,x4,x5,x6,x7⟩:=L.fly;refine#[C,a,d,EN H ch,KB,I.os,I.bare,u,k,TM a ha,n6 ha,#[_,vs,T,oT,ts,x1,hc,hd,KB,x2,G0 I.sz x3,x4,?_,x5,x6,x7],hE];have z:=I.JC.fresh x3;by_cases hT:T∈ch
 .exact n6 hT
 .rw[fM hT];exact z
def bN:eN (jR P w) (gU (jR P w) P w K mg base N Ja scope f cd A outer s0 H0 E) E:=by
 intro pins σ H s e s' I h;obtain⟨C,a,d,H',rfl,os,bare,un,JC,za,ha,⟨oe,vs,T,oT,ts,x1,x2,x3,x4,x5,x6,x7,x8,x9,x10,x11⟩,hE⟩:=h;have J:=I.VH (ch:=[]) os un JC bare (λb z=>nomatch z)
 have sz:=I.sz
 have ck: ∀b∈[a,T],H' b=Ix:=λb hb=>by
  rcases Hg.mp hb with z|z
  .rw[z];exact ha
  .rw[Hx.mp z];exact x8
 refine Da (base:=base) J.ok.frames J.stack KB x1 x4 x5 x7 x9 x10 x11 λh' L=>?_;refine vj J L (λb hb=>?_) (λb hb=> .inl (ck b hb)) GW x2 x3 (by rw[D7 ck];exact hE);rcases Hg.mp hb with z|z
 .rw[z];exact G0 sz za
 .rw[Hx.mp z];exact G0 sz x6
end
def kr {P:Hr}{w:HW}{K:Gy}{mg:Ha->GJ GC}{base:Im}{x Ja:Ha}{st:Stmt}{f:GB}{fd:Ia}{N ps:Gr Ha}{k:GQ}{sp:Sp}(F:sd K x Ja st f fd)
  (S:ax N ps (ah st)) (len: ∀vs H Q E,sp vs H Q E->vs.length=ps.length)
  (K9: ∀(IF:GC) (A:IE) (outer:Gr Env) (s:GH) (H:Hp) (vs:Gr V) (Q:VK) (E:XK),cx k (A.deeper (Lg Ja (ah st) s.heap.objs.size f IF))->sp vs H Q E->
   Bd (gU (jR P w) P w K mg base N Ja (ah st) f IF A outer s H E) (bq st) { nx:=λ_ H'=>Q .Ko H',rt:=Q } (start N vs) H):b6 P w K mg base (jR P w) (k+1) f fd ps sp:=by
 obtain⟨oc,od,kV,doc,pm,an,IF,ct,VW,rfl,lk,RB⟩:=F.ex;exact Xu lk RB S len λA outer s H vs Q E hr Tu=>K9 IF A outer s H vs Q E hr Tu
def aeT {R C:GB} :Up (.ref R::dC) (.ref C:: .ref R::dC) "Exception":=
 #[by rw[HS,HS];rfl,by rw[HS,HS];rfl,by rw[HS,HS];rfl]
def DL {R C:GB} :(Hn C:: .ref R::dC).contains (.type "BaseException")=IN:=by rw[HS,HS];rfl
def qF {E:GC->GH->Prop}{Q:Flow->GH->Prop}(hh:A.handled=Ix)
  (H:Hq M A y (λv s1=> ∃e oe vs R C fI,v= .ref e/\XAt s1.heap R C fI/\s1.heap.get? e=GM oe/\oe.cls= .ref C/\oe.data= .fields vs/\vs[1]?=GM .none/\E (.ref e) s1) E s):
  Hq M A (raiseStmt env (GM y) Ix) Q E s:=by
 unfold raiseStmt;refine Hi (JQ H (λv s1 h1=>?_) λ_ _ x=>x);obtain⟨e,oe,vs,R,C,fI,rfl,⟨Nn,mN,oI,NR,mR,⟨nm,q,bs,sn,sub,ab,col,dd,k0,k1,k2,k3,k5,hC⟩,_⟩,he,hc,hd,h1,hE⟩:=h1;have hcB:=DL (R:=R) (C:=C);obtain⟨hp,g,d,tk,os⟩:=s1
 repeat (first|(with_reducible refine HN he ?_;rw[hc])|with_reducible refine HN hC ?_|(with_reducible refine wpAny_isSubtype_exc hC ?_;rw[hcB])|with_reducible refine wpAny_field he hd h1 ?_|wp_step)
 exact wpAny_raiseNew_none hh hE
def rq (C p:GB):HO:= .ext λh=> ∃T,h.get? p=GM (dM C T)
def k6 (C d p:GB):HO:= .ext λh=> ∃o vs,h.get? p=GM o/\o.cls= .ref C/\o.dict=GM d/\o.data= .fields vs/\vs[1]?=GM .none
def c4 (d:GB) (fs:Gr (Ha×V)):HO:= .ext λh=> ∃mA,h.Ns1 d mA/\(∀f,gA (fs.lookup f) (mA f))/\Ou mA (fs.map (·.1))
def j2 (C:GB) (g:Gr V->Gr (Ha×V)->Prop):Sp:=λvs H Q _=> ∃(p:GB) (us:Gr V) (fs:Gr (Ha×V)),vs= .ref p::us/\g us fs/\H p=GM (rq C p)/\
 ∀d,H d=Ix->Q .Ko (bf (bf H d (c4 d fs)) p (k6 C d p))
def Ef (C:GB) (g:Gr V->Gr (Ha×V)->Prop) (E:XK) (t:TA):TS:=λ_ σ H=>t σ H λvs H1=>vs.length<=9/\ ∃fs,g vs fs/\ ∀d,H1 d=Ix->E (.ref C) (GM d) (bf H1 d (c4 d fs))
def rH (X:Cx) (E:XK):Prop:= ∀(pins:Gr (GB×Kh)) (σ:St) (H:Hp) (s:GH) (C d a:GB),aP X pins σ H s->H a=GM (k6 C d a)->X.P9.heap.objs.size<=a->E (.ref C) (GM d) (EN H [a])->X.xe (.ref a) s
def nX {P:Hr}{w:HW}{K:Gy}{mg:Ha->GJ GC}{base:Im}{H0:Hp}{E:XK} :rH (gU (jR P w) P w K mg base N Ja scope f cd A outer s0 H0 E) E:=by
 intro pins σ H s C d a I h z hE;obtain⟨⟨o,ws,x1,x2,x3,x4,x5⟩,_⟩:=I.JC _ _ h;refine AC (base:=base) I.ok.frames I.stack KB x1 x4 x5 λh' L=>?_;refine vj I L (λb hb=>?_) (λb hb=>?_) GW x2 x3 hE
 .rw[Hx.mp hb]
  exact z
 .rw[Hx.mp hb]
  exact .inr #[_,h]
section
variable {E:XK}{g:Gr V->Gr (Ha×V)->Prop}
def oz {H1:Hp}(XR:rH X E) (XC:hU X.K R C fI) (F:b6 X.prog X.w X.K X.mg X.base nJ k fI fdI ps (j2 C g)) (hr:cx (k+1) X.A) (hb:ib X.K fdI ps [])
  (I1:aP X pins σ H1 s1) (r:bH vs us) (lv:vs.length<=9) (hg:g vs fs) (qE: ∀d,H1 d=Ix->E (.ref C) (GM d) (bf H1 d (c4 d fs))):
  Hq (model X.prog X.w) X.A (call (.ref C) us) (λv s1=> ∃e oe vs R C fI,v= .ref e/\XAt s1.heap R C fI/\s1.heap.get? e=GM oe/\oe.cls= .ref C/\oe.data= .fields vs/\vs[1]?=GM .none/\X.xe (.ref e) s1) X.xe s1:=by
 obtain⟨h1,g1,d1,t1,VM⟩:=s1;obtain⟨Nn,mN,oI,NR,mR,⟨nm,q,bs,sn,sub,ab,col,dd,k0,k1,k2,k3,k5,hC⟩,hn,WL,V4,hI,hIc,_⟩:=XC.at_ h1 I1.NY;have lu:us.length<=9:=by rw[<-r.length];exact lv
 have fr:H1 (h1.objs.size+1)=Ix:=I1.JC.fresh (N7 _)
 have ge:((h1.push (eZ us)).push (dM C h1.objs.size)).get? (h1.objs.size+1)=GM (dM C h1.objs.size):=by heap_get
 have I2:aP X pins σ (bf H1 (h1.objs.size+1) (rq C (h1.objs.size+1))) ⟨(h1.push (eZ us)).push (dM C h1.objs.size),g1,d1,t1,VM⟩:=
  I1.laid (t':=t1) (λb u z=>GV _ (GV _ z)) (N7 _) #[#[_,ge],#[_,ge],λ_ _ ⟨T,z⟩ y=>#[T,y _ z]]
 have r2:bH (V.ref (h1.objs.size+1)::vs) (Hn (h1.objs.size+1)::us):= .cons KB r
 have Tu:j2 C g (V.ref (h1.objs.size+1)::vs) (bf H1 (h1.objs.size+1) (rq C (h1.objs.size+1)))
   (λv H'=>v= .Ko/\ ∃d,(bf H1 (h1.objs.size+1) (rq C (h1.objs.size+1))) d=Ix/\H'=bf (bf (bf H1 (h1.objs.size+1) (rq C (h1.objs.size+1))) d (c4 d fs)) (h1.objs.size+1) (k6 C d (h1.objs.size+1))) E0:=
  #[_,vs,fs,KB,hg,aj,λd hd=>#[KB,d,hd,KB]]
 have hl:(Hn (h1.objs.size+1)::us++[]).length=ps.length:=by
  have z:=r2.length;rw[F.len _ _ _ _ Tu] at z;rw[G7];exact z.symm
 have bb:=hb #[(h1.push (eZ us)).push (dM C h1.objs.size),g1,d1,t1,VM] (Hn (h1.objs.size+1)::us) I2.NY hl;rw[G7] at bb;refine QN (Ej Q4 aeT hC hn WL hI hIc (NN (F.run _ X.stack _ _ #[Hn (h1.objs.size+1)::us,[]] (Hn (h1.objs.size+1)::us) _ _ E0 (hr.make C us []) (I2.ZT.make C us []) bb r2 Tu) λr s' Tc=>?_) (by rw[Nj];lia))
 cases r with
 |error e=>exact Tc.elim
 |ok fl=>
  cases fl with
  |next=>exact Tc.elim
  |brk=>exact Tc.elim
  |cont=>exact Tc.elim
  |ret u=>
   obtain⟨v,H',I3,rv,ev,d,hd,eH⟩:=I2.after Tc;subst ev;have np:d≠h1.objs.size+1:=λz=>by rw[z,aj] at hd;cases hd
   rw[af np] at hd;have at3:H' (h1.objs.size+1)=GM (k6 C d (h1.objs.size+1)):=by rw[eH];exact aj
   obtain⟨⟨o,ws,x1,x2,x3,x4,x5⟩,_⟩:=I3.JC _ _ at3;refine#[rv,_,o,ws,R,C,fI,KB,XC.at_ _ I3.NY,x1,x2,x4,x5,XR pins σ H' _ C d _ I3 at3 (G0 I1.sz (N7 _)) ?_];have z:EN H' [h1.objs.size+1]=bf H1 d (c4 d fs):=by
    funext b
    by_cases hb:b=h1.objs.size+1
    .rw[n6 (by rw[hb];exact GW),hb,af np.symm,fr]
    .rw[fM (by simpa using hb),eH,af hb]
     by_cases hbd:b=d
     .rw[hbd,aj,aj]
     .rw[af hbd,af hbd,af hb]
   rw[z];exact qE d hd
def uH (XR:rH X E) (XC:hU X.K R C fI) (F:b6 X.prog X.w X.K X.mg X.base nJ k fI fdI ps (j2 C g)) (hr:cx (k+1) X.A) (hg:Gl X x) (hm:X.mg x=GM (.ref C)) (hb:ib X.K fdI ps []) (ha:PA X (e::es) t)
  (Ss:(x == ("__debug__":Ha))=IR:=by decide) (he:Hf (e::es) X.env=(IR,eval e X.env)::Hf es X.env:=by rfl) (MU:(J9 MN (Hf es X.env)).any (·.1)=IR:=by rfl):
  PS X (.Raise (GM (.Call (.Name x np) (e::es) [] MN)) Ix pos) (Ef C g E t):=by
 intro pins s σ H D I h;rw[arm_exec_Raise];refine Hi (Nb (qF hr.hd (Hi (cG ?_ λv s1 hv=>Hi (Nb (HX hv))))));refine Lq (iO I hg hm ?_ Ss);refine LP (h₀:=X.base) I.ok.mod.U9 XC.kp (cG (ha MN pins s σ H _ I h) λus s1 z=>?_) he MU;obtain⟨vs,H1,I1,r,lv,fs,hgv,qE⟩:=z;exact#[I1.NY,oz XR XC F hr hb I1 r lv hgv qE]
def Ae (XR:rH X E) (XC:hU X.K R C fI) (F:b6 X.prog X.w X.K X.mg X.base nJ k fI fdI ps (j2 C g)) (hr:cx (k+1) X.A) (hg:Gl X x) (hm:X.mg x=GM (.ref C)) (hb:ib X.K fdI ps [])
  (Ss:(x == ("__debug__":Ha))=IR:=by decide):PS X (.Raise (GM (.Call (.Name x np) [] [] MN)) Ix pos) (Ef C g E j9):=by
 intro pins s σ H D I h;obtain⟨lv,fs,hgv,qE⟩:=h;rw[arm_exec_Raise];refine Hi (Nb (qF hr.hd (Hi (cG ?_ λv s1 hv=>Hi (Nb (HX hv))))));refine Lq (iO I hg hm ?_ Ss);exact SQ (I.NY) XC.kp (oz XR XC F hr hb I .nil lv hgv qE)
end
end OS
namespace OS
open Vbemac
def b8 (c:JZ):HK:=letter c||digit c
def fA (c:JZ):HK:=c !=10
def br (p:JZ->HK) (bs:HD) (i:GQ):GQ:=i+((bs.drop i).takeWhile p).length
def fL {bs:HD}{i:GQ}{c:JZ}(h:bs[i]?=GM c):bs.drop i=c::bs.drop (i+1):=by
 obtain⟨hi,e⟩:=Ho.mp h;rw[Kz hi,e]
def kP {p:JZ->HK}{bs:HD}{i:GQ}{c:JZ}(h:bs[i]?=GM c) (hp:p c=IN):br p bs i=br p bs (i+1):=by
 unfold br;rw[fL h,Kj,GI hp,Gv];lia
def og {p:JZ->HK}{bs:HD}{i:GQ}{c:JZ}(h:bs[i]?=GM c) (hp:p c=IR):br p bs i=i:=by
 unfold br;rw[fL h,Kj,GG (by rw[hp];exact Gu)]
 rfl
def my {p:JZ->HK}{bs:HD}{i:GQ}(h:bs.length<=i):br p bs i=i:=by
 unfold br;rw[Mc h]
 rfl
def pj {p:JZ->HK}{bs:HD}{i:GQ}(h:i<=bs.length):br p bs i<=bs.length:=by
 unfold br;have:=(Gr.takeWhile_sublist p (l:=bs.drop i)).length_le;rw[J7] at this;lia
def cS (bs:HD) (i j:GQ):HD:=(bs.drop i).take (j-i)
theorem yQ {p:JZ->HK} : ∀l:HD,l.takeWhile p=l.take (l.takeWhile p).length
 |[]=>rfl
 |a::l=>by
  rw[Kj];split
  .rw[Gv,Gr.take_succ_cons,<-yQ l]
  .rfl
def lH (p:JZ->HK) (bs:HD) (i:GQ):(bs.drop i).takeWhile p=cS bs i (br p bs i):=by
 unfold cS br;rw[Jr];exact yQ _
def oY (p:JZ->HK) (bs:HD) (i:GQ):(bs.drop i).drop ((bs.drop i).takeWhile p).length=bs.drop (br p bs i):=by
 rw[Pb]
 rfl
theorem ju: ∀(w:HD) (p:Pos),(∀c∈w,c≠10)->moved p w=(p.1,p.2+w.length)
 |[],p,_=>rfl
 |c::w,p,h=>by
  show moved (advance p c) w=_
  rw[ju w _ λd hd=>h d (Hc _ hd)];unfold advance;rw[GG (h c GW),Gv];show(p.1,p.2+1+w.length)=_;rw[R6,Nm 1]
theorem rC {p:JZ->HK} : ∀(l:HD),∀c∈l.takeWhile p,p c=IN
 |[],c,h=>nomatch h
 |a::l,c,h=>by
  rw[Kj] at h;split at h
  .rename_i q
   rcases Hg.mp h with e|h
   .rw[e];exact q
   .exact rC l c h
  .exact nomatch h
def o8 {p:JZ->HK}(hp:p 10=IR) (bs:HD) (i:GQ) (q:Pos):moved q ((bs.drop i).takeWhile p)=(q.1,q.2+(br p bs i-i)):=by
 rw[ju _ _ λc hc e=>by
  have:=rC _ c hc;rw[e,hp] at this;cases this]
 unfold br;rw[Jr]
section
variable {bs:HD}{i k:GQ}{c:JZ}{q:Pos}
def mj (h:bs[i]?=GM c) (hb:blank c=IN):lex (k+1) q (bs.drop i)=lex k (advance q c) (bs.drop (i+1)):=by
 rw[fL h,lex,GI hb]
def jj (h:bs[i]?=GM c) (hb:blank c=IR) (P2:c=35):
  lex (k+1) q (bs.drop i)=lex k (q.1,q.2+(br fA bs i-i)) (bs.drop (br fA bs i)):=by
 have e:=fL h
 have m:=o8 (p:=fA) KB bs i q
 have d:=oY fA bs i;rw[e] at m d;rw[e,lex,GG (by rw[hb];exact Gu),GI P2]
 show lex k (moved q ((c::bs.drop (i+1)).takeWhile fA)) ((c::bs.drop (i+1)).drop ((c::bs.drop (i+1)).takeWhile fA).length)=_
 rw[m,d]
def kJ (h:bs[i]?=GM c) (hb:blank c=IR) (P2: ¬c=35) (hl:letter c=IN):
  lex (k+1) q (bs.drop i)=if 24<br b8 bs i-i then [(.bad,q)] else(.word (cS bs i (br b8 bs i)),q)::lex k (q.1,q.2+(br b8 bs i-i)) (bs.drop (br b8 bs i)):=by
 have e:=fL h
 have m:=o8 (p:=b8) [01] bs i q
 have d:=oY b8 bs i
 have t:=lH b8 bs i
 have n:((bs.drop i).takeWhile b8).length=br b8 bs i-i:=by unfold br;rw[Jr]
 rw[e] at m d t n;rw[e,lex,GG (by rw[hb];exact Gu),GG P2,GI hl];show(if 24<((c::bs.drop (i+1)).takeWhile b8).length then _ else(Tok.word ((c::bs.drop (i+1)).takeWhile b8),q)::lex k (moved q ((c::bs.drop (i+1)).takeWhile b8)) ((c::bs.drop (i+1)).drop ((c::bs.drop (i+1)).takeWhile b8).length))=_
 rw[m,d,n,t]
def qy (bs:HD) (j:GQ):HK:=(bs[j]?).any letter
def As (bs:HD) (j:GQ):(bs.drop j).head?=bs[j]?:=Gr.head?_drop
def nO (h:bs[i]?=GM c) (hb:blank c=IR) (P2: ¬c=35) (hl:letter c=IR) (hd:digit c=IN):
  lex (k+1) q (bs.drop i)=if 18<br digit bs i-i\/qy bs (br digit bs i)=IN then [(.bad,q)] else(.num (valueOf (cS bs i (br digit bs i))),q)::lex k (q.1,q.2+(br digit bs i-i)) (bs.drop (br digit bs i)):=by
 have e:=fL h
 have m:=o8 (p:=digit) [01] bs i q
 have d:=oY digit bs i
 have t:=lH digit bs i
 have n:((bs.drop i).takeWhile digit).length=br digit bs i-i:=by unfold br;rw[Jr]
 rw[e] at m d t n;rw[e,lex,GG (by rw[hb];exact Gu),GG P2,GG (by rw[hl];exact Gu),GI hd];show(if 18<((c::bs.drop (i+1)).takeWhile digit).length\/((((c::bs.drop (i+1)).drop ((c::bs.drop (i+1)).takeWhile digit).length).head?).any letter)=IN then _
  else(Tok.num (valueOf ((c::bs.drop (i+1)).takeWhile digit)),q)::lex k (moved q ((c::bs.drop (i+1)).takeWhile digit)) ((c::bs.drop (i+1)).drop ((c::bs.drop (i+1)).takeWhile digit).length))=_
 rw[m,d,n,t,As]
 rfl
theorem pR {n:GQ}{x:HD} : ∀(L:Gr HD),(∀s∈L,s.length=n)->L.find? (λs=>x.take s.length == s)=if x.take n∈L then GM (x.take n) else Ix
 |[],_=>by simp
 |a::L,h=>by
  have ha:=h a GW
  have ih:=pR (n:=n) (x:=x) L λs hs=>h s (Hc _ hs)
  rw[IC,ha];by_cases e:x.take n=a
  .rw[show(x.take n == a)=IN from by rw[e];exact IK a,GI (by rw[e];exact GW),e]
  .rw[show(x.take n == a)=IR from beq_eq_false_iff_ne.mpr e]
   show L.find? _=_
   rw[ih];by_cases m:x.take n∈L
   .rw[GI m,GI (Hc _ m)]
   .rw[GG m,GG (λz=>(Hg.mp z).elim e m)]
def Ah:Gr HD:=SIGNS.take 7
def DC:Gr HD:=SIGNS.drop 7
def gJ:SIGNS=Ah++DC:=(OX 7 SIGNS).symm
def jk: ∀s∈Ah,s.length=2:=by decide
def ot: ∀s∈DC,s.length=1:=by decide
def wT: ∀s∈SIGNS,∀d∈s,d≠10:=by decide
def bJ (bs:HD) (i:GQ):GQ:=if cS bs i (i+2)∈SIGNS then i+(cS bs i (i+2)).length else i+1
def iw (x:HD):x∈SIGNS ↔ x∈Ah\/x∈DC:=by rw[gJ];exact HJ
def AX (h:bs[i]?=GM c):(SIGNS.find? λs=>(bs.drop i).take s.length == s)=if cS bs i (bJ bs i)∈SIGNS then GM (cS bs i (bJ bs i)) else Ix:=by
 have e2:(bs.drop i).take 2=cS bs i (i+2):=by unfold cS;rw[Jr]
 have e1:(bs.drop i).take 1=cS bs i (i+1):=by unfold cS;rw[Jr]
 have l1:(cS bs i (i+1)).length=1:=by rw[<-e1,fL h];rfl
 rw[gJ,Gr.find?_append,pR Ah jk,pR DC ot,e2,e1];by_cases m2:cS bs i (i+2)∈Ah
 .have n2:=jk _ m2
  have s2:cS bs i (i+2)∈SIGNS:=(iw _).mpr (.inl m2)
  have se:bJ bs i=i+2:=by unfold bJ;rw[GI s2,n2]
  rw[GI m2,se,<-gJ,GI s2]
  rfl
 .have se:bJ bs i=i+1:=by
   unfold bJ;by_cases s2:cS bs i (i+2)∈SIGNS
   .rw[GI s2,ot _ (((iw _).mp s2).resolve_left m2)]
   .rw[GG s2]
  have n1: ¬cS bs i (i+1)∈Ah:=λz=>by
   have:=jk _ z;lia
  rw[GG m2,se,<-gJ,GJ.none_or];by_cases m1:cS bs i (i+1)∈DC
  .rw[GI m1,GI ((iw _).mpr (.inr m1))]
  .rw[GG m1,GG λz=>((iw _).mp z).elim n1 m1]
def pY (h:bs[i]?=GM c) (m:cS bs i (bJ bs i)∈SIGNS):(cS bs i (bJ bs i)).length=bJ bs i-i:=by
 have e1:(cS bs i (i+1)).length=1:=by unfold cS;rw[Jr,fL h];rfl
 unfold bJ at m ⊢;split
 .rename_i s2
  rw[GI s2] at m;rcases(iw _).mp s2 with z|z
  .rw[jk _ z,jk _ z];lia
  .rw[ot _ z,e1];lia
 .rw[e1];lia
def ld (h:bs[i]?=GM c) (hb:blank c=IR) (P2: ¬c=35) (hl:letter c=IR) (hd:digit c=IR):
  lex (k+1) q (bs.drop i)=if cS bs i (bJ bs i)∈SIGNS then(.sign (cS bs i (bJ bs i)),q)::lex k (q.1,q.2+(bJ bs i-i)) (bs.drop (bJ bs i)) else [(.bad,q)]:=by
 have f:=AX h
 have e:=fL h
 have hle:i<=bJ bs i:=by unfold bJ;split<;>lia
 have dd: ∀n,(bs.drop i).drop n=bs.drop (i+n):=λn=>Pb
 rw[e] at f;rw[e,lex,GG (by rw[hb];exact Gu),GG P2,GG (by rw[hl];exact Gu),GG (by rw[hd];exact Gu),f];by_cases m:cS bs i (bJ bs i)∈SIGNS
 .rw[GI m,GI m]
  show _::lex k (moved q (cS bs i (bJ bs i))) ((c::bs.drop (i+1)).drop (cS bs i (bJ bs i)).length)=_
  rw[ju _ _ (wT _ m),pY h m,<-e,dd,show i+(bJ bs i-i)=bJ bs i by lia]
 .rw[GG m,GG m]
def FP (h:bs.length<=i):lex (k+1) q (bs.drop i)=[(.eof,q)]:=by
 rw[Mc h,lex]
end
end OS
namespace OS
open Vbemac
open PySem (Str)
def gK:Tok->Prop
 | .word w=>w≠[]/\ ∀c∈w,b8 c=IN
 | .sign s=>s∈SIGNS
 |_=>True
def Mid (x:Tok×Pos):Prop:=x.1≠ .eof/\x.1≠ .bad/\gK x.1
def j5 (x:Tok×Pos):Prop:=x.1= .eof\/x.1= .bad
def gw (t:Jn):Prop:= ∃WN x,t=WN++[x]/\j5 x/\ ∀y∈WN,Mid y
def gw.one (h:j5 x):gw [x]:=#[[],x,KB,h,λ_ z=>nomatch z]
def gw.cons (h:Mid x) (w:gw t):gw (x::t):=by
 obtain⟨WN,y,rfl,f,a⟩:=w;refine#[x::WN,y,KB,f,λz hz=>?_];rcases Hg.mp hz with e|hz
 .rw[e];exact h
 .exact a z hz
def gw.tail (w:gw (x::t)) (h: ¬j5 x):Mid x/\gw t:=by
 obtain⟨WN,y,e,f,a⟩:=w;cases WN with
 |nil=>
  injection e with e1 e2;exact G6 (e1▸f) h
 |cons z WN=>
  injection e with e1 e2;exact#[e1▸a z GW,WN,y,e2,f,λv hv=>a v (Hc _ hv)]
def gw.ne (w:gw t):t≠[]:=by
 obtain⟨WN,y,rfl,_⟩:=w;simp
theorem gu: ∀(k:GQ) (q:Pos) (b:HD),gw (lex k q b)
 |0,q,b=>by rw[lex];exact .one (.inl KB)
 |k+1,q,[]=>by rw[lex];exact .one (.inl KB)
 |k+1,q,c::r=>by
  have z:(c::r)[0]?=GM c:=rfl
  have d0:(c::r).drop 0=c::r:=rfl;rw[<-d0];by_cases hb:blank c=IN
  .rw[mj z hb];exact gu k _ _
  .have hb:blank c=IR:=by simpa using hb
   by_cases P2:c=35
   .rw[jj z hb P2];exact gu k _ _
   .by_cases hl:letter c=IN
    .rw[kJ z hb P2 hl]
     split
     .exact .one (.inr KB)
     .refine .cons #[by simp,by simp,?_,?_] (gu k _ _)
      .rw[<-lH,d0,Kj,GI (by unfold b8;rw[hl];rfl)]
       simp
      .rw[<-lH];exact rC _
    .have hl:letter c=IR:=by simpa using hl
     by_cases hd:digit c=IN
     .rw[nO z hb P2 hl hd]
      split
      .exact .one (.inr KB)
      .exact .cons #[by simp,by simp,IS] (gu k _ _)
     .have hd:digit c=IR:=by simpa using hd
      rw[ld z hb P2 hl hd];split
      .rename_i m
       exact .cons #[by simp,by simp,m] (gu k _ _)
      .exact .one (.inr KB)
theorem dW: ∀(k:GQ) (q:Pos) (b:HD),(lex k q b).length<=k+1
 |0,q,b=>by rw[lex];simp
 |k+1,q,[]=>by rw[lex];simp
 |k+1,q,c::r=>by
  have z:(c::r)[0]?=GM c:=rfl
  have d0:(c::r).drop 0=c::r:=rfl;rw[<-d0];by_cases hb:blank c=IN
  .rw[mj z hb];exact G0 (dW k _ _) (by lia)
  .have hb:blank c=IR:=by simpa using hb
   by_cases P2:c=35
   .rw[jj z hb P2];exact G0 (dW k _ _) (by lia)
   .by_cases hl:letter c=IN
    .rw[kJ z hb P2 hl]
     split
     .simp
     .rw[Gv];exact LI (dW k _ _)
    .have hl:letter c=IR:=by simpa using hl
     by_cases hd:digit c=IN
     .rw[nO z hb P2 hl hd]
      split
      .simp
      .rw[Gv];exact LI (dW k _ _)
     .have hd:digit c=IR:=by simpa using hd
      rw[ld z hb P2 hl hd];split
      .rw[Gv];exact LI (dW k _ _)
      .simp
def fY {a b:HD}(h:sb a=sb b):a=b:=by
 have e:(a.map KD).toArray=(b.map KD).toArray:=Hv Ha.cps h
 have e:a.map KD=b.map KD:=by simpa using e
 exact UR (λx y q=>QO.mp q) |>.mp e
def qV:ml=sb [47,114,101,115,116]:=rfl
def yH: ∀a∈SIGNS,∀b∈SIGNS,dI a=dI b->a=b:=by decide+kernel
def A9: ∀a∈SIGNS,∀c,(dI a).cps[0]?=GM c-> ∀d:GQ,d<256->d=c->b8 (MF d)=IR:=by
 have h: ∀a∈SIGNS,∀d:GQ,d<256->(dI a).cps[0]?=GM d->b8 (MF d)=IR:=by decide+kernel
 intro a ha c hc d hd e;subst e;exact h a ha d hd hc
def tL {w s:HD}(h0:w≠[]) (hw: ∀c∈w,b8 c=IN) (hs:s∈SIGNS):sb w≠dI s:=λe=>by
 obtain⟨c,r,rfl⟩: ∃c r,w=c::r:=by cases w with|nil=>exact G6 KB h0|cons c r=>exact#[c,r,KB]
 have f:=A9 s hs c.toNat (by rw[<-e];rfl) c.toNat (Wb c) KB;rw[UW,hw c GW] at f;cases f
def wB:Tok->GJ Ha
 | .word w=>GM (sb w)
 | .sign s=>GM (dI s)
 | .num _=>Ix
 | .eof=>GM (sb [])
 | .bad=>GM (sb [])
def dF (x:Ha) (w:HD):Prop:=x=sb w/\w≠[]/\ ∀c∈w,b8 c=IN
def eV (x:Ha) (s:HD):Prop:=x=dI s/\s∈SIGNS
def CP: ∀s∈SIGNS,dI s≠sb []:=by decide+kernel
def CW (ok:gK k) {w:HD}(h:dF x w):wB k=GM x ↔ k= .word w:=by
 obtain⟨rfl,h0,h1⟩:=h;constructor
 .intro e
  cases k with
  |word v=>exact Hv Tok.word (fY (Hb e))
  |sign s=>exact G6 (Hb e).symm (tL h0 h1 ok)
  |num n=>cases e
  |eof=>exact G6 (fY (Hb e)).symm h0
  |bad=>exact G6 (fY (Hb e)).symm h0
 .intro e;subst e;rfl
def tX (ok:gK k) (h:eV x s):wB k=GM x ↔ k= .sign s:=by
 obtain⟨rfl,hs⟩:=h;constructor
 .intro e
  cases k with
  |word v=>exact G6 (Hb e) (tL ok.1 ok.2 hs)
  |sign r=>exact Hv Tok.sign (yH r ok s hs (Hb e))
  |num n=>cases e
  |eof=>exact G6 (Hb e).symm (CP s hs)
  |bad=>exact G6 (Hb e).symm (CP s hs)
 .intro e;subst e;rfl
end OS
namespace OS
abbrev jV (p q:PySem.Pos):Prop:=(p.endLine == q.line)=IN
open PySem PySem.Spec L2
open PyProof.Rows hiding St
def bA {X:Cx}{i:Int}{pos:Pos}(hg:Gl X x) (hm: ∃t,X.mg x=GM (.int i t)) (hd:(x == ("__debug__":Ha))=IR:=by decide):PE X (.Name x pos) (tC (.int i)):=by
 obtain⟨t,hm⟩:=hm;exact sU hg hm #[t,KB] hd
def aeU {X:Cx}{i:Ha}{pos:Pos}(hg:Gl X x) (hm: ∃t,X.mg x=GM (.str i t)) (hd:(x == ("__debug__":Ha))=IR:=by decide):PE X (.Name x pos) (tC (.str i)):=by
 obtain⟨t,hm⟩:=hm;exact sU hg hm #[t,KB] hd
def qa.sq {K:Gy}{a:GB}{H:Hp}(h:qa K a xs):qd K H a xs:= .inr h
def yx (r:Paired (λ(p:Gr cf×V) (q:Gr cf×GB×GC)=>p.1=q.1/\bD p.2 q.2.2) IB xs) (k:Gr cf):gA (cT IB k) ((Ra xs k).map (·.2)):=by
 induction r with
 |nil=>exact IS
 | @cons p q ps qs hq t ih=>
  unfold cT Ra at*;rw[IC,IC];by_cases e:q.1=k
  .rw[show decide (p.1=k)=IN from HC (hq.1.trans e),show decide (q.1=k)=IN from HC e]
   exact hq.2
  .rw[show decide (p.1=k)=IR from He (λz=>e (hq.1.symm.trans z)),show decide (q.1=k)=IR from He e]
   exact ih
section
variable {td ty:TE}
def aeV (P:Hr) (w:HW) (K:Gy) (ty td:TE):TE:=λσ H Q=>ty σ H λy H1=>td σ H1 λx H2=> ∃a b k IB,x= .ref a/\Bi P w K a IB/\y= .ref b/\H2 b=GM (.tup (k.map kV))/\Q (.bl (cT IB k).isSome) H2
def aac (P:Hr) (w:HW) (K:Gy) (td ty:TE):TE:=λσ H Q=>td σ H λx H1=>ty σ H1 λy H2=> ∃a b k IB v,x= .ref a/\Bi P w K a IB/\y= .ref b/\H2 b=GM (.tup (k.map kV))/\cT IB k=GM v/\Q v H2
def xR (hu:X.A.units+1<P7) (hi:PE X i ty) (ho:PE X o td):PC X .In i o (aeV X.prog X.w X.K ty td):=by
 intro pins s σ H Q I h;refine bin hi ho I h λv u s2 x y H2 I2 rx ry q=>?_;obtain⟨a,b,k,IB,ey,kd,ex,eb,q⟩:=q;subst ex;subst ey;cases rx;cases ry;obtain⟨xs,dd,rel⟩:=kd.at_;refine wpAny_in_heap (Lr hu) (kc I2.JC eb) kd.no (dd _ I2.NY) ?_;have z:=(yx rel k).Mo;rw[JU] at z;rw[<-z];exact#[.bl _,H2,I2.tok _,KB,q]
def EG (hu:X.A.units+1<P7) (ho:PE X o td) (hi:PE X i ty) (hs:FZ i):PE X (.Subscript o i pos) (aac X.prog X.w X.K td ty):=by
 intro pins s σ H Q I h;refine yt Q3.lookup hs (cG (ho pins s σ H _ I h) λu s1 ⟨x,H1,I1,rx,q1⟩=>cG (hi pins s1 σ H1 _ I1 q1) λiv s2 ⟨y,H2,I2,ry,a,b,k,IB,v',ex,kd,ey,eb,l,q⟩=>?_);subst ex;subst ey;obtain rfl:u=Hn a:=rx;obtain rfl:iv=Hn b:=ry;obtain⟨xs,dd,rel⟩:=kd.at_;have z:=yx rel k;rw[l] at z;obtain⟨w',hw,TQ⟩:=gA.some_of z;obtain⟨p,hp,hp2⟩:=IT.mp hw;have D:=dd _ I2.NY;refine#[D.typeIs,Yu (Lr hu) (kc I2.JC eb) D hp ?_];rw[hp2];exact#[v',H2,I2.tok _,TQ,q]
end
section
variable {X:Cx}{st:Stmt}{t:TS}
def Xz (t:TS):TS:=λD σ H=> ∃J:L2.St->Hp->Prop,t { D with nx:=J } σ H/\ ∀σ' H',J σ' H'->D.nx σ' H'
def kU (h:PS X st t):PS X st (Xz t):=by
 intro pins s σ H D I h0;obtain⟨J,h1,h2⟩:=h0;refine cG (h pins s σ H { D with nx:=J } I h1) λf s1 q=>?_;cases f with
 |next=>
  obtain⟨σ',H',I',q⟩:=q;exact#[σ',H',I',h2 _ _ q]
 |brk=>exact q
 |cont=>exact q
 |ret u=>exact q
end
def bX:gB X (.builtin "isinstance") (λxs H Q=> ∃(x:V) (C:GB) (t:GC) (b:HK),xs=[x, .ref C]/\jh X.K H x t/\Jk X.K t (.ref C)=GM b/\Q (.bl b) H):=by
 intro pins s σ H xs us Q I r h;obtain⟨x,C,t,b,rfl,ty,e,q⟩:=h;obtain⟨u1,u2,rfl,r1,r2⟩:=vals2 r;cases r2;exact An I r1 ty e λtk=>#[.bl b,H,I.tok _,KB,q]
def Bu.of {K:Gy}{H:Hp}(t:Bu K C) (e:H p=GM (.ins C dx fs)):jh K H (.ref p) (.ref C):= .ins e t.cl t.ha t.hn t.htk t.hm
theorem cr {α β:Type}{F:α->β->Prop} : ∀ {l:Gr α}{m:Gr β},Paired F l m->l.length=m.length
 |_,_, .nil=>rfl
 |_,_, .cons r t=>Hv (· +1) (cr t)
def aad (N P:Gr Ha) (sc:Scope):Prop:=sc.kind= .function/\sc.isCoroutine=IR/\sc.isGenerator=IR/\N.Nodup/\N.take P.length=P/\(∀x∈P,sc.names.lookup x=GM .local\/sc.names.lookup x=GM .cell)/\ ∀y∈sc.names,y.2≠ .free
instance (N P:Gr Ha) (sc:Scope):Decidable (aad N P sc):=by unfold aad;infer_instance
def ay {N P:Gr Ha}(h:aad N P sc):ax N P sc:=#[h.1,h.2.1,h.2.2.1,h.2.2.2.1,h.2.2.2.2.1,h.2.2.2.2.2.1,h.2.2.2.2.2.2]
end OS
namespace OS
open PySem PySem.Spec L2
open PyProof.Rows hiding St
def _root_.L2.dB.to (D:dB) (X:Cx) (ss:Gr Stmt):dB:= { D with nx:=λσ H=>Bd X ss D σ H }
def yC {x m:Ha}{p1 p2 p4:Pos}(hp:jV p2 p4) (hf:methodCallForm (args.length+0) (J9 p4 (Hf args env)) (Ob p4 (LO [] env))=IN):
  eval (.Call (.Attribute (.Name x p1) m p2) args [] p4) env=(do
   let ov<-eval (.Name x p1) env
   standAt p2.atName
   let (f,first)<-holding [ov] (O5 ov m (do return (<-importBound (.Name x p1) env).getD IN))
   Tn p4 f first (J9 p4 (Hf args env)) (Ob p4 (LO [] env))):=by
 show(do
   let ov<-eval (.Name x p1) env
   standAt p2.atName
   methodCall (.Name x p1) m p2 p4 env ov (args.length+0) (J9 p4 (Hf args env)) (Ob p4 (LO [] env)))=_
 unfold methodCall calleeOf methodCallPos;rw[hf,hp]
 rfl
section
variable {H:Hp}{t:TS}
def nZ:vU X ss (λD σ H=>Bd X ss D σ H):=λpins s σ H D I h=>by
 obtain⟨t,h,q⟩:=h;exact h pins s σ H D I q
def dA (h:PS X s t) (q:t (D.to X ss) σ H):Bd X (s::ss) D σ H:=#[_,ai h nZ,q]
def aae (h:PS X s t) (q:t D σ H):Bd X [s] D σ H:=#[_,ak h,q]
def fi (q:D.nx σ H):Bd X [] D σ H:=#[_,aQ,q]
end
inductive Pe (X:Cx) (e:Jc) (σ:L2.St) (H:Hp) (Q:VK):Prop
 |mk (t:TE) (_:PE X e t) (_:t σ H Q):Pe X e σ H Q
inductive Pt (X:Cx) (e:Jc) (σ:L2.St) (H:Hp) (Q:HK->Hp->Prop):Prop
 |mk (t:TT) (_:PT X e t) (_:t σ H Q):Pt X e σ H Q
inductive Pa (X:Cx) (e:Gr Jc) (σ:L2.St) (H:Hp) (Q:Gr V->Hp->Prop):Prop
 |mk (t:TA) (_:PA X e t) (_:t σ H Q):Pa X e σ H Q
section
variable {H:Hp}{t:TS}{Q:VK}{R:HK->Hp->Prop}
def eD:PE X e (λσ H Q=>Pe X e σ H Q):=λpins s σ H Q I h=>by
 obtain⟨t,h,q⟩:=h;exact h pins s σ H Q I q
def gO:PT X e (λσ H Q=>Pt X e σ H Q):=λpins s σ H Q I h=>by
 obtain⟨t,h,q⟩:=h;exact h pins s σ H Q I q
def uZ:PA X es (λσ H Q=>Pa X es σ H Q):=λpos pins s σ H Q I h=>by
 obtain⟨t,h,q⟩:=h;exact h pos pins s σ H Q I q
structure Sl (X:Cx) (i:GQ) (y:Ha):Prop where
 hi:X.N[i]?=GM y
 hx:Loc X.env.scope y
 hf:X.fn y=IN
def aW (i:GQ) (nd:X.N.Nodup) (q:Pe X e σ H λv H'=>Bd X ss D (σ.set i (GM v)) H') (h:Sl X i y:=by exact#[KB,HF KB,KB]) (hs:Lf e (GM (.Name y p0)) p5.line X.env=pure IR:=by rfl):Bd X (.Assign [.Name y p0] e p5::ss) D σ H:=
 dA (b4 nd h.hi h.hx eD hs (.inl h.hf)) q
def dQ (q:Pe X e σ H λ_ H'=>Bd X ss D σ H') (hs:Lf e Ix p5.line X.env=pure IR:=by rfl):Bd X (.Expr e p5::ss) D σ H:=dA (a6 eD hs) q
def aD (q:Pe X e σ H D.rt):Bd X (.Return (GM e) p5::ss) D σ H:=dA (aB eD) q
def aY (q:Pt X e σ H λb H'=>if b=IN then Bd X A (D.to X ss) σ H' else Bd X ss D σ H'):Bd X (.If e A [] p5::ss) D σ H:=dA (bz gO nZ aQ) q
def jL (N:L2.St->Hp->Prop) (rest: ∀σ H,N σ H->Bd X ss D σ H) (q:Pt X e σ H λb H'=>if b=IN then Bd X A { D with nx:=N } σ H' else N σ H'):Bd X (.If e A [] p5::ss) D σ H:=dA (kU (bz gO nZ aQ)) #[N,q,rest]
def w9 (q:Bd X ss D σ H):Bd X [] (D.to X ss) σ H:=fi q
def dq (q:Pe X e σ H (wL R)) (he: ∀whole,isTrue e X.env whole=(do let v<-whole;standAt e.pos;holding [v] (truthy v)):=by intro _;rfl):Pt X e σ H R:=#[_,bS eD he,q]
def kT (q:Pt X e σ H λb H'=>R (!b) H'):Pt X (.UnaryOp .Not e p1) σ H R:=#[_,lT gO,q]
def uv {f:Jc}(q:Pt X e σ H λb H'=>if b=IN then Pt X f σ H' R else R IR H'):Pt X (.BoolOp .And [e,f] p1) σ H R:=#[_,(lX gO (lG gO)).pt,q]
def aeW {f:Jc}(q:Pt X e σ H λb H'=>if b=IN then R IN H' else Pt X f σ H' R):Pt X (.BoolOp .Or [e,f] p1) σ H R:=#[_,(qS gO (pH gO)).pt,q]
def vD {x:Ha}(q:Q (.str x) H):Pe X (.Constant (.str x) j p1) σ H Q:=#[_,aK,q]
def gS {x:Int}(q:Q (.int x) H):Pe X (.Constant (.int x) j p1) σ H Q:=#[_,aG,q]
def cg (q:Q .Ko H):Pe X (.Constant .none j p1) σ H Q:=#[_,mh,q]
def ca {Q:Gr V->Hp->Prop}(q:Q [] H):Pa X [] σ H Q:=#[_,ac,q]
def aX {Q:Gr V->Hp->Prop}(q:Pe X e σ H λv H1=>Pa X es σ H1 λvs H2=>Q (v::vs) H2) (hs:Hf (e::es) X.env=(IR,eval e X.env)::Hf es X.env:=by rfl):Pa X (e::es) σ H Q:=#[_,aa eD uZ hs,q]
def bW (i:GQ) {x:Ha}(q:ei i σ H Q) (hN:X.N[i]?=GM x:=by rfl) (hv:tu X.env.scope x:=by exact HF KB) (hd:(x == ("__debug__":Ha))=IR:=by decide) (RB:(x == ("__classdict__":Ha))=IR:=by decide):Pe X (.Name x p1) σ H Q:=#[_,iM hN hv hd RB,q]
end
def Pt.mono {X:Cx}{e:Jc}{σ:L2.St}{H:Hp}{Q Q':HK->Hp->Prop}(h:Pt X e σ H Q) (im: ∀b H,Q b H->Q' b H):Pt X e σ H Q':=by
 obtain⟨t,ht,q⟩:=h;refine#[λσ H Q'=> ∃Q:HK->Hp->Prop,(∀b H,Q b H->Q' b H)/\t σ H Q,λpins s σ H Q' I h=>?_,Q,im,q];obtain⟨Q,im,q⟩:=h;exact cG (ht pins s σ H Q I q) λc s' ⟨H',I',q⟩=>#[H',I',im _ _ q]
def Pe.mono {X:Cx}{e:Jc}{σ:L2.St}{H:Hp}{Q Q':VK}(h:Pe X e σ H Q) (im: ∀b H,Q b H->Q' b H):Pe X e σ H Q':=by
 obtain⟨t,ht,q⟩:=h;refine#[λσ H Q'=> ∃Q:VK,(∀b H,Q b H->Q' b H)/\t σ H Q,λpins s σ H Q' I h=>?_,Q,im,q];obtain⟨Q,im,q⟩:=h;exact cG (ht pins s σ H Q I q) λc s' ⟨v,H',I',r,q⟩=>#[v,H',I',r,im _ _ q]
inductive aaf (I:GQ->L2.St->Hp->Prop) (m:GQ) (σ:L2.St) (H:Hp):Prop
 |mk (k:GQ) (_:k<m) (_:I k σ H):aaf I m σ H
def _root_.L2.dB.lp (D:dB) (X:Cx) (ss:Gr Stmt) (N:L2.St->Hp->Prop):dB:= { D.to X ss with nx:=N,ct:=N,bk:=(D.to X ss).nx }
inductive isApp (L:GB) (R:Hp->Prop) (v:V) (H:Hp):Prop
 |mk (xs:Gr V) (_:H L=GM (.lst xs)) (_:xs.length<GZ) (_:R (bf H L (.lst (xs++[v])))):isApp L R v H
section
variable {X:Cx}{ss A:Gr Stmt}{D:dB}{σ:L2.St}{H:Hp}{e f c:Jc}{es:Gr Jc}{Q:VK}{R:HK->Hp->Prop}{N:L2.St->Hp->Prop}{x y:Ha}{p0 p1 p2 p3 p4 p5:Pos}{i:GQ}{L:GB}{xs:Gr V}{te:TE}
def hJ (hp:Rv (model X.prog X.w) X.A X.env X.xe) (I:GQ->L2.St->Hp->Prop) (m:GQ) (h0:I m σ H) (hs: ∀m σ H,I m σ H->Pt X c σ H λb H1=>if b=IN then Bd X A (D.lp X ss (aaf I m)) σ H1 else Bd X ss D σ H1):Bd X (.While c A [] p5::ss) D σ H:=by
 refine dA (jl hp gO nZ) #[I,#[m,h0],λm σ H h=>(hs m σ H h).mono λb H1 z=>?_];cases b with
 |true=>exact#[aaf I m,λσ' H' ⟨k,h1,h2⟩=>#[k,h1,h2],z]
 |false=>exact z
def lF (q:N σ H):Bd X [] (D.lp X ss N) σ H:=fi q
def uc (q:D.bk σ H):Bd X (.Break p5::A) D σ H:=dA CV q
def yT (i:GQ) (hp:Rv (model X.prog X.w) X.A X.env X.xe) (nd:X.N.Nodup) (he:PE X e te) (hv: ∀R:VK,R (.ref L) H->te σ H R) (I:GQ->L2.St->Hp->Prop) (h0:I 0 σ H) (hL: ∀j σ H,j<=xs.length->I j σ H->H L=GM (.lst xs))
  (hs: ∀j x σ H,xs[j]?=GM x->I j σ H->Bd X A (D.lp X ss (I (j+1))) (σ.set i (GM x)) H) (hd: ∀σ H,I xs.length σ H->Bd X ss D σ H) (hc:X.calm=IN:=by rfl) (h:Sl X i y:=by exact#[KB,HF KB,KB]) (hf: ∀x,KQ e X.env x=pure x:=by intro _;rfl):Bd X (.For (.Name y p0) e A [] p5::ss) D σ H:=
 dA (j6 hp hc (fN he) (cY nd h.hi h.hx (.inl h.hf)) nZ hf) (hv _ #[L,KB,#[_,cJ.of (hL 0 σ H (HG _) h0)],iq I h0 (λj σ H hj h=>cJ.of (hL j σ H hj h)) hs hd])
def so (q:Pa X es σ H (Ep Q)):Pe X (.List es p1) σ H Q:=#[_,bn uZ,q]
def sI (q: ∀L,H L=Ix->Q (.ref L) (bf H L (.lst []))):Pe X (.List [] p1) σ H Q:=so (ca #[HG _,q])
def qP (hl:X.mg "len"=Ix) (hL:H L=GM (.lst xs)) (he:PE X e te) (hv: ∀Q:VK,Q (.ref L) H->te σ H Q) (q:Q (.int xs.length) H) (hg:Gl X "len":=by rfl) (Mu:Hf [e] X.env=[(IR,eval e X.env)]:=by rfl):Pe X (.Call (.Name "len" p1) [e] [] p2) σ H Q:=
 #[_,aS bL hg hl Jg (aa he ac Mu) [01] [01] Mu KB,hv _ #[L,xs,KB, .inl (cJ.of hL),q]]
def cA {r:R2}(ho:lQ X (J5 op) r) (q:Pe X e σ H λx H1=>Pe X f σ H1 λy H2=>r x y H2 (wL R)) (hm:behindInMarks op f=IR:=by exact a0 _):Pt X (.Compare e [op] [f] p1) σ H R:=#[_,bg ho eD eD hm,q]
def By {r:R2}(ho:lQ X (Oa op) r) (q:Pe X e σ H λx H1=>Pe X f σ H1 λy H2=>r x y H2 Q):Pe X (.BinOp e op f p1) σ H Q:=#[_,aZ ho eD eD,q]
def CF (he:PE X e te) (hv: ∀R:VK,R (.ref L) H->te σ H R) (hL:H L=GM (.lst xs)) (q:Pe X f σ H (isApp L λH'=>Bd X ss D σ H')) (hb:JN e "append" X.env (eval e X.env)=eval e X.env:=by rfl) (Mu:Hf [f] X.env=[(IR,eval f X.env)]:=by rfl) (hp:jV p2 p4:=by rfl):
  Bd X (.Expr (.Call (.Attribute e "append" p2) [f] [] p4) p5::ss) D σ H:=by
 refine dQ #[_,df G9 Io Ip dh he (aa eD ac Mu) hb (by rw[Mu];rfl) hp Mu KB,hv _ #[.inl #[KB,_,cJ.of hL],q.mono λv H1 z=>?_]];obtain⟨xs',h1,h2,h3⟩:=z;exact#[L,xs',v,KB,KB,h1,h2,h3]
end
section
variable {H:Hp}{Q:VK}{R:HK->Hp->Prop}{sp:Sp}{CX:qO}{E:XK}
def cB (q:Pe X e σ H (pd X.K y Q)) (hb:JN e y X.env (eval e X.env)=eval e X.env):Pe X (.Attribute e y p1) σ H Q:=#[_,az eD hb,q]
def A4 (q:Pe X e σ H λv H1=>Pe X f σ H1 λu H2=>ZV X.K v u H2 Q) (hs:sO f):Pe X (.Subscript e f p1) σ H Q:=#[_,eS cX eD eD hs,q]
def cj (q:Pa X (e::es) σ H λvs H1=>sp (vs++[]) H1 Q E) (G:b6 X.prog X.w X.K X.mg X.base CX k fa fd ps sp) (hr:cx k X.A) (d:CD X.K X.mg x fa fd ps) (up:eN CX X E) (hg:Gl X x:=by rfl) (hx:(x == ("__debug__":Ha))=IR:=by decide) (he:Hf (e::es) X.env=(IR,eval e X.env)::Hf es X.env:=by rfl) (MU:(J9 p4 (Hf es X.env)).any (·.1)=IR:=by rfl):
  Pe X (.Call (.Name x p1) (e::es) [] p4) σ H Q:=#[_,aq G hr hg d up uZ hx he MU,q]
def aeX (q:Pe X e σ H λv H1=>Pe X f σ H1 λu H2=> ∃i j,v= .int i/\u= .int j/\R (decide (i=j)) H2):Pt X (.Compare e [.Eq] [f] p1) σ H R:=cA cu (q.mono λv H1 q=>q.mono λu H2 ⟨i,j,h1,h2,q'⟩=>by
 subst h1 h2;exact#[KB,_,KB,by rw[show decide (V.int i=V.int j)=decide (i=j) from decide_eq_decide.mpr #[λy=>V.int.inj y,λy=>by rw[y]]];exact q']) (a0 _)
end
def eR {c:Prop} [Decidable c] {A B:Prop}(h1:c->A) (h2: ¬c->B):if decide c=IN then A else B:=by
 by_cases h:c
 .rw[GI (HC h)];exact h1 h
 .rw[GG (by rw[He h];exact Gu)];exact h2 h
end OS
namespace OS
open Vbemac
def ku:Exps->Gr Exp
 | .nil=>[]
 | .cons e l=>e::ku l
def tw:Rest->Gr Exp
 | .nil=>[]
 | .cons _ e r=>e::tw r
def vS:Rest->Gr HD
 | .nil=>[]
 | .cons op _ r=>op::vS r
def oy (s:GQ) (a:Int):HK:=if s=1 then a == 0 else a !=0
def ka (s:GQ):Int:=if s=1 then 0 else 1
end OS
namespace OS
open PySem PySem.Spec L2
open PyProof.Rows hiding St
inductive vH:Gr Ha->Gr Stmt->Prop
 |nil:vH [] []
 |cons {f:Ha}{fs:Gr Ha}{ss:Gr Stmt}{p1 p2 p3 p4:Pos}(_:vH fs ss):vH (f::fs) (.Assign [.Attribute (.Name "self" p1) f p2] (.Name f p3) p4::ss)
inductive mi (C:GB) (fs:Gr Ha) (vs:Gr V) (H:Hp) (Q:VK) (_E:XK):Prop
 |mk (p dx:GB) (ws:Gr V) (_:vs= .ref p::ws) (_:ws.length=fs.length) (_:H p=GM (.ins C dx [])) (_: ∀H':Hp,H' p=GM (.ins C dx (fs.zip ws))->(∀b o,H b=GM o->b≠p->H' b=GM o)->Q .Ko H'):mi C fs vs H Q _E
theorem uz {f:Ha}{v:V} : ∀ {l:Gr (Ha×V)},(∀x∈l,x.1≠f)->Lj f v l=l++[(f,v)]
 |[],_=>rfl
 | (g,x)::r,h=>by
  unfold Lj;rw[GG (h _ GW),uz λy hy=>h y (Hc _ hy)]
  rfl
section
variable {P:Hr}{w:HW}{K:Gy}{mg:Ha->GJ GC}{base:Im}
def Fg {X:Cx}{D:dB}{p dx C:GB}{σ:L2.St}(c:iZ X.K C) (h0:X.N[0]?=GM ("self":Ha)) (v0:tu X.env.scope "self") (s0:σ[0]?=GM (GM (.ref p))):
  ∀ {fs:Gr Ha}{ss:Gr Stmt},vH fs ss-> ∀ {k:GQ}{ws:Gr V}{done:Gr (Ha×V)}{H:Hp},(∀g∈fs,aH X.K C g/\tu X.env.scope g/\(g == ("__debug__":Ha))=IR/\(g == ("__classdict__":Ha))=IR)->
   (∀i g,fs[i]?=GM g->X.N[k+i]?=GM g)->(∀i v,ws[i]?=GM v->σ[k+i]?=GM (GM v))->ws.length=fs.length->(done.map (·.1)++fs).Nodup->done.length+fs.length<1000->H p=GM (.ins C dx done)->
   (∀H':Hp,H' p=GM (.ins C dx (done++fs.zip ws))->(∀b o,H b=GM o->b≠p->H' b=GM o)->D.nx σ H')->Bd X ss D σ H:=by
 intro fs ss hi
 induction hi with
 |nil=>
  intro k ws done H _ _ _ hl _ _ hp q;refine fi (q H ?_ λb o e _=>e);rw[Om.mp hl,Gr.zip_nil_left,G7];exact hp
 | @cons f fs ss p1 p2 p3 p4 _ ih=>
  intro k ws done H hg hN hw hl nd len hp q;cases ws with
  |nil=>cases hl
  |cons v ws=>
   obtain⟨no,vf,d1,d2⟩:=hg f GW;refine dA (fV (iM h0 v0) (iM (hN 0 f KB) vf d1 d2) KB) (g0 (g0 #[p,C,dx,done,KB,hp,c,no,by lia,?_] s0) (hw 0 v KB));have nf: ∀x∈done,x.1≠f:=λx hx e=>by
    have:=(Qj.mp nd).2.2 x.1 (Gr.mem_map_of_mem hx) f GW;exact this e
   rw[uz nf];refine ih (k:=k+1) (ws:=ws) (done:=done++[(f,v)]) (λg h=>hg g (Hc _ h)) (λi g e=>?_) (λi u e=>?_) (VU hl) ?_ ?_ aj λH' h1 h2=>?_
   .rw[R6,Nm 1];exact hN (i+1) g e
   .rw[R6,Nm 1];exact hw (i+1) u e
   .rw[IJ,Hj];exact nd
   .rw[Gw]
    have:done.length+(fs.length+1)<1000:=len
    show done.length+1+fs.length<1000
    lia
   .refine q H' ?_ λb o e ne=>h2 b o (by rw[af ne];exact e) ne
    rw[h1,Hj]
    rfl
def dZ {x Ja:Ha}{st:Stmt}{f:GB}{fd:Ia}{C:GB}{fs:Gr Ha}(F:sd K x Ja st f fd) (S:ax ("self"::fs) ("self"::fs) (ah st)) (c:iZ K C) (no: ∀g∈fs,aH K C g) (i:vH fs (bq st))
  (hd:(fs.length<1000/\ ∀g∈fs,(g == ("__debug__":Ha))=IR/\(g == ("__classdict__":Ha))=IR):=by decide):b6 P w K mg base nJ 1 f fd ("self"::fs) (mi C fs):=by
 refine F.ok S (λvs H Q E h=>?_) [02]
 .obtain⟨p,dx,ws,rfl,h,_⟩:=h
  exact Hv Ry h
 .obtain⟨p,dx,ws,rfl,hl,hp,q⟩:=h
  have vis: ∀g∈("self":Ha)::fs,tu (ah st) g:=λg hg=>(S.par g hg).elim .inl λz=> .inr (.inl z)
  have e:L2.start ("self"::fs) (.ref p::ws)=GM (.ref p)::ws.map GM:=by
   unfold L2.start;rw[show(("self":Ha)::fs).length-(V.ref p::ws).length=0 by rw[Gv,Gv,hl,Me]];exact G7 _
  rw[e];refine Fg (C:=C) (p:=p) (dx:=dx) c KB (vis _ GW) KB i (k:=1) (ws:=ws) (done:=[]) (λg hg=>#[no g hg,vis g (Hc _ hg),hd.2 g hg]) (λi g e=>by rw[Nm];exact e) (λi v e=>?_) hl (J1.mp S.nd).2 (by rw[GU,GQ.zero_add];exact hd.1) hp λH' h1 h2=>q H' h1 h2;rw[Nm,R5,HI,e]
  rfl
end
abbrev cZ.O {K:Gy}{mg:Ha->GJ GC}{n:Ha}{st:Stmt}{ps:Gr Ha}{f:GB}{fd:Ia}(_:cZ K mg n st ps f fd) (P:Hr) (w:HW) (base:Im) (k:GQ) (sp:Sp):Prop:=b6 P w K mg base (jR P w) k f fd ps sp
abbrev cZ.U {K:Gy}{mg:Ha->GJ GC}{n:Ha}{st:Stmt}{ps:Gr Ha}{f:GB}{fd:Ia}(_:cZ K mg n st ps f fd) (P:Hr) (w:HW) (base:Im) (k:GQ) (sp:Sp):Prop:=b6 P w K mg base nJ k f fd ps sp
abbrev hX.O {K:Gy}{C:GB}{n q:Ha}{st:Stmt}{ps:Gr Ha}{f:GB}{fd:Ia}(_:hX K C n q st ps f fd) (P:Hr) (w:HW) (mg:Ha->GJ GC) (base:Im) (k:GQ) (sp:Sp):Prop:=b6 P w K mg base (jR P w) k f fd ps sp
abbrev hX.U {K:Gy}{C:GB}{n q:Ha}{st:Stmt}{ps:Gr Ha}{f:GB}{fd:Ia}(_:hX K C n q st ps f fd) (P:Hr) (w:HW) (mg:Ha->GJ GC) (base:Im) (k:GQ) (sp:Sp):Prop:=b6 P w K mg base nJ k f fd ps sp
abbrev d8 (s:Stmt) (l:Gr Ha):Prop:=ax l l (ah s)
def aeY:d8 abq ["self","worth"]:=ay [00]
def aeZ:d8 abr ["self","name"]:=ay [00]
def ae0:d8 abt ["self","name","arguments"]:=ay [00]
def ae1:d8 abu ["self","sign","operand"]:=ay [00]
def ae2:d8 abv ["self","strength","operands","signs"]:=ay [00]
def ae3:d8 abw ["self","condition","chosen","otherwise"]:=ay [00]
def ae4:d8 abx ["self","name","first","last","body"]:=ay [00]
def ae5:d8 aby ["self","name","exp"]:=ay [00]
def ae6:d8 abz ["self","name","first","last","statements"]:=ay [00]
def ae7:d8 abA ["self","condition","statements","else_statements"]:=ay [00]
def ae8:d8 abB ["self","side","zone","quarter","price","to_price","amount"]:=ay [00]
def ae9:d8 abC ["self","name","exp"]:=ay [00]
def afa:d8 abD ["self","name","side","zone","price","amounts","under","group"]:=ay [00]
def afb:d8 abE ["self","name","exp"]:=ay [00]
def afc:d8 abF ["self","name","parameters","exp"]:=ay [00]
def afd:d8 abG ["self","name","statements"]:=ay [00]
def ajA:d8 s_S ["self","number"]:=ay [00]
def afe:d8 abH ["self"]:=ay [00]
def aff:d8 abI ["self","kind","line","column"]:=ay [00]
def afg:d8 abJ ["sign","right"]:=ay [00]
def afh:d8 abK ["sign","left","right"]:=ay [00]
def afi:d8 abL ["sign","left","right"]:=ay [00]
def afj:d8 abM ["sign","number"]:=ay [00]
def afk:d8 abN ["name","numbers"]:=ay [00]
def afl:d8 abO ["strength","number"]:=ay [00]
def afm:d8 abP ["strength"]:=ay [00]
def ajB:d8 s_T ["self","kind","value","line","column"]:=ay [00]
def ajC:d8 s_h ["byte"]:=ay [00]
def ajD:d8 s_l ["byte"]:=ay [00]
def afn:d8 s_U ["text","at"]:=ay [00]
def afo:d8 s_V ["text","at"]:=ay [00]
def afp:d8 s_W ["text","at"]:=ay [00]
def afq:ax ["text","at","pair"] ["text","at"] (ah s_X):=ay [00]
def afr:ax ["text","at","end","glued"] ["text","at","end"] (ah s_Y):=ay [00]
def F6:ax ["part","worth","byte"] ["part"] (ah s_B):=ay [00]
def aag:ax ["kind","part","byte"] ["kind","part"] (ah s_C):=ay [00]
def mZ:ax ["text","found","line","line_start","at","end","kind"] ["text"] (ah s_m):=ay [00]
def afs:d8 abQ ["self","tokens"]:=ay [00]
def aft:ax ["self","token"] ["self"] (ah s_c):=ay [00]
def afu:ax ["self","kind","token"] ["self","kind"] (ah s_d):=ay [00]
def ajE:d8 s_s ["self","value"]:=ay [00]
def afv:d8 abR ["self"]:=ay [00]
def afw:d8 abS ["self"]:=ay [00]
def XB:ax ["self","token"] ["self"] (ah abT):=ay [00]
def afx:d8 abU ["self"]:=ay [00]
def afy:ax ["self","token"] ["self"] (ah s_D):=ay [00]
def afz:d8 abV ["self","value"]:=ay [00]
def afA:d8 abW ["self","value"]:=ay [00]
def ajF:d8 s_M ["self"]:=ay [00]
def XD:ax ["self","name"] ["self"] (ah abX):=ay [00]
def afB:d8 abY ["self","given"]:=ay [00]
def afC:d8 abZ ["self","name"]:=ay [00]
def afD:d8 ab0 ["self","name"]:=ay [00]
def ajG:d8 s_g ["reader","depth"]:=ay [00]
def afE:d8 s_f ["reader","depth"]:=ay [00]
def afF:ax ["reader","depth","inner","condition","chosen"] ["reader","depth"] (ah ab1):=ay [00]
def afG:ax ["reader","depth","strength","operands","signs"] ["reader","depth","strength"] (ah s_E):=ay [00]
def aah:ax ["reader","depth","inner","sign"] ["reader","depth"] (ah s_n):=ay [00]
def afH:ax ["reader","depth","name"] ["reader","depth"] (ah ab2):=ay [00]
def afI:ax ["reader","depth","inner","exp"] ["reader","depth"] (ah ab3):=ay [00]
def afJ:ax ["reader","depth","inner","name","first","last","body"] ["reader","depth"] (ah ab4):=ay [00]
def afK:ax ["reader","depth","inner","name","wanted","arguments"] ["reader","depth"] (ah YQ):=ay [00]
def afL:d8 ab5 ["reader","sign"]:=ay [00]
def aai:ax ["tops","pieces","top"] ["tops"] (ah s_N):=ay [00]
def Cu:ax ["pieces","found","piece","letter"] ["pieces"] (ah s_t):=ay [00]
def afM:ax ["top","parameters"] ["top"] (ah s_Z):=ay [00]
def aaj:ax ["statements","depth","pieces","statement"] ["statements","depth"] (ah s_j):=ay [00]
def ajH:d8 s_F ["statement","depth"]:=ay [00]
def afN:ax ["statement","depth","pieces"] ["statement","depth"] (ah s_1):=ay [00]
def afO:ax ["step","pieces"] ["step"] (ah s_2):=ay [00]
def afP:ax ["block","pieces"] ["block"] (ah s_3):=ay [00]
def ajI:d8 s_e ["word","exp"]:=ay [00]
def ajJ:d8 s_x ["node"]:=ay [00]
def ajK:d8 s_a ["exp"]:=ay [00]
def ajL:d8 s_k ["exp","weakest"]:=ay [00]
def afQ:d8 ab6 ["exp"]:=ay [00]
def ajM:d8 s_G ["exp"]:=ay [00]
def aak:ax ["arguments","pieces","argument"] ["arguments"] (ah s_O):=ay [00]
def Gj:ax ["chain","pieces","sign","operand"] ["chain"] (ah s_H):=ay [00]
def afR:ax ["choice","pieces"] ["choice"] (ah s_4):=ay [00]
def aal:ax ["tops","top"] ["tops"] (ah s_5):=ay [00]
def afS:d8 ab7 ["top"]:=ay [00]
def Gm:ax ["statements","statement"] ["statements"] (ah s_o):=ay [00]
def Fj:ax ["statement","inner","chosen"] ["statement"] (ah s_I):=ay [00]
def Gg:ax ["step","zone","quarter","price"] ["step"] (ah s_6):=ay [00]
def FO:ax ["block","zone","price","amounts"] ["block"] (ah s_7):=ay [00]
def afT:d8 ab8 ["exp"]:=ay [00]
def afU:d8 s_u ["exp"]:=ay [00]
def ajN:d8 s_i ["exp"]:=ay [00]
def ajO:d8 s_P ["value"]:=ay [00]
def EK:ax ["call","arguments","values","argument"] ["call"] (ah s_w):=ay [00]
def aam:ax ["unary","operand","value"] ["unary"] (ah s_8):=ay [00]
def aan:ax ["chain","operands","operand"] ["chain"] (ah s_9):=ay [00]
def zW:ax ["chain","operands","values","decided","operand","value"] ["chain","operands"] (ah s_p):=ay [00]
def zU:ax ["chain","operands","first","used","value"] ["chain","operands"] (ah s_y):=ay [00]
def zw:ax ["sign","left","right","left_value","right_value","value"] ["sign","left","right"] (ah ab9):=ay [00]
def Cz:ax ["choice","condition","value"] ["choice"] (ah aca):=ay [00]
def EC:ax ["summed","first","last","first_value","last_value"] ["summed"] (ah s_J):=ay [00]
def aao:ax ["text","reader","tops"] ["text"] (ah s_z):=ay [00]
def afV:d8 acb ["reader"]:=ay [00]
def afW:ax ["reader","name","exp"] ["reader"] (ah acd):=ay [00]
def ajP:ax ["reader","exp"] ["reader"] (ah s_A):=ay [00]
def afX:ax ["reader","name","parameters","exp","parameter"] ["reader"] (ah ace):=ay [00]
def afY:ax ["reader","function","parameters"] ["reader","function"] (ah acf):=ay [00]
def afZ:ax ["reader","function","name"] ["reader","function"] (ah acg):=ay [00]
def af0:ax ["reader","name"] ["reader"] (ah ach):=ay [00]
def af1:ax ["reader","depth","statements","statement"] ["reader","depth"] (ah s_q):=ay [00]
def af2:d8 aci ["reader","depth"]:=ay [00]
def af3:ax ["reader","name","exp"] ["reader"] (ah acj):=ay [00]
def af4:d8 ack ["reader","depth"]:=ay [00]
def af5:ax ["reader","depth","inner","name","first","last","statements"] ["reader","depth"] (ah acm):=ay [00]
def af6:ax ["reader","depth","inner","condition","statements","else_statements"] ["reader","depth"] (ah acn):=ay [00]
def af7:d8 aco ["reader"]:=ay [00]
def ajQ:d8 s_r ["reader","word"]:=ay [00]
def ajR:d8 s_Q ["reader","word"]:=ay [00]
def af8:ax ["reader","side","zone","quarter","price","to_price","amount"] ["reader"] (ah acp):=ay [00]
def af9:ax ["reader","name","side","zone","price","amounts","under","group"] ["reader"] (ah acq):=ay [00]
def aga:ax ["reader","name","exp"] ["reader"] (ah acr):=ay [00]
def agb:d8 acs ["reader"]:=ay [00]
def aap:ax ["text","byte"] ["text"] (ah s_K):=ay [00]
def ajS:d8 s_L ["as_told"]:=ay [00]
def ajT:d8 s_R ["numbers"]:=ay [00]
def aaq:ax ["text","tops","refusal"] ["text"] (ah s_b):=ay [00]
variable {P:Hr}{w:HW}{K:Gy}{mg:Ha->GJ GC}{base:Im}{a:bI}
def lJ (bs:Gz):Gr V:=bs.map λc=>V.int (nb c)
def gi (bs:Gz):(lJ bs).length=bs.length:=by unfold lJ;rw[GK]
def fZ {bs:Gz}{i:GQ}{c:JZ}(h:bs[i]?=GM c):(lJ bs)[i]?=GM (V.int (nb c)):=by unfold lJ;rw[HI,h];rfl
def pM {p:JZ->Prop}(h: ∀n:GQ,n<256->p (MF n)) (c:JZ):p c:=by
 have:=h c.toNat (Wb c)
 rwa [UW] at this
def vd (c:JZ):Jh c=(decide ((48:Int)<=nb c)&&decide (nb c<=57)):=pM (p:=λc=>Jh c=(decide ((48:Int)<=nb c)&&decide (nb c<=57))) [00] c
def A5 (c:JZ):Lh c=((decide ((65:Int)<=nb c)&&decide (nb c<=90))||((decide ((97:Int)<=nb c)&&decide (nb c<=122))||decide (nb c=95))):=
 pM (p:=λc=>Lh c=((decide ((65:Int)<=nb c)&&decide (nb c<=90))||((decide ((97:Int)<=nb c)&&decide (nb c<=122))||decide (nb c=95)))) [00] c
inductive wo (p:JZ->HK) (vs:Gr V) (H:Hp) (Q:VK) (_E:XK):Prop
 |mk (c:JZ) (_:vs=[.int (nb c)]) (_:Q (.bl (p c)) H):wo p vs H Q _E
inductive xQ (K:Gy) (p:JZ->HK) (vs:Gr V) (H:Hp) (Q:VK) (_E:XK):Prop
 |mk (l:GB) (bs:Gz) (i:GQ) (_:vs=[.ref l, .int i]) (_:cJ K H l (lJ bs)) (_:i<=bs.length) (_:Q (.int (br p bs i:GQ)) H):xQ K p vs H Q _E
def DG (c:JZ):fA c=!decide (V.int (nb c)=V.int 10):=pM (p:=λc=>fA c=!decide (V.int (nb c)=V.int 10)) [00] c
def kh {i:GQ}{lo hi n:Int}{σ:St}{H:Hp}{Q:VK}(hv:σ[i]?=GM (GM (.int n))) (q:Q (.bl (decide (lo<=n)&&decide (n<=hi))) H):
  D6 (vW λi j=> .bl (decide (i<=j))) (vW λi j=> .bl (decide (i<=j))) (tC (.int lo)) (ei i) (tC (.int hi)) σ H Q:=by
 refine g0 #[_,_,KB,KB,_,KB,?_] hv;by_cases h1:lo<=n
 .rw[GI (HC h1)]
  rw[HC h1,YB] at q;exact#[_,_,KB,KB,q]
 .rw[GG (by rw[He h1];exact Gu)]
  rw[He h1,WW] at q;exact q
def cU:decide (V.int i=V.int j)=decide (i=j):=decide_eq_decide.mpr #[λy=>V.int.inj y,λy=>by rw[y]]
def bi {A B:Prop}(h1:b=IN->A) (h2:b=IR->B):if b=IN then A else B:=by
 cases b with
 |true=>exact dR (h1 KB)
 |false=>exact cW (h2 KB)
def F3 (T:Txt K mg a):T.d_h.U P w base 1 (wo Jh):=by
 refine T.d_h.F.ok ajC [03] [02];obtain⟨c,rfl,q⟩:=h;refine#[_,(ak (aB (lD ji ji aG (pv 0) aG))),?_];rw[vd] at q;exact kh KB q
def aar (T:Txt K mg a):T.d_l.U P w base 1 (wo Lh):=by
 refine T.d_l.F.ok ajD [03] [02];obtain⟨c,rfl,q⟩:=h;refine#[_,(ak (aB (Bz (lD ji ji aG (pv 0) aG) (Bz (lD ji ji aG (pv 0) aG) (oV (cH cu (pv 0) aG (a0 _))))))),?_];rw[A5] at q;refine kh KB #[_,KB,bi (λe=>?_) λe=>?_]
 .rw[e,Ta] at q
  exact q
 .rw[e,PL] at q
  refine kh KB #[_,KB,bi (λe=>?_) λe=>?_]
  .rw[e,Ta] at q
   exact q
  .rw[e,PL] at q
   refine#[KB,?_];rw[cU];exact q
def ajU (T:Txt K mg a):T.d_U.U P w base 1 (xQ K fA):=by
 refine T.d_U.F.ok afn [03] [02];obtain⟨l,bs,i,rfl,hS,hi,q⟩:=h;refine#[_,(ai (jl JA (lX (bg iQ (pv 1) (aS bL (by rfl) T.LV Jg (aa (pv 0) ac)) (a0 _)) (lG (bg uK (eS cX (pv 0) (pv 1) (λ_ _=>rfl)) (bA (by rfl) T.Qs) (a0 _)))).pt (ak (lY (i:=1) afn.nd KB (HF KB) aG l0)))
   (ak (aB (pv 1)))),?_]
 refine#[λm σ H'=> ∃j:GQ,m=bs.length-j/\σ=[GM (.ref l),GM (.int (j:GQ))]/\H'=H/\j<=bs.length/\br fA bs j=br fA bs i,#[_,i,KB,KB,KB,hi,KB],?_];rintro m σ H' ⟨j,rfl,rfl,rfl,hj,ej⟩;refine#[_,_,KB, .inl hS,_,_,KB,KB,_,KB,?_];rw[gi];refine bi (λe=>?_) λe=>?_
 .have lt:j<bs.length:=by have:=Hs e;lia
  obtain⟨c,hc⟩: ∃c,bs[j]?=GM c:=#[_,Jb lt];refine#[_,_,_,_,KB,KB,hS,ci (fZ hc),KB,_,KB,?_];have st:fA c=!decide (V.int (nb c)=V.int 10):=DG c;refine bi (λe2=>?_) λe2=>?_
  .refine#[λσ' Td=>σ'=[GM (.ref l),GM (.int ((j+1:GQ)))]/\Td=H',?_,_,KB,_,_,KB,KB,KB,KB]
   rintro σ' Td ⟨rfl,rfl⟩;exact#[_,by lia,j+1,KB,KB,KB,lt,by rw[<-ej,kP hc (st.trans e2)]]
  .refine ?_
   rw[<-ej,og hc (st.trans e2)] at q;exact q
 .have ge:bs.length<=j:=by have:=Hu e;lia
  refine cW ?_;rw[<-ej,my ge] at q;exact q
def ajV (T:Txt K mg a):T.d_V.U P w base 2 (xQ K b8):=by
 have G_l:=aar (P:=P) (w:=w) (base:=base) T
 have G_h:=F3 (P:=P) (w:=w) (base:=base) T;refine T.d_V.F.ok afo [03] [02];obtain⟨l,bs,i,rfl,hS,hi,q⟩:=h;refine#[_,(ai (jl JA (lX (bg iQ (pv 1) (aS bL (by rfl) T.LV Jg (aa (pv 0) ac)) (a0 _)) (lG (qS (bS (aq G_l hr (by rfl) T.d_l.c aC (aa (eS cX (pv 0) (pv 1) (λ_ _=>rfl)) ac))) (pH (bS (aq G_h hr (by rfl) T.d_h.c aC (aa (eS cX (pv 0) (pv 1) (λ_ _=>rfl)) ac))))).pt)).pt (ak (lY (i:=1) afo.nd KB (HF KB) aG l0)))
   (ak (aB (pv 1)))),?_]
 refine#[λm σ H'=> ∃j:GQ,m=bs.length-j/\σ=[GM (.ref l),GM (.int (j:GQ))]/\H'=H/\j<=bs.length/\br b8 bs j=br b8 bs i,#[_,i,KB,KB,KB,hi,KB],?_];rintro m σ H' ⟨j,rfl,rfl,rfl,hj,ej⟩;refine#[_,_,KB, .inl hS,_,_,KB,KB,_,KB,?_];rw[gi];refine bi (λe=>?_) λe=>?_
 .have lt:j<bs.length:=by have:=Hs e;lia
  obtain⟨c,hc⟩: ∃c,bs[j]?=GM c:=#[_,Jb lt];have go:b8 c=IN-> ∃N:St->Hp->Prop,(∀σ' Td,N σ' Td-> ∃m',m'<bs.length-j/\ ∃j1:GQ,m'=bs.length-j1/\σ'=[GM (.ref l),GM (.int (j1:GQ))]/\Td=H'/\j1<=bs.length/\br b8 bs j1=br b8 bs i)/\
    N [GM (.ref l),GM (.int ((j+1:GQ)))] H':=λy=>by
   refine#[λσ' Td=>σ'=[GM (.ref l),GM (.int ((j+1:GQ)))]/\Td=H',?_,KB,KB];rintro σ' Td ⟨rfl,rfl⟩;exact#[_,by lia,j+1,KB,KB,KB,lt,by rw[<-ej,kP hc y]]
  refine#[_,_,_,_,KB,KB,hS,ci (fZ hc),c,KB,_,KB,bi (λe2=>?_) λe2=>?_]
  .obtain⟨N,n1,n2⟩:=go (by unfold b8;rw[e2];rfl)
   exact dR #[N,n1,_,KB,_,_,KB,KB,n2]
  .refine#[_,_,_,_,KB,KB,hS,ci (fZ hc),c,KB,_,KB,bi (λe3=>?_) λe3=>?_]
   .obtain⟨N,n1,n2⟩:=go (by unfold b8;rw[e3,Qq])
    exact#[N,n1,_,KB,_,_,KB,KB,n2]
   .refine ?_
    rw[<-ej,og hc (by unfold b8;rw[e2,e3];rfl)] at q;exact q
 .have ge:bs.length<=j:=by have:=Hu e;lia
  refine cW ?_;rw[<-ej,my ge] at q;exact q
def ajW (T:Txt K mg a):T.d_W.U P w base 2 (xQ K Jh):=by
 have G_h:=F3 (P:=P) (w:=w) (base:=base) T;refine T.d_W.F.ok afp [03] [02];obtain⟨l,bs,i,rfl,hS,hi,q⟩:=h;refine#[_,(ai (jl JA (lX (bg iQ (pv 1) (aS bL (by rfl) T.LV Jg (aa (pv 0) ac)) (a0 _)) (lG (bS (aq G_h hr (by rfl) T.d_h.c aC (aa (eS cX (pv 0) (pv 1) (λ_ _=>rfl)) ac))))).pt (ak (lY (i:=1) afp.nd KB (HF KB) aG l0)))
   (ak (aB (pv 1)))),?_]
 refine#[λm σ H'=> ∃j:GQ,m=bs.length-j/\σ=[GM (.ref l),GM (.int (j:GQ))]/\H'=H/\j<=bs.length/\br Jh bs j=br Jh bs i,#[_,i,KB,KB,KB,hi,KB],?_];rintro m σ H' ⟨j,rfl,rfl,rfl,hj,ej⟩;refine#[_,_,KB, .inl hS,_,_,KB,KB,_,KB,?_];rw[gi];refine bi (λe=>?_) λe=>?_
 .have lt:j<bs.length:=by have:=Hs e;lia
  obtain⟨c,hc⟩: ∃c,bs[j]?=GM c:=#[_,Jb lt];refine#[_,_,_,_,KB,KB,hS,ci (fZ hc),c,KB,_,KB,bi (λe2=>?_) λe2=>?_]
  .refine#[λσ' Td=>σ'=[GM (.ref l),GM (.int ((j+1:GQ)))]/\Td=H',?_,_,KB,_,_,KB,KB,KB,KB]
   rintro σ' Td ⟨rfl,rfl⟩;exact#[_,by lia,j+1,KB,KB,KB,lt,by rw[<-ej,kP hc e2]]
  .refine ?_
   rw[<-ej,og hc e2] at q;exact q
 .have ge:bs.length<=j:=by have:=Hu e;lia
  refine cW ?_;rw[<-ej,my ge] at q;exact q
def dn (hg:Gl X x) (hm:X.mg x=GM (.ref p)) (hd:(x == ("__debug__":Ha))=IR:=by decide):PE X (.Name x pos) (tC (.ref p)):=sU hg hm KB hd
def pz {bs:Gz}{i j:GQ} :lq (lJ bs) (GM (i:Int)) (GM (j:Int))=lJ (cS bs i j):=by
 unfold lq cS;rw[HT.QJ,HT.QJ,gi];unfold lJ;rw[<-PM,<-Gr.map_take]
 congr 1
 by_cases hi:i<=bs.length
 .rw[OY hi]
  by_cases hj:j<=bs.length
  .rw[OY hj]
  .rw[V6 (show bs.length<=j by lia),Kl (by rw[J7];lia),Kl (by rw[J7];lia)]
 .rw[V6 (show bs.length<=i by lia),SI (GY _),SI (show bs.length<=i by lia)]
  simp
def aas (h:kb x=kb y):x=y:=QO.mp (U8 (W4 h))
def EY {x y:Gz}(h:x.map kb=y.map kb):x=y:=(UR λ_ _ z=>aas z).mp h
def aat (w:Gz):(w.map kb).map kV=lJ w:=by unfold lJ;rw[JX];rfl
theorem xJ (w:Gz): ∀L:Gr Gz,cT (L.map λs=>(s.map kb,V.str (dI s))) (w.map kb)=if w∈L then GM (V.str (dI w)) else Ix
 |[]=>by simp [cT]
 |s::L=>by
  rw[G8];by_cases e:s=w
  .subst e
   rw[cO KB,GI GW]
  .rw[cF (λz=>e (EY z)),xJ w L]
   by_cases m:w∈L
   .rw[GI m,GI (Hc _ m)]
   .rw[GG m,GG λz=>(Hg.mp z).elim (λy=>e y.symm) m]
def uE (w:Gz):cT eQ (w.map kb)=if w∈Ih then GM (V.str (dI w)) else Ix:=xJ w Ih
def jM (w:Gz):(cT eQ (w.map kb)).isSome=decide (w∈Ih):=by
 rw[uE];by_cases m:w∈Ih
 .rw[GI m,HC m];rfl
 .rw[GG m,He m];rfl
def fJ (bs:Gz) (i:GQ) (c:JZ):GQ:=if Lh c=IN then br b8 bs i else if Jh c=IN then br Jh bs i else bJ bs i
inductive vc (K:Gy) (vs:Gr V) (H:Hp) (Q:VK) (_E:XK):Prop
 |mk (l:GB) (bs:Gz) (i:GQ) (c:JZ) (_:vs=[.ref l, .int i]) (_:cJ K H l (lJ bs)) (_:bs[i]?=GM c) (_: ∀H',aI H H'->Q (.int (fJ bs i c:GQ)) H'):vc K vs H Q _E
def a8 {H:Hp}(h:H p=YE):aI H (bf H p o):=λb u e=>by rw[af (aw e h)];exact e
def ajX (T:Txt K mg a) (kS:Bi P w K a.K6 eQ):T.d_X.U P w base 3 (vc K):=by
 have G_l:=aar (P:=P) (w:=w) (base:=base) T
 have G_h:=F3 (P:=P) (w:=w) (base:=base) T
 have G_V:=ajV (P:=P) (w:=w) (base:=base) T
 have G_W:=ajW (P:=P) (w:=w) (base:=base) T;refine T.d_X.F.ok afq [03] [02];obtain⟨l,bs,i,c,rfl,hS,hc,q⟩:=h
 have hi:i<=bs.length:=Mf (Ho.mp hc).1;refine#[_,(ai (bz (bS (aq G_l (hr.mono [01]) (by rfl) T.d_l.c aC (aa (eS cX (pv 0) (pv 1) (λ_ _=>rfl)) ac))) (ak (aB (aq G_V (hr.mono [01]) (by rfl) T.d_V.c aC (aa (pv 0) (aa (pv 1) ac))))) aQ)
   (ai (bz (bS (aq G_h (hr.mono [01]) (by rfl) T.d_h.c aC (aa (eS cX (pv 0) (pv 1) (λ_ _=>rfl)) ac))) (ak (aB (aq G_W (hr.mono [01]) (by rfl) T.d_W.c aC (aa (pv 0) (aa (pv 1) ac))))) aQ)
   (ai (b4 (i:=2) afq.nd KB (HF KB) (io gV (by rfl) T.RI Nc (aa (ig jP (pv 0) (gk (pv 1)) (gk (aZ eu (pv 1) aG))) ac)))
   (ak (aB (dJ (fE (xR (gP hr) (pv 2) (dn (by rfl) T.RH))) (aZ eu (pv 1) (aS bL (by rfl) T.LV Jg (aa (pv 2) ac))) (aZ eu (pv 1) aG))))))),?_]
 refine#[_,_,_,_,KB,KB,hS,ci (fZ hc),c,KB,_,KB,bi (λe=>?_) λe=>?_]
 .refine#[l,bs,i,KB,hS,hi,?_]
  have z:=q H (aI.refl H);unfold fJ at z;rw[GI e] at z;exact z
 .refine#[_,_,_,_,KB,KB,hS,ci (fZ hc),c,KB,_,KB,bi (λe2=>?_) λe2=>?_]
  .refine#[l,bs,i,KB,hS,hi,?_]
   have z:=q H (aI.refl H);unfold fJ at z;rw[GG (by rw[e];exact Gu),GI e2] at z;exact z
  .refine#[_,KB,_,_,KB,KB,_,KB,_,_,KB,hS,λp hp=>?_]
   refine#[p,_,KB, .inl #[cJ.of aj,λt ht=>?_]];have cut:lq (lJ bs) (GM (i:Int)) (GM ((i:Int)+2))=lJ (cS bs i (i+2)):=pz (j:=i+2);rw[cut] at ht ⊢;have sm:aI H (bf (bf H p (.lst (lJ (cS bs i (i+2))))) t (.tup (lJ (cS bs i (i+2))))):=(a8 hp).trans (a8 ht);have z:=q _ sm;unfold fJ at z;rw[GG (by rw[e];exact Gu),GG (by rw[e2];exact Gu)] at z;unfold bJ at z;refine#[a.K6,t,(cS bs i (i+2)).map kb,eQ,KB,kS,KB,by rw[aj,aat],_,KB,bi (λe3=>?_) λe3=>?_]
   .rw[jM] at e3
    rw[GI (Hs e3)] at z;refine#[_,_,KB, .inr (qd.of aj),_,_,KB,KB,?_];rw[gi];exact z
   .rw[jM] at e3
    rw[GG (Hu e3)] at z;exact#[_,_,KB,KB,z]
def jC (bs:Gz) (i e:GQ) (c:JZ):Int:=if Lh c=IN then(if e-i<=24 then 0 else 4) else if Jh c=IN then(if 18<e-i\/qy bs e=IN then 4 else 1) else if cS bs i e∈Ih then 2 else 4
inductive qI (K:Gy) (vs:Gr V) (H:Hp) (Q:VK) (_E:XK):Prop
 |mk (l:GB) (bs:Gz) (i e:GQ) (c:JZ) (_:vs=[.ref l, .int i, .int e]) (_:cJ K H l (lJ bs)) (_:bs[i]?=GM c) (_:i<=e) (_:e<=bs.length) (_: ∀H',aI H H'->Q (.int (jC bs i e c)) H'):qI K vs H Q _E
def ajY (T:Txt K mg a) (kS:Bi P w K a.K6 eQ):T.d_Y.U P w base 2 (qI K):=by
 have G_l:=aar (P:=P) (w:=w) (base:=base) T
 have G_h:=F3 (P:=P) (w:=w) (base:=base) T;refine T.d_Y.F.ok afr [03] [02];obtain⟨l,bs,i,e,c,rfl,hS,hc,hie,he,q⟩:=h;refine#[_,(ai (bz (bS (aq G_l (hr.mono [01]) (by rfl) T.d_l.c aC (aa (eS cX (pv 0) (pv 1) (λ_ _=>rfl)) ac))) (ak (aB (dJ (bg ji (aZ eM (pv 2) (pv 1)) (bA (by rfl) T.QT) (a0 _)) (bA (by rfl) T.TJ) (bA (by rfl) T.PY)))) aQ)
   (ai (bz (bS (aq G_h (hr.mono [01]) (by rfl) T.d_h.c aC (aa (eS cX (pv 0) (pv 1) (λ_ _=>rfl)) ac))) (ai (b4 (i:=3) afr.nd KB (HF KB) (wR (cH iQ (pv 2) (aS bL (by rfl) T.LV Jg (aa (pv 0) ac)) (a0 _)) (oV (aq G_l (hr.mono [01]) (by rfl) T.d_l.c aC (aa (eS cX (pv 0) (pv 2) (λ_ _=>rfl)) ac)))))
   (ak (aB (dJ (qS (bS (pv 3)) (pH (bg qg (aZ eM (pv 2) (pv 1)) (bA (by rfl) T.Qa) (a0 _)))).pt (bA (by rfl) T.PY) (bA (by rfl) T.PX))))) aQ)
   (ak (aB (dJ (fE (xR (gP hr) (io gV (by rfl) T.RI Nc (aa (ig jP (pv 0) (gk (pv 1)) (gk (pv 2))) ac)) (dn (by rfl) T.RH))) (bA (by rfl) T.VE) (bA (by rfl) T.PY)))))),?_]
 refine#[_,_,_,_,KB,KB,hS,ci (fZ hc),c,KB,_,KB,bi (λe1=>?_) λe1=>?_]
 .refine#[_,_,KB,KB,_,_,KB,KB,_,KB,?_]
  have z:=q H (aI.refl H);unfold jC at z;rw[GI e1] at z;refine bi (λe2=>?_) λe2=>?_
  .have:=Hs e2
   rw[GI (by lia)] at z;exact z
  .have:=Hu e2
   rw[GG (by lia)] at z;exact z
 .refine#[_,_,_,_,KB,KB,hS,ci (fZ hc),c,KB,_,KB,bi (λe2=>?_) λe2=>?_]
  .have z:=q H (aI.refl H)
   unfold jC at z;rw[GG (by rw[e1];exact Gu),GI e2] at z;have rest: ∀b:HK,qy bs e=b->ZK (tIf (tOr (tB (ei 3)) (Xq (Bg (vW λi j=> .bl (decide (j<i))) (Bg (vW λi j=> .int (i-j)) (ei 2) (ei 1)) (tC (.int 18))))) (tC (.int 4)) (tC (.int 1))) { nx:=λ_ H'=>Q .Ko H',rt:=Q } [GM (.ref l),GM (.int i),GM (.int e),GM (.bl b)] H:=λb hb=>by
    refine#[_,KB,bi (λe3=>?_) λe3=>?_]
    .rw[GI (.inr (hb.trans e3))] at z
     exact dR z
    .refine#[_,_,KB,KB,_,_,KB,KB,_,KB,bi (λe4=>?_) λe4=>?_]
     .have:=Hs e4
      rw[GI (.inl (by lia))] at z;exact z
     .have:=Hu e4
      rw[GG (λy=>y.elim (λy=>by lia) λy=>by rw[hb,e3] at y;cases y)] at z;exact z
   refine#[_,_,KB, .inl hS,_,_,KB,KB,_,KB,?_];rw[gi];refine bi (λe3=>?_) λe3=>?_
   .have lt:e<bs.length:=by have:=Hs e3;lia
    obtain⟨g,hg⟩: ∃g,bs[e]?=GM g:=#[_,Jb lt];refine#[_,_,_,_,KB,KB,hS,ci (fZ hg),g,KB,?_];exact rest (Lh g) (by unfold qy;rw[hg];rfl)
   .have ge:bs.length<=e:=by have:=Hu e3;lia
    exact rest IR (by unfold qy;rw[Te ge];rfl)
  .refine#[_,KB,_,KB,_,_,KB,hS,λp hp=>?_]
   refine#[p,_,KB, .inl #[cJ.of aj,λt ht=>?_]];rw[pz] at ht ⊢;have sm:aI H (bf (bf H p (.lst (lJ (cS bs i e)))) t (.tup (lJ (cS bs i e)))):=(a8 hp).trans (a8 ht);have z:=q _ sm;unfold jC at z;rw[GG (by rw[e1];exact Gu),GG (by rw[e2];exact Gu)] at z;refine#[a.K6,t,(cS bs i e).map kb,eQ,KB,kS,KB,by rw[aj,aat],_,KB,bi (λe3=>?_) λe3=>?_]
   .rw[jM] at e3
    rw[GI (Hs e3)] at z;exact z
   .rw[jM] at e3
    rw[GG (Hu e3)] at z;exact z
section
open Vbemac (valueOf)
def rP (l:Gz) (c:JZ):valueOf (l++[c])=10*valueOf l+(c.toNat-48):=by unfold valueOf;rw[Gr.foldl_append];rfl
def BN (h:Jh c=IN):48<=nb c:=by
 rw[vd,Jx] at h;exact Hs h.1
inductive yj (K:Gy) (vs:Gr V) (H:Hp) (Q:VK) (_E:XK):Prop
 |mk (l:GB) (u:Gz) (_:vs=[.ref l]) (_:cJ K H l (lJ u)) (_:(∀c∈u,Jh c=IN)) (_:Q (.int (valueOf u:GQ)) H):yj K vs H Q _E
def one (c:JZ):Ha:=#[[c.toNat].toArray]
theorem qw: ∀w:Gz,TL.Sz [] (w.map λc=>[c.toNat])=w.map KD
 |[]=>rfl
 |[c]=>rfl
 |c::d::r=>by
  show [c.toNat]++([]++TL.Sz [] ((d::r).map λc=>[c.toNat]))=_
  rw[qw (d::r)]
  rfl
def D9 (w:Gz):Uw ("":Ha) (w.map one)=sb w:=by
 rw[TL.join_eq];refine TL.VJ ?_;rw[TL.Uh,JX];exact qw w
def DH:Ha:="0123456789:;<=>?@ABCDEFGHIJKLMNOPQRSTUVWXYZ[\\]^_`abcdefghijklmnopqrstuvwxyz"
def Ag:DH.length<=GZ:=by decide+kernel
def BR (h:b8 c=IN):Dg DH.cps.toList (nb c-48)=GM c.toNat:=by
 revert h;exact pM (p:=λc=>b8 c=IN->Dg DH.cps.toList (nb c-48)=GM c.toNat) [00] c
inductive BJ (K:Gy) (vs:Gr V) (H:Hp) (Q:VK) (_E:XK):Prop
 |mk (k:Int) (l:GB) (u:Gz) (_:vs=[.int k, .ref l]) (_:cJ K H l (lJ u)) (_:u.length<=3000) (_:((k=0/\(∀c∈u,b8 c=IN)/\ ∀H',aI H H'->Q (.str (sb u)) H')\/(k=1/\(∀c∈u,Jh c=IN)/\ ∀H',aI H H'->Q (.int (valueOf u:GQ)) H')\/
   (k=2/\u∈Ih/\ ∀H',aI H H'->Q (.str (dI u)) H')\/(k=4/\ ∀H',aI H H'->Q (.str (sb [])) H'))):BJ K vs H Q _E
def ajZ (T:Txt K mg a):T.d_B.U P w base 1 (yj K):=by
 refine T.d_B.F.ok F6 [03] [02];obtain⟨l,u,rfl,hS,hd,q⟩:=h;refine#[_,(ai (b4 (i:=1) F6.nd KB (HF KB) aG)
   (ai (j6 JA KB (fN (pv 0)) (cY (i:=2) F6.nd KB (HF KB)) (ak (b4 (i:=1) F6.nd KB (HF KB) (aZ eM (aZ eu (aZ EE (pv 1) aG) (pv 2)) aG))))
   (ak (aB (pv 1))))),?_]
 refine#[l,KB,#[_,hS],iq (K:=K) (a:=l) (xs:=lJ u) (λi σ H'=> ∃v:GJ V,σ=[GM (.ref l),GM (.int (valueOf (u.take i):GQ)),v]/\H'=H) #[Ix,KB,KB] (λi σ H' _ ⟨_,_,e⟩=>by rw[e];exact hS) ?_ ?_]
 .rintro i y σ H' hi ⟨v,rfl,rfl⟩
  obtain⟨c,hc,rfl⟩: ∃c,u[i]?=GM c/\y=V.int (nb c):=by
   unfold lJ at hi;rw[HI] at hi;cases e:u[i]? with
   |none=>rw[e] at hi;cases hi
   |some c=>rw[e] at hi;exact#[c,KB,(Hb hi).symm]
  refine#[_,_,KB,KB, .inr #[by decide,by decide],_,_,KB,KB,_,_,KB,KB,GM (.int (nb c)),?_,KB];have g:=BN (hd c (Iz hc));have e:((valueOf (u.take (i+1)):GQ):Int)=(valueOf (u.take i):GQ)*10+nb c-48:=by
   rw[NP,hc];show((valueOf (u.take i++[c]):GQ):Int)=_;rw[rP];have g':48<=c.toNat:=Int.ofNat_le.mp g;show((10*valueOf (u.take i)+(c.toNat-48):GQ):Int)=(valueOf (u.take i):GQ)*10+(c.toNat:Int)-48;lia
  rw[e]
  rfl
 .rintro σ H' ⟨v,rfl,rfl⟩
  rw[gi,My];exact q
def aj0 (T:Txt K mg a) (kS:Bi P w K a.K6 eQ):T.d_C.U P w base 2 (BJ K):=by
 have G_B:=ajZ (P:=P) (w:=w) (base:=base) T;refine T.d_C.F.ok aag [03] [02];obtain⟨k,l,u,rfl,hS,hlen,h⟩:=h;refine#[_,(ai (bz (bg cu (pv 0) (bA (by rfl) T.TJ) (a0 _)) (ak (aB (yU aK (yL KB aag.nd (fN (pv 1)) (own:=[("byte",2)]) (eE (by show m6 ["kind","part","byte"] (ah s_C) _ [("byte",2)]=IN;decide+kernel)) (λ_ _ _ _ _=>cY (i:=2) aag.nd KB (HF KB)) (λ_ _ _ _ _=>lc) (λ_ _ _ _ _=>(eS ZX (aeU (by rfl) T.TK) (aZ eM (pv 2) aG) (λ_ _=>rfl))))))) aQ)
   (ai (bz (bg cu (pv 0) (bA (by rfl) T.PX) (a0 _)) (ak (aB (aq G_B (hr.mono [01]) (by rfl) T.d_B.c aC (aa (pv 1) ac)))) aQ)
   (ai (bz (bg cu (pv 0) (bA (by rfl) T.VE) (a0 _)) (ak (aB (EG (gP hr) (dn (by rfl) T.RH) (io gV (by rfl) T.RI Nc (aa (pv 1) ac)) (λ_ _=>rfl)))) aQ)
   (ak (aB aK))))),?_]
 refine#[KB,_,KB,?_];rw[cU];rcases h with⟨rfl,hw,q⟩|⟨rfl,hd,q⟩|⟨rfl,hs,q⟩|⟨rfl,q⟩
 .refine dR ?_
  refine#[#[_,KB],l,KB,#[_,hS],λD hD=>?_];have sm:aI H (bf H D (.lst [])):=a8 hD;refine rp (K:=K) (a:=l) (xs:=lJ u) (λi H'=>aI H H'/\H' D=GM (.lst (((u.take i).map one).map V.str))) #[sm,aj] (λi H' _ z=>z.1.seq hS) ?_ ?_
  .rintro i y H' hi ⟨s1,SD⟩
   obtain⟨c,hc,rfl⟩: ∃c,u[i]?=GM c/\y=V.int (nb c):=by
    unfold lJ at hi;rw[HI] at hi;cases e:u[i]? with
    |none=>rw[e] at hi;cases hi
    |some c=>rw[e] at hi;exact#[c,KB,(Hb hi).symm]
   refine#[KB,?_];unfold qc;dsimp only;rw[GI KB];refine#[_,_,KB,KB,_,_,_,KB,KB,Ag,BR (hw c (Iz hc)),_,SD,?_,?_,?_]
   .have z:=(Gr.length_take_le i u)
    rw[GK,GK];refine HH (TY i u) ?_;exact HH hlen [01]
   .exact λb o e=>by rw[af (aw e hD)];exact s1 b o e
   .rw[aj,NP,hc]
    show GM (HO.lst (((u.take i).map one).map V.str++[V.str #[[c.toNat].toArray]]))=GM (HO.lst (((u.take i++[c]).map one).map V.str))
    rw[IJ,IJ]
    rfl
  .rintro H' ⟨s1,SD⟩
   rw[gi,My] at SD;refine#[_,D,u.map one,KB,KB, .inl (cJ.of SD),?_,?_]
   .have e:((u.map one).map (·.length)).sum=u.length:=by
     rw[JX];clear hS hlen hw q SD s1 sm
     induction u with
     |nil=>rfl
     |cons c r ih=>rw[G8,RO,ih,Gv];show 1+r.length=_;lia
    rw[e];show u.length+(u.map one).length*0<=16777216;lia
   .rw[D9]
    exact q H' s1
 .refine cW #[KB,_,KB,?_]
  rw[cU];exact dR #[l,u,KB,hS,hd,q H (aI.refl H)]
 .refine cW #[KB,_,KB,?_]
  rw[cU];refine cW #[KB,_,KB,?_];rw[cU];refine dR #[l,_,KB, .inl #[hS,λt ht=>?_]];refine#[a.K6,t,u.map kb,eQ,_,KB,kS,KB,by rw[aj,aat],(by rw[uE,GI hs]),q _ (a8 ht)]
 .refine cW #[KB,_,KB,?_]
  rw[cU];refine cW #[KB,_,KB,?_];rw[cU];exact cW (q H (aI.refl H))
end
section
open Vbemac (valueOf)
def BY (k v l c:V):Gr (Ha×V):=Lj "column" c (Lj "line" l (Lj "value" v (Lj "kind" k [])))
def iT:HZ->Int
 | .word _=>0
 | .num _=>1
 | .sign _=>2
 | .eof=>3
 | .bad=>4
def iX:HZ->V
 | .word u=> .str (sb u)
 | .num n=> .int (n:GQ)
 | .sign u=> .str (dI u)
 | .eof=> .str (sb [])
 | .bad=> .str (sb [])
inductive gv (C:GB) (H:Hp) (p:GB) (x:HZ×HM):Prop
 |mk (dx:GB) (_:H p=GM (.ins C dx (BY (.int (iT x.1)) (iX x.1) (.int (x.2.1:GQ)) (.int (x.2.2:GQ))))):gv C H p x
inductive XE (C:GB) (vs:Gr V) (H:Hp) (Q:VK) (_E:XK):Prop
 |mk (p dx:GB) (k v l c:V) (_:vs=[.ref p,k,v,l,c]) (_:H p=GM (.ins C dx [])) (_: ∀H':Hp,H' p=GM (.ins C dx (BY k v l c))->(∀b o,H b=GM o->b≠p->H' b=GM o)->Q .Ko H'):XE C vs H Q _E
def B6 (c:JZ):uF (.int (nb c)) [.int 9, .int 10, .int 13, .int 32]=RT c:=pM (p:=λc=>uF (.int (nb c)) [.int 9, .int 10, .int 13, .int 32]=RT c) [00] c
inductive Cn (K:Gy) (C:GB) (vs:Gr V) (H:Hp) (Q:VK) (_E:XK):Prop
 |mk (l:GB) (bs:Gz) (_:vs=[.ref l]) (_:cJ K H l (lJ bs)) (_:bs.length<=3000) (_: ∀(H':Hp) (q:GB) (as:Gr GB),aI H H'->H q=YE->H' q=GM (.lst (as.map V.ref))->Paired (gv C H') as (Ib bs)->Q (.ref q) H'):Cn K C vs H Q _E
def gv.keep {H H':Hp}(h:gv C H p x) (k: ∀b o,H b=GM o->(∀xs,o≠ .lst xs)->H' b=GM o):gv C H' p x:=by
 obtain⟨dx,e⟩:=h;exact#[dx,k _ _ e λxs z=>nomatch z]
theorem gG {α β:Type}{F:α->β->Prop} : ∀ {l:Gr α}{m:Gr β}{x:α}{y:β},Paired F l m->F x y->Paired F (l++[x]) (m++[y])
 |_,_,_,_, .nil,h=> .cons h .nil
 |_,_,_,_, .cons r t,h=> .cons r (gG t h)
def XF (k:Int) (u:Gz) (v:V):Prop:=(k=0/\(∀c∈u,b8 c=IN)/\v= .str (sb u))\/(k=1/\(∀c∈u,Jh c=IN)/\v= .int (valueOf u:GQ))\/(k=2/\u∈Ih/\v= .str (dI u))\/(k=4/\v= .str (sb []))
def sN (h:Lh c=IN):b8 c=IN:=by unfold b8;rw[h];rfl
def C9 {p:JZ->HK} :i<=br p bs i:=by unfold br;lia
def n9 {p:JZ->HK}(h:bs[i]?=GM c) (hp:p c=IN):i<br p bs i:=by
 rw[kP h hp];exact C9
def tT {p:JZ->HK} : ∀c∈cS bs i (br p bs i),p c=IN:=by
 rw[<-lH];exact rC _
def mV:(cS bs i j).length<=bs.length-i:=by
 unfold cS;rw[Mx,J7];lia
def on (h:bs[i]?=GM c):i<bJ bs i/\bJ bs i<=bs.length:=by
 obtain⟨hi,_⟩:=Ho.mp h;have l1:0<(cS bs i (i+2)).length:=by unfold cS;rw[Jr,fL h];exact GQ.succ_pos _
 have l2:=mV (bs:=bs) (i:=i) (j:=i+2);unfold bJ;split<;>lia
def Ct (h:bs[i]?=GM c) (hb:RT c=IR) (P2: ¬c=35):i<fJ bs i c/\fJ bs i c<=bs.length/\ ∃y:HZ,jC bs i (fJ bs i c) c=iT y/\XF (iT y) (cS bs i (fJ bs i c)) (iX y)/\
  ∀k q,Py (k+1) q (bs.drop i)=if iT y=4 then [(y,q)] else(y,q)::Py k (q.1,q.2+(fJ bs i c-i)) (bs.drop (fJ bs i c)):=by
 obtain⟨hi,_⟩:=Ho.mp h;unfold fJ jC;cases hl:Lh c with
 |true=>
  rw[GI KB,GI KB];refine#[n9 h (sN hl),pj (Mf hi),?_];by_cases g:br b8 bs i-i<=24
  .refine#[.word (cS bs i (br b8 bs i)),GI g, .inl #[KB,tT,KB],λk q=>?_]
   rw[kJ h hb P2 hl,GG (by lia)];exact(GG (by show¬(0:Int)=4;decide)).symm
  .refine#[.bad,GG g, .inr (.inr (.inr #[KB,KB])),λk q=>?_]
   rw[kJ h hb P2 hl,GI (by lia)];exact(GI KB).symm
 |false=>
  rw[GG Gu,GG Gu];cases hd:Jh c with
  |true=>
   rw[GI KB,GI KB];refine#[n9 h hd,pj (Mf hi),?_];by_cases g:18<br Jh bs i-i\/qy bs (br Jh bs i)=IN
   .refine#[.bad,GI g, .inr (.inr (.inr #[KB,KB])),λk q=>?_]
    rw[nO h hb P2 hl hd,GI g];exact(GI KB).symm
   .refine#[.num (valueOf (cS bs i (br Jh bs i))),GG g, .inr (.inl #[KB,tT,KB]),λk q=>?_]
    rw[nO h hb P2 hl hd,GG g];exact(GG (by show¬(1:Int)=4;decide)).symm
  |false=>
   rw[GG Gu,GG Gu];refine#[(on h).1,(on h).2,?_];by_cases g:cS bs i (bJ bs i)∈Ih
   .refine#[.sign (cS bs i (bJ bs i)),GI g, .inr (.inr (.inl #[KB,g,KB])),λk q=>?_]
    rw[ld h hb P2 hl hd,GI g];exact(GG (by show¬(2:Int)=4;decide)).symm
   .refine#[.bad,GG g, .inr (.inr (.inr #[KB,KB])),λk q=>?_]
    rw[ld h hb P2 hl hd,GG g];exact(GI KB).symm
def XG (h:nb c=nb d):c=d:=QO.mp (U8 h)
def uC:(as++[x]).map V.ref=as.map V.ref++[V.ref x]:=by rw[IJ];rfl
def Cc {K:Gy}{H:Hp}{Q:VK}{E:XK}(ok:XF k u v) (hS:cJ K H l (lJ u)) (hl:u.length<=3000) (q: ∀H',aI H H'->Q v H'):BJ K [.int k, .ref l] H Q E:=by
 refine#[k,l,u,KB,hS,hl,?_];rcases ok with⟨h,g,rfl⟩|⟨h,g,rfl⟩|⟨h,g,rfl⟩|⟨h,rfl⟩
 .exact .inl #[h,g,q]
 .exact .inr (.inl #[h,g,q])
 .exact .inr (.inr (.inl #[h,g,q]))
 .exact .inr (.inr (.inr #[h,q]))
def pX (T:Txt K mg a):T.d_T.U P w mg base 1 (XE a.Kd):=by
 refine T.d_T.F.ok ajB [03] [02];obtain⟨p,dx,k,v,l,c,rfl,hp,q⟩:=h;refine#[_,(ai (fV (pv 0) (pv 1) KB)
   (ai (fV (pv 0) (pv 2) KB)
   (ai (fV (pv 0) (pv 3) KB)
   (ak (fV (pv 0) (pv 4) KB))))),?_]
 have l1:(Lj "kind" k []).length<1000:=HH (du "kind" k []) [01]
 have l2:(Lj "value" v (Lj "kind" k [])).length<1000:=HH (G0 (du "value" v _) (LI (du "kind" k []))) [01]
 have l3:(Lj "line" l (Lj "value" v (Lj "kind" k []))).length<1000:=HH (G0 (du "line" l _) (LI (G0 (du "value" v _) (LI (du "kind" k []))))) [01];refine#[p,_,dx,_,KB,hp,T.JT,T.Ld,(by show 0<1000;decide),?_];refine#[p,_,dx,_,KB,aj,T.JT,T.Kp,l1,?_];refine#[p,_,dx,_,KB,aj,T.JT,T.NK,l2,?_];refine#[p,_,dx,_,KB,aj,T.JT,T.ML,l3,?_];refine q _ aj λb o e hb=>?_
 rw[af hb,af hb,af hb,af hb];exact e
structure agc (C:GB) (bs:Gz) (q:GB) (H H':Hp) (i ln ls:GQ) (as:Gr GB):Prop where
 sm:aI H H'
 lst:H' q=GM (.lst (as.map V.ref))
 agd:i<=bs.length
 age:ls<=i
 rest: ∃(ts:GA) (k:GQ),Paired (gv C H') as ts/\bs.length<i+k/\Ib bs=ts++Py k (ln,i-ls+1) (bs.drop i)/\as.length<=i
def yr {H5 H6:Hp}(hx:H6 x=GM (.ins C dx (BY (.int (iT y.1)) (iX y.1) (.int (y.2.1:GQ)) (.int (y.2.2:GQ)))))
  (k: ∀b o,H5 b=GM o->H6 b=GM o) (p:Paired (gv C H5) as ts) (nq:x≠q) (hq:H6 q=GM (.lst (as.map V.ref))):
  Paired (gv C (bf H6 q (.lst ((as++[x]).map V.ref)))) (as++[x]) (ts++[y]):=by
 refine gG (Paired.Nt p λb z h=>?_) #[dx,by rw[af nq];exact hx];refine gv.keep h λb' o e no=>?_;have ne:b'≠q:=λz=>by
  have w1:=k _ _ e;rw[z,hq] at w1;exact no _ (Hb w1).symm
 rw[af ne];exact k _ _ e
def aj1 (T:Txt K mg a) (kS:Bi P w K a.K6 eQ):T.d_m.U P w base 4 (Cn K a.Kd):=by
 have G_U:=ajU (P:=P) (w:=w) (base:=base) T
 have G_X:=ajX (P:=P) (w:=w) (base:=base) T kS
 have G_Y:=ajY (P:=P) (w:=w) (base:=base) T kS
 have G_C:=aj0 (P:=P) (w:=w) (base:=base) T kS
 have G_T:=pX (P:=P) (w:=w) (base:=base) T;refine T.d_m.F.ok mZ [03] [02];obtain⟨l,bs,rfl,hS,hlen,hQ⟩:=h;refine#[_,(ai (b4 (i:=1) mZ.nd KB (HF KB) (bn ac))
   (ai (b4 (i:=2) mZ.nd KB (HF KB) aG)
   (ai (b4 (i:=3) mZ.nd KB (HF KB) aG)
   (ai (b4 (i:=4) mZ.nd KB (HF KB) aG)
   (ai (jl JA (bg iQ (pv 4) (aS bL (by rfl) T.LV Jg (aa (pv 0) ac)) (a0 _)) (ak (bz (bg jG (eS cX (pv 0) (pv 4) (λ_ _=>rfl)) (dn (by rfl) T.VF) KB) (ai (lY (i:=4) mZ.nd KB (HF KB) aG l0)
   (ak (bz (bg cu (eS cX (pv 0) (aZ eM (pv 4) aG) (λ_ _=>rfl)) (bA (by rfl) T.Qs) (a0 _)) (ai (lY (i:=2) mZ.nd KB (HF KB) aG l0)
   (ak (b4 (i:=3) mZ.nd KB (HF KB) (pv 4)))) aQ))) (ak (bz (bg cu (eS cX (pv 0) (pv 4) (λ_ _=>rfl)) (bA (by rfl) T.UD) (a0 _)) (ak (b4 (i:=4) mZ.nd KB (HF KB) (aq G_U (hr.mono [01]) (by rfl) T.d_U.c aC (aa (pv 0) (aa (pv 4) ac))))) (ai (b4 (i:=5) mZ.nd KB (HF KB) (aq G_X (hr.mono [01]) (by rfl) T.d_X.c aC (aa (pv 0) (aa (pv 4) ac))))
   (ai (b4 (i:=6) mZ.nd KB (HF KB) (aq G_Y (hr.mono [01]) (by rfl) T.d_Y.c aC (aa (pv 0) (aa (pv 4) (aa (pv 5) ac)))))
   (ai (a6 (df G9 Io Ip dh (pv 1) (aa (kX T.Sf G_T (hr.mono [01]) (by rfl) T.Sd T.d_T.c.b .nil aC (aa (pv 6) (aa (aq G_C (hr.mono [01]) (by rfl) T.d_C.c aC (aa (pv 6) (aa (ig jP (pv 0) (gk (pv 4)) (gk (pv 5))) ac))) (aa (pv 2) (aa (aZ eu (aZ eM (pv 4) (pv 3)) aG) ac))))) ac)))
   (ai (bz (bg cu (pv 6) (bA (by rfl) T.PY) (a0 _)) (ak (aB (pv 1))) aQ)
   (ak (b4 (i:=4) mZ.nd KB (HF KB) (pv 5))))))))))))
   (ai (a6 (df G9 Io Ip dh (pv 1) (aa (kX T.Sf G_T (hr.mono [01]) (by rfl) T.Sd T.d_T.c.b .nil aC (aa (bA (by rfl) T.Xd) (aa aK (aa (pv 2) (aa (aZ eu (aZ eM (pv 4) (pv 3)) aG) ac))))) ac)))
   (ak (aB (pv 1))))))))),?_]
 refine#[HG _,λq hq=>#[λm σ H'=> ∃(i ln ls:GQ) (as:Gr GB) (v5 v6:GJ V),m=bs.length-i/\σ=[GM (.ref l),GM (.ref q),GM (.int ln),GM (.int ls),GM (.int i),v5,v6]/\agc a.Kd bs q H H' i ln ls as,#[_,0,1,0,[],Ix,Ix,KB,KB,#[a8 hq,aj,HG _,GY _,[],bs.length+1, .nil,by lia,KB,GY _]],?_]];rintro m σ H1 ⟨i,ln,ls,as,v5,v6,rfl,rfl,M⟩;have XH:=M.sm.seq hS;obtain⟨ts,k,pr,hk,tk,asl⟩:=M.rest;have ile:=M.agd;have aj2:=M.age;obtain⟨k,rfl⟩: ∃k',k=k'+1:=#[k-1,by lia];have ec:(i:Int)-(ls:Int)+1=((i-ls+1:GQ):Int):=by lia
 refine#[_,_,KB, .inl XH,_,_,KB,KB,_,KB,?_];rw[gi];refine bi (λe=>?_) λe=>?_
 .have lt:i<bs.length:=by have:=Hs e;lia
  obtain⟨c,hc⟩: ∃c,bs[i]?=GM c:=#[_,Jb lt];refine#[λσ' Td=> ∃(i' ln' ls':GQ) (as':Gr GB) (v5' v6':GJ V),i<i'/\σ'=[GM (.ref l),GM (.ref q),GM (.int ln'),GM (.int ls'),GM (.int i'),v5',v6']/\agc a.Kd bs q H Td i' ln' ls' as',?_,?_]
  .rintro σ' Td ⟨i',ln',ls',as',v5',v6',lt',rfl,M'⟩
   have:=M'.agd;exact#[_,by lia,i',ln',ls',as',v5',v6',KB,KB,M']
  refine#[_,_,_,_,KB,KB,XH,ci (fZ hc),_,_,KB, .inr T.VG.sq,KB,KB,_,KB,?_];show if uF (.int (nb c)) [.int 9, .int 10, .int 13, .int 32]=IN then _ else _
  rw[B6];refine bi (λhb=>?_) λhb=>?_
  .refine#[_,KB,_,_,KB,KB,?_]
   refine#[_,_,KB,KB,_,_,_,V.int (nb c),KB,KB,XH,(by rw[Int.add_sub_cancel];exact ci (fZ hc)),KB,_,KB,?_];rw[cU];have lx:=mj (k:=k) (q:=(ln,i-ls+1)) hc hb;refine bi (λh10=>?_) λh10=>?_
   .have c10:c=10:=XG (Hs h10)
    refine#[_,KB,_,_,KB,KB,i+1,ln+1,i+1,as,v5,v6,MC i,KB,#[M.sm,M.lst,lt,GY _,ts,k,pr,by lia,?_,by lia]];rw[tk,lx,c10,Me]
    rfl
   .have c10: ¬c=10:=λz=>G6 (by rw[z];rfl) (Hu h10)
    refine#[i+1,ln,ls,as,v5,v6,MC i,KB,#[M.sm,M.lst,lt,GQ.le_succ_of_le aj2,ts,k,pr,by lia,?_,by lia]];rw[tk,lx,show i+1-ls+1=i-ls+1+1 by lia];unfold Vbemac.advance;rw[GG c10]
  .refine#[_,_,_,_,KB,KB,XH,ci (fZ hc),KB,_,KB,?_]
   rw[cU];refine bi (λP2=>?_) λP2=>?_
   .have c35:c=35:=XG (Hs P2)
    have g:i<br fA bs i:=n9 hc (by rw[c35];rfl)
    have g2:br fA bs i<=bs.length:=pj ile;refine#[l,bs,i,KB,XH,ile,br fA bs i,ln,ls,as,v5,v6,g,KB,#[M.sm,M.lst,g2,by lia,ts,k,pr,by lia,?_,by lia]];rw[tk,jj hc hb c35]
    show ts++Py k (ln,i-ls+1+(br fA bs i-i)) _=_
    rw[show i-ls+1+(br fA bs i-i)=br fA bs i-ls+1 by lia]
   .have c35: ¬c=35:=λz=>G6 (by rw[z];rfl) (Hu P2)
    obtain⟨g,g2,y,ky,vy,lx⟩:=Ct hc hb c35;have lx:=lx k (ln,i-ls+1);refine#[l,bs,i,c,KB,XH,hc,λH2 s2=>?_];refine#[l,bs,i,fJ bs i c,c,KB,s2.seq XH,hc,Mf g,g2,λH3 s3=>?_];rw[ky];generalize fJ bs i c=en at g g2 vy lx ky ⊢;have s13:aI H1 H3:=s2.trans s3;have hS3:=s13.seq XH;refine#[.inl #[KB,_,cJ.of (s13 _ _ M.lst)],?_];refine#[_,KB,_,KB,_,_,KB,hS3,λp hp=>?_];rw[pz];refine Cc vy (cJ.of aj) ?_ λH4 s4=>?_
    .have:=mV (bs:=bs) (i:=i) (j:=en)
     lia
    have s14:aI H1 H4:=s13.trans ((a8 hp).trans s4);refine#[_,_,KB,KB,_,_,KB,KB,λx dx hx WM ne=>#[x,dx,_,_,_,_,KB,aj,λH5 h5 k5=>#[KB,?_]]]
    have h5:H5 x=GM (.ins a.Kd dx (BY (.int (iT y)) (iX y) (.int (ln:GQ)) (.int ((i-ls+1:GQ):Int)))):=by rw[<-ec];exact h5
    have s15:aI H1 H5:=λb o e=>k5 b o (by rw[af (aw (s14 b o e) hx),af (aw (s14 b o e) WM)];exact s14 b o e) (aw (s14 b o e) hx)
    have nq:x≠q:=(aw (s14 _ _ M.lst) hx).symm
    have q5:=s15 _ _ M.lst
    have pn:=yr (y:=(y,ln,i-ls+1)) h5 s15 pr nq q5
    have sm5:aI H (bf H5 q (.lst ((as++[x]).map V.ref))):=λb o e=>by rw[af (aw e hq)];exact s15 b o (M.sm b o e)
    refine#[q,_,_,KB,KB,q5,by rw[GK];exact HH (G0 asl (G0 ile hlen)) [01],?_];rw[<-uC];refine#[KB,_,KB,?_];rw[cU];refine bi (λk4=>?_) λk4=>?_
    .rw[GI (Hs k4)] at lx
     refine(hQ _ q (as++[x]) sm5 hq aj ?_);rw[tk,lx];exact pn
    .rw[GG (Hu k4)] at lx
     refine#[en,ln,ls,as++[x],_,_,g,KB,#[sm5,aj,g2,by lia,ts++[(y,ln,i-ls+1)],k,pn,by lia,?_,by rw[Gw,Ks];lia]];rw[tk,lx,Hj];show ts++(y,ln,i-ls+1)::Py k (ln,i-ls+1+(en-i)) _=_;rw[show i-ls+1+(en-i)=en-ls+1 by lia]
     rfl
 .have lx:=FP (k:=k) (q:=(ln,i-ls+1)) (bs:=bs) (i:=i) (by have:=Hu e;lia)
  refine#[.inl #[KB,_,cJ.of M.lst],?_];refine#[_,_,KB,KB,_,_,KB,KB,λx dx hx WM ne=>#[x,dx,_,_,_,_,KB,aj,λH5 h5 k5=>#[KB,?_]]];have h5:H5 x=GM (.ins a.Kd dx (BY (.int (iT .eof)) (iX .eof) (.int (ln:GQ)) (.int ((i-ls+1:GQ):Int)))):=by rw[<-ec];exact h5
  have s15:aI H1 H5:=λb o e=>k5 b o (by rw[af (aw e hx),af (aw e WM)];exact e) (aw e hx)
  have nq:x≠q:=(aw M.lst hx).symm
  have q5:=s15 _ _ M.lst
  have pn:=yr (y:=(.eof,ln,i-ls+1)) h5 s15 pr nq q5
  have sm5:aI H (bf H5 q (.lst ((as++[x]).map V.ref))):=λb o e=>by rw[af (aw e hq)];exact s15 b o (M.sm b o e)
  refine#[q,_,_,KB,KB,q5,by rw[GK];exact HH (G0 asl (G0 ile hlen)) [01],?_];rw[<-uC];refine(hQ _ q (as++[x]) sm5 hq aj ?_);rw[tk,lx];exact pn
end
def F8 (K:Gy):U4 K (.type "Exception") (.type "type") "__init__"=GM (.val (.builtin "Exception.__init__")):=by kernel_rfl
def aau:typeOf (.type "Exception")=pure (.type "type"):=by kernel_rfl
def DO:Manifest.isStub "Exception"=IR:=by decide+kernel
def DZ:MB "Exception"=GM (.type "Exception"):=by decide+kernel
def aav {H:Hp}{a:GB}(h:H a=GM o):bf H a o=H:=by
 funext b
 by_cases e:b=a
 .rw[e,aj,h]
 .exact af e
def CI (C:GB) (i:GQ):TS:=λD σ H=> ∃p,σ[i]?=GM (GM (.ref p))/\H p=GM (rq C p)/\D.nx σ H
def wX (XC:hU X.K R C fI) (hg:Gl X "Exception") (hm:X.mg "Exception"=Ix) (hx:PE X (.Name x p2) (ei i))
  (Mu:Hf [.Name x p2] X.env=[(IR,eval (.Name x p2) X.env)]:=by rfl) (hs:Lf (.Call (.Attribute (.Name "Exception" p1) "__init__" Mb) [.Name x p2] [] MN) Ix pos.line X.env=pure IR:=by rfl)
  {pl:Sem HK}(ht:eval (.Call (.Attribute (.Name "Exception" p1) "__init__" Mb) [.Name x p2] [] MN) X.env=(do
   let ov<-eval (.Name "Exception" p1) X.env
   standAt Mb.atName
   let (f,first)<-holding [ov] (O5 ov "__init__" pl)
   Tn MN f first (J9 MN (Hf [.Name x p2] X.env)) (Ob MN (LO [] X.env))):=by rfl):
  PS X (.Expr (.Call (.Attribute (.Name "Exception" p1) "__init__" Mb) [.Name x p2] [] MN) pos) (CI C i):=by
 intro pins s σ H D I h;obtain⟨p,hp,hH,hD⟩:=h;refine wpAny_Expr_any ?_ I.quiet hs;refine Md (pl:=pl) (sF I hg hm DZ ?_) ht;obtain⟨m,Fr⟩:=I.fr;refine PySem.W.method_type Fr I.mod.U9 aau DO (F8 X.K) KB ?_;have I0:aP X pins σ H { s with toks:=s.toks+1 } :=I.tok _;refine O7 (e:= .Name x p2) (rest:=[]) ?_ (by rw[Mu];rfl) KB;rw[Mu];refine Ni (cG (hx pins _ σ H (λv H'=>v= .ref p/\H'=H) I0 (g0 #[KB,KB] hp)) λu s1 z=>?_);obtain⟨v,H',I1,rv,e1,e2⟩:=z;subst e1 e2;cases rv;refine NL ?_;obtain⟨h1,g1,d1,t1,VM⟩:=s1;obtain⟨⟨T,hT⟩,_⟩:=I1.JC _ _ hH;obtain⟨Nn,mN,oI,NR,mR,⟨nm,q,bs,sn,sub,ab,col,dd,k0,k1,k2,k3,k5,hC⟩,_⟩:=XC.at_ h1 I1.NY;refine QN (AQ Q4 aeT hC hT ?_);have gx:((h1.push (eZ [])).update p (JI (·.setIfInBounds 0 (.ref h1.objs.size)))).get? p=GM (dM C h1.objs.size):=
  Kt _ (GV _ hT) KB
 have J:aP X pins σ (bf H' p (rq C p)) ⟨(h1.push (eZ [])).update p (JI (·.setIfInBounds 0 (.ref h1.objs.size))),g1,d1,t1,VM⟩:=
  I1.write (x:=p) (e:=p) (t':=t1) (by rw[hH];exact IS) (.inl KB) (λb u hb z=>by rw[IG _ _ (K3 hb)];exact GV _ z) #[_,gx]
   #[#[_,gx],#[_,gx],λ_ _ ⟨T,z⟩ y=>#[T,y _ z]]
 rw[aav hH] at J;exact#[σ,H',J,hD]
section
variable {CX:qO}{sp:Sp}{E:XK}
def vi (hg:Gl X x) (hm:X.mg x=GM (.ref R)) (c:EA X.K R m f) (F:b6 X.prog X.w X.K X.mg X.base CX k f fd ps sp) (hr:cx k X.A) (hb:ib X.K fd ps ds) (hd:bH RV ds) (hx:eN CX X E) (ha:PA X (e::es) t)
  (Ss:(x == ("__debug__":Ha))=IR:=by decide) (Mu:Hf (e::es) X.env=(IR,eval e X.env)::Hf es X.env:=by rfl) (MU:(J9 pos (Hf es X.env)).any (·.1)=IR:=by rfl)
  (ht:eval (.Call (.Attribute (.Name x p1) m Mb) (e::es) [] pos) X.env=(do
   let ov<-eval (.Name x p1) X.env
   standAt Mb.atName
   let (f,first)<-holding [ov] (O5 ov m pl)
   Tn pos f first (J9 pos (Hf (e::es) X.env)) (Ob pos (LO [] X.env))):=by rfl):
  PE X (.Call (.Attribute (.Name x p1) m Mb) (e::es) [] pos) (iV sp RV E t):=by
 intro pins s σ H Q I h;refine Md (pl:=pl) (iO I hg hm ?_ Ss) ht;obtain⟨mm,Fr⟩:=I.fr;refine PySem.W.method_of_cls Fr I.mod.U9 c.sp (PySem.W.cls_val Fr I.mod.U9 c.ty c.rd c.fc KB ?_);have I0:aP X pins σ H { s with toks:=s.toks+1 } :=I.tok _;refine LP (first:=[]) (h₀:=X.base) I.ok.mod.U9 c.kp (cG (ha pos pins _ σ H _ I0 h) λus s1 ⟨vs,H1,I1,r,q⟩=>#[I1.NY,?_]) Mu MU
 exact sQ F hr hb hd hx I1 r q
end
def jF:("__setattr__":Ha)∈dz:=by decide+kernel
def qW:("__getattribute__":Ha)∈dz:=by decide+kernel
def oK:("__getattr__":Ha)∈dz:=by decide+kernel
def XAt.la {R C fI:GB}{B:String}{y:GJ GC}(X:XAt h R C fI) (m:mroOf (.type B)=pure dC) (q:n∈dz) (l:JH (.type B) n=pure y):LA h (.ref R::dC) n y:=by
 obtain⟨_,_,_,_,_,_,_,_,_,_,_,⟨_,_,_,_,_,_,_,_,_,_,_,_,_,hR⟩,nR,qR⟩:=X;exact LA.own hR nR (qR n q) (LA.of m l)
section
variable {X:Cx}{pins:Gr (GB×Kh)}{σ:St}{H:Hp}{s:GH}{R C fI p d:GB}{f:Ha}{y:V}{u:GC}{A:IE}{E:GC->GH->Prop}{Q:Nq->GH->Prop}{fs:Gr (Ha×V)}{sa owner B:String}
def mn {mA:Ha->GJ GC}(n:h.Ns1 d mA) (r: ∀g,gA (fs.lookup g) (mA g)) (wi:Ou mA (fs.map (·.1))):cK X.prog X.w H h d (c4 d fs):=by
 obtain⟨o,es,ep,e,z⟩:=id n;exact#[#[mA,n,r,wi],#[o,e],λh1 h2 ⟨m,n1,q1⟩ k=>#[m,n1.at k,q1]]
def DX (XC:hU X.K R C fI) (SF:M0 B dC sa owner) (hf:f∈dz) (hB:JH (.type B) f=pure Ix) (I:aP X pins σ H s) (e:H p=GM (rq C p)) (ry:bD y u)
  (h: ∀d s',H d=Ix->aP X pins σ (bf (bf H d (c4 d [(f,y)])) p (k6 C d p)) s'->Q () s'):Hq (model X.prog X.w) A (SX (.ref p) f u) Q E s:=by
 have XA:=XC.at_ _ I.NY;obtain⟨⟨T,hT⟩,_⟩:=I.JC _ _ e;obtain⟨h1,g1,d1,t1,VM⟩:=s;obtain⟨Nn,mN,oI,NR,mR,⟨nm,q,bs,sn,sub,ab,col,dd,k0,k1,k2,k3,k5,hC⟩,Va,WL,V4,_⟩:=id XA;refine zk SF hC Va (V4 _ jF) (XA.la SF.mro jF SF.slot.lookup) hT KB λtk t=>Bo SF hC Va (V4 _ hf) (XA.la SF.mro hf hB) hT KB KB KB λh' Vb k kx kn=>#[KB,?_]
 have fr:H h1.objs.size=Ix:=I.JC.fresh (GY _)
 have np:h1.objs.size≠p:=λz=>by rw[z,e] at fr;cases fr
 refine h h1.objs.size _ fr ?_;have gd:(h1.push { cls:= .type "dict",data:= .dict [].toArray }).get? h1.objs.size=GM { cls:= .type "dict",data:= .dict [].toArray } :=Iu _ KB;have n0:(h1.push { cls:= .type "dict",data:= .dict [].toArray }).Ns h1.objs.size (λ_=>Ix):=#[_, [].toArray,_,gd,KB,(λe he=>G6 he (by simp)),λ_=>rfl]
 have I1:aP X pins σ (bf H h1.objs.size (c4 h1.objs.size [])) ⟨h1.push { cls:= .type "dict",data:= .dict [].toArray },g1,d1,Vb,VM⟩:=
  I.laid (t':=Vb) (λb u z=>GV _ z) (GY _) (mn (Pw n0) (λ_=>IS) λg hg=>G6 KB hg)
 have hp1:(h1.push { cls:= .type "dict",data:= .dict [].toArray }).get? p=GM (dM C T):=GV _ hT
 have gp:((h1.push { cls:= .type "dict",data:= .dict [].toArray }).update p λo=> { o with dict:=GM h1.objs.size }).get? p=GM { dM C T with dict:=GM h1.objs.size } :=Kt _ hp1 KB
 have I2:aP X pins σ (bf (bf H h1.objs.size (c4 h1.objs.size [])) p (k6 C h1.objs.size p)) ⟨(h1.push { cls:= .type "dict",data:= .dict [].toArray }).update p λo=> { o with dict:=GM h1.objs.size },g1,d1,Vb,VM⟩:=
  I1.write (x:=p) (e:=p) (t':=Vb) (by rw[af np.symm,e];exact IS) (.inl KB) (λb u hb z=>by rw[IG _ _ (K3 hb)];exact z) #[_,gp]
   #[#[_,_,gp,KB,KB,KB,KB],#[_,gp],λ_ _ ⟨o,vs,z,r⟩ k=>#[o,vs,k _ z,r]]
 obtain⟨od,_,_,hod,_⟩:=id kn;have I3:aP X pins σ (bf (bf (bf H h1.objs.size (c4 h1.objs.size [])) p (k6 C h1.objs.size p)) h1.objs.size (c4 h1.objs.size [(f,y)])) ⟨h',g1,d1,Vb,VM⟩:=by
  refine I2.write (x:=h1.objs.size) (e:=h1.objs.size) (t':=Vb) (by rw[af np,aj];exact IS) (.inl KB) (λb v hb z=>?_) #[_,hod] (mn kn (λg=>?_) λg hg=>?_)
  .by_cases bp:b=p
   .rw[bp] at z ⊢
    rw[gp] at z;rw[kx,<-z]
   .rw[IG _ _ (K3 bp)] at z
    refine k b v bp ?_;rcases Im.get?_push_cases z with⟨z1,_⟩|z1
    .exact G6 z1 hb
    .exact z1
  .show gA (Km g [(f,y)]) (if g=f then GM u else Ix)
   by_cases gf:g=f
   .rw[gf,GI KB]
    simp only[Km,IK];exact ry
   .rw[GG gf,Km,show(g == f)=IR from beq_eq_false_iff_ne.mpr gf]
    exact IS
  .by_cases gf:g=f
   .rw[gf];exact GW
   .exact G6 (GG gf) hg
 have eH:bf (bf (bf H h1.objs.size (c4 h1.objs.size [])) p (k6 C h1.objs.size p)) h1.objs.size (c4 h1.objs.size [(f,y)])=bf (bf H h1.objs.size (c4 h1.objs.size [(f,y)])) p (k6 C h1.objs.size p):=by
  funext b
  by_cases b1:b=h1.objs.size
  .rw[b1,aj,af np,aj]
  .by_cases b2:b=p
   .rw[b2,af np.symm,aj,aj]
   .rw[af b1,af b2,af b1,af b2,af b1]
 rw[eH] at I3;exact I3
def Cp (XC:hU X.K R C fI) (SF:M0 B dC sa owner) (hf:f∈dz) (hB:JH (.type B) f=pure Ix) (I:aP X pins σ H s) (e:H p=GM (k6 C d p)) (ed:H d=GM (c4 d fs)) (hl:fs.length<1000) (ry:bD y u)
  (h: ∀s',aP X pins σ (bf H d (c4 d (Lj f y fs))) s'->Q () s'):Hq (model X.prog X.w) A (SX (.ref p) f u) Q E s:=by
 have XA:=XC.at_ _ I.NY;obtain⟨⟨o,vs,x1,x2,x3,x4,x5⟩,_⟩:=I.JC _ _ e;obtain⟨⟨mA,n,r,wi⟩,_⟩:=I.JC _ _ ed;obtain⟨h1,g1,d1,t1,VM⟩:=s;obtain⟨Nn,mN,oI,NR,mR,⟨nm,q,bs,sn,sub,ab,col,dd,k0,k1,k2,k3,k5,hC⟩,Va,WL,V4,_⟩:=id XA
 have dp:d≠p:=λz=>by
  obtain⟨o',es,ep,z1,z2,_⟩:=n;rw[z,x1] at z1;have y:=Hb z1;rw[<-y,x4] at z2;cases z2
 have hz:(fs.map (·.1)).length<=1000:=by rw[GK];lia
 refine zk SF hC Va (V4 _ jF) (XA.la SF.mro jF SF.slot.lookup) x1 x2 λtk t=>CJ SF hC Va (V4 _ hf) (XA.la SF.mro hf hB) x1 x2 x3 n wi hz λh' Vb k kn=>#[KB,?_];obtain⟨od,_,_,hod,_⟩:=id kn;refine h _ (I.write (x:=d) (e:=d) (t':=Vb) (by rw[ed];exact IS) (.inl KB) k #[_,hod] (mn kn (λg=>?_) λg hg=>?_))
 .rw[jg]
  by_cases gf:g=f
  .rw[GI gf,GI gf];exact ry
  .rw[GG gf,GG gf];exact r g
 .by_cases gf:g=f
  .rw[gf];exact(ii f y fs).1
  .refine(ii f y fs).2 g (wi g λz=>hg ?_)
   show(if g=f then GM u else mA g)=Ix
   rw[GG gf];exact z
def Gq {Q:GC->GH->Prop}{φ:Im->Prop}(XC:hU X.K R C fI) (hf:f∈dz) (hB:JH (.type "Exception") f=pure Ix) (I:aP X pins σ H s)
  (e: ∃o vs,s.heap.get? p=GM o/\o.cls= .ref C/\o.dict=GM d/\o.data= .fields vs) (ed:H d=GM (c4 d fs)) (l:fs.lookup f=GM v)
  (h: ∀u s',aP X pins σ H s'->bD v u->Q u s'):Hq (model X.prog X.w) A (SW (.ref p) f b) Q E s:=by
 have XA:=XC.at_ _ I.NY;obtain⟨o,vs,x1,x2,x3,x4⟩:=e;obtain⟨⟨mA,n,r,wi⟩,_⟩:=I.JC _ _ ed;obtain⟨h1,g1,d1,t1,VM⟩:=s;obtain⟨Nn,mN,oI,NR,mR,⟨nm,q,bs,sn,sub,ab,col,dd,k0,k1,k2,k3,k5,hC⟩,Va,WL,V4,_⟩:=id XA
 have dp:d≠p:=λz=>by
  obtain⟨o',es,ep,z1,z2,_⟩:=n;rw[z,x1] at z1;have y:=Hb z1;rw[<-y,x4] at z2;cases z2
 have nc: ∀c,o.data≠ .cls c:=λc z=>by rw[x4] at z;cases z
 have I0:h1.Inst p C mA:=#[o,x1,x2,nc, .inr #[d,x3,dp,n]];obtain⟨u,hu,ru⟩:=gA.some_of (v:=v) (o:=mA f) (by rw[<-l];exact r f);exact EV DL (XA.la JK.mro qW aeQ) (XA.la JK.mro oK aeR) (hC) Va (V4 _ qW) (V4 _ oK) (V4 _ hf) (XA.la JK.mro hf hB) I0 hu (PySem.W.handedOut_of (qH ru)) (h u _ (I.tok _) ru)
end
section
variable {ta tv:TE}
def sX0 (C:GB) (ta tv:TE) (f:Ha):TS:=λD σ H=>tv σ H λy H1=>ta σ H1 λx H2=> ∃p,x= .ref p/\H2 p=GM (rq C p)/\ ∀d,H2 d=Ix->D.nx σ (bf (bf H2 d (c4 d [(f,y)])) p (k6 C d p))
def sX1 (C:GB) (ta tv:TE) (f:Ha):TS:=λD σ H=>tv σ H λy H1=>ta σ H1 λx H2=> ∃p d fs,x= .ref p/\H2 p=GM (k6 C d p)/\H2 d=GM (c4 d fs)/\fs.length<1000/\D.nx σ (bf H2 d (c4 d (Lj f y fs)))
def agf (XC:hU X.K R C fI) (SF:M0 "Exception" dC sa owner) (hf:f∈dz) (hB:JH (.type "Exception") f=pure Ix) (ha:PE X o ta) (hv:PE X Ln tv)
  (hs:Lf Ln (GM (.Attribute o f NZ)) pos.line X.env=pure IR):PS X (.Assign [.Attribute o f NZ] Ln pos) (sX0 C ta tv f):=by
 intro pins s σ H D I h;refine MT (cG (hv pins s σ H _ I h) λu s1 ⟨y,H1,I1,ry,q⟩=>cG (ha pins s1 σ H1 _ I1 q) λov s2 ⟨x,H2,I2,rx,p,ex,ea,q2⟩=>?_) hs;subst ex;obtain rfl:ov=Hn p:=rx;exact DX XC SF hf hB I2 ea ry λd s3 hd I3=>#[σ,_,I3,q2 d hd]
def Cv (XC:hU X.K R C fI) (SF:M0 "Exception" dC sa owner) (hf:f∈dz) (hB:JH (.type "Exception") f=pure Ix) (ha:PE X o ta) (hv:PE X Ln tv)
  (hs:Lf Ln (GM (.Attribute o f NZ)) pos.line X.env=pure IR):PS X (.Assign [.Attribute o f NZ] Ln pos) (sX1 C ta tv f):=by
 intro pins s σ H D I h;refine MT (cG (hv pins s σ H _ I h) λu s1 ⟨y,H1,I1,ry,q⟩=>cG (ha pins s1 σ H1 _ I1 q) λov s2 ⟨x,H2,I2,rx,p,d,fs,ex,ea,ed,l,q2⟩=>?_) hs;subst ex;obtain rfl:ov=Hn p:=rx;exact Cp XC SF hf hB I2 ea ed l ry λs3 I3=>#[σ,_,I3,q2]
end
abbrev AH (X:Cx) (pins:Gr (GB×Kh)) (Ew:GC->GH->Prop):Cx:= { X with pn:=X.pn++pins,xe:=Ew }
abbrev Xy (X:Cx) (a:GB):Cx:= { X with A:=X.A.mark (GM (.ref a)),calm:=IR,xe:=λ_ _=>False }
section
variable {H:Hp}{Ew:GC->GH->Prop}{a:GB}
def Bw (I:aP X pins σ H s):aP (AH X pins Ew) [] σ H s:=
 #[#[I.ok.mod,I.ok.kind,I.ok.glob,I.ok.blt,I.ok.above,I.ok.inj,I.ok.has,I.ok.Xg,I.ok.hd,I.ok.frames,I.ok.Xh,I.ok.ZG,I.ok.bs,I.ok.Ux,I.ok.So,I.ok.Sq,I.ok.funs,I.ok.VV],I.os,I.bare,I.base,I.loc,I.cell,I.free,I.MS,
  λp hp=>I.pin p (by rw[G7] at hp;exact hp),I.JC,I.len]
def fK (I:aP (AH X pins Ew) Ud σ H s):aP X pins σ H s:=
 #[#[I.ok.mod,I.ok.kind,I.ok.glob,I.ok.blt,I.ok.above,I.ok.inj,I.ok.has,I.ok.Xg,I.ok.hd,I.ok.frames,I.ok.Xh,I.ok.ZG,I.ok.bs,I.ok.Ux,I.ok.So,I.ok.Sq,I.ok.funs,I.ok.VV],I.os,I.bare,I.base,I.loc,I.cell,I.free,I.MS,
  λp hp=>I.pin p (O8 _ hp),I.JC,I.len]
def zj (I:aP X pins σ H s):aP (Xy X a) pins σ H s:=
 #[#[I.ok.mod,I.ok.kind,I.ok.glob,I.ok.blt,I.ok.above,I.ok.inj,I.ok.has,I.ok.Xg,λz=>IU z,I.ok.frames,I.ok.Xh,I.ok.ZG,I.ok.bs,I.ok.Ux,I.ok.So,I.ok.Sq,I.ok.funs,I.ok.VV],I.os,I.bare,I.base,I.loc,I.cell,I.free,I.MS,
  I.pin,I.JC,I.len]
def Aw (ok:X.Ok) (I:aP (Xy X a) pins σ H s):aP X pins σ H s:=#[ok,I.os,I.bare,I.base,I.loc,I.cell,I.free,I.MS,I.pin,I.JC,I.len]
def kK (h:SP (AH X pins Ew) Ud D f s'):SP X pins D f s':=by
 cases f with
 |next=>obtain⟨σ',H',I,q⟩:=h;exact#[σ',H',fK I,q]
 |brk=>obtain⟨σ',H',I,q⟩:=h;exact#[σ',H',fK I,q]
 |cont=>obtain⟨σ',H',I,q⟩:=h;exact#[σ',H',fK I,q]
 |ret u=>obtain⟨v,σ',H',I,r,q⟩:=h;exact#[v,σ',H',fK I,r,q]
def Ap (I:aP X pins σ H s) (hn:H a=Ix) (z:X.P9.heap.objs.size<=a) (nl:a≠X.env.locals) (nc: ∀x c,X.env.cells.lookup x=GM c->c≠a) (np: ∀p∈X.pn++pins,p.1≠a)
  (new:cK X.prog X.w (bf H a o) s.heap a o):aP X pins σ (bf H a o) s:=by
 have ne: ∀b u,H b=GM u->b≠a:=λb u e y=>by rw[y,hn] at e;cases e
 refine I.step (h':=s.heap) (g':=s.gens) (t':=s.toks) (d':=s.drawn) (ch:=[a]) (λb hb=>?_) (λb o _ _ _ e _=>e) (λb o _ _ _ e _=>#[o.slots,e]) (λb o hb e y=>?_) (λb o _ e=>#[o,e]) (λb xs e=>?_) (λb o u e=>?_) (λb ps e=>#[[].toArray,?_]) (λm y=>y) (λb u e=>?_) I.bare
 .rw[Hx.mp hb];exact#[.inr z,nl,nc,np]
 .rw[af (λy=>hb (by rw[y];exact GW))];exact y
 .rw[af (ne b _ e)];exact e
 .rw[af (ne b _ e)];exact e
 .rw[af (ne b _ e),e];simp
 .by_cases hb:b=a
  .rw[hb,aj] at e
   rw[hb,<-Hb e];exact new
  .rw[af hb] at e
   exact(I.JC b u e).QX (λc v _ q=>q) (λc q=>by rw[af (ne c _ q)];exact q) λc xs q=>by rw[af (ne c _ q)];exact q
def D0 {m:Ha->GJ GC}(I:aP X pins σ H s) (hn:h'.Ns X.env.locals m) (hs:Oy X.env.locals s.heap h'):aP X pins (Jv X.N.length Ix) H { s with heap:=h',toks:=t } :=by
 have W:aP X pins (Jv X.N.length Ix) H s:=I.weak (by rw[OV];exact I.len.symm) λi v e=>by
  rw[LY] at e;split at e<;>cases e
 have nL: ∀b u,H b=GM u->b≠X.env.locals:=λb u e y=>by rw[y,I.free] at e;cases e
 obtain⟨ol,_,_,hol,_⟩:=id hn;refine#[W.ok,W.os,W.bare,#[λb o e n hb hx=>?_,λb o e n hb hx=>?_,W.base.free,λb o e hx=>?_,W.base.Rc,W.base.QQ,W.base.Rf],#[m,hn,λi x v _ e _=>?_],λx c e=>?_,W.free,W.MS,λp hp=>?_,λb u e=>?_,W.len]
 .exact(hs.2 b (Ik (Hl (Hk e) I.ok.above))).trans (W.base.keep b o e n hb hx)
 .obtain⟨sl,y⟩:=W.base.slot b o e n hb hx
  exact#[sl,(hs.2 b (Ik (Hl (Hk e) I.ok.above))).trans y]
 .obtain⟨o',y⟩:=W.base.there b o e hx
  exact#[o',(hs.2 b (Ik (Hl (Hk e) I.ok.above))).trans y]
 .rw[LY] at e
  split at e<;>cases e
 .obtain⟨v,o,y,yd⟩:=I.cell x c e
  exact#[v,o,(hs.2 c (I.Xi x c e)).trans y,yd]
 .obtain⟨e1,e2,e3,e4⟩:=I.pin p hp
  exact#[(hs.2 p.1 e3).trans e1,e2,e3,e4]
 .refine(I.JC b u e).QX (λc v hc q=>(hs.2 c ?_).trans q) [08] λ_ _ q=>q
  rcases hc with y|y
  .rw[y];exact nL b u e
  .exact nL c _ y
end
structure Own (X:Cx) (pins:Gr (GB×Kh)) (b:GB):Prop where
 z:X.P9.heap.objs.size<=b
 nl:b≠X.env.locals
 nc: ∀x c,X.env.cells.lookup x=GM c->c≠b
 np: ∀p∈X.pn++pins,p.1≠b
def wv {X:Cx}{pins:Gr (GB×Kh)}{σ:St}{H:Hp}{s:GH}(I:aP X pins σ H s) (hb:s.heap.objs.size<=b):Own X pins b:=by
 refine#[G0 I.sz hb,Qy (Hl I.lt hb),λx c e z=>?_,λp hp z=>?_]
 .obtain⟨v,q⟩:=I.cell x c e
  exact G6 (Hl q.lt (by rw[z];exact hb)) (Jp _)
 .exact G6 (Hl (Hk (I.pin p hp).1) (by rw[z];exact hb)) (Jp _)
def kD (C d a:GB):HO:= .ext λh=> ∃o vs,h.get? a=GM o/\o.cls= .ref C/\o.dict=GM d/\o.data= .fields vs
structure E6 (X:Cx) (pins:Gr (GB×Kh)) (H:Hp) (h:Im) (C d a:GB):Prop where
 own:Own X pins a
 no:H a=Ix
 ex: ∃oe vs T oT ts,h.get? a=GM oe/\oe.cls= .ref C/\oe.dict=GM d/\oe.data= .fields vs/\vs[1]?=GM (.ref T)/\T≠a/\H T=Ix/\Own X pins T/\h.get? T=GM oT/\oT.data= .fields ts/\ts[3]?=GM .none
abbrev aj3 (X:Cx) (hs:Gr ExceptHandler) (Q:Flow->GH->Prop):GC->GH->Prop:=λe s1=>Hq (model X.prog X.w) X.A (Qk e X.env) (λ_ s2=>Hq (model X.prog X.w) X.A (Rw e Ix) (λ_ s3=>Hq (model X.prog X.w) X.A (handleBy e X.env hs) Q X.xe s3) X.xe s2) X.xe s1
section
variable {Q:Flow->GH->Prop}{Ek:XK}
def Fe (Mu:X.stack=X.env::X.outer) (RZ:X.env.frame=GM X.env.locals)
  (hh: ∀(C a d:GB) (σ:St) (H:Hp) (s:GH),aP X pins σ H s->E6 X pins H s.heap C d a->Ek (.ref C) (GM d) H->Hq (model X.prog X.w) X.A (handleBy (.ref a) X.env hs) Q X.xe s):
  eN (jR X.prog X.w) (AH X pins (aj3 X hs Q)) Ek:=by
 intro Ud σ H s e s' I h;obtain⟨C,a,d,H',rfl,os,bare,un,JC,za,ha,⟨oe,vs,T,oT,ts,x1,x2,x3,x4,x5,x6,x7,x8,x9,x10,x11⟩,hE⟩:=h;have J0:=I.VH (ch:=[]) os un JC bare (λb z=>nomatch z)
 have J:aP X pins σ H' s':=fK J0
 have oa:Own X pins a:=wv (fK I) za
 have oT':Own X pins T:=wv (fK I) x6
 have fr:X.A.frames=GM (X.env::X.outer):=by rw[J.ok.frames,Mu]
 have st:s'.heap.FunFrames X.base (X.env::X.outer):=by rw[<-Mu];exact J.stack
 show Hq (model X.prog X.w) X.A (Qk (.ref a) X.env) _ _ s'
 refine yZ (base:=X.base) fr st RZ x1 x4 x5 x7 x9 x10 x11 λh' L=>?_;have ck: ∀b∈[a,T],H' b=Ix:=λb hb=>by
  rcases Hg.mp hb with z|z
  .rw[z];exact ha
  .rw[Hx.mp z];exact x8
 have fq:(X.env::X.outer).filterMap (·.frame)=tz X.stack:=by rw[Mu];rfl
 rw[fq] at L;have hk:iR X.prog X.w H' h':=λb u e=>by
  refine(J.JC b u e).QX (λc v hc q=>L.keep c v (λz=>?_) (λz=>?_) q) [08] λ_ _ q=>q
  .have y:=J.QI c z
   rcases hc with w1|w1
   .rw[w1,e] at y;cases y
   .rw[w1] at y;cases y
  .have y:=ck c z
   rcases hc with w1|w1
   .rw[w1,e] at y;cases y
   .rw[w1] at y;cases y
 have K1:aP X pins σ H' { s' with heap:=h' } :=by
  refine J.call (g':=s'.gens) (t':=s'.toks) (d':=s'.drawn) (ch:=[a,T]) #[λb o e n hb hx=>L.keep b o hb hx e,λb o e n hb hx=>L.slot b o hb hx e,λb o e n hx=>n,λb o e hx=>L.there b o e,λ_ _ e=>e,λ_ _ _ e=>e,λb ps e=>#[[].toArray,by rw[e];simp]] hk J.bare λb hb=>?_;rcases Hg.mp hb with z|z
  .rw[z];exact#[.inr oa.z,oa.nl,oa.nc,oa.np]
  .rw[Hx.mp z];exact#[.inr oT'.z,oT'.nl,oT'.nc,oT'.np]
 obtain⟨ws,T2,oT2,ts2,y1,y2,y3,y4,y5,y6,y7⟩:=L.fly;exact hh C a d σ H' _ K1 #[oa,ha,_,ws,T2,oT2,ts2,y1,x2,x3,KB,y2,y4,J.JC.fresh y3,wv J y3,y5,y6,y7] hE
end
section
variable {a:GB}{H:Hp}{th:TS}
def Bv (R G C:GB):Prop:=G=C\/G=R
def Bn (XC:hU X.K R C fI) (hG:Bv R G C) {E:GC->GH->Prop}{Q:HK->GH->Prop}(I:aP X pins σ H s) (cm:E6 X pins H s.heap C d a) (q:Q IN s):Hq M A (excMatches (.ref a) (.ref G)) Q E s:=by
 obtain⟨Nn,mN,oI,NR,mR,⟨nm,qq,bs,sn,sub,ab,col,dd,k0,k1,k2,k3,k5,hC⟩,_,_,_,_,_,⟨nm',qq',bs',sn',ak6,ab',ak7,V2,k0',k1',k2',k3',k5',hR⟩,_⟩:=XC.at_ _ I.NY;obtain⟨oe,vs,T,oT,ts,y1,y2,_⟩:=cm.ex;obtain⟨h1,g1,d1,t1,VM⟩:=s;rcases hG with rfl|rfl
 .exact wpAny_excMatches_sub_self hC y1 y2 (by rw[HS];rfl) q
 .have u1:(Hn G::dC).contains (.type "BaseException")=IN:=by rw[HS];rfl
  have u2:(Hn C:: .ref G::dC).contains (.ref G)=IN:=by simp
  have f:=tc_notTuple;unfold excMatches
  repeat (first|(with_reducible refine HN y1 ?_;rw[y2])|with_reducible refine HN hR ?_|(with_reducible refine wpAny_isSubtype_exc hR ?_;rw[u1])|(with_reducible refine wpAny_isSubtype_exc hC ?_;rw[u2])|wp_step)
  exact q
def xg {E:GC->GH->Prop}{Q:Nq->GH->Prop}(I:aP X pins σ H s) (cm:E6 X pins H s.heap C d a)
  (h: ∀s',aP X pins σ H s'->(∃o vs,s'.heap.get? a=GM o/\o.cls= .ref C/\o.dict=GM d/\o.data= .fields vs)->Q () s'):Hq M A (Rw (.ref a) Ix) Q E s:=by
 obtain⟨oe,vs,T,oT,ts,y1,y2,y3,y4,y5,y6,y7,y8,y9,y10,y11⟩:=cm.ex;refine wpAny_setFlight_none y1 y4 y5 y9 y10 (Kr.mp y11).1 (h _ (I.turned (it:=T) (t':=s.toks) (λb o hb e=>by rw[IG _ _ (K3 hb)];exact e) y7 y8.nl (.inr y8.z) y8.nc y8.np) ?_);exact#[oe,vs,by show(s.heap.update T _).get? a=_;rw[IG _ _ y6];exact y1,y2,y3,y4]
def aaw (XC:hU X.K R C fI) (hG:Bv R G C) (hg:Gl X x) (hm:X.mg x=GM (.ref G)) (hN:X.N.Nodup) (hi:X.N[i]?=GM n) (hl:X.env.scope.names.lookup n=GM .local) (hs:vU (Xy X a) (b0::Uj) th)
  (I:aP X pins σ H s) (cm:E6 X pins H s.heap C d a) (hr:th #[λ_ _=>False,D.rt,λ_ _=>False,λ_ _=>False] ((Jv X.N.length Ix).set i (GM (.ref a))) (bf H a (kD C d a)))
  (Ss:(x == ("__debug__":Ha))=IR:=by decide):
  Hq (model X.prog X.w) X.A (handleBy (.ref a) X.env [.ExceptHandler (GM (.Name x np)) (GM n) (b0::Uj) agg]) (SP X pins D) X.xe s:=by
 refine wpAny_handleBy_cons (codeAny_handlers_test ?_) (by intro q;cases q);refine iO (X:=Xy X a) (zj I) hg hm ?_ Ss;refine Bn XC hG I cm ?_;show ME _ _ _ _ _;refine codeAny_handlers_suite_as (xg I cm λs1 I1 e1=>?_);have I2:aP X pins (Jv X.N.length Ix) H s1:=I1.weak (by rw[OV];exact I1.len.symm) λi v e=>by
  rw[LY] at e;split at e<;>cases e
 have I3:aP X pins (Jv X.N.length Ix) (bf H a (kD C d a)) s1:=
  Ap I2 cm.no cm.own.z cm.own.nl cm.own.nc cm.own.np #[e1,#[_,e1.choose_spec.choose_spec.1],λ_ _ ⟨o,vs,z,r⟩ k=>#[o,vs,k _ z,r]]
 refine lf (X:=Xy X a) (v:= .ref a) (zj I3) hN hi (.inl hl) KB (λs4 I4=>?_) (.inr hl);refine JQ (hs pins s4 _ _ _ I4 hr) (λf s5 z=>?_) λ_ _ z=>z.elim;cases f with
 |next=>obtain⟨_,_,_,z⟩:=z;exact z.elim
 |brk=>obtain⟨_,_,_,z⟩:=z;exact z.elim
 |cont=>obtain⟨_,_,_,z⟩:=z;exact z.elim
 |ret u=>
  obtain⟨v,σ5,H5,I5,r5,q5⟩:=z;obtain⟨m,hn,_⟩:=id I5.loc;refine wpAny_nameGoes hl hn (by rw[I.ok.kind];rfl) λh' m' n' sb=>#[v,_,H5,D0 (Aw I.ok I5) n' sb,r5,q5]
end
section
variable {tb th:TS}{Ek:XK}
def aax (Ek:XK) (m i:GQ) (tb th:TS):TS:=λD σ H=>tb D σ H/\ ∀C d H' a,Ek (.ref C) (GM d) H'->H' a=Ix->
 th #[λ_ _=>False,D.rt,λ_ _=>False,λ_ _=>False] ((Jv m Ix).set i (GM (.ref a))) (bf H' a (kD C d a))
def B8 (Ek:XK) (Mu:X.stack=X.env::X.outer) (RZ:X.env.frame=GM X.env.locals) (hE: ∀C d H,Ek (.ref C) (GM d) H-> ∃fI,hU X.K R C fI/\Bv R G C) (hg:Gl X x) (hm:X.mg x=GM (.ref G)) (hN:X.N.Nodup) (hi:X.N[i]?=GM n) (hl:X.env.scope.names.lookup n=GM .local)
  (hb: ∀pins Ew,eN (jR X.prog X.w) (AH X pins Ew) Ek->vU (AH X pins Ew) body tb) (hs: ∀a,vU (Xy X a) (b0::Uj) th) (Ss:(x == ("__debug__":Ha))=IR:=by decide):
  PS X (.Try body [.ExceptHandler (GM (.Name x np)) (GM n) (b0::Uj) agg] [] [] pos) (aax Ek X.N.length i tb th):=by
 intro pins s σ H D I h;refine wpAny_Try_except ?_;have P:=Fe (hs:=[.ExceptHandler (GM (.Name x np)) (GM n) (b0::Uj) agg]) (Q:=SP X pins D) (Ek:=Ek) Mu RZ λC a d σ1 H1 s1 I1 cm hE1=>(hE C d H1 hE1).elim λfI ⟨XC,hG⟩=>aaw (D:=D) XC hG hg hm hN hi hl (hs a) I1 cm (h.2 C d H1 a hE1 cm.no) Ss
 refine JQ (hb pins _ P [] s σ H D (Bw I) h.1) (λf s1 z=>?_) λe s1 z=>z;cases f with
 |next=>exact NA (kK z)
 |brk=>exact kK z
 |cont=>exact kK z
 |ret u=>exact kK z
def agh (K:Gy) (te:TE) (f:Ha):TE:=λσ H Q=>te σ H λx H1=> ∃R C fI a d fs v,hU K R C fI/\x= .ref a/\H1 a=GM (kD C d a)/\H1 d=GM (c4 d fs)/\fs.lookup f=GM v/\Q v H1
def FE {te:TE}{K:Gy}(hK:X.K=K) (hf:f∈dz) (hB:JH (.type "Exception") f=pure Ix) (he:PE X e te) (hb:JN e f X.env (eval e X.env)=eval e X.env):PE X (.Attribute e f pos) (agh K te f):=by
 intro pins s σ H Q I h;subst hK;refine zh hb (cG (he pins s σ H _ I h) λu s1 ⟨x,H1,I1,rx,R,C,fI,a,d,fs,v,XC,ex,ea,ed,l,q⟩=>?_);subst ex;obtain rfl:u=Hn a:=rx;obtain⟨z,_⟩:=I1.JC _ _ ea;exact Gq (φ:=λ_=>True) XC hf hB I1 z ed l λu' s2 I2 ru=>#[v,H1,I2,ru,q]
end
def oo:JH (.type "Exception") "number"=pure Ix:=by rw[Ly,Kc];kernel_rfl
def DW:JH (.type "Exception") "kind"=pure Ix:=by rw[Ly,Kc];kernel_rfl
def BM:JH (.type "Exception") "line"=pure Ix:=by rw[Ly,Kc];kernel_rfl
def wf:JH (.type "Exception") "column"=pure Ix:=by rw[Ly,Kc];kernel_rfl
abbrev C8 (n l c:Int):Gr (Ha×V):=[("number", .int (-3)),("kind", .int n),("line", .int l),("column", .int c)]
abbrev Dd (n:Int):Gr (Ha×V):=[("number", .int n)]
def aj4:Gr V->Gr (Ha×V)->Prop:=λus fs=> ∃n:Int,us=[.int n]/\fs=Dd n
def aay:Gr V->Gr (Ha×V)->Prop:=λus fs=> ∃n l c:Int,us=[.int n, .int l, .int c]/\fs=C8 n l c
def iP (T:Txt K mg a) (XC:hU K a.Kv C fI):T.d_S.U P w mg base 1 (j2 C aj4):=by
 refine T.d_S.F.ok ajA (λvs H Q E h=>?_) [02]
 .obtain⟨p,us,fs,rfl,⟨n,rfl,rfl⟩,_⟩:=h
  rfl
 .obtain⟨p,us,fs,rfl,⟨n,rfl,rfl⟩,hp,q⟩:=h
  refine#[_,(ai (wX (C:=C) (fI:=fI) XC (by rfl) T.Sk (pv 0))
   (ak (agf XC JK [00] oo (pv 0) (pv 1) KB))),?_]
  exact#[p,KB,hp,p,KB,hp,λd hd=>q d hd]
def jX (T:Txt K mg a) (XC:XT K a):T.Wh.U P w mg base 2 (j2 a.Jm aay):=by
 have G:=iP (P:=P) (w:=w) (base:=base) T XC.fc;refine T.Wh.F.ok aff (λvs H Q E h=>?_) [02]
 .obtain⟨p,us,fs,rfl,⟨n,l,c,rfl,rfl⟩,_⟩:=h
  rfl
 .obtain⟨p,us,fs,rfl,⟨n,l,c,rfl,rfl⟩,hp,q⟩:=h
  refine#[_,(ai (a6 (vi (by rfl) T.M3 XC.rm G (hr.mono [01]) T.d_S.c.b .nil aC (aa (pv 0) (aa (Xp B3 aG) ac))))
   (ai (Cv XC.fc JK [00] DW (pv 0) (pv 1) KB)
   (ai (Cv XC.fc JK [00] BM (pv 0) (pv 2) KB)
   (ak (Cv XC.fc JK [00] wf (pv 0) (pv 3) KB))))),?_]
  refine#[_,KB,p,_,Dd (-3),KB,#[-3,KB,KB],hp,λd hd=>?_];have np:d≠p:=(aw hp hd).symm;have z:=q d hd;refine#[p,d,_,KB,aj,by rw[af np,aj],by show 1<1000;decide,?_];refine#[p,d,_,KB,by rw[af np.symm,aj],aj,by show 2<1000;decide,?_];refine#[p,d,_,KB,by rw[af np.symm,af np.symm,aj],aj,by show 3<1000;decide,?_];have eH: ∀f1 f2 f3 f4:Gr (Ha×V),bf (bf (bf (bf (bf H d (c4 d f1)) p (k6 a.Jm d p)) d (c4 d f2)) d (c4 d f3)) d (c4 d f4)=bf (bf H d (c4 d f4)) p (k6 a.Jm d p):=λf1 f2 f3 f4=>by
   funext b
   by_cases hb:b=d
   .rw[hb,aj,af np,aj]
   .rw[af hb,af hb,af hb]
    by_cases hb2:b=p
    .rw[hb2,aj,aj]
    .rw[af hb2,af hb,af hb2,af hb]
  show Q .Ko _
  rw[eH];exact z
def sY (q kd fn ds bl:GB) (n:GQ):Gr (Ha×V):=[("tokens", .ref q),("at", .int n),("known", .ref kd),("functions", .ref fn),("desks", .ref ds),("blocks", .ref bl)]
inductive XI (a:bI) (H:Hp) (q:GB) (n:GQ) (t:GA):Prop
 |mk (as:Gr GB) (all:GA) (_:H q=GM (.lst (as.map V.ref))) (_:Paired (gv a.Kd H) as all) (_:all.drop n=t):XI a H q n t
structure oN (a:bI) (H:Hp) (r q kd fn ds bl:GB) (n:GQ) (t:GA):Prop where
 ins: ∃dr,H r=GM (.ins a.HP dr (sY q kd fn ds bl n))
 toks:XI a H q n t
def o0 (C:GB) (E:XK) (H:Hp) (n:GQ) (x:HM):Prop:= ∀d,H d=Ix->E (.ref C) (GM d) (bf H d (c4 d (C8 n x.1 x.2)))
theorem ia {α β:Type}{F:α->β->Prop} : ∀ {l:Gr α}{m:Gr β}{i:GQ}{y:β},Paired F l m->m[i]?=GM y-> ∃x,l[i]?=GM x/\F x y
 |_,_,_,_, .nil,h=>by cases h
 |_,_,0,_, .cons r t,h=>#[_,KB,by obtain rfl:=Hb h;exact r]
 |_,_,i+1,_, .cons r t,h=>ia (i:=i) t h
def AT {α:Type}{l t:Gr α}{x:α}(h:l.drop n=x::t):l[n]?=GM x:=by
 have:=Hv (λz:Gr α=>z[0]?) h
 simpa using this
def oN.cur {a:bI}{H:Hp}{r q kd fn ds bl:GB}{n:GQ}{x:HZ×HM}{t:GA}(R:oN a H r q kd fn ds bl n (x::t)):
  ∃(as:Gr GB) (p:GB),H q=GM (.lst (as.map V.ref))/\(as.map V.ref)[n]?=GM (.ref p)/\gv a.Kd H p x:=by
 obtain⟨as,all,h1,h2,h3⟩:=R.toks;obtain⟨p,e,k⟩:=ia h2 (AT h3);exact#[as,p,h1,by rw[HI,e];rfl,k]
inductive XJ (a:bI) (vs:Gr V) (H:Hp) (Q:VK) (E:XK):Prop
 |mk (r q kd fn ds bl:GB) (n:GQ) (x:HZ×HM) (t:GA) (_:vs=[.ref r]) (_:oN a H r q kd fn ds bl n (x::t)) (_:(x.1= .bad->o0 a.Jm E H 1 x.2)) (_:(x.1≠ .bad-> ∀p,gv a.Kd H p x->Q (.ref p) H)):XJ a vs H Q E
inductive Cg (a:bI) (vs:Gr V) (H:Hp) (_Q:VK) (E:XK):Prop
 |mk (r q kd fn ds bl:GB) (n:GQ) (x:HZ×HM) (t:GA) (m:GQ) (_:vs=[.ref r, .int m]) (_:oN a H r q kd fn ds bl n (x::t)) (_:o0 a.Jm E H (if x.1= .bad then 1 else m) x.2):Cg a vs H _Q E
def qt:iT x=4 ↔ x= .bad:=by cases x<;>simp [iT]
def dG (T:Txt K mg a) (XC:XT K a):T.Vw.O P w mg base 4 (XJ a):=by
 have G:=jX (P:=P) (w:=w) (base:=base) T XC;refine kr T.Vw.F aft [03] [02];obtain⟨r,q,kd,fn,ds,bl,n,x,t,rfl,R,hb,hg⟩:=h;obtain⟨dr,er⟩:=R.ins;obtain⟨as,p,eq,ep,tp⟩:=R.cur
 have tp':=tp;obtain⟨dx,et⟩:=tp';refine#[_,(ai (b4 (i:=1) aft.nd KB (HF KB) (eS cX [07] [07] (λ_ _=>rfl)))
   (ai (bz (bg cu (az (pv 1) KB) (bA (by rfl) T.PY) (a0 _)) (ak (uH nX XC.fc G (hr.mono [01]) (by rfl) T.QS T.Wh.c.b (aa (bA (by rfl) T.Rg) (aa (az (pv 1) KB) (aa (az (pv 1) KB) ac))))) aQ)
   (ak (aB (pv 1))))),?_]
 refine#[r,_,dr,_,_,KB,er,T.Ht,T.Mn,KB,r,_,dr,_,_,KB,er,T.Ht,T.LB,KB,q,_,n, .ref p,KB,KB,cJ.of eq,ci ep,?_];refine#[p,_,dx,_,_,KB,et,T.JT,T.Ld,KB,KB,_,KB,?_];rw[cU];refine bi (λe=>?_) λe=>?_
 .have xb:=qt.mp (Hs e)
  exact#[p,_,dx,_,_,KB,et,T.JT,T.NK,KB,p,_,dx,_,_,KB,et,T.JT,T.ML,KB,(by show 3<=9;decide),_,#[_,_,_,KB,KB],hb xb]
 .have xb:x.1≠ .bad:=λz=>Hu e (qt.mpr z)
  exact(hg xb p tp)
inductive tF (a:bI) (b:HZ->HK) (vs:Gr V) (H:Hp) (Q:VK) (E:XK):Prop
 |mk (r q kd fn ds bl:GB) (n:GQ) (x:HZ×HM) (t:GA) (_:vs=[.ref r]) (_:oN a H r q kd fn ds bl n (x::t)) (_:(x.1= .bad->o0 a.Jm E H 1 x.2)) (_:(x.1≠ .bad->Q (.bl (b x.1)) H)):tF a b vs H Q E
def ng (v:Ha) (k:HZ):HK:=decide (iX k= .str v)
inductive Cy (a:bI) (vs:Gr V) (H:Hp) (Q:VK) (E:XK):Prop
 |mk (r q kd fn ds bl:GB) (n:GQ) (x:HZ×HM) (t:GA) (v:Ha) (_:vs=[.ref r, .str v]) (_:oN a H r q kd fn ds bl n (x::t)) (_:(x.1= .bad->o0 a.Jm E H 1 x.2)) (_:(x.1≠ .bad->Q (.bl (ng v x.1)) H)):Cy a vs H Q E
def past (a:bI) (H:Hp) (r q kd fn ds bl:GB) (n:GQ) (H':Hp):Prop:= ∃dr,H r=GM (.ins a.HP dr (sY q kd fn ds bl n))/\H'=bf H r (.ins a.HP dr (sY q kd fn ds bl (n+1)))
inductive Df (a:bI) (vs:Gr V) (H:Hp) (Q:VK) (E:XK):Prop
 |mk (r q kd fn ds bl:GB) (n:GQ) (x:HZ×HM) (t:GA) (_:vs=[.ref r]) (_:oN a H r q kd fn ds bl n (x::t)) (_:(x.1= .bad->o0 a.Jm E H 1 x.2)) (_:(x.1≠ .bad-> ∀H',past a H r q kd fn ds bl n H'->Q (iX x.1) H')):Df a vs H Q E
inductive uL (a:bI) (vs:Gr V) (H:Hp) (Q:VK) (E:XK):Prop
 |mk (r q kd fn ds bl:GB) (n:GQ) (x:HZ×HM) (t:GA) (v:Ha) (_:vs=[.ref r, .str v]) (_:oN a H r q kd fn ds bl n (x::t)) (_:(x.1= .bad->o0 a.Jm E H 1 x.2)) (_:(x.1≠ .bad->ng v x.1=IR->o0 a.Jm E H 2 x.2)) (_:(x.1≠ .bad->ng v x.1=IN-> ∀H',past a H r q kd fn ds bl n H'->Q .Ko H')):uL a vs H Q E
inductive zl (a:bI) (vs:Gr V) (H:Hp) (Q:VK) (E:XK):Prop
 |mk (r q kd fn ds bl:GB) (n:GQ) (x:HZ×HM) (t:GA) (v:Ha) (_:vs=[.ref r, .str v]) (_:oN a H r q kd fn ds bl n (x::t)) (_:(x.1= .bad->o0 a.Jm E H 1 x.2)) (_:(x.1≠ .bad->ng v x.1=IR->Q (.bl IR) H)) (_:(x.1≠ .bad->ng v x.1=IN-> ∀H',past a H r q kd fn ds bl n H'->Q (.bl IN) H')):zl a vs H Q E
def oN.step {a:bI}{H H':Hp}(R:oN a H r q kd fn ds bl n (x::t)) (h:past a H r q kd fn ds bl n H'):oN a H' r q kd fn ds bl (n+1) t:=by
 obtain⟨dr,e,rfl⟩:=h;obtain⟨as,all,h1,h2,h3⟩:=R.toks;refine#[#[dr,aj],as,all,?_,Paired.Nt h2 λb z k=>?_,?_]
 .have ne:q≠r:=λz=>by rw[z,e] at h1;cases h1
  rw[af ne];exact h1
 .obtain⟨dx,ez⟩:=k
  have ne:b≠r:=λz=>by
   rw[z,e] at ez;have:=Hv MR (HO.ins.inj (Hb ez)).2.2;cases this
  exact#[dx,by rw[af ne];exact ez]
 .have:=Hv (R8 1) h3
  rw[Pb] at this;exact this
def CZ:ZR (iX x) (.str v)=IN:=by cases x<;>rfl
def mD:HZ->HK
 | .num _=>IN
 |_=>IR
def BD:HZ->HK
 | .eof=>IN
 |_=>IR
def gh (T:Txt K mg a) (XC:XT K a):T.Vx.O P w mg base 5 (Cg a):=by
 have G:=jX (P:=P) (w:=w) (base:=base) T XC
 have TU:=dG (P:=P) (w:=w) (base:=base) T XC;refine kr T.Vx.F afu [03] [02];obtain⟨r,q,kd,fn,ds,bl,n,x,t,m,rfl,R,hf⟩:=h;obtain⟨dr,er⟩:=R.ins;refine#[_,(ai (b4 (i:=2) afu.nd KB (HF KB) (cV (pv 0) T.Ht T.Vw.c TU (hr.mono [01]) bN))
   (ak (uH nX XC.fc G (hr.mono [01]) (by rfl) T.QS T.Wh.c.b (aa (pv 1) (aa (az (pv 2) KB) (aa (az (pv 2) KB) ac)))))),?_]
 refine#[r,dr,_,KB,er,KB,r,q,kd,fn,ds,bl,n,x,t,KB,R,λb=>by rw[GI b] at hf;exact hf,λnb p tp=>?_];rw[GG nb] at hf;obtain⟨dx,et⟩:=tp;exact#[p,_,dx,_,_,KB,et,T.JT,T.NK,KB,p,_,dx,_,_,KB,et,T.JT,T.ML,KB,(by show 3<=9;decide),_,#[_,_,_,KB,KB],hf]
def nA (T:Txt K mg a) (XC:XT K a):T.d_s.O P w mg base 5 (Cy a):=by
 have TU:=dG (P:=P) (w:=w) (base:=base) T XC;refine kr T.d_s.F ajE [03] [02];obtain⟨r,q,kd,fn,ds,bl,n,x,t,v,rfl,R,hb,hg⟩:=h;obtain⟨dr,er⟩:=R.ins;refine#[_,(ak (aB (cH cu (az (cV (pv 0) T.Ht T.Vw.c TU (hr.mono [01]) bN) KB) (pv 1) (a0 _)))),?_];refine#[r,dr,_,KB,er,KB,r,q,kd,fn,ds,bl,n,x,t,KB,R,hb,λnb p tp=>?_]
 obtain⟨dx,et⟩:=tp;exact#[p,_,dx,_,_,KB,et,T.JT,T.Kp,KB,CZ,hg nb]
def zR (T:Txt K mg a) (XC:XT K a):T.Y1.O P w mg base 5 (tF a BD):=by
 have TU:=dG (P:=P) (w:=w) (base:=base) T XC;refine kr T.Y1.F afv [03] [02];obtain⟨r,q,kd,fn,ds,bl,n,x,t,rfl,R,hb,hg⟩:=h;obtain⟨dr,er⟩:=R.ins;refine#[_,(ak (aB (cH cu (az (cV (pv 0) T.Ht T.Vw.c TU (hr.mono [01]) bN) KB) (bA (by rfl) T.Xd) (a0 _)))),?_];refine#[r,dr,_,KB,er,KB,r,q,kd,fn,ds,bl,n,x,t,KB,R,hb,λnb p tp=>?_]
 obtain⟨dx,et⟩:=tp;refine#[p,_,dx,_,_,KB,et,T.JT,T.Ld,KB,KB,?_];have z:=hg nb;rw[cU];have e:decide (iT x.1=3)=BD x.1:=by cases x.1<;>rfl
 rw[e];exact z
def sj (T:Txt K mg a) (XC:XT K a):T.Y2.O P w mg base 5 (tF a mD):=by
 have TU:=dG (P:=P) (w:=w) (base:=base) T XC;refine kr T.Y2.F afw [03] [02];obtain⟨r,q,kd,fn,ds,bl,n,x,t,rfl,R,hb,hg⟩:=h;obtain⟨dr,er⟩:=R.ins;refine#[_,(ak (aB (cH cu (az (cV (pv 0) T.Ht T.Vw.c TU (hr.mono [01]) bN) KB) (bA (by rfl) T.PX) (a0 _)))),?_];refine#[r,dr,_,KB,er,KB,r,q,kd,fn,ds,bl,n,x,t,KB,R,hb,λnb p tp=>?_]
 obtain⟨dx,et⟩:=tp;refine#[p,_,dx,_,_,KB,et,T.JT,T.Ld,KB,KB,?_];have z:=hg nb;rw[cU];have e:decide (iT x.1=1)=mD x.1:=by cases x.1<;>rfl
 rw[e];exact z
def r0 (T:Txt K mg a) (XC:XT K a):T.d_D.O P w mg base 5 (Df a):=by
 have TU:=dG (P:=P) (w:=w) (base:=base) T XC;refine kr T.d_D.F afy [03] [02];obtain⟨r,q,kd,fn,ds,bl,n,x,t,rfl,R,hb,hg⟩:=h;obtain⟨dr,er⟩:=R.ins;refine#[_,(ai (b4 (i:=1) afy.nd KB (HF KB) (cV (pv 0) T.Ht T.Vw.c TU (hr.mono [01]) bN))
   (ai (mt (pv 0) aG wJ)
   (ak (aB (az (pv 1) KB))))),?_]
 refine#[r,dr,_,KB,er,KB,r,q,kd,fn,ds,bl,n,x,t,KB,R,hb,λnb p tp=>?_];obtain⟨dx,et⟩:=tp;have ne:p≠r:=λz=>by
  rw[z,er] at et;have:=Hv MR (HO.ins.inj (Hb et)).2.2;cases this
 refine#[r,_,dr,_,_,KB,er,T.Ht,T.LB,KB,_,_,KB,KB,dr,_,er,(by show 6<1000;decide),?_];exact#[p,_,dx,_,_,KB,(by rw[af ne];exact et),T.JT,T.Kp,KB,hg nb _ #[dr,er,KB]]
def aaz:Gr V:=[.str "const", .str "fun", .str "desk", .str "let", .str "for", .str "in", .str "if", .str "then", .str "else", .str "sell", .str "buy", .str "zone", .str "quarter", .str "price", .str "to", .str "amount", .str "block", .str "under", .str "group", .str "sum"]
def di:HZ->HK
 | .word u=>!uF (.str (sb u)) aaz
 |_=>IR
inductive Bp (a:bI) (vs:Gr V) (H:Hp) (Q:VK) (E:XK):Prop
 |mk (r q kd fn ds bl:GB) (n:GQ) (x:HZ×HM) (t:GA) (_:vs=[.ref r]) (_:oN a H r q kd fn ds bl n (x::t)) (_:(x.1= .bad->o0 a.Jm E H 1 x.2)) (_:(x.1≠ .bad->di x.1=IR->o0 a.Jm E H 2 x.2)) (_:(x.1≠ .bad->di x.1=IN->Q .Ko H)):Bp a vs H Q E
inductive xT (a:bI) (vs:Gr V) (H:Hp) (Q:VK) (E:XK):Prop
 |mk (r q kd fn ds bl:GB) (n:GQ) (x y:HZ×HM) (t:GA) (_:vs=[.ref r]) (_:oN a H r q kd fn ds bl n (x::y::t)) (_:Q (.bl (mD y.1)) H):xT a vs H Q E
def AV (T:Txt K mg a) (XC:XT K a):T.Y4.O P w mg base 6 (uL a):=by
 have G_s:=nA (P:=P) (w:=w) (base:=base) T XC
 have UI:=gh (P:=P) (w:=w) (base:=base) T XC;refine kr T.Y4.F afz [03] [02];obtain⟨r,q,kd,fn,ds,bl,n,x,t,v,rfl,R,hb,hf,hg⟩:=h;obtain⟨dr,er⟩:=R.ins;refine#[_,(ai (bz (lT (bS (eW (pv 0) T.Ht T.d_s.c G_s (hr.mono [01]) bN (aa (pv 1) ac)))) (ak (a6 (eW (pv 0) T.Ht T.Vx.c UI (hr.mono [01]) bN (aa (bA (by rfl) T.Pn) ac)))) aQ)
   (ak (mt (pv 0) aG wJ))),?_]
 refine#[r,dr,_,KB,er,KB,r,q,kd,fn,ds,bl,n,x,t,v,KB,R,hb,λnb=>#[_,KB,?_]];cases e:ng v x.1 with
 |false=>
  refine dR ?_;exact#[r,dr,_,KB,er,KB,r,q,kd,fn,ds,bl,n,x,t,2,KB,R,by rw[GG nb];exact hf nb e]
 |true=>
  refine cW ?_;exact#[r,_,dr,_,_,KB,er,T.Ht,T.LB,KB,_,_,KB,KB,dr,_,er,(by show 6<1000;decide),hg nb e _ #[dr,er,KB]]
def ox (T:Txt K mg a) (XC:XT K a):T.Wj.O P w mg base 5 (tF a di):=by
 have TU:=dG (P:=P) (w:=w) (base:=base) T XC;refine kr T.Wj.F XB [03] [02];obtain⟨r,q,kd,fn,ds,bl,n,x,t,rfl,R,hb,hg⟩:=h;obtain⟨dr,er⟩:=R.ins;refine#[_,(ai (b4 (i:=1) XB.nd KB (HF KB) (cV (pv 0) T.Ht T.Vw.c TU (hr.mono [01]) bN))
   (ak (aB (wR (cH cu (az (pv 1) KB) (bA (by rfl) T.TJ) (a0 _)) (oV (cH iK (az (pv 1) KB) (dn (by rfl) T.Sh) KB)))))),?_]
 refine#[r,dr,_,KB,er,KB,r,q,kd,fn,ds,bl,n,x,t,KB,R,hb,λnb p tp=>?_];obtain⟨dx,et⟩:=tp;have z:=hg nb;refine#[p,_,dx,_,_,KB,et,T.JT,T.Ld,KB,KB,_,KB,?_];rw[cU];cases e:x.1 with
 |word u=>
  rw[e] at z et;refine dR ?_;refine#[p,_,dx,_,_,KB,et,T.JT,T.Kp,KB,_,_,KB, .inr T.Sj.sq,KB,KB,z]
 |num m=>rw[e] at z;exact cW z
 |sign u=>rw[e] at z;exact cW z
 |eof=>rw[e] at z;exact cW z
 |bad=>exact G6 e nb
def iL (T:Txt K mg a) (XC:XT K a):T.d_M.O P w mg base 6 (Bp a):=by
 have aj5:=ox (P:=P) (w:=w) (base:=base) T XC
 have UI:=gh (P:=P) (w:=w) (base:=base) T XC;refine kr T.d_M.F ajF [03] [02];obtain⟨r,q,kd,fn,ds,bl,n,x,t,rfl,R,hb,hf,hg⟩:=h;obtain⟨dr,er⟩:=R.ins;refine#[_,(ak (bz (lT (bS (cV (pv 0) T.Ht T.Wj.c aj5 (hr.mono [01]) bN))) (ak (a6 (eW (pv 0) T.Ht T.Vx.c UI (hr.mono [01]) bN (aa (bA (by rfl) T.Pn) ac)))) aQ)),?_];refine#[r,dr,_,KB,er,KB,r,q,kd,fn,ds,bl,n,x,t,KB,R,hb,λnb=>#[_,KB,?_]]
 cases e:di x.1 with
 |false=>
  refine dR ?_;exact#[r,dr,_,KB,er,KB,r,q,kd,fn,ds,bl,n,x,t,2,KB,R,by rw[GG nb];exact hf nb e]
 |true=>exact cW (hg nb e)
def lh (T:Txt K mg a):T.Y3.U P w mg base 1 (xT a):=by
 refine T.Y3.F.ok afx [03] [02];obtain⟨r,q,kd,fn,ds,bl,n,x,y,t,rfl,R,z⟩:=h;obtain⟨dr,er⟩:=R.ins;obtain⟨as,all,h1,h2,h3⟩:=R.toks;have h4:all[n+1]?=GM y:=by
  have:=Hv (λz:GA=>z[1]?) h3
  simpa [Nm] using this
 obtain⟨p,e,dx,et⟩:=ia h2 h4;have ep:(as.map V.ref)[n+1]?=GM (.ref p):=by rw[HI,e];rfl
 refine#[_,(ak (aB (cH cu (az (eS cX [07] (aZ eu [07] aG) (λ_ _=>rfl)) KB) (bA (by rfl) T.PX) (a0 _)))),?_];refine#[r,_,dr,_,_,KB,er,T.Ht,T.Mn,KB,r,_,dr,_,_,KB,er,T.Ht,T.LB,KB,_,_,KB,KB,q,_,((n+1:GQ):Int), .ref p,KB,KB,cJ.of h1,ci ep,p,_,dx,_,_,KB,et,T.JT,T.Ld,KB,KB,?_];rw[cU];have e:decide (iT y.1=1)=mD y.1:=by cases y.1<;>rfl
 rw[e];exact z
abbrev nk (u:Gz):cf:=Jw (sb u)
def has (IB:Gr (cf×V)) (u:Gz):HK:=(cT IB (nk u)).isSome
inductive ED (a:bI) (vs:Gr V) (H:Hp) (Q:VK) (E:XK):Prop
 |mk (r q kd fn ds bl:GB) (n:GQ) (x:HZ×HM) (t:GA) (kk ff:Gr (cf×V)) (_:vs=[.ref r]) (_:oN a H r q kd fn ds bl n (x::t)) (_:H kd=GM (.dK kk)) (_:H fn=GM (.dK ff)) (_:(x.1= .bad->o0 a.Jm E H 1 x.2)) (_:(x.1≠ .bad->di x.1=IR->o0 a.Jm E H 2 x.2)) (_:(∀u,x.1= .word u->di x.1=IN->(has kk u||has ff u)=IN->o0 a.Jm E H 4 x.2)) (_:(∀u,x.1= .word u->di x.1=IN->(has kk u||has ff u)=IR-> ∀H',past a H r q kd fn ds bl n H'->Q (.str (sb u)) H')):ED a vs H Q E
inductive yy (a:bI) (vs:Gr V) (H:Hp) (Q:VK) (E:XK):Prop
 |mk (r q kd fn ds bl g:GB) (n:GQ) (x:HZ×HM) (t:GA) (gg:Gr (cf×V)) (_:vs=[.ref r, .ref g]) (_:oN a H r q kd fn ds bl n (x::t)) (_:H g=GM (.dK gg)) (_:(x.1= .bad->o0 a.Jm E H 1 x.2)) (_:(x.1≠ .bad->di x.1=IR->o0 a.Jm E H 2 x.2)) (_:(∀u,x.1= .word u->di x.1=IN->has gg u=IN->o0 a.Jm E H 4 x.2)) (_:(∀u,x.1= .word u->di x.1=IN->has gg u=IR-> ∀H',past a H r q kd fn ds bl n H'->Q (.str (sb u)) H')):yy a vs H Q E
inductive yc (a:bI) (vs:Gr V) (H:Hp) (Q:VK) (_E:XK):Prop
 |mk (r dr q kd fn ds bl:GB) (n:GQ) (u:Gz) (kk:Gr (cf×V)) (_:vs=[.ref r, .str (sb u)]) (_:H r=GM (.ins a.HP dr (sY q kd fn ds bl n))) (_:H kd=GM (.dK kk)) (_:kk.length<GZ) (_:Q .Ko (bf H kd (.dK (fX kk (nk u) (.bl IN))))):yc a vs H Q _E
inductive uh (a:bI) (vs:Gr V) (H:Hp) (Q:VK) (_E:XK):Prop
 |mk (r dr q kd fn ds bl:GB) (n:GQ) (u:Gz) (kk:Gr (cf×V)) (_:vs=[.ref r, .str (sb u)]) (_:H r=GM (.ins a.HP dr (sY q kd fn ds bl n))) (_:H kd=GM (.dK kk)) (_:has kk u=IN) (_:Q .Ko (bf H kd (.dK (f7 kk (nk u))))):uh a vs H Q _E
def C7 (T:Txt K mg a):T.Y8.U P w mg base 1 (yc a):=by
 refine T.Y8.F.ok afC [03] [02];obtain⟨r,dr,q,kd,fn,ds,bl,n,u,kk,rfl,er,ek,lk,hq⟩:=h;refine#[_,(ak (nI (gP hr) [07] (pv 1) tV KB)),?_];exact#[r,_,dr,_,_,KB,er,T.Ht,T.K8,KB,kd,_,KB,Dz.k (k:=nk u) ek lk,hq]
def qv (T:Txt K mg a):T.Wk.U P w mg base 1 (uh a):=by
 refine T.Wk.F.ok afD [03] [02];obtain⟨r,dr,q,kd,fn,ds,bl,n,u,kk,rfl,er,ek,hk,hq⟩:=h;obtain⟨v,ev⟩:=LK.mp hk;refine#[_,(ak (a6 (DU [07] (pv 1) #[KB,KB,KB,KB]))),?_];exact#[r,_,dr,_,_,KB,er,T.Ht,T.K8,KB,kd,KB, .inl #[kk, .inl ek],kk,nk u,v,ek,KB,ev,hq]
def kz (T:Txt K mg a) (XC:XT K a):T.Y6.O P w mg base 7 (ED a):=by
 have G_M:=iL (P:=P) (w:=w) (base:=base) T XC
 have TU:=dG (P:=P) (w:=w) (base:=base) T XC
 have UI:=gh (P:=P) (w:=w) (base:=base) T XC
 have G_D:=r0 (P:=P) (w:=w) (base:=base) T XC;refine kr T.Y6.F XD [03] [02];obtain⟨r,q,kd,fn,ds,bl,n,⟨x,xp⟩,t,kk,ff,rfl,R,ek,ef,hb,hn,h4,hg⟩:=h;obtain⟨dr,er⟩:=R.ins;refine#[_,(ai (a6 (cV (pv 0) T.Ht T.d_M.c G_M (hr.mono [01]) bN))
   (ai (b4 (i:=1) XD.nd KB (HF KB) (az (cV (pv 0) T.Ht T.Vw.c TU (hr.mono [01]) bN) KB))
   (ai (bz (qS (fE (sM (gP hr) (pv 1) [07])) (pH (fE (sM (gP hr) (pv 1) [07])))).pt (ak (a6 (eW (pv 0) T.Ht T.Vx.c UI (hr.mono [01]) bN (aa (bA (by rfl) T.Po) ac)))) aQ)
   (ak (aB (cV (pv 0) T.Ht T.d_D.c G_D (hr.mono [01]) bN)))))),?_]
 refine#[r,dr,_,KB,er,KB,r,q,kd,fn,ds,bl,n,(x,xp),t,KB,R,hb,hn,λnb e=>?_];cases x with
 |word u=>
  refine#[r,dr,_,KB,er,KB,r,q,kd,fn,ds,bl,n,(.word u,xp),t,KB,R,hb,λ_ p ⟨dx,et⟩=>#[p,_,dx,_,_,KB,et,T.JT,T.Kp,KB,?_]];have agi:(has kk u||has ff u)=IN->o0 a.Jm E H 4 xp:=h4 u KB e
  have good:(has kk u||has ff u)=IR-> ∀H',past a H r q kd fn ds bl n H'->Q (.str (sb u)) H':=hg u KB e
  refine#[r,_,dr,_,_,KB,er,T.Ht,T.K8,KB,kd,_,KB,kG.k (k:=nk u) ek,_,KB,bi (λe1=>?_) λe1=>?_]
  .refine dR ?_
   refine#[r,dr,_,KB,er,KB,r,q,kd,fn,ds,bl,n,(.word u,xp),t,4,KB,R,?_];rw[GG nb];exact agi (by unfold has;rw[e1];rfl)
  .refine#[r,_,dr,_,_,KB,er,T.Ht,T.JV,KB,fn,_,KB,kG.k (k:=nk u) ef,_,KB,bi (λe2=>?_) λe2=>?_]
   .refine#[r,dr,_,KB,er,KB,r,q,kd,fn,ds,bl,n,(.word u,xp),t,4,KB,R,?_]
    rw[GG nb];exact agi (by unfold has;rw[e1,e2];rfl)
   .exact#[r,dr,_,KB,er,KB,r,q,kd,fn,ds,bl,n,(.word u,xp),t,KB,R,hb,λ_=>good (by unfold has;rw[e1,e2];rfl)]
 |num m=>cases e
 |sign u=>cases e
 |eof=>cases e
 |bad=>exact G6 KB nb
def wd:gB X (.type "dict") (λxs H Q=> ∃a IB,xs=[.ref a]/\vT X.prog X.w X.K a IB/\ ∀p,H p=Ix->Q (.ref p) (bf H p (.dK IB))):=by
 intro pins s σ H xs us Q I rv h;obtain⟨a,IB,rfl,kd,q⟩:=h;obtain⟨u,rfl,ru⟩:=rv.one;obtain rfl:u=Hn a:=ru;obtain⟨vs,dd,rel⟩:=kd.at_;refine kt_call_dict kd.no (dd _ I.NY) (by rw[<-rel.length];exact kd.len) λh' V2 hs=>?_;refine#[.ref s.heap.objs.size,_,I.laid (a:=s.heap.objs.size) (o:= .dK IB) (t':=s.toks) (λb q hq=>?_) (GY _) (xm kd.len (beq_eq_false_iff_ne.mpr (K3 (Ik I.big))) rel V2),KB,q _ (I.JC.fresh (GY _))];exact(hs.2 b (Ik (Hk hq))).trans (GV _ hq)
structure aaA (a:bI) (H H':Hp) (r dr q kd fn ds bl:GB):Prop where
 ins:H' r=GM (.ins a.HP dr (sY q kd fn ds bl 0))
 kd0:H kd=Ix
 fn0:H fn=Ix
 ds0:H ds=Ix
 bl0:H bl=Ix
 kd1:H' kd=GM (.dK [])
 fn1:H' fn=GM (.dK cv)
 ds1:H' ds=GM (.dK [])
 bl1:H' bl=GM (.dK [])
 Qc:kd≠fn/\kd≠ds/\kd≠bl/\fn≠ds/\fn≠bl/\ds≠bl
 kept: ∀b o,H b=GM o->b≠r->H' b=GM o
inductive tK (a:bI) (vs:Gr V) (H:Hp) (Q:VK) (_E:XK):Prop
 |mk (r dr q:GB) (_:vs=[.ref r, .ref q]) (_:H r=GM (.ins a.HP dr [])) (_: ∀(H':Hp) (kd fn ds bl:GB),aaA a H H' r dr q kd fn ds bl->Q .Ko H'):tK a vs H Q _E
def bY {H:Hp}{a p:GB}(h:bf H a o p=Ix):p≠a/\H p=Ix:=by
 by_cases e:p=a
 .rw[e,aj] at h;cases h
 .rw[af e] at h;exact#[e,h]
def ph (T:Txt K mg a) (kF:vT P w K a.HQ cv):T.Y0.U P w mg base 1 (tK a):=by
 refine T.Y0.F.ok afs [03] [02];obtain⟨r,dr,q,rfl,er,hq⟩:=h;refine#[_,(ai (fV (pv 0) (pv 1) KB)
   (ai (fV (pv 0) aG KB)
   (ai (fV (pv 0) lj KB)
   (ai (fV (pv 0) (io wd (by rfl) T.Zu boot_dict (aa (dn (by rfl) T.L9) ac)) KB)
   (ai (fV (pv 0) lj KB)
   (ak (fV (pv 0) lj KB))))))),?_]
 refine#[r,_,dr,_,KB,er,T.Ht,T.Mn,(by show 0<1000;decide),?_];refine#[r,_,dr,_,KB,aj,T.Ht,T.LB,(by show 1<1000;decide),?_];intro kd hkd;obtain⟨n1,hkd⟩:=bY hkd;obtain⟨_,hkd⟩:=bY hkd;refine#[r,_,dr,_,KB,(by rw[af n1.symm,aj]),T.Ht,T.K8,(by show 2<1000;decide),?_];refine#[a.HQ,cv,KB,kF,λfn Ue=>?_];obtain⟨n2,Ue⟩:=bY Ue;obtain⟨n2k,Ue⟩:=bY Ue;obtain⟨_,Ue⟩:=bY Ue;obtain⟨_,Ue⟩:=bY Ue;refine#[r,_,dr,_,KB,(by rw[af n2.symm,aj]),T.Ht,T.JV,(by show 3<1000;decide),?_];intro ds Uk;obtain⟨n3,Uk⟩:=bY Uk;obtain⟨n3f,Uk⟩:=bY Uk;obtain⟨_,Uk⟩:=bY Uk;obtain⟨n3k,Uk⟩:=bY Uk;obtain⟨_,Uk⟩:=bY Uk;obtain⟨_,Uk⟩:=bY Uk;refine#[r,_,dr,_,KB,(by rw[af n3.symm,aj]),T.Ht,T.MM,(by show 4<1000;decide),?_];intro bl R0;obtain⟨n4,R0⟩:=bY R0;obtain⟨n4d,R0⟩:=bY R0;obtain⟨_,R0⟩:=bY R0;obtain⟨n4f,R0⟩:=bY R0;obtain⟨_,R0⟩:=bY R0;obtain⟨n4k,R0⟩:=bY R0;obtain⟨_,R0⟩:=bY R0;obtain⟨_,R0⟩:=bY R0;refine#[r,_,dr,_,KB,(by rw[af n4.symm,aj]),T.Ht,T.KL,(by show 5<1000;decide),?_];refine hq _ kd fn ds bl #[aj,hkd,Ue,Uk,R0,?_,?_,?_,?_,#[n2k.symm,n3k.symm,n4k.symm,n3f.symm,n4f.symm,n4d.symm],λb o e nb=>?_]
 .rw[af n1,af n4k.symm,af n1,af n3k.symm,af n1,af n2k.symm,af n1,aj]
 .rw[af n2,af n4f.symm,af n2,af n3f.symm,af n2,aj]
 .rw[af n3,af n4d.symm,af n3,aj]
 .rw[af n4,aj]
 .rw[af nb,af (aw e R0),af nb,af (aw e Uk),af nb,af (aw e Ue),af nb,af (aw e hkd),af nb,af nb]
  exact e
def d9 {A:Type}{p:A->Prop} : ∀g∈([]:Gr A),p g:=λ_ z=>nomatch z
def aR {A:Type}{p:A->Prop}{f:A}{fs:Gr A}(h:p f) (r: ∀g∈fs,p g): ∀g∈f::fs,p g:=IA.mpr #[h,r]
inductive NB (X:Cx) (c:Ha) (C:GB) (fs:Gr Ha):Prop
 |mk {f:GB}{fd:Ia}(M:Mk X.K C f) (F:b6 X.prog X.w X.K X.mg X.base nJ 1 f fd ("self"::fs) (mi C fs)) (b:ib X.K fd ("self"::fs) []) (hm:X.mg c=GM (.ref C)):NB X c C fs
def gY (T:Txt X.K X.mg a):NB X "Number" a.L0 ["worth"]:=#[T.Uz,dZ T.adY.F aeY T.NV (aR T.LN d9) (.cons .nil),T.adY.c.b,T.OZ]
def Fm (T:Txt X.K X.mg a):NB X "Name" a.OF ["name"]:=#[T.WC,dZ T.adZ.F aeZ T.RF (aR T.PU d9) (.cons .nil),T.adZ.c.b,T.Ua]
def yW (T:Txt X.K X.mg a):NB X "Call" a.Od ["name","arguments"]:=#[T.WD,dZ T.ad0.F ae0 T.Ny (aR T.L1 (aR T.L3 d9)) (.cons (.cons .nil)),T.ad0.c.b,T.RC]
def oS (T:Txt X.K X.mg a):NB X "Unary" a.Ll ["sign","operand"]:=#[T.Vz,dZ T.ad1.F ae1 T.Lw (aR T.Lb (aR T.KJ d9)) (.cons (.cons .nil)),T.ad1.c.b,T.OH]
def oR (T:Txt X.K X.mg a):NB X "Chain" a.Ky ["strength","operands","signs"]:=#[T.VA,dZ T.ad2.F ae2 T.K7 (aR T.Ke (aR T.L4 (aR T.L5 d9))) (.cons (.cons (.cons .nil))),T.ad2.c.b,T.PQ]
def qJ (T:Txt X.K X.mg a):NB X "Choice" a.LJ ["condition","chosen","otherwise"]:=#[T.UA,dZ T.ad3.F ae3 T.Lc (aR T.LF (aR T.Lz (aR T.KI d9))) (.cons (.cons (.cons .nil))),T.ad3.c.b,T.O0]
def Dn (T:Txt X.K X.mg a):NB X "Sum" a.OG ["name","first","last","body"]:=#[T.Zp,dZ T.ad4.F ae4 T.OI (aR T.OJ (aR T.Of (aR T.OK (aR T.OL d9)))) (.cons (.cons (.cons (.cons .nil)))),T.ad4.c.b,T.Vt]
def DN (T:Txt X.K X.mg a):NB X "Let" a.Mt ["name","exp"]:=#[T.Zq,dZ T.ad5.F ae5 T.Pj (aR T.Nz (aR T.Pk d9)) (.cons (.cons .nil)),T.ad5.c.b,T.RD]
def Cj (T:Txt X.K X.mg a):NB X "For" a.NU ["name","first","last","statements"]:=#[T.Zr,dZ T.ad6.F ae6 T.OM (aR T.ON (aR T.Og (aR T.OO (aR T.L6 d9)))) (.cons (.cons (.cons (.cons .nil)))),T.ad6.c.b,T.Tv]
def XM (T:Txt X.K X.mg a):NB X "If" a.QB ["condition","statements","else_statements"]:=#[T.aee,dZ T.ad7.F ae7 T.PV (aR T.MH (aR T.Mj (aR T.Kq d9))) (.cons (.cons (.cons .nil))),T.ad7.c.b,T.Vu]
def yV (T:Txt X.K X.mg a):NB X "Step" a.LQ ["side","zone","quarter","price","to_price","amount"]:=#[T.WE,dZ T.ad8.F ae8 T.Lm (aR T.Oh (aR T.Oi (aR T.MI (aR T.NG (aR T.Ml (aR T.M4 d9)))))) (.cons (.cons (.cons (.cons (.cons (.cons .nil)))))),T.ad8.c.b,T.RE]
def oG (T:Txt X.K X.mg a):NB X "Amounts" a.LS ["name","exp"]:=#[T.TC,dZ T.ad9.F ae9 T.M5 (aR T.MJ (aR T.M6 d9)) (.cons (.cons .nil)),T.ad9.c.b,T.Tw]
def ut (T:Txt X.K X.mg a):NB X "Block" a.KH ["name","side","zone","price","amounts","under","group"]:=#[T.VB,dZ T.aea.F afa T.J3 (aR T.Mr (aR T.NH (aR T.NI (aR T.M7 (aR T.Mm (aR T.L7 (aR T.M8 d9))))))) (.cons (.cons (.cons (.cons (.cons (.cons (.cons .nil))))))),T.aea.c.b,T.Vv]
def tZ (T:Txt X.K X.mg a):NB X "Const" a.MV ["name","exp"]:=#[T.VC,dZ T.aeb.F afb T.NW (aR T.NJ (aR T.Oj d9)) (.cons (.cons .nil)),T.aeb.c.b,T.QR]
def BZ (T:Txt X.K X.mg a):NB X "Fun" a.Pd ["name","parameters","exp"]:=#[T.Zs,dZ T.aec.F afc T.OP (aR T.OQ (aR T.L8 (aR T.Pl d9))) (.cons (.cons (.cons .nil))),T.aec.c.b,T.Tx]
def yg (T:Txt X.K X.mg a):NB X "Desk" a.Oe ["name","statements"]:=#[T.WG,dZ T.aed.F afd T.O1 (aR T.Ol (aR T.LR d9)) (.cons (.cons .nil)),T.aed.c.b,T.Wg]
inductive bP (M:GB->Prop) (H:Hp) (C:GB) (fs:Gr (Ha×V)) (v:V):Prop
 |mk (p dx:GB) (_:v= .ref p) (_: ¬M p) (_:H p=GM (.ins C dx fs)):bP M H C fs v
inductive bM (M:GB->Prop) (H:Hp) (xs:Gr V) (v:V):Prop
 |mk (p:GB) (_:v= .ref p) (_: ¬M p) (_:H p=GM (.lst xs)):bM M H xs v
def dj (M:GB->Prop) (H H':Hp):Prop:= ∀b o,H b=GM o-> ¬M b->H' b=GM o
def d7 (M M':GB->Prop) (H H':Hp):Prop:= ∀b o,H b=GM o-> ¬M b-> ¬M' b/\H' b=GM o
def dj.two {M:GB->Prop}{H H':Hp}(k:dj M H H'):d7 M M H H':=λb o e m=>#[m,k b o e m]
def Nd (o:HO):Prop:=(∃xs,o= .lst xs)\/ ∃C d fs,o= .ins C d fs/\fs.length≠5
def mv (M M':GB->Prop) (H H':Hp):Prop:= ∀b o,H b=GM o-> ¬M b->Nd o-> ¬M' b/\H' b=GM o
def d7.three {M M':GB->Prop}{H H':Hp}(k:d7 M M' H H'):mv M M' H H':=λb o e m _=>k b o e m
def bP.Ji {M M':GB->Prop}{H H':Hp}(k:mv M M' H H') (h:bP M H C fs v) (hl:fs.length≠5:=by intro z;cases z):bP M' H' C fs v:=by
 obtain⟨p,dx,e,m,z⟩:=h;have:=k _ _ z m (.inr #[_,_,_,KB,hl]);exact#[p,dx,e,this.1,this.2]
def bM.Ji {M M':GB->Prop}{H H':Hp}(k:mv M M' H H') (h:bM M H xs v):bM M' H' xs v:=by
 obtain⟨p,e,m,z⟩:=h;have:=k _ _ z m (.inl #[_,KB]);exact#[p,e,this.1,this.2]
def bP.keep {M M':GB->Prop}{H H':Hp}(k:d7 M M' H H') (h:bP M H C fs v):bP M' H' C fs v:=by
 obtain⟨p,dx,e,m,z⟩:=h;exact#[p,dx,e,(k _ _ z m).1,(k _ _ z m).2]
def bM.keep {M M':GB->Prop}{H H':Hp}(k:d7 M M' H H') (h:bM M H xs v):bM M' H' xs v:=by
 obtain⟨p,e,m,z⟩:=h;exact#[p,e,(k _ _ z m).1,(k _ _ z m).2]
mutual
def ag (a:bI) (M:GB->Prop) (H:Hp):GD->V->Prop
 | .num n,v=>bP M H a.L0 [("worth", .int (n:GQ))] v
 | .name x,v=>bP M H a.OF [("name", .str (sb x))] v
 | .call f l,v=> ∃q us,bP M H a.Od [("name", .str (sb f)),("arguments",q)] v/\bM M H us q/\bj a M H l us
 | .neg e,v=> ∃u,bP M H a.Ll [("sign", .str "-"),("operand",u)] v/\ag a M H e u
 | .not e,v=> ∃u,bP M H a.Ll [("sign", .str "!"),("operand",u)] v/\ag a M H e u
 | .sums e r,v=> ∃q g u us ss,bP M H a.Ky [("strength", .int 3),("operands",q),("signs",g)] v/\bM M H (u::us) q/\bM M H ss g/\ag a M H e u/\cR a M H r us ss
 | .prods e r,v=> ∃q g u us ss,bP M H a.Ky [("strength", .int 4),("operands",q),("signs",g)] v/\bM M H (u::us) q/\bM M H ss g/\ag a M H e u/\cR a M H r us ss
 | .cmp op x y,v=> ∃q g u1 u2,bP M H a.Ky [("strength", .int 2),("operands",q),("signs",g)] v/\bM M H [u1,u2] q/\bM M H [.str (dI op)] g/\ag a M H x u1/\ag a M H y u2
 | .both e l,v=> ∃q g u us,bP M H a.Ky [("strength", .int 1),("operands",q),("signs",g)] v/\bM M H (u::us) q/\bM M H (us.map λ_=> .str "&&") g/\ag a M H e u/\bj a M H l us
 | .either e l,v=> ∃q g u us,bP M H a.Ky [("strength", .int 0),("operands",q),("signs",g)] v/\bM M H (u::us) q/\bM M H (us.map λ_=> .str "||") g/\ag a M H e u/\bj a M H l us
 | .pick c x y,v=> ∃u1 u2 u3,bP M H a.LJ [("condition",u1),("chosen",u2),("otherwise",u3)] v/\ag a M H c u1/\ag a M H x u2/\ag a M H y u3
 | .sum x lo hi e,v=> ∃u1 u2 u3,bP M H a.OG [("name", .str (sb x)),("first",u1),("last",u2),("body",u3)] v/\ag a M H lo u1/\ag a M H hi u2/\ag a M H e u3
def bj (a:bI) (M:GB->Prop) (H:Hp):Je->Gr V->Prop
 | .nil,us=>us=[]
 | .cons e l,us=> ∃u vs,us=u::vs/\ag a M H e u/\bj a M H l vs
def cR (a:bI) (M:GB->Prop) (H:Hp):ND->Gr V->Gr V->Prop
 | .nil,us,ss=>us=[]/\ss=[]
 | .cons op e r,us,ss=> ∃u vs ts,us=u::vs/\ss= .str (dI op)::ts/\ag a M H e u/\cR a M H r vs ts
end
section
variable {M M':GB->Prop}{H H':Hp}
mutual
theorem ag.Ji (k:mv M M' H H'): ∀(e:GD) {v:V},ag a M H e v->ag a M' H' e v
 | .num n,v,h=>by unfold ag at h ⊢; exact h.Ji k
 | .name x,v,h=>by unfold ag at h ⊢; exact h.Ji k
 | .call f l,v,h=>by
  unfold ag at h ⊢;obtain⟨q,us,h1,h2,h3⟩:=h;exact#[q,us,h1.Ji k,h2.Ji k,bj.Ji k l h3]
 | .neg e,v,h=>by
  unfold ag at h ⊢;obtain⟨u,h1,h2⟩:=h;exact#[u,h1.Ji k,ag.Ji k e h2]
 | .not e,v,h=>by
  unfold ag at h ⊢;obtain⟨u,h1,h2⟩:=h;exact#[u,h1.Ji k,ag.Ji k e h2]
 | .sums e r,v,h=>by
  unfold ag at h ⊢;obtain⟨q,g,u,us,ss,h1,h2,h3,h4,h5⟩:=h;exact#[q,g,u,us,ss,h1.Ji k,h2.Ji k,h3.Ji k,ag.Ji k e h4,cR.Ji k r h5]
 | .prods e r,v,h=>by
  unfold ag at h ⊢;obtain⟨q,g,u,us,ss,h1,h2,h3,h4,h5⟩:=h;exact#[q,g,u,us,ss,h1.Ji k,h2.Ji k,h3.Ji k,ag.Ji k e h4,cR.Ji k r h5]
 | .cmp op x y,v,h=>by
  unfold ag at h ⊢;obtain⟨q,g,u1,u2,h1,h2,h3,h4,h5⟩:=h;exact#[q,g,u1,u2,h1.Ji k,h2.Ji k,h3.Ji k,ag.Ji k x h4,ag.Ji k y h5]
 | .both e l,v,h=>by
  unfold ag at h ⊢;obtain⟨q,g,u,us,h1,h2,h3,h4,h5⟩:=h;exact#[q,g,u,us,h1.Ji k,h2.Ji k,h3.Ji k,ag.Ji k e h4,bj.Ji k l h5]
 | .either e l,v,h=>by
  unfold ag at h ⊢;obtain⟨q,g,u,us,h1,h2,h3,h4,h5⟩:=h;exact#[q,g,u,us,h1.Ji k,h2.Ji k,h3.Ji k,ag.Ji k e h4,bj.Ji k l h5]
 | .pick c x y,v,h=>by
  unfold ag at h ⊢;obtain⟨u1,u2,u3,h1,h2,h3,h4⟩:=h;exact#[u1,u2,u3,h1.Ji k,ag.Ji k c h2,ag.Ji k x h3,ag.Ji k y h4]
 | .sum x lo hi e,v,h=>by
  unfold ag at h ⊢;obtain⟨u1,u2,u3,h1,h2,h3,h4⟩:=h;exact#[u1,u2,u3,h1.Ji k,ag.Ji k lo h2,ag.Ji k hi h3,ag.Ji k e h4]
theorem bj.Ji (k:mv M M' H H'): ∀(l:Je) {us:Gr V},bj a M H l us->bj a M' H' l us
 | .nil,us,h=>by unfold bj at h ⊢; exact h
 | .cons e l,us,h=>by
  unfold bj at h ⊢;obtain⟨u,vs,h1,h2,h3⟩:=h;exact#[u,vs,h1,ag.Ji k e h2,bj.Ji k l h3]
theorem cR.Ji (k:mv M M' H H'): ∀(r:ND) {us ss:Gr V},cR a M H r us ss->cR a M' H' r us ss
 | .nil,us,ss,h=>by unfold cR at h ⊢; exact h
 | .cons op e r,us,ss,h=>by
  unfold cR at h ⊢;obtain⟨u,vs,ts,h1,h2,h3,h4⟩:=h;exact#[u,vs,ts,h1,h2,ag.Ji k e h3,cR.Ji k r h4]
end
def ag.Ie (k:d7 M M' H H') (e:GD) (h:ag a M H e v):ag a M' H' e v:=ag.Ji k.three e h
def bj.Ie (k:d7 M M' H H') (l:Je) (h:bj a M H l us):bj a M' H' l us:=bj.Ji k.three l h
def ag.keep (k:dj M H H') (e:GD) (h:ag a M H e v):ag a M H' e v:=ag.Ie k.two e h
def bj.keep (k:dj M H H') (l:Je) (h:bj a M H l us):bj a M H' l us:=bj.Ie k.two l h
end
inductive tU (a:bI) (vs:Gr V) (H:Hp) (Q:VK) (E:XK):Prop
 |mk (r q kd fn ds bl:GB) (n:GQ) (x:HZ×HM) (t:GA) (d:GQ) (_:vs=[.ref r, .int d]) (_:oN a H r q kd fn ds bl n (x::t)) (_:(d=12->o0 a.Jm E H (if x.1= .bad then 1 else 6) x.2)) (_:(d≠12->Q (.int ((d+1:GQ):Int)) H)):tU a vs H Q E
inductive uM (a:bI) (vs:Gr V) (H:Hp) (Q:VK) (E:XK):Prop
 |mk (r q kd fn ds bl:GB) (n:GQ) (x:HZ×HM) (t:GA) (v:Ha) (_:vs=[.ref r, .str v]) (_:oN a H r q kd fn ds bl n (x::t)) (_:(x.1= .bad->o0 a.Jm E H 1 x.2)) (_:(x.1≠ .bad->ng v x.1=IN->o0 a.Jm E H 5 x.2)) (_:(x.1≠ .bad->ng v x.1=IR->Q .Ko H)):uM a vs H Q E
def aj6 (T:Txt K mg a) (XC:XT K a):T.d_g.O P w base 6 (tU a):=by
 have UI:=gh (P:=P) (w:=w) (base:=base) T XC;refine kr T.d_g.F ajG [03] [02];obtain⟨r,q,kd,fn,ds,bl,n,x,t,d,rfl,R,hf,hg⟩:=h;obtain⟨dr,er⟩:=R.ins;refine#[_,(ai (bz (bg cu (pv 1) (bA (by rfl) T.Rh) (a0 _)) (ak (a6 (eW (pv 0) T.Ht T.Vx.c UI (hr.mono [01]) bN (aa (bA (by rfl) T.QU) ac)))) aQ)
   (ak (aB (aZ eu (pv 1) aG)))),?_]
 refine#[KB,_,KB,?_];rw[cU];refine bi (λe=>?_) λe=>?_
 .have:=Hs e
  exact#[r,dr,_,KB,er,KB,r,q,kd,fn,ds,bl,n,x,t,6,KB,R,hf (by lia)]
 .have:=Hu e
  exact#[_,_,KB,KB,hg (by lia)]
def agj (T:Txt K mg a) (XC:XT K a):T.Y9.O P w base 6 (uM a):=by
 have G_s:=nA (P:=P) (w:=w) (base:=base) T XC
 have UI:=gh (P:=P) (w:=w) (base:=base) T XC;refine kr T.Y9.F afL [03] [02];obtain⟨r,q,kd,fn,ds,bl,n,x,t,v,rfl,R,hb,hf,hg⟩:=h;obtain⟨dr,er⟩:=R.ins;refine#[_,(ak (bz (bS (eW (pv 0) T.Ht T.d_s.c G_s (hr.mono [01]) bN (aa (pv 1) ac))) (ak (a6 (eW (pv 0) T.Ht T.Vx.c UI (hr.mono [01]) bN (aa (bA (by rfl) T.Sg) ac)))) aQ)),?_];refine#[r,dr,_,KB,er,KB,r,q,kd,fn,ds,bl,n,x,t,v,KB,R,hb,λnb=>#[_,KB,bi (λe=>?_) λe=>?_]]
 .exact#[r,dr,_,KB,er,KB,r,q,kd,fn,ds,bl,n,x,t,5,KB,R,by rw[GG nb];exact hf nb e]
 .exact hg nb e
end OS
namespace OS
open Vbemac
def W {α:Type}(p:P α) (t:Jn) (Qo:α->Jn->Prop) (Qe:GQ->Pos->Prop):Prop:=match p t with
 | .ok (a,r)=>Qo a r
 | .error e=>Qe e.1 e.2
section
variable {α β:Type}{p:P α}{f:α->P β}{Qo Qo':α->Jn->Prop}{Qe Qe':GQ->Pos->Prop}{Ro:β->Jn->Prop}
def wb {a:α}(e:p t= .ok (a,r)):W p t Qo Qe=Qo a r:=by unfold W;rw[e]
def jN (h:p t= .error e):W p t Qo Qe=Qe e.1 e.2:=by unfold W;rw[h]
def de:W (p>>=f) t Ro Qe=W p t (λa r=>W (f a) r Ro Qe) Qe:=by
 have e:(p>>=f) t=(match p t with
  | .error x=> .error x
  | .ok (a,r)=>f a r):=by
  show(Hh p f) t=_
  unfold Hh;show(Except.bind (p t) _)=_;cases p t with
  |error x=>rfl
  |ok z=>rfl
 unfold W;rw[e];cases h:p t with
 |error x=>rfl
 |ok z=>rfl
def c7 {a:α} :W (pure a:P α) t Qo Qe=Qo a t:=rfl
def aaB:W (fail n:P α) t Qo Qe=Qe (if peek t= .bad then 1 else n) (place t):=rfl
def fF {Qo:Nq->Jn->Prop} :W next t Qo Qe=Qo () (t.drop 1):=rfl
def lU {c:Jn->Prop} [∀t,Decidable (c t)] {q:P α} :W (λt=>if c t then p t else q t) t Qo Qe=if c t then W p t Qo Qe else W q t Qo Qe:=by
 unfold W;by_cases h:c t
 .dsimp only;rw[GI h,GI h]
 .dsimp only;rw[GG h,GG h]
def W.mono (h:W p t Qo Qe) (ho: ∀a r,Qo a r->Qo' a r) (he: ∀n q,Qe n q->Qe' n q):W p t Qo' Qe':=by
 unfold W at h ⊢;cases e:p t with
 |error x=>rw[e] at h;exact he _ _ h
 |ok z=>rw[e] at h;exact ho _ _ h
end
def be {α:Type}(p:P α):Prop:= ∀t,peek t= .bad->p t= .error (1,place t)
def iJ {α:Type}(p:P α):Prop:= ∀t,peek t= .bad->p t= .error (1,place t)\/ ∃a,p t= .ok (a,t)
def be.P1 {α:Type}{p:P α}(h:be p):iJ p:=λt e=> .inl (h t e)
section
variable {α β:Type}{p:P α}{f:α->P β}{Qo:α->Jn->Prop}{Qe:GQ->Pos->Prop}{Ro:β->Jn->Prop}
def be.bind (h:be p):be (p>>=f):=λt e=>by
 show(Hh p f) t=_
 unfold Hh;rw[h t e]
 rfl
def iJ.bind (h:iJ p) (k: ∀a,iJ (f a)):iJ (p>>=f):=λt e=>by
 show(Hh p f) t=_\/ ∃a,(Hh p f) t=_
 unfold Hh;rcases h t e with z|⟨a,z⟩
 .rw[z];exact .inl KB
 .rw[z];exact k a t e
def iJ.strict (h:iJ p) (k: ∀a,be (f a)):be (p>>=f):=λt e=>by
 show(Hh p f) t=_
 unfold Hh;rcases h t e with z|⟨a,z⟩
 .rw[z];rfl
 .rw[z];exact k a t e
def be.Mp (h:be p) (e:peek t= .bad) (w:W p t Qo Qe):Qe 1 (place t):=by
 rw[jN (h t e)] at w;exact w
end
def cM {t:Jn}(e:peek t= .bad) (w:String):Jj t w=IR:=by unfold Jj;rw[e];rfl
def dE {t:Jn}(e:peek t= .bad) (w:String):Mg t w=IR:=by unfold Mg;rw[e];rfl
def aU {α:Type}(n:GQ):be (fail n:P α):=λt e=>by unfold fail;rw[GI e]
def fB (w:String):be (key w):=λt e=>by unfold key;rw[cM e];exact aU 2 t e
def bB (w:String):be (sign w):=λt e=>by unfold sign;rw[dE e];exact aU 2 t e
def e7:be anyName:=λt e=>by unfold anyName;rw[e];exact aU 2 t e
def gz (K:Known):be (newName K):=λt e=>by unfold newName;rw[e7 t e]
def mf (B:Blocks):be (blockName B):=λt e=>by unfold blockName;rw[e7 t e]
def k9 (B:Blocks):be (knownBlock B):=λt e=>by unfold knownBlock;rw[e7 t e]
def mH:be side:=λt e=>by unfold side;rw[cM e,cM e];exact aU 2 t e
def hZ (B:Blocks):be (maybeName B):=λt e=>by
 unfold maybeName;rw[cM e,cM e,GG (by simp),mf B t e]
def gn {α:Type}(a:α):iJ (pure a:P α):=λt _=> .inr #[a,KB]
def mW (w:String):iJ (ifSign w):=λt e=>by unfold ifSign;rw[dE e];exact .inr #[_,KB]
def uy (l:Gr String):iJ (Mh l):=λt e=>by unfold Mh;rw[e];exact .inr #[_,KB]
def gR {α:Type}(w:String) (p:P α):iJ (behind w p):=λt e=>by unfold behind;rw[cM e];exact .inr #[_,KB]
def jy (k d:GQ) (K:Known):be (primary k d K):=λt e=>by
 cases k with
 |zero=>rw[primary];exact aU 6 t e
 |succ k=>rw[primary];simp only[e];exact aU 2 t e
def li (k d:GQ) (K:Known):be (unary k d K):=λt e=>by
 cases k with
 |zero=>rw[unary];exact aU 6 t e
 |succ k=>rw[unary];simp only[dE e,J6,Nl];exact jy k d K t e
def sL (k d:GQ) (K:Known):be (times k d K):=by
 cases k with
 |zero=>rw[times];exact aU 6
 |succ k=>rw[times];exact(li k d K).bind
def kE (k d:GQ) (K:Known):be (added k d K):=by
 cases k with
 |zero=>rw[added];exact aU 6
 |succ k=>rw[added];exact(sL k d K).bind
def m5 (k d:GQ) (K:Known):be (compared k d K):=by
 cases k with
 |zero=>rw[compared];exact aU 6
 |succ k=>rw[compared];exact(kE k d K).bind
def vo (k d:GQ) (K:Known):be (ands k d K):=by
 cases k with
 |zero=>rw[ands];exact aU 6
 |succ k=>rw[ands];exact(m5 k d K).bind
def mE (k d:GQ) (K:Known):be (expr k d K):=λt e=>by
 cases k with
 |zero=>rw[expr];exact aU 6 t e
 |succ k=>rw[expr];simp only[cM e,J6,Nl];exact(vo k d K).bind t e
def mC (k d:GQ) (K:Known) (n:GQ):be (arguments k d K n):=λt e=>by
 cases k with
 |zero=>rw[arguments];exact aU 6 t e
 |succ k=>rw[arguments];simp only[dE e,J6,Nl];exact(mE k d K).bind t e
def o4 (k d:GQ) (K:Known):iJ (moreTimes k d K):=by
 cases k with
 |zero=>rw[moreTimes];exact(aU 6).P1
 |succ k=>
  rw[moreTimes];intro t e;refine .inr #[.nil,?_];show(Hh _ _) t=_;unfold Hh Mh;rw[e]
  rfl
def oZ (k d:GQ) (K:Known):iJ (moreAdded k d K):=by
 cases k with
 |zero=>rw[moreAdded];exact(aU 6).P1
 |succ k=>
  rw[moreAdded];intro t e;refine .inr #[.nil,?_];show(Hh _ _) t=_;unfold Hh Mh;rw[e]
  rfl
def rD (k d:GQ) (K:Known):iJ (moreAnd k d K):=by
 cases k with
 |zero=>rw[moreAnd];exact(aU 6).P1
 |succ k=>
  rw[moreAnd];intro t e;refine .inr #[.nil,?_];show(Hh _ _) t=_;unfold Hh ifSign;rw[dE e]
  rfl
def uV (k d:GQ) (K:Known):iJ (moreOr k d K):=by
 cases k with
 |zero=>rw[moreOr];exact(aU 6).P1
 |succ k=>
  rw[moreOr];intro t e;refine .inr #[.nil,?_];show(Hh _ _) t=_;unfold Hh ifSign;rw[dE e]
  rfl
def mJ (k d:GQ) (K:Known) (B:Blocks):be (stmt k d K B):=λt e=>by
 cases k with
 |zero=>rw[stmt];exact aU 6 t e
 |succ k=>rw[stmt];simp only[cM e,J6,Nl];exact mH.bind t e
def kO (k d:GQ) (K:Known) (B:Blocks):be (stmts k d K B):=λt e=>by
 cases k with
 |zero=>rw[stmts];exact aU 6 t e
 |succ k=>rw[stmts];simp only[dE e,J6,Nl];exact(mJ k d K B).bind t e
def jY (k n:GQ) (K:Known):be (params k n K):=λt e=>by
 cases k with
 |zero=>rw[params];exact aU 6 t e
 |succ k=>
  rw[params];dsimp only;by_cases h:n=0
  .rw[GI h];exact aU 7 t e
  .rw[GG h];exact(gz K).bind t e
def tM (k:GQ) (K:Known) (n:GQ) (D:Gr HD):be (tops k K n D):=λt e=>by
 cases k with
 |zero=>rw[tops];exact aU 6 t e
 |succ k=>rw[tops];simp only[e,reduceCtorEq,Nl,cM e,J6];exact aU 2 t e
end OS
namespace OS
open PySem PySem.Spec L2
open PyProof.Rows hiding St
variable {P:Hr}{w:HW}{K:Gy}{mg:Ha->GJ GC}{base:Im}{a:bI}
structure XN where
 p:GB
 c:Gr (cf×V)
 x:GB->Gr V->Prop
instance:Coe XN GB:=#[XN.p]
structure Rb where
 r:GB
 q:GB
 kd:GB
 fn:GB
 ds:XN
 bl:XN
def fG (B:Rb) (b:GB):Prop:=b=B.r\/b=B.kd\/b=B.fn\/b=B.ds.p\/b=B.bl.p\/ ∃xs,B.bl.x b xs
inductive XQ (H:Hp) (kd:GB) (Kn:GF):Prop
 |mk (kk:Gr (cf×V)) (_:H kd=GM (.dK kk)) (_:kk.length<=Kn.values.length) (_: ∀u,has kk u=Kn.values.contains u):XQ H kd Kn
inductive XU (H:Hp) (fn:GB) (Kn:GF):Prop
 |mk (ff:Gr (cf×V)) (_:H fn=GM (.dK ff)) (_: ∀u,cT ff (nk u)=(Kn.funs.find? λf=>f.1 == u).map λf=>V.int (f.2:GQ)):XU H fn Kn
inductive Dif (k f d b:GB):Prop
 |mk (_:k≠f) (_:k≠d) (_:k≠b) (_:f≠d) (_:f≠b) (_:d≠b):Dif k f d b
structure aaC (H:Hp) (kd fn:GB) (Kn:GF) (room:GQ):Prop where
 vals:XQ H kd Kn
 funs:XU H fn Kn
 len:Kn.values.length+room<=4000
 aj7: ∃ff,H fn=GM (.dK ff)/\ff.length=Kn.funs.length
def aaC.fl {H:Hp}(h:aaC H kd fn Kn room) (e:H fn=GM (.dK ff)):ff.length=Kn.funs.length:=by
 obtain⟨gg,g1,g2⟩:=h.aj7;rw[e] at g1;cases g1;exact g2
structure fU (a:bI) (B:Rb) (H:Hp) (n:GQ) (t:GA) (Kn:GF):Prop where
 rd:oN a H B.r B.q B.kd B.fn B.ds.p B.bl.p n t
 wh:gw t
 kn:aaC H B.kd B.fn Kn t.length
 SE:H B.ds.p=GM (.dK B.ds.c)
 R4:H B.bl.p=GM (.dK B.bl.c)
 Qc:Dif B.kd B.fn B.ds.p B.bl.p
 fr: ∀b xs,B.bl.x b xs->H b=GM (.lst xs)
def sG (kk:Gr (cf×V)) (u v:Gz) (y:V):has (fX kk (nk u) y) v=(decide (v=u)||has kk v):=by
 unfold has;rw[uO];by_cases e:v=u
 .rw[GI (by rw[e]),HC e];rfl
 .rw[GG (λz=>e (fY (Ms z))),He e];rfl
def xt (kk:Gr (cf×V)) (k j:cf):cT (f7 kk k) j=if j=k then Ix else cT kk j:=by
 induction kk with
 |nil=>unfold f7 cT;split<;>rfl
 |cons p r ih=>
  unfold f7 at ih ⊢;rw[QF];by_cases e:p.1=k
  .rw[GG (by simp [e]),ih]
   by_cases j1:j=k
   .rw[GI j1,GI j1]
   .rw[GG j1,GG j1,cF λz=>j1 (z.symm.trans e)]
  .rw[GI (by simp [e])]
   by_cases j1:p.1=j
   .rw[cO j1,cO j1,GG λz=>e (j1.trans z)]
   .rw[cF j1,cF j1,ih]
def uq (kk:Gr (cf×V)) (u v:Gz):has (f7 kk (nk u)) v=(!decide (v=u)&&has kk v):=by
 unfold has;rw[xt];by_cases e:v=u
 .rw[GI (by rw[e]),HC e];rfl
 .rw[GG (λz=>e (fY (Ms z))),He e];rfl
def pB:ng v k=decide (wB k=GM v):=by
 unfold ng;cases k with
 |word u=>exact decide_eq_decide.mpr #[λz=>Hv GM (V.str.inj z),λz=>Hv V.str (Hb z)]
 |num n=>exact decide_eq_decide.mpr #[(λz=>nomatch z),(λz=>nomatch z)]
 |sign u=>exact decide_eq_decide.mpr #[λz=>Hv GM (V.str.inj z),λz=>Hv V.str (Hb z)]
 |eof=>exact decide_eq_decide.mpr #[λz=>Hv GM (V.str.inj z),λz=>Hv V.str (Hb z)]
 |bad=>exact decide_eq_decide.mpr #[λz=>Hv GM (V.str.inj z),λz=>Hv V.str (Hb z)]
def cz (ok:gK k) (h:dF x u):ng x k=(k == .word u):=by
 rw[pB,Iv,Il,beq_iff_eq];exact CW ok h
def dg (ok:gK k) (h:eV x u):ng x k=(k == .sign u):=by
 rw[pB,Iv,Il,beq_iff_eq];exact tX ok h
inductive XW (t:GA):Prop
 |mk (x:HZ×HM) (r:GA) (_:t=x::r) (_:gK x.1) (_:GX t=x.1) (_:JG t=x.2) (_: ¬j5 x->gw r):XW t
def gw.first (w:gw t):XW t:=by
 cases t with
 |nil=>exact G6 KB w.ne
 |cons x r=>
  refine#[x,r,KB,?_,KB,KB,λh=>(w.tail h).2];by_cases h:j5 x
  .rcases h with h|h
   .rw[h];exact IS
   .rw[h];exact IS
  .exact(w.tail h).1.2.2
section
variable {H H' H2:Hp}{M:GB->Prop}
def aI.keeps (s:aI H H'):dj M H H':=λb o e _=>s b o e
def dj.trans (k:dj M H H') (l:dj M H' H2):dj M H H2:=λb o e m=>l b o (k b o e m) m
def dj.refl:dj M H H:=λ_ _ e _=>e
def oN.same (R:oN a H r q kd fn ds bl n t) (s:aI H H'):oN a H' r q kd fn ds bl n t:=by
 obtain⟨dr,e⟩:=R.ins;obtain⟨as,all,h1,h2,h3⟩:=R.toks;exact#[#[dr,s _ _ e],as,all,s _ _ h1,Paired.Nt h2 λb z k=>k.keep λb' o e _=>s b' o e,h3]
theorem fU.same (S:fU a B H n t Kn) (s:aI H H'):fU a B H' n t Kn:=by
 obtain⟨kk,k1,k2,k3⟩:=S.kn.vals;obtain⟨ff,f1,f2⟩:=S.kn.funs;exact#[S.rd.same s,S.wh,#[#[kk,s _ _ k1,k2,k3],#[ff,s _ _ f1,f2],S.kn.len,#[ff,s _ _ f1,S.kn.fl f1]],s _ _ S.SE,s _ _ S.R4,S.Qc,λb xs h=>s _ _ (S.fr b xs h)]
def wZ (h:past a H B.r B.q B.kd B.fn B.ds.p B.bl.p n H'):dj (fG B) H H':=λb o e m=>by
 obtain⟨dr,e1,rfl⟩:=h;rw[af λz=>m (.inl z)];exact e
theorem fU.past (S:fU a B H n (x::t) Kn) (hx: ¬j5 x) (h:OS.past a H B.r B.q B.kd B.fn B.ds.p B.bl.p n H'):fU a B H' (n+1) t Kn:=by
 have R:=S.rd.step h;obtain⟨dr,e1,rfl⟩:=h;obtain⟨kk,k1,k2,k3⟩:=S.kn.vals;obtain⟨ff,f1,f2⟩:=S.kn.funs
 have hy:=S.SE
 have hz:=S.R4
 have nk:B.kd≠B.r:=λw=>by rw[w,e1] at k1;cases k1
 have nf:B.fn≠B.r:=λw=>by rw[w,e1] at f1;cases f1
 have nd:B.ds.p≠B.r:=λw=>by rw[w,e1] at hy;cases hy
 have nb:B.bl.p≠B.r:=λw=>by rw[w,e1] at hz;cases hz
 refine#[R,(S.wh.tail hx).2,#[#[kk,by rw[af nk];exact k1,k2,k3],#[ff,by rw[af nf];exact f1,f2],?_,#[ff,by rw[af nf];exact f1,S.kn.fl f1]],(by rw[af nd];exact hy),(by rw[af nb];exact hz),S.Qc,λb xs h=>by
  have e2:=S.fr b xs h;rw[af λw=>by rw[w,e1] at e2;cases e2]
  exact e2]
 have:=S.kn.len;rw[Gv] at this;lia
def fU.agk (S:fU a B H n t Kn) (free:Kn.values.contains u=IR) (room:Kn.values.length+1+t.length<=4000) (e:H B.kd=GM (.dK kk)):
  fU a B (bf H B.kd (.dK (fX kk (nk u) (.bl IN)))) n t (Kn.with u):=by
 obtain⟨dr,er⟩:=S.rd.ins;obtain⟨as,all,h1,h2,h3⟩:=S.rd.toks;obtain⟨UJ,k1,k2,k3⟩:=S.kn.vals;obtain⟨ff,f1,f2⟩:=S.kn.funs;have hy:=S.SE;have hz:=S.R4;obtain rfl:UJ=kk:=by rw[e] at k1;cases k1;rfl
 obtain⟨d1,d2,d3,d4,d5,d6⟩:=S.Qc;have nr:B.r≠B.kd:=λw=>by rw[w,e] at er;cases er
 have nq:B.q≠B.kd:=λw=>by rw[w,e] at h1;cases h1
 refine#[#[#[dr,by rw[af nr];exact er],as,all,by rw[af nq];exact h1,Paired.Nt h2 λb x ⟨dx,ex⟩=>#[dx,?_],h3],S.wh,#[#[_,aj,?_,λv=>?_],#[ff,by rw[af d1.symm];exact f1,f2],by show Kn.values.length+1+t.length<=4000;exact room,#[ff,by rw[af d1.symm];exact f1,S.kn.fl f1]],(by rw[af d2.symm];exact hy),(by rw[af d3.symm];exact hz),S.Qc,λb xs h=>by
  have e2:=S.fr b xs h;rw[af λw=>by rw[w,e] at e2;cases e2]
  exact e2]
 .rw[af λw=>by rw[w,e] at ex;cases ex]
  exact ex
 .have:=fR UJ (nk u) (.bl IN)
  show _<=Kn.values.length+1
  lia
 .rw[sG,k3]
  show _=(u::Kn.values).contains v
  rw[HS]
  congr 1
  rw[Iv,Il,beq_iff_eq]
def fU.forget (S:fU a B H n t (Kn.with u)) (free:Kn.values.contains u=IR) (e:H B.kd=GM (.dK kk)):
  has kk u=IN/\fU a B (bf H B.kd (.dK (f7 kk (nk u)))) n t Kn:=by
 obtain⟨dr,er⟩:=S.rd.ins;obtain⟨as,all,h1,h2,h3⟩:=S.rd.toks;obtain⟨UJ,k1,k2,k3⟩:=S.kn.vals;obtain⟨ff,f1,f2⟩:=S.kn.funs;have hy:=S.SE;have hz:=S.R4;obtain rfl:UJ=kk:=by rw[e] at k1;cases k1;rfl
 obtain⟨d1,d2,d3,d4,d5,d6⟩:=S.Qc;have nr:B.r≠B.kd:=λw=>by rw[w,e] at er;cases er
 have nq:B.q≠B.kd:=λw=>by rw[w,e] at h1;cases h1
 have hu:has UJ u=IN:=by
  rw[k3];show(u::Kn.values).contains u=IN;rw[HS,IK]
  rfl
 have len:Kn.values.length+1+t.length<=4000:=S.kn.len
 have k2:UJ.length<=Kn.values.length+1:=k2;refine#[hu,#[#[dr,by rw[af nr];exact er],as,all,by rw[af nq];exact h1,Paired.Nt h2 λb x ⟨dx,ex⟩=>#[dx,?_],h3],S.wh,#[#[_,aj,?_,λv=>?_],#[ff,by rw[af d1.symm];exact f1,f2],by lia,#[ff,by rw[af d1.symm];exact f1,S.kn.fl f1]],(by rw[af d2.symm];exact hy),(by rw[af d3.symm];exact hz),S.Qc,λb xs h=>by
  have e2:=S.fr b xs h;rw[af λw=>by rw[w,e] at e2;cases e2]
  exact e2]
 .rw[af λw=>by rw[w,e] at ex;cases ex]
  exact ex
 .have:(f7 UJ (nk u)).length<UJ.length:=by
   unfold f7;refine Ve (OW _ _) λw=>?_;rw[Qh] at w;unfold has cT at hu;rw[JU,NQ] at hu;obtain⟨p,hp,e1⟩:=hu;have:=w p hp;simp only[Ow] at this e1;exact this e1
  lia
 .rw[uq,k3]
  show(!decide (v=u)&&(u::Kn.values).contains v)=_
  rw[HS];by_cases w:v=u
  .rw[w,HC KB,free];rfl
  .rw[He w,show(v == u)=IR from beq_eq_false_iff_ne.mpr w];rfl
def fU.fresh (S:fU a B H n t Kn) (h:H b=Ix): ¬fG B b:=by
 obtain⟨dr,e1⟩:=S.rd.ins;obtain⟨kk,k1,_⟩:=S.kn.vals;obtain⟨ff,f1,_⟩:=S.kn.funs;have hy:=S.SE;have hz:=S.R4;rintro(rfl|rfl|rfl|rfl|rfl|⟨xs,hx⟩)
 .rw[e1] at h;cases h
 .rw[k1] at h;cases h
 .rw[f1] at h;cases h
 .rw[hy] at h;cases h
 .rw[hz] at h;cases h
 .rw[S.fr _ _ hx] at h;cases h
end
section
variable {H H' H0:Hp}{B:Rb}{n:GQ}{t:GA}{Kn:GF}{M M':GB->Prop}
def Rb.more (B:Rb) (l:GB) (xs:Gr V):Rb:= { B with bl:=#[B.bl.p,B.bl.c,λb ys=>B.bl.x b ys\/(b=l/\ys=xs)] }
theorem fU.more (S:fU a B H n t Kn) (h:H l=GM (.lst xs)):fU a (B.more l xs) H n t Kn:=
 #[S.rd,S.wh,S.kn,S.SE,S.R4,S.Qc,λb ys z=>z.elim (S.fr b ys) λ⟨e1,e2⟩=>by rw[e1,e2];exact h]
def fU.less (S:fU a (B.more l xs) H n t Kn):fU a B H n t Kn:=
 #[S.rd,S.wh,S.kn,S.SE,S.R4,S.Qc,λb ys z=>S.fr b ys (.inl z)]
def fU.QK (S:fU a (B.more l xs) H n t Kn):H l=GM (.lst xs):=S.fr l xs (.inr #[KB,KB])
def cP (m:fG B b):fG (B.more l xs) b:=by
 rcases m with h|h|h|h|h|⟨ys,h⟩
 .exact .inl h
 .exact .inr (.inl h)
 .exact .inr (.inr (.inl h))
 .exact .inr (.inr (.inr (.inl h)))
 .exact .inr (.inr (.inr (.inr (.inl h))))
 .exact .inr (.inr (.inr (.inr (.inr #[ys, .inl h]))))
def dL (m:fG (B.more l xs) b):b=l\/fG B b:=by
 rcases m with h|h|h|h|h|⟨ys,h|⟨h,_⟩⟩
 .exact .inr (.inl h)
 .exact .inr (.inr (.inl h))
 .exact .inr (.inr (.inr (.inl h)))
 .exact .inr (.inr (.inr (.inr (.inl h))))
 .exact .inr (.inr (.inr (.inr (.inr (.inl h)))))
 .exact .inr (.inr (.inr (.inr (.inr (.inr #[ys,h])))))
 .exact .inl h
def fT:fG (B.more l xs) l:= .inr (.inr (.inr (.inr (.inr #[xs, .inr #[KB,KB]]))))
def fC (h:M l):dj M H (bf H l o):=λb o' e m=>by
 rw[af λz=>m (by rw[z];exact h)];exact e
def fU.write (S:fU a (B.more l xs) H n t Kn) (apart: ∀zs,¬B.bl.x l zs) (hq:l≠B.q):fU a (B.more l ys) (bf H l (.lst ys)) n t Kn:=by
 have hl:=S.QK;obtain⟨dr,er⟩:=S.rd.ins;obtain⟨as,all,h1,h2,h3⟩:=S.rd.toks;obtain⟨kk,k1,k2,k3⟩:=S.kn.vals;obtain⟨ff,f1,f2⟩:=S.kn.funs
 have up: ∀ {b:GB}{o:HO},H b=GM o->(∀zs,o≠ .lst zs)->bf H l (.lst ys) b=GM o:=λe no=>by
  rw[af λw=>by rw[w,hl] at e;exact no _ (Hb e).symm];exact e
 refine#[#[#[dr,up er (λ_ z=>nomatch z)],as,all,(by show bf H l (.lst ys) B.q=_;rw[af hq.symm];exact h1),Paired.Nt h2 λb x ⟨dx,ex⟩=>#[dx,up ex (λ_ z=>nomatch z)],h3],S.wh,
  #[#[kk,up k1 (λ_ z=>nomatch z),k2,k3],#[ff,up f1 (λ_ z=>nomatch z),f2],S.kn.len,#[ff,up f1 (λ_ z=>nomatch z),S.kn.fl f1]],up S.SE (λ_ z=>nomatch z),up S.R4 (λ_ z=>nomatch z),S.Qc,λb zs z=>?_]
 rcases z with z|⟨e1,e2⟩
 .rw[af λw=>apart zs (by rw[<-w];exact z)]
  exact S.fr b zs (.inl z)
 .rw[e1,e2]
  exact aj
end
def zJ:aaz=HU.map λu=>V.str (sb u):=by decide+kernel
def dU:di (.word u)=!Vbemac.KEYS.contains u:=by
 show(!uF (.str (sb u)) aaz)=_
 congr 1
 rw[zJ];unfold uF;rw[Oz,Gr.contains_eq_any_beq]
 congr 1
 funext z
 show(sb z == sb u)=(u == z)
 rw[Iv,beq_iff_eq,beq_iff_eq];exact#[λe=>(fY e).symm,λe=>by rw[e]]
def fk (a:bI) (M:GB->Prop) (H:Hp):GJ GD->V->Prop
 |none,v=>v= .Ko
 |some e,v=>ag a M H e v
def pI (b:HK):V:= .str (if b=IN then "buy" else "sell")
inductive xj (a:bI) (M:GB->Prop) (H:Hp) (x:Gz×GD) (v:V):Prop
 |mk (u:V) (_:bP M H a.LS [("name", .str (sb x.1)),("exp",u)] v) (_:ag a M H x.2 u):xj a M H x v
def jd:GJ Gz->V
 |none=> .Ko
 |some u=> .str (sb u)
mutual
def aO (a:bI) (M:GB->Prop) (H:Hp):Js->V->Prop
 | .bind x e,v=> ∃u,bP M H a.Mt [("name", .str (sb x)),("exp",u)] v/\ag a M H e u
 | .loop x lo hi l,v=> ∃u1 u2 q us,bP M H a.NU [("name", .str (sb x)),("first",u1),("last",u2),("statements",q)] v/\ag a M H lo u1/\ag a M H hi u2/\bM M H us q/\aT a M H l us
 | .cond c x y,v=> ∃u q us g ws,bP M H a.QB [("condition",u),("statements",q),("else_statements",g)] v/\ag a M H c u/\bM M H us q/\aT a M H x us/\bM M H ws g/\aT a M H y ws
 | .step b z qu p top am,v=> ∃u1 u2 u3 u4 u5,bP M H a.LQ [("side",pI b),("zone",u1),("quarter",u2),("price",u3),("to_price",u4),("amount",u5)] v/\ag a M H z u1/\ag a M H qu u2/\ag a M H p u3/\fk a M H top u4/\ag a M H am u5
 | .block nm b z p x am un g,v=> ∃u1 u2 u3 u4,bP M H a.KH [("name",jd nm),("side",pI b),("zone",u1),("price",u2),("amounts",u3),("under",jd un),("group",u4)] v/\ag a M H z u1/\ag a M H p u2/\xj a M H (x,am) u3/\fk a M H g u4
def aT (a:bI) (M:GB->Prop) (H:Hp):Ir->Gr V->Prop
 | .nil,us=>us=[]
 | .cons s l,us=> ∃u vs,us=u::vs/\aO a M H s u/\aT a M H l vs
end
section
variable {M M':GB->Prop}{H H':Hp}
theorem fk.Ie (k:d7 M M' H H'): ∀(e:GJ GD) {v:V},fk a M H e v->fk a M' H' e v
 |none,v,h=>h
 |some e,v,h=>ag.Ie k e h
theorem xj.Ie (k:d7 M M' H H') (h:xj a M H x v):xj a M' H' x v:=by
 obtain⟨u,h1,h2⟩:=h;exact#[u,h1.keep k,ag.Ie k _ h2]
mutual
theorem aO.Ie (k:d7 M M' H H'): ∀(s:Js) {v:V},aO a M H s v->aO a M' H' s v
 | .bind x e,v,h=>by
  unfold aO at h ⊢;obtain⟨u,h1,h2⟩:=h;exact#[u,h1.keep k,ag.Ie k e h2]
 | .loop x lo hi l,v,h=>by
  unfold aO at h ⊢;obtain⟨u1,u2,q,us,h1,h2,h3,h4,h5⟩:=h;exact#[u1,u2,q,us,h1.keep k,ag.Ie k lo h2,ag.Ie k hi h3,h4.keep k,aT.Ie k l h5]
 | .cond c x y,v,h=>by
  unfold aO at h ⊢;obtain⟨u,q,us,g,ws,h1,h2,h3,h4,h5,h6⟩:=h;exact#[u,q,us,g,ws,h1.keep k,ag.Ie k c h2,h3.keep k,aT.Ie k x h4,h5.keep k,aT.Ie k y h6]
 | .step b z qu p top am,v,h=>by
  unfold aO at h ⊢;obtain⟨u1,u2,u3,u4,u5,h1,h2,h3,h4,h5,h6⟩:=h;exact#[u1,u2,u3,u4,u5,h1.keep k,ag.Ie k z h2,ag.Ie k qu h3,ag.Ie k p h4,fk.Ie k top h5,ag.Ie k am h6]
 | .block nm b z p x am un g,v,h=>by
  unfold aO at h ⊢;obtain⟨u1,u2,u3,u4,h1,h2,h3,h4,h5⟩:=h;exact#[u1,u2,u3,u4,h1.keep k,ag.Ie k z h2,ag.Ie k p h3,h4.Ie k,fk.Ie k g h5]
theorem aT.Ie (k:d7 M M' H H'): ∀(l:Ir) {us:Gr V},aT a M H l us->aT a M' H' l us
 | .nil,us,h=>by unfold aT at h ⊢; exact h
 | .cons s l,us,h=>by
  unfold aT at h ⊢;obtain⟨u,vs,h1,h2,h3⟩:=h;exact#[u,vs,h1,aO.Ie k s h2,aT.Ie k l h3]
end
end
def i4 (ps:Gr Gz):Gr V:=ps.map λp=>V.str (sb p)
def f8 (a:bI) (M:GB->Prop) (H:Hp):Iy->V->Prop
 | .const x e,v=> ∃u,bP M H a.MV [("name", .str (sb x)),("exp",u)] v/\ag a M H e u
 | .func x ps e,v=> ∃q u,bP M H a.Pd [("name", .str (sb x)),("parameters",q),("exp",u)] v/\bM M H (i4 ps) q/\ag a M H e u
 | .desk x l,v=> ∃q us,bP M H a.Oe [("name", .str (sb x)),("statements",q)] v/\bM M H us q/\aT a M H l us
theorem f8.Ie {a:bI}{M M':GB->Prop}{H H':Hp}(k:d7 M M' H H'): ∀(x:Iy) {v:V},f8 a M H x v->f8 a M' H' x v
 | .const x e,v,⟨u,h1,h2⟩=>#[u,h1.keep k,ag.Ie k e h2]
 | .func x ps e,v,⟨q,u,h1,h2,h3⟩=>#[q,u,h1.keep k,h2.keep k,ag.Ie k e h3]
 | .desk x l,v,⟨q,us,h1,h2,h3⟩=>#[q,us,h1.keep k,h2.keep k,aT.Ie k l h3]
inductive Fk where
 |e (x:GD)
 |o (x:GJ GD)
 |am (x:Gz×GD)
 |st (x:Js)
 |sts (x:Ir)
 |ps (x:Gr Gz)
 |top (x:Iy)
inductive qi (a:bI) (M:GB->Prop) (H:Hp) (l:Ir) (v:V):Prop
 |mk (us:Gr V) (_:bM M H us v) (_:aT a M H l us):qi a M H l v
def jU (a:bI) (M:GB->Prop) (H:Hp) (x:Fk×V):Prop:=match x.1 with
 | .e e=>ag a M H e x.2
 | .o e=>fk a M H e x.2
 | .am e=>xj a M H e x.2
 | .st e=>aO a M H e x.2
 | .sts e=>qi a M H e x.2
 | .ps e=>bM M H (i4 e) x.2
 | .top e=>f8 a M H e x.2
theorem jU.Ie {a:bI}{M M':GB->Prop}{H H':Hp}(k:d7 M M' H H'): ∀ {x:Fk×V},jU a M H x->jU a M' H' x
 | (.e e,v),h=>ag.Ie k e h
 | (.o e,v),h=>fk.Ie k e h
 | (.am e,v),h=>xj.Ie k h
 | (.st e,v),h=>aO.Ie k e h
 | (.sts e,v),⟨us,h1,h2⟩=>#[us,h1.keep k,aT.Ie k e h2]
 | (.ps e,v),h=>bM.keep k h
 | (.top e,v),h=>f8.Ie k e h
def DF (T:Txt K mg a) (XC:XT K a):T.Y5.O P w mg base 6 (zl a):=by
 have G_s:=nA (P:=P) (w:=w) (base:=base) T XC;refine kr T.Y5.F afA [03] [02];obtain⟨r,q,kd,fn,ds,bl,n,x,t,v,rfl,R,hb,hf,hg⟩:=h;obtain⟨dr,er⟩:=R.ins;refine#[_,(ai (bz (lT (bS (eW (pv 0) T.Ht T.d_s.c G_s (hr.mono [01]) bN (aa (pv 1) ac)))) (ak (aB tV)) aQ)
   (ai (mt (pv 0) aG wJ)
   (ak (aB tV)))),?_]
 refine#[r,dr,_,KB,er,KB,r,q,kd,fn,ds,bl,n,x,t,v,KB,R,hb,λnb=>#[_,KB,?_]];cases e:ng v x.1 with
 |false=>exact dR (hf nb e)
 |true=>
  refine cW ?_;exact#[r,_,dr,_,_,KB,er,T.Ht,T.LB,KB,_,_,KB,KB,dr,_,er,(by show 6<1000;decide),hg nb e _ #[dr,er,KB]]
def jT (T:Txt K mg a) (XC:XT K a):T.Y7.O P w mg base 7 (yy a):=by
 have G_M:=iL (P:=P) (w:=w) (base:=base) T XC
 have TU:=dG (P:=P) (w:=w) (base:=base) T XC
 have UI:=gh (P:=P) (w:=w) (base:=base) T XC
 have G_D:=r0 (P:=P) (w:=w) (base:=base) T XC;refine kr T.Y7.F afB [03] [02];obtain⟨r,q,kd,fn,ds,bl,g,n,⟨x,xp⟩,t,gg,rfl,R,eg,hb,hn,h4,hg⟩:=h;obtain⟨dr,er⟩:=R.ins;refine#[_,(ai (a6 (cV (pv 0) T.Ht T.d_M.c G_M (hr.mono [01]) bN))
   (ai (bz (fE (sM (gP hr) (az (cV (pv 0) T.Ht T.Vw.c TU (hr.mono [01]) bN) KB) (pv 1))) (ak (a6 (eW (pv 0) T.Ht T.Vx.c UI (hr.mono [01]) bN (aa (bA (by rfl) T.Po) ac)))) aQ)
   (ak (aB (cV (pv 0) T.Ht T.d_D.c G_D (hr.mono [01]) bN))))),?_]
 refine#[r,dr,_,KB,er,KB,r,q,kd,fn,ds,bl,n,(x,xp),t,KB,R,hb,hn,λnb e=>?_];cases x with
 |word u=>
  refine#[r,dr,_,KB,er,KB,r,q,kd,fn,ds,bl,n,(.word u,xp),t,KB,R,hb,λ_ p ⟨dx,et⟩=>#[p,_,dx,_,_,KB,et,T.JT,T.Kp,KB,?_]];refine#[g,_,KB,kG.k (k:=nk u) eg,_,KB,bi (λe1=>?_) λe1=>?_]
  .refine#[r,dr,_,KB,er,KB,r,q,kd,fn,ds,bl,n,(.word u,xp),t,4,KB,R,?_]
   rw[GG nb];exact h4 u KB e e1
  .exact#[r,dr,_,KB,er,KB,r,q,kd,fn,ds,bl,n,(.word u,xp),t,KB,R,hb,λ_=>hg u KB e e1]
 |num m=>cases e
 |sign u=>cases e
 |eof=>cases e
 |bad=>exact G6 KB nb
def ga {α:Type}{p:GN α}{n:GQ}{t:GA}{Qo:α->GA->Prop}{Qe:GQ->HM->Prop}(e:p t=Hm n t) (nb:GX t≠ .bad) (h:W p t Qo Qe):Qe n (JG t):=by
 have e:p t= .error (n,JG t):=by rw[e];unfold Hm;rw[GG nb]
 rw[jN e] at h;exact h
def agl {α:Type}{p p':GN α}{t:GA}{Qo:α->GA->Prop}{Qe:GQ->HM->Prop}(e:p t=p' t) (h:W p t Qo Qe):W p' t Qo Qe:=by
 unfold W at h ⊢;rw[<-e];exact h
abbrev QE (a:bI) (B:Rb) (H0:Hp) (E:XK):GQ->HM->Prop:=λk x=> ∀H',dj (fG B) H0 H'->o0 a.Jm E H' k x
def dD {t:GA} :VQ ((.word u,xp)::t)=if HU.contains u=IN then Hm 2 ((.word u,xp)::t) else .ok (u,t):=rfl
def i9 {Kn:GF}{t:GA}(h:HU.contains u=IN):Ig Kn ((.word u,xp)::t)=Hm 2 ((.word u,xp)::t):=by
 unfold Ig;rw[dD,GI h]
 rfl
def fh {Kn:GF}{t:GA}(h:HU.contains u=IR):Ig Kn ((.word u,xp)::t)=if Kn.taken u=IN then Hm 4 ((.word u,xp)::t) else .ok (u,t):=by
 unfold Ig;rw[dD,GG (by rw[h];exact Gu)]
structure Zf (β:Type) where
 a:bI
 E:XK
 B:Rb
 L:GQ
 H0:Hp
 Ro:β->GA->Prop
inductive CB (X:Cx) (x:Ha) (ps:Gr Ha) (sp:Sp):Prop
 |mk {k:GQ}{f:GB}{fd:Ia}(F:b6 X.prog X.w X.K X.mg X.base (jR X.prog X.w) k f fd ps sp) (hr:cx k X.A) (d:CD X.K X.mg x f fd ps) (hg:Gl X x):CB X x ps sp
structure RX (X:Cx) (a:bI) (E:XK):Prop where
 T:Txt X.K X.mg a
 C:XT X.K a
 hr:cx 8 X.A
 up:eN (jR X.prog X.w) X E
 lv:Rv (model X.prog X.w) X.A X.env X.xe
 nd:X.N.Nodup
 n0:X.N[0]?=GM ("reader":Ha)
 v0:tu X.env.scope "reader"
structure RS {β:Type}(Z:Zf β) (F:Gr (Fk×V)) (b:HK) (H:Hp) (t:GA) (Kn:GF) (p:GN β):Prop where
 S: ∃n,fU Z.a Z.B H n t Kn
 k:dj (fG Z.B) Z.H0 H
 f: ∀ {i:GQ}{x:Fk×V},F[i]?=GM x->jU Z.a (fG Z.B) H x
 l:t.length+b.toNat<=Z.L
 w:W p t Z.Ro (QE Z.a Z.B Z.H0 Z.E)
section
variable {β:Type}{Z:Zf β}{H H':Hp}{p p':GN β}
def RS.go (R:RS Z F b H t Kn p) (S:fU Z.a Z.B H' n t' WQ) (k:dj (fG Z.B) H H') (l:t'.length+b'.toNat<=Z.L) (w:W p' t' Z.Ro (QE Z.a Z.B Z.H0 Z.E)):RS Z F b' H' t' WQ p':=
 #[#[n,S],R.k.trans k,λe=>jU.Ie k.two (R.f e),l,w]
def RS.and (R:RS Z F b H t Kn p) (h:jU Z.a (fG Z.B) H e):RS Z (e::F) b H t Kn p:=
 #[R.S,R.k,λ{i x} q=>match i,q with
  |0,q=>by cases q;exact h
  |i+1,q=>R.f (i:=i) q,R.l,R.w]
def RS.as (R:RS Z F b H t Kn p) (e:p t=p' t):RS Z F b H t Kn p':=#[R.S,R.k,R.f,R.l,agl e R.w]
def RS.one (R:RS Z F b H (x::t) Kn p):t.length+1<=Z.L:=G0 (JO _ _) R.l
theorem RS.past (R:RS Z F b H (x::t) Kn p) (S:fU Z.a Z.B H n (x::t) Kn) (hx: ¬j5 x) (h:OS.past Z.a H Z.B.r Z.B.q Z.B.kd Z.B.fn Z.B.ds.p Z.B.bl.p n H') (w:W p' t Z.Ro (QE Z.a Z.B Z.H0 Z.E)):RS Z F IN H' t Kn p':=
 R.go (S.past hx h) (wZ h) R.one w
end
structure XpP (v:Ha) (p:GN Nq) (x:HZ×HM) (r:GA):Prop where
 bad:x.1= .bad->p (x::r)= .error (1,x.2)
 no:x.1≠ .bad->ng v x.1=IR->p (x::r)= .error (2,x.2)
 yes:x.1≠ .bad->ng v x.1=IN->p (x::r)= .ok ((),r)/\ ¬j5 x
def eV.p {v:Ha}{s:String}(l:eV v (Gx s)) (r:GA) (ok:gK x.1):XpP v (Hw s) x r:=by
 refine#[λb=>bB s (x::r) b,λnb e=>?_,λnb e=>?_]
 .rw[dg ok l] at e
  show(if Hy (x::r) s=IN then _ else Hm 2 (x::r))=_
  rw[GG (by show¬(x.1 == .sign (Gx s))=IN;rw[e];exact Gu)];unfold Hm;rw[GG (show¬GX (x::r)= .bad from nb)]
  rfl
 .rw[dg ok l] at e
  refine#[?_,λz=>?_]
  .show(if Hy (x::r) s=IN then _ else Hm 2 (x::r))=_
   rw[GI (by show(x.1 == .sign (Gx s))=IN;exact e)]
   rfl
  .have:=beq_iff_eq.mp e
   exact z.elim (λz=>by rw[this] at z;cases z) nb
def dF.p {v:Ha}{s:String}(l:dF v (Gx s)) (r:GA) (ok:gK x.1):XpP v (IQ s) x r:=by
 refine#[λb=>fB s (x::r) b,λnb e=>?_,λnb e=>?_]
 .rw[cz ok l] at e
  show(if GP (x::r) s=IN then _ else Hm 2 (x::r))=_
  rw[GG (by show¬(x.1 == .word (Gx s))=IN;rw[e];exact Gu)];unfold Hm;rw[GG (show¬GX (x::r)= .bad from nb)]
  rfl
 .rw[cz ok l] at e
  refine#[?_,λz=>?_]
  .show(if GP (x::r) s=IN then _ else Hm 2 (x::r))=_
   rw[GI (by show(x.1 == .word (Gx s))=IN;exact e)]
   rfl
  .have:=beq_iff_eq.mp e
   exact z.elim (λz=>by rw[this] at z;cases z) nb
def DD {v:Ha}(r:GA) (e:ng v x.1=IN) (nb:x.1≠ .bad) (nf: ¬j5 x):XpP v HV x r:=
 #[λb=>G6 b nb,λ_ z=>(by rw[e] at z;cases z),λ_ _=>#[KB,nf]]
theorem RS.tok {β:Type}{Z:Zf β}{F:Gr (Fk×V)}{b:HK}{H:Hp}{t:GA}{Kn:GF}{p:GN β}(R:RS Z F b H t Kn p):gK (GX t):=by
 obtain⟨n,S⟩:=R.S;obtain⟨x,t',rfl,tok,Q2,_,_⟩:=S.wh.first;exact tok
section
variable {X:Cx}{β:Type}{Z:Zf β}{F:Gr (Fk×V)}{b:HK}{H:Hp}{t:GA}{Kn:GF}{D:dB}{ss:Gr Stmt}{σ:L2.St}{p0 p1 p2 p3 p4 p5:Pos}{j:GQ}{v y:Ha}{s:String}{E:XK}{Q:VK}{B:Rb}{n:GQ}{m:Ha}{f:GB}{fd:Ia}{ps:Gr Ha}{sp:Sp}{k:GQ}{CX:qO}{E':XK}{p:GN β}
def RX.rd (Y:RX X a E):PE X (.Name "reader" p1) (ei 0):=iM Y.n0 Y.v0
def RX.m1 (Y:RX X a E) (d:MD X.K a.HP m f fd ps) (G:b6 X.prog X.w X.K X.mg X.base CX k f fd ps sp) (hk:k<=8) (up:eN CX X E') (S:fU a B H n t Kn) (hm:(sY B.q B.kd B.fn B.ds.p B.bl.p n).lookup m=Ix) (q:Pe X e (GM (.ref B.r)::σ) H λv H1=>sp [.ref B.r,v] H1 Q E')
  (hp:jV p2 p4) (Mu:Hf [e] X.env=[(IR,eval e X.env)]):Pe X (.Call (.Attribute (.Name "reader" p1) m p2) [e] [] p4) (GM (.ref B.r)::σ) H Q:=by
 obtain⟨dr,er⟩:=S.rd.ins;exact#[_,eW Y.rd Y.T.Ht d G (Y.hr.mono hk) up (aa eD ac Mu) Mu KB (yC hp (by rw[Mu];rfl)),B.r,dr,_,KB,er,hm,q]
def RX.m0 (Y:RX X a E) (d:MD X.K a.HP m f fd ps) (G:b6 X.prog X.w X.K X.mg X.base CX k f fd ps sp) (hk:k<=8) (up:eN CX X E') (S:fU a B H n t Kn) (hm:(sY B.q B.kd B.fn B.ds.p B.bl.p n).lookup m=Ix) (q:sp [.ref B.r] H Q E')
  (hp:jV p2 p4):Pe X (.Call (.Attribute (.Name "reader" p1) m p2) [] [] p4) (GM (.ref B.r)::σ) H Q:=by
 obtain⟨dr,er⟩:=S.rd.ins;exact#[_,cV Y.rd Y.T.Ht d G (Y.hr.mono hk) up (yC hp KB),B.r,dr,_,KB,er,hm,q]
def yX {e:Jc}{te:TE}{u:GN Nq}{g:Nq->GN β}(Y:RX X Z.a Z.E) (R:RS Z F b H t Kn (u>>=g)) (he:PE X e te) (hv: ∀Q:VK,Q (.str v) H->te (GM (.ref Z.B.r)::σ) H Q) (l: ∀ {x:HZ×HM} r,t=x::r->gK x.1->XpP v u x r) (q: ∀H' t',RS Z F IN H' t' Kn (g ())->Bd X ss D (GM (.ref Z.B.r)::σ) H') (hp:jV p2 p4:=by rfl) (Mu:Hf [e] X.env=[(IR,eval e X.env)]:=by rfl):
  Bd X (.Expr (.Call (.Attribute (.Name "reader" p1) "expect" p2) [e] [] p4) p5::ss) D (GM (.ref Z.B.r)::σ) H:=by
 obtain⟨n,S⟩:=R.S;obtain⟨x,t',rfl,tok,Q2,MU,_⟩:=S.wh.first;have hW:=R.w;rw[de] at hW;have l:=l t' KB tok;refine dQ (Y.m1 Y.T.Y4.c (AV Y.T Y.C) [01] Y.up S KB #[_,he,hv _ #[Z.B.r,Z.B.q,Z.B.kd,Z.B.fn,Z.B.ds,Z.B.bl,n,x,t',v,KB,S.rd,λb=>?_,λnb e=>?_,λnb e H' hp=>?_]] hp Mu)
 .rw[jN (l.bad b)] at hW;exact hW H R.k
 .rw[jN (l.no nb e)] at hW;exact hW H R.k
 .obtain⟨h1,h2⟩:=l.yes nb e
  rw[wb h1] at hW;exact q H' t' (R.past S h2 hp hW)
def nN {te:TE}(Y:RX X Z.a Z.E) (R:RS Z F b H t Kn p) (he:PE X e te) (hv: ∀Q:VK,Q (.str v) H->te (GM (.ref Z.B.r)::σ) H Q) (hb:GX t= .bad->QE Z.a Z.B Z.H0 Z.E 1 (JG t)) (q:GX t≠ .bad->Q (.bl (ng v (GX t))) H) (hp:jV p2 p4:=by rfl) (Mu:Hf [e] X.env=[(IR,eval e X.env)]:=by rfl):
  Pe X (.Call (.Attribute (.Name "reader" p1) "sees" p2) [e] [] p4) (GM (.ref Z.B.r)::σ) H Q:=by
 obtain⟨n,S⟩:=R.S;obtain⟨x,t',rfl,tok,Q2,MU,_⟩:=S.wh.first;exact Y.m1 Y.T.d_s.c (nA Y.T Y.C) [01] Y.up S KB #[_,he,hv _ #[Z.B.r,Z.B.q,Z.B.kd,Z.B.fn,Z.B.ds,Z.B.bl,n,x,t',v,KB,S.rd,λb=>hb (Q2.trans b) H R.k,q]] hp Mu
def rJ {u:GN Nq}{g:Nq->GN β}(Y:RX X Z.a Z.E) (R:RS Z F b H t Kn (u>>=g)) (l: ∀ {x:HZ×HM} r,t=x::r->gK x.1->XpP v u x r) (q: ∀H' t',RS Z F IN H' t' Kn (g ())->Bd X ss D (GM (.ref Z.B.r)::σ) H') (hp:jV p2 p4:=by rfl):
  Bd X (.Expr (.Call (.Attribute (.Name "reader" p1) "expect" p2) [.Constant (.str v) j p3] [] p4) p5::ss) D (GM (.ref Z.B.r)::σ) H:=yX Y R aK [08] l q hp
def db {g:Nq->GN β}(Y:RX X Z.a Z.E) (lit:eV v (Gx s)) (R:RS Z F b H t Kn (Hw s>>=g)) (q: ∀H' t',RS Z F IN H' t' Kn (g ())->Bd X ss D (GM (.ref Z.B.r)::σ) H') (hp:jV p2 p4:=by rfl):
  Bd X (.Expr (.Call (.Attribute (.Name "reader" p1) "expect" p2) [.Constant (.str v) j p3] [] p4) p5::ss) D (GM (.ref Z.B.r)::σ) H:=rJ Y R (λr _ ok=>lit.p r ok) q hp
def md {g:Nq->GN β}(Y:RX X Z.a Z.E) (lit:dF v (Gx s)) (R:RS Z F b H t Kn (IQ s>>=g)) (q: ∀H' t',RS Z F IN H' t' Kn (g ())->Bd X ss D (GM (.ref Z.B.r)::σ) H') (hp:jV p2 p4:=by rfl):
  Bd X (.Expr (.Call (.Attribute (.Name "reader" p1) "expect" p2) [.Constant (.str v) j p3] [] p4) p5::ss) D (GM (.ref Z.B.r)::σ) H:=rJ Y R (λr _ ok=>lit.p r ok) q hp
def jp (Y:RX X Z.a Z.E) (R:RS Z F b H t Kn p) (st:be p) (q:GX t≠ .bad->Q (.bl (ng v (GX t))) H) (hp:jV p2 p4:=by rfl):
  Pe X (.Call (.Attribute (.Name "reader" p1) "sees" p2) [.Constant (.str v) j p3] [] p4) (GM (.ref Z.B.r)::σ) H Q:=nN Y R aK [08] (λb=>st.Mp b R.w) q hp
def jS (Y:RX X Z.a Z.E) (R:RS Z F b H t Kn p) (nb:GX t≠ .bad) (q:Q (.bl (ng v (GX t))) H) (hp:jV p2 p4:=by rfl):
  Pe X (.Call (.Attribute (.Name "reader" p1) "sees" p2) [.Constant (.str v) j p3] [] p4) (GM (.ref Z.B.r)::σ) H Q:=nN Y R aK [08] (λb=>G6 b nb) (λ_=>q) hp
def XX {c:HZ->HK}(Y:RX X Z.a Z.E) (d:MD X.K Z.a.HP m f fd ps) (G:b6 X.prog X.w X.K X.mg X.base (jR X.prog X.w) k f fd ps (tF Z.a c)) (hk:k<=8) (hm: ∀n,(sY Z.B.q Z.B.kd Z.B.fn Z.B.ds.p Z.B.bl.p n).lookup m=Ix) (R:RS Z F b H t Kn p) (st:be p) (q:GX t≠ .bad->Q (.bl (c (GX t))) H) (hp:jV p2 p4:=by rfl):
  Pe X (.Call (.Attribute (.Name "reader" p1) m p2) [] [] p4) (GM (.ref Z.B.r)::σ) H Q:=by
 obtain⟨n,S⟩:=R.S;obtain⟨x,t',rfl,tok,Q2,MU,_⟩:=S.wh.first;exact Y.m0 d G hk Y.up S (hm n) #[Z.B.r,Z.B.q,Z.B.kd,Z.B.fn,Z.B.ds,Z.B.bl,n,x,t',KB,S.rd,λb=>st.Mp (Q2.trans b) R.w H R.k,q] hp
def je {g:Nq->GN β}(Y:RX X Z.a Z.E) (R:RS Z F b H (x::r) Kn (HV>>=g)) (nf: ¬j5 x) (q: ∀H',RS Z F IN H' r Kn (g ())->Q (iX x.1) H') (hp:jV p2 p4:=by rfl):
  Pe X (.Call (.Attribute (.Name "reader" p1) "take" p2) [] [] p4) (GM (.ref Z.B.r)::σ) H Q:=by
 obtain⟨n,S⟩:=R.S;exact Y.m0 Y.T.d_D.c (r0 Y.T Y.C) [01] Y.up S KB #[Z.B.r,Z.B.q,Z.B.kd,Z.B.fn,Z.B.ds,Z.B.bl,n,x,r,KB,S.rd,λb=>G6 (.inr b) nf,λ_ H' hp=>q H' (R.past S nf hp R.w)] hp
def rW {e:Jc}{i:GQ}(Y:RX X Z.a Z.E) (he:PE X e (tC (.int i))) (R:RS Z F b H t Kn p) (nb:GX t≠ .bad) (h:p t=Hm i t) (hp:jV p2 p4:=by rfl) (Mu:Hf [e] X.env=[(IR,eval e X.env)]:=by rfl):
  Pe X (.Call (.Attribute (.Name "reader" p1) "fail" p2) [e] [] p4) (GM (.ref Z.B.r)::σ) H Q:=by
 obtain⟨n,S⟩:=R.S;obtain⟨x,t',rfl,tok,Q2,MU,_⟩:=S.wh.first;refine Y.m1 Y.T.Vx.c (gh Y.T Y.C) [01] Y.up S KB #[_,he,Z.B.r,Z.B.q,Z.B.kd,Z.B.fn,Z.B.ds,Z.B.bl,n,x,t',i,KB,S.rd,?_] hp Mu;rw[GG (show¬x.1= .bad from nb)];exact ga h nb R.w H R.k
def p_L (Y:RX X Z.a Z.E) (R:RS Z F b H t Kn p) (st:be p) (h:GX t≠ .bad->di (GX t)=IR->p t=Hm 2 t) (q:GX t≠ .bad->di (GX t)=IN->Q .Ko H) (hp:jV p2 p4:=by rfl):
  Pe X (.Call (.Attribute (.Name "reader" p1) "need_name" p2) [] [] p4) (GM (.ref Z.B.r)::σ) H Q:=by
 obtain⟨n,S⟩:=R.S;obtain⟨x,t',rfl,tok,Q2,MU,_⟩:=S.wh.first;exact Y.m0 Y.T.d_M.c (iL Y.T Y.C) [01] Y.up S KB #[Z.B.r,Z.B.q,Z.B.kd,Z.B.fn,Z.B.ds,Z.B.bl,n,x,t',KB,S.rd,λb=>st.Mp (Q2.trans b) R.w H R.k,λnb e=>ga (h nb e) nb R.w H R.k,q] hp
def xw (Y:RX X Z.a Z.E) (R:RS Z F b H t Kn p) (hb:GX t= .bad->QE Z.a Z.B Z.H0 Z.E 1 (JG t)) (q:GX t≠ .bad->Q (iX (GX t)) H) (hp:jV p2 p4:=by rfl):
  Pe X (.Attribute (.Call (.Attribute (.Name "reader" p1) "current" p2) [] [] p4) "value" p5) (GM (.ref Z.B.r)::σ) H Q:=by
 obtain⟨n,S⟩:=R.S;obtain⟨x,t',rfl,tok,Q2,MU,_⟩:=S.wh.first;refine#[_,az eD KB,Y.m0 Y.T.Vw.c (dG Y.T Y.C) [01] Y.up S KB #[Z.B.r,Z.B.q,Z.B.kd,Z.B.fn,Z.B.ds,Z.B.bl,n,x,t',KB,S.rd,λb=>hb (Q2.trans b) H R.k,λnb c ⟨dx,et⟩=>#[c,_,dx,_,_,KB,et,Y.T.JT,Y.T.Kp,KB,q nb]] hp]
def agm (Y:RX X Z.a Z.E) (R:RS Z F b H t Kn p) (st:be p) (q:GX t≠ .bad->Q (iX (GX t)) H) (hp:jV p2 p4:=by rfl):
  Pe X (.Attribute (.Call (.Attribute (.Name "reader" p1) "current" p2) [] [] p4) "value" p5) (GM (.ref Z.B.r)::σ) H Q:=xw Y R (λb=>st.Mp b R.w) q hp
def RS.cons (R:RS Z F b H t Kn p): ∃x r,t=x::r:=by
 obtain⟨n,S⟩:=R.S;obtain⟨x,t',e,_⟩:=S.wh.first;exact#[x,t',e]
def aaD (Y:RX X Z.a Z.E) (R:RS Z F b H (x::r) Kn p) (nf: ¬j5 x) (q:Q (.bl (mD (GX r))) H) (hp:jV p2 p4:=by rfl):
  Pe X (.Call (.Attribute (.Name "reader" p1) "number_follows" p2) [] [] p4) (GM (.ref Z.B.r)::σ) H Q:=by
 obtain⟨n,S⟩:=R.S;obtain⟨y,r',rfl,_⟩:=(S.wh.tail nf).2.first;exact Y.m0 Y.T.Y3.c (lh Y.T) [01] aC S KB #[Z.B.r,Z.B.q,Z.B.kd,Z.B.fn,Z.B.ds,Z.B.bl,n,x,y,r',KB,S.rd,q] hp
def aaE {te:TE}{C:HK->Hp->Prop}(Y:RX X Z.a Z.E) (R:RS Z F b H t Kn p) (he:PE X e te) (hv: ∀Q:VK,Q (.str (sb u)) H->te (GM (.ref Z.B.r)::σ) H Q) (q:C ((Kn.funs.find? λf=>f.1 == u).isSome) H):
  Pt X (.Compare e [.In] [.Attribute (.Name "reader" p1) "functions" p2] p3) (GM (.ref Z.B.r)::σ) H C:=by
 obtain⟨n,S⟩:=R.S;obtain⟨dr,er⟩:=S.rd.ins;obtain⟨ff,f1,f2⟩:=S.kn.funs;refine#[_,fE (sM (gP Y.hr) he (az Y.rd KB)),hv _ #[Z.B.r,_,dr,_,_,KB,er,Y.T.Ht,Y.T.JV,KB,Z.B.fn,_,KB,kG.k (k:=nk u) f1,_,KB,?_]];rw[f2,JU];exact q
def aaF {te:TE}{C:HK->Hp->Prop}(Y:RX X Z.a Z.E) (R:RS Z F b H t Kn p) (he:PE X e te) (hv: ∀Q:VK,Q (.str (sb u)) H->te (GM (.ref Z.B.r)::σ) H Q) (q:C (!Kn.values.contains u) H):
  Pt X (.Compare e [.NotIn] [.Attribute (.Name "reader" p1) "known" p2] p3) (GM (.ref Z.B.r)::σ) H C:=by
 obtain⟨n,S⟩:=R.S;obtain⟨dr,er⟩:=S.rd.ins;obtain⟨kk,k1,k2,k3⟩:=S.kn.vals;refine#[_,fE (qG (gP Y.hr) he (az Y.rd KB)),hv _ #[Z.B.r,_,dr,_,_,KB,er,Y.T.Ht,Y.T.K8,KB,Z.B.kd,_,KB,kG.k (k:=nk u) k1,_,KB,?_]];have:=k3 u;unfold has at this;rw[this];exact q
def uu (i:GQ) {g:Gz->GN β}(Y:RX X Z.a Z.E) (R:RS Z F b H t Kn (Ig Kn>>=g)) (q: ∀u H' t',dF (sb u) u->HU.contains u=IR->Kn.taken u=IR->RS Z F IN H' t' Kn (g u)->Bd X ss D ((GM (.ref Z.B.r)::σ).set i (GM (.str (sb u)))) H')
  (h:Sl X i y:=by exact#[KB,HF KB,KB]) (hp:jV p2 p4:=by rfl):
  Bd X (.Assign [.Name y p0] (.Call (.Attribute (.Name "reader" p1) "take_free_name" p2) [] [] p4) p5::ss) D (GM (.ref Z.B.r)::σ) H:=by
 obtain⟨n,S⟩:=R.S;obtain⟨dr,er⟩:=S.rd.ins;obtain⟨⟨x,xp⟩,t',rfl,tok,Q2,MU,_⟩:=S.wh.first;obtain⟨kk,k1,k2,k3⟩:=S.kn.vals;obtain⟨ff,f1,f2⟩:=S.kn.funs;have hW:=R.w;rw[de] at hW;have tk: ∀u,(has kk u||has ff u)=Kn.taken u:=λu=>by
  unfold OA;rw[k3]
  congr 1
  unfold has;rw[f2,JU,Iv,NQ,KY]
 refine aW i Y.nd (Y.m0 Y.T.Y6.c (kz Y.T Y.C) [01] Y.up S KB #[Z.B.r,Z.B.q,Z.B.kd,Z.B.fn,Z.B.ds,Z.B.bl,n,(x,xp),t',kk,ff,KB,S.rd,k1,f1,λb=>(gz Kn).Mp (Q2.trans b) hW H R.k,λnb e=>?_,λu ex e e4=>?_,λu ex e e4 H' hp=>?_] hp) h
 .refine ga (p:=Ig Kn) (n:=2) (t:=(x,xp)::t') ?_ nb hW H R.k
  cases x with
  |word u=>
   rw[dU] at e;have RK:HU.contains u=IN:=by cases h:HU.contains u;rw[h] at e;cases e;rfl
   exact i9 RK
  |num m=>rfl
  |sign s=>rfl
  |eof=>rfl
  |bad=>exact G6 KB nb
 .obtain rfl:x= .word u:=ex
  rw[dU] at e;have RK:HU.contains u=IR:=by cases h:HU.contains u;rfl;rw[h] at e;cases e
  refine ga (p:=Ig Kn) (n:=4) (t:=(.word u,xp)::t') ?_ (λz=>nomatch z) hW H R.k
  rw[fh RK,GI (by rw[<-tk];exact e4)]
 .obtain rfl:x= .word u:=ex
  rw[dU] at e;have RK:HU.contains u=IR:=by cases h:HU.contains u;rfl;rw[h] at e;cases e
  have ft:Kn.taken u=IR:=by rw[<-tk];exact e4
  have en:Ig Kn ((.word u,xp)::t')= .ok (u,t'):=by
   rw[fh RK,GG (by rw[ft];exact Gu)]
  rw[wb en] at hW;exact q u H' t' #[KB,tok.1,tok.2] RK ft (R.past S (λz=>z.elim (λz=>nomatch z) λz=>nomatch z) hp hW)
def jI (i:GQ) {g:Gz->GN β}(Y:RX X Z.a Z.E) (R:RS Z F b H t Kn (Ig Kn>>=g)) (q: ∀u H' t',Kn.taken u=IR->RS Z F IN H' t' Kn (g u)->Bd X ss D ((GM (.ref Z.B.r)::σ).set i (GM (.str (sb u)))) H')
  (h:Sl X i y:=by exact#[KB,HF KB,KB]) (hp:jV p2 p4:=by rfl):
  Bd X (.Assign [.Name y p0] (.Call (.Attribute (.Name "reader" p1) "take_free_name" p2) [] [] p4) p5::ss) D (GM (.ref Z.B.r)::σ) H:=uu i Y R (λu H' t' _ _=>q u H' t') h hp
def kj (h:Kn.taken u=IR):Kn.values.contains u=IR:=(MP.mp h).1
def ik {te:TE}(Y:RX X Z.a Z.E) (he:PE X e te) (hv: ∀Q:VK,Q (.str (sb u)) H->te (GM (.ref Z.B.r)::σ) H Q) (ft:Kn.taken u=IR) (hm:Kn.values.length+Z.L<=4000) (R:RS Z F IN H t Kn p)
  (q: ∀H',RS Z F IN H' t (Kn.with u) p->Bd X ss D (GM (.ref Z.B.r)::σ) H') (hp:jV p2 p4:=by rfl) (Mu:Hf [e] X.env=[(IR,eval e X.env)]:=by rfl):
  Bd X (.Expr (.Call (.Attribute (.Name "reader" p1) "learn" p2) [e] [] p4) p5::ss) D (GM (.ref Z.B.r)::σ) H:=by
 obtain⟨n,S⟩:=R.S;obtain⟨dr,er⟩:=S.rd.ins;obtain⟨kk,k1,k2,k3⟩:=S.kn.vals;have l:=R.l;have l:t.length+1<=Z.L:=l;refine dQ (Y.m1 Y.T.Y8.c (C7 Y.T) [01] aC S KB #[_,he,hv _ #[Z.B.r,dr,Z.B.q,Z.B.kd,Z.B.fn,Z.B.ds,Z.B.bl,n,u,kk,KB,er,k1,HH (show kk.length<=4000 by lia) [01],?_]] hp Mu);exact q _ (R.go (S.agk (kj ft) (by lia) k1) (fC (.inr (.inl KB))) l R.w)
def mw {te:TE}(Y:RX X Z.a Z.E) (he:PE X e te) (hv: ∀Q:VK,Q (.str (sb u)) H->te (GM (.ref Z.B.r)::σ) H Q) (ft:Kn.taken u=IR) (R:RS Z F b H t (Kn.with u) p)
  (q: ∀H',RS Z F b H' t Kn p->Bd X ss D (GM (.ref Z.B.r)::σ) H') (hp:jV p2 p4:=by rfl) (Mu:Hf [e] X.env=[(IR,eval e X.env)]:=by rfl):
  Bd X (.Expr (.Call (.Attribute (.Name "reader" p1) "forget" p2) [e] [] p4) p5::ss) D (GM (.ref Z.B.r)::σ) H:=by
 obtain⟨n,S⟩:=R.S;obtain⟨dr,er⟩:=S.rd.ins;obtain⟨kk,k1,k2,k3⟩:=S.kn.vals;obtain⟨hu,S'⟩:=S.forget (kj ft) k1;refine dQ (Y.m1 Y.T.Wk.c (qv Y.T) [01] aC S KB #[_,he,hv _ #[Z.B.r,dr,Z.B.q,Z.B.kd,Z.B.fn,Z.B.ds,Z.B.bl,n,u,kk,KB,er,k1,hu,?_]] hp Mu);exact q _ (R.go S' (fC (.inr (.inl KB))) R.l R.w)
def RX.call2 {sp:Sp}{te:TE}(Y:RX X a E) (c:CB X x ["reader","depth"] sp) (he:PE X e te) (hx:(x == ("__debug__":Ha))=IR) (Mu:Hf [e] X.env=[(IR,eval e X.env)]):PE X (.Call (.Name x p1) [.Name "reader" p2,e] [] p4) (iV sp [] E (fz (ei 0) (fz te j9))):=by
 obtain⟨G,hr,d,hg⟩:=c;exact aq G hr hg d Y.up (aa Y.rd (aa he ac Mu) (by show _::Hf [e] X.env=_;rfl)) hx KB (by rw[Mu];rfl)
end
def RoX (a:bI) (B:Rb) (H0:Hp) (L:GQ) (Kn:GF) (Q:VK) (e:GD) (t:GA):Prop:= ∀H' v n,t.length<L->fU a B H' n t Kn->dj (fG B) H0 H'->ag a (fG B) H' e v->Q v H'
def Rz (w2:HK) (a:bI) (B:Rb) (H0:Hp) (L:GQ) (Kn:GF) (Q:VK) (E:XK) (e:GD) (t:GA):Prop:=if w2=IN/\GX t= .bad then QE a B H0 E 1 (JG t) else RoX a B H0 L Kn Q e t
inductive bv (a:bI) (w2:HK) (p:GQ->GQ->GF->GN GD) (c:GQ) (ok:GQ->GF->GA->Prop) (vs:Gr V) (H:Hp) (Q:VK) (E:XK):Prop
 |mk (B:Rb) (n:GQ) (t:GA) (Kn:GF) (d:GQ) (fuel:GQ) (_:vs=[.ref B.r, .int d]) (_:d<=12) (_:ok d Kn t) (_:fU a B H n t Kn) (_:16*t.length+c<=fuel) (_:W (p fuel (12-d) Kn) t (Rz w2 a B H t.length Kn Q E) (QE a B H E)):bv a w2 p c ok vs H Q E
def Lv (j:GQ):GQ->GF->GA->Prop:=λd _ _=>13<=d+j
def LvS (j:GQ) (s:Gz):GQ->GF->GA->Prop:=λd _ t=>13<=d+j/\GX t= .sign s
def LvW (j:GQ) (s:Gz):GQ->GF->GA->Prop:=λd _ t=>13<=d+j/\GX t= .word s
def LvC (j:GQ):GQ->GF->GA->Prop:=λd K t=>13<=d+j/\ ∃u f,GX t= .word u/\u≠Gx "sum"/\HU.contains u=IR/\K.funs.find? (λf=>f.1 == u)=GM f
section
variable {k:GQ}{w2:HK}{pp:GQ->GQ->GF->GN GD}{c:GQ}{ok:GQ->GF->GA->Prop}{x Ja:Ha}{st:Stmt}{f:GB}{fd:Ia}{N:Gr Ha}{ps:Gr Ha}
def kM {s:GH}{H:Hp}{E:XK}(T:Txt K mg a) (XC:XT K a) (hk:8<=k) (S:ax N ("reader"::ps) (ah st)) (hr:cx k (A.deeper (Lg Ja (ah st) s.heap.objs.size f IF))):
  RX (gU (jR P w) P w K mg base N Ja (ah st) f IF A outer s H E) a E:=
 #[T,XC,hr.mono hk,bN,Tb,S.nd,by
  have e:=S.pre;cases N with
  |nil=>cases e
  |cons x l=>exact Hv GM (Nr e).1,(S.par "reader" GW).elim .inl λz=> .inr (.inl z)]
def xf (T:Txt K mg a) (XC:XT K a) (hk:8<=k) (F:sd K x Ja st f fd) (S:ax N ["reader","depth"] (ah st))
  (K9: ∀(IF:GC) (A:IE) (outer:Gr Env) (s:GH) (H:Hp) (B:Rb) (t:GA) (Kn:GF) (d fuel:GQ) (Q:VK) (E:XK),cx k (A.deeper (Lg Ja (ah st) s.heap.objs.size f IF))->d<=12->ok d Kn t->16*t.length+c<=fuel->Kn.values.length+t.length<=4000->
   let X:=gU (jR P w) P w K mg base N Ja (ah st) f IF A outer s H E
   let D:dB:= { nx:=λ_ H'=>Q .Ko H',rt:=Q }
   let Z:Zf GD:=#[a,E,B,t.length,H,Rz w2 a B H t.length Kn Q E]
   RX X a E->RS Z [] IR H t Kn (pp fuel (12-d) Kn)->Bd X (bq st) D (L2.start N [.ref B.r, .int d]) H):b6 P w K mg base (jR P w) (k+1) f fd ["reader","depth"] (bv a w2 pp c ok):=by
 refine kr F S [03] [02];obtain⟨B,n,t,Kn,d,fuel,rfl,hd,ho,St,hf,hW⟩:=h;exact K9 IF A outer s H B t Kn d fuel Q E hr hd ho hf St.kn.len (kM T XC hk S hr) #[#[n,St],dj.refl,λ{i x} e=>(by cases e),GY _,hW]
end
section
variable {X:Cx}{β:Type}{Z:Zf β}{F:Gr (Fk×V)}{b:HK}{H:Hp}{t:GA}{Kn:GF}{D:dB}{ss:Gr Stmt}{σ:L2.St}{p0 p1 p2 p3 p4 p5:Pos}{j:GQ}{v y:Ha}{s:String}{E:XK}{d:GQ}
def RS.done {H0:Hp}{w2:HK}{Q:VK}{v:V}(R:RS #[a,E,B,L,H0,Rz w2 a B H0 L Kn Q E] F IN H t Kn (pure e)) (h:ag a (fG B) H e v) (nb:w2=IN->GX t≠ .bad:=by intro z;cases z):Q v H:=by
 obtain⟨n,S⟩:=R.S;have w:=R.w;rw[c7] at w;have w:Rz w2 a B H0 L Kn Q E e t:=w;unfold Rz at w;rw[GG λz=>nb z.1 z.2] at w;exact w H v n R.l S R.k h
def RS.tail {w2:HK}{Q:VK}{pp:GQ->GQ->GF->GN GD}{c f:GQ}{ok:GQ->GF->GA->Prop}(R:RS #[a,E,B,t.length,H,Rz w2 a B H t.length Kn Q E] F b H t Kn (pp f (12-d) Kn)) (hd:d<=12) (ho:ok d Kn t) (hf:16*t.length+c<=f):bv a w2 pp c ok [.ref B.r, .int d] H Q E:=by
 obtain⟨n,S⟩:=R.S;exact#[B,n,t,Kn,d,f,KB,hd,ho,S,hf,R.w]
def Au (i:GQ) {g:GQ->GN β}(Y:RX X Z.a Z.E) (hd:d<=12) (nb:GX t≠ .bad) (R:RS Z F b H t Kn (IY (12-d)>>=g)) (q:d<12->RS Z F b H t Kn (g (12-(d+1)))->Bd X ss D ((GM (.ref Z.B.r)::GM (.int d)::σ).set i (GM (.int ((d+1:GQ):Int)))) H)
  (h:Sl X i y:=by exact#[KB,HF KB,KB]) (h1:X.N[1]?=GM ("depth":Ha):=by rfl) (v1:tu X.env.scope "depth":=by exact HF KB) (hg:Gl X "deeper":=by rfl):
  Bd X (.Assign [.Name y p0] (.Call (.Name "deeper" p1) [.Name "reader" p2, .Name "depth" p3] [] p4) p5::ss) D (GM (.ref Z.B.r)::GM (.int d)::σ) H:=by
 obtain⟨n,S⟩:=R.S;obtain⟨⟨x,xp⟩,t',rfl,tok,Q2,MU,_⟩:=S.wh.first;have hW:=R.w;rw[de] at hW;have nx:x≠ .bad:=nb;refine aW i Y.nd (h:=h) #[_,Y.call2 #[aj6 Y.T Y.C,Y.hr.mono [01],Y.T.d_g.c,hg] (iM h1 v1) [01] KB,Z.B.r,Z.B.q,Z.B.kd,Z.B.fn,Z.B.ds,Z.B.bl,n,(x,xp),t',d,KB,S.rd,λe=>?_,λe=>?_]
 .rw[GG nx]
  exact ga (p:=IY (12-d)) (n:=6) (by unfold IY;rw[GI (by lia)]) nb hW H R.k
 .have ed:IY (12-d) ((x,xp)::t')= .ok (12-(d+1),(x,xp)::t'):=by unfold IY;rw[GG (by lia),show 12-d-1=12-(d+1) by lia]
  rw[wb ed] at hW;exact q (by lia) #[R.S,R.k,R.f,R.l,hW]
def En (Z:Zf β) (g:GD->GN β):Prop:= ∀e r,GX r= .bad->W (g e) r Z.Ro (QE Z.a Z.B Z.H0 Z.E)->QE Z.a Z.B Z.H0 Z.E 1 (JG r)
def n8 {g:GD->GN β}(h: ∀e,be (g e)):En Z g:=λe _ nb w=>(h e).Mp nb w
def aj8 {H0:Hp}{Q:VK}{g:GD->GD} :En #[a,E,B,L,H0,Rz IN a B H0 L Kn Q E] (λy=>pure (g y)):=λe r nb w=>by
 rw[c7] at w;have w:Rz IN a B H0 L Kn Q E (g e) r:=w;unfold Rz at w;rw[GI #[KB,nb]] at w;exact w
def RS.Ul {w2:HK}{g:GD->GN β}{pp:GQ->GQ->GF->GN GD}{c f:GQ}{ok:GQ->GF->GA->Prop}{Q:VK}(R:RS Z F b H t Kn (pp f (12-d) Kn>>=g)) (st:w2=IN->En Z g) (hd:d<=12) (ho:ok d Kn t) (hf:16*t.length+c<=f)
  (q: ∀e v H' t',(w2=IN->GX t'≠ .bad)->RS Z ((.e e,v)::F) IN H' t' Kn (g e)->Q v H'):bv Z.a w2 pp c ok [.ref Z.B.r, .int d] H Q Z.E:=by
 obtain⟨n,S⟩:=R.S;have hW:=R.w;rw[de] at hW;have l:t.length<=Z.L:=G0 (JO _ _) R.l;refine#[Z.B,n,t,Kn,d,f,KB,hd,ho,S,hf,hW.mono (λe r w=>?_) λ_ _ z H' k=>z H' (R.k.trans k)];unfold Rz;by_cases nb:w2=IN/\GX r= .bad
 .rw[GI nb]
  exact λH' k=>st nb.1 e r nb.2 w H' (R.k.trans k)
 .rw[GG nb]
  exact λH' v n' l' S' k' h=>q e v H' r (λh z=>nb #[h,z]) ((R.go (b':=IN) S' k' (show r.length+1<=Z.L by lia) w).and h)
def RS.call {g:GD->GN β}{pp:GQ->GQ->GF->GN GD}{c f:GQ}{ok:GQ->GF->GA->Prop}{Q:VK}(R:RS Z F b H t Kn (pp f (12-d) Kn>>=g)) (st:En Z g) (hd:d<=12) (ho:ok d Kn t) (hf:16*t.length+c<=f)
  (q: ∀e v H' t',GX t'≠ .bad->RS Z ((.e e,v)::F) IN H' t' Kn (g e)->Q v H'):bv Z.a IN pp c ok [.ref Z.B.r, .int d] H Q Z.E:=R.Ul (λ_=>st) hd ho hf λe v H' t' nb=>q e v H' t' (nb KB)
def RS.agn {g:GD->GN β}{pp:GQ->GQ->GF->GN GD}{c f:GQ}{ok:GQ->GF->GA->Prop}{Q:VK}(R:RS Z F b H t Kn (pp f (12-d) Kn>>=g)) (hd:d<=12) (ho:ok d Kn t) (hf:16*t.length+c<=f)
  (q: ∀e v H' t',RS Z ((.e e,v)::F) IN H' t' Kn (g e)->Q v H'):bv Z.a IR pp c ok [.ref Z.B.r, .int d] H Q Z.E:=R.Ul (λz=>nomatch z) hd ho hf λe v H' t' _=>q e v H' t'
def eX (i:GQ) {x:Ha}{g:GD->GN β}{pp:GQ->GQ->GF->GN GD}{c f:GQ}{ok:GQ->GF->GA->Prop}{te:TE}(Y:RX X Z.a Z.E) (cl:CB X x ["reader","depth"] (bv Z.a IN pp c ok)) (he:PE X e te) (hv: ∀Q:VK,Q (.int d) H->te (GM (.ref Z.B.r)::σ) H Q)
  (R:RS Z F IN H t Kn (pp f (12-d) Kn>>=g)) (st:En Z g) (hd:d<=12) (ho:ok d Kn t) (hf:16*Z.L+c<=f+16)
  (q: ∀e v H' t',RS Z ((.e e,v)::F) IN H' t' Kn (g e)->Bd X ss D ((GM (.ref Z.B.r)::σ).set i (GM v)) H')
  (h:Sl X i y:=by exact#[KB,HF KB,KB]) (hx:(x == ("__debug__":Ha))=IR:=by decide) (Mu:Hf [e] X.env=[(IR,eval e X.env)]:=by rfl):
  Bd X (.Assign [.Name y p0] (.Call (.Name x p1) [.Name "reader" p2,e] [] p4) p5::ss) D (GM (.ref Z.B.r)::σ) H:=by
 have l:t.length+1<=Z.L:=R.l;refine aW i Y.nd #[_,Y.call2 cl he hx Mu,?_] h;exact hv _ (R.call st hd ho (by lia) λe v H' t' _ R'=>q e v H' t' R')
def RX.make {c:Ha}{C:GB}{fs:Gr Ha}{e:Jc}{es:Gr Jc}{tt:TA}(Y:RX X a E) (nb:NB X c C fs) (ha:PA X (e::es) tt) (hg:Gl X c) (hx:(c == ("__debug__":Ha))=IR) (he:Hf (e::es) X.env=(IR,eval e X.env)::Hf es X.env) (MU:(J9 p4 (Hf es X.env)).any (·.1)=IR):
  PE X (.Call (.Name c p1) (e::es) [] p4) (Xt C (mi C fs) [] E0 tt):=by
 obtain⟨M,G,b,hm⟩:=nb;exact kX M G (Y.hr.mono [01]) hg hm b .nil aC ha hx he MU
def j8 {c:Ha}{C:GB}{fs:Gr Ha}{e:Jc}{es:Gr Jc}{Q:VK}(Y:RX X a E) (nb:NB X c C fs) (q:Pa X (e::es) σ H λws H1=> ∀x dx,H1 x=Ix->H1 dx=Ix->dx≠x->mi C fs (.ref x::(ws++[])) (bf (bf H1 dx (.own x)) x (.ins C dx [])) (λv H2=>v= .Ko/\Q (.ref x) H2) E0)
  (hg:Gl X c:=by rfl) (hx:(c == ("__debug__":Ha))=IR:=by decide) (he:Hf (e::es) X.env=(IR,eval e X.env)::Hf es X.env:=by rfl) (MU:(J9 p4 (Hf es X.env)).any (·.1)=IR:=by rfl):Pe X (.Call (.Name c p1) (e::es) [] p4) σ H Q:=#[_,Y.make nb uZ hg hx he MU,q]
def RS.new {p:GN β}{Q:VK}(R:RS Z F b H t Kn p) (hl:ws.length=fs.length) (q: ∀u H',bP (fG Z.B) H' C (fs.zip ws) u->RS Z F b H' t Kn p->Q u H'):
  ∀x dx,H x=Ix->H dx=Ix->dx≠x->mi C fs (.ref x::(ws++[])) (bf (bf H dx (.own x)) x (.ins C dx [])) (λv H2=>v= .Ko/\Q (.ref x) H2) E0:=λx dx hx WM ne=>by
 obtain⟨n,S⟩:=R.S;refine#[x,dx,ws++[],KB,by rw[G7];exact hl,aj,λH' h1 h2=>#[KB,?_]];rw[G7] at h1;have sm:aI H H':=λb o e=>h2 b o (by rw[af (aw e hx),af (aw e WM)];exact e) (aw e hx);exact q _ H' #[x,dx,KB,S.fresh hx,h1] (R.go (S.same sm) (OS.aI.keeps sm) R.l R.w)
def iA {p:GN β}{c:Ha}(Y:RX X Z.a Z.E) (nb:NB X c C fs) (ha:PA X (e::es) tt) (hv: ∀Q:Gr V->Hp->Prop,Q ws H->tt σ H Q) (R:RS Z F b H t Kn p) (hl:ws.length=fs.length) (q: ∀u H',bP (fG Z.B) H' C (fs.zip ws) u->RS Z F b H' t Kn p->D.rt u H')
  (hg:Gl X c:=by rfl) (hx:(c == ("__debug__":Ha))=IR:=by decide) (he:Hf (e::es) X.env=(IR,eval e X.env)::Hf es X.env:=by rfl) (MU:(J9 p4 (Hf es X.env)).any (·.1)=IR:=by rfl):
  Bd X [.Return (GM (.Call (.Name c p1) (e::es) [] p4)) p5] D σ H:=aae (aB (Y.make nb ha hg hx he MU)) (hv _ (R.new hl q))
end
def AD:eV "(" (Gx "("):=#[by decide+kernel,by decide+kernel]
def wr:eV ")" (Gx ")"):=#[by decide+kernel,by decide+kernel]
def wP:dF "sum" (Gx "sum"):=#[by decide+kernel,by decide+kernel,by decide+kernel]
def XY:dF "in" (Gx "in"):=#[by decide+kernel,by decide+kernel,by decide+kernel]
def XZ:eV ".." (Gx ".."):=#[by decide+kernel,by decide+kernel]
def X0:eV ":" (Gx ":"):=#[by decide+kernel,by decide+kernel]
def tD {Kn:GF}{t:GA} :Ic (f+1) d Kn ((.word (Gx "sum"),xp)::t)=
  (IY d>>=λe=>HV>>=λ_=>Hw "(">>=λ_=>Ig Kn>>=λx=>IQ "in">>=λ_=>Hd f e Kn>>=λlo=>Hw "..">>=λ_=>Hd f e Kn>>=λhi=>Hw ":">>=λ_=>
   Hd f e (Kn.with x)>>=λy=>Hw ")">>=λ_=>pure (.sum x lo hi y):GN GD) ((.word (Gx "sum"),xp)::t):=by
 rw[Ic];show(if Gx "sum"=Gx "sum" then _ else _)=_
 rw[GI KB]
def yG:dF "if" (Gx "if"):=#[by decide+kernel,by decide+kernel,by decide+kernel]
def FI:dF "then" (Gx "then"):=#[by decide+kernel,by decide+kernel,by decide+kernel]
def sf:dF "else" (Gx "else"):=#[by decide+kernel,by decide+kernel,by decide+kernel]
def Fx {Kn:GF}{t:GA} :Hd (f+1) d Kn ((.word (Gx "if"),xp)::t)=
  (IY d>>=λe=>HV>>=λ_=>Hd f e Kn>>=λc=>IQ "then">>=λ_=>Hd f e Kn>>=λx=>IQ "else">>=λ_=>Hd f e Kn>>=λy=>pure (.pick c x y):GN GD) ((.word (Gx "if"),xp)::t):=by
 rw[Hd];show(if GP ((.word (Gx "if"),xp)::t) "if"=IN then _ else _)=_
 rw[GI (by unfold GP;exact IK _)]
def wF {Kn:GF}{t:GA} :Ic (f+1) d Kn ((.sign (Gx "("),xp)::t)=
  (IY d>>=λe=>HV>>=λ_=>Hd f e Kn>>=λx=>Hw ")">>=λ_=>pure x:GN GD) ((.sign (Gx "("),xp)::t):=by
 rw[Ic];show(if Hy ((.sign (Gx "("),xp)::t) "("=IN then _ else _)=_
 rw[GI (by unfold Hy;exact IK _)]
def fP {β:Type}{Z:Zf β}{F:Gr (Fk×V)}{b:HK}{H:Hp}{t:GA}{Kn:GF}{p:GN β}(R:RS Z F b H t Kn p) (h:GX t= .word u): ∃xp r,t=(.word u,xp)::r:=by
 obtain⟨n,S⟩:=R.S;obtain⟨⟨x,xp⟩,r,rfl,_,_,_,_⟩:=S.wh.first;exact#[xp,r,by rw[show x= .word u from h]]
def xE {β:Type}{Z:Zf β}{F:Gr (Fk×V)}{b:HK}{H:Hp}{t:GA}{Kn:GF}{p:GN β}(R:RS Z F b H t Kn p) (h:GX t= .sign u): ∃xp r,t=(.sign u,xp)::r:=by
 obtain⟨n,S⟩:=R.S;obtain⟨⟨x,xp⟩,r,rfl,_,_,_,_⟩:=S.wh.first;exact#[xp,r,by rw[show x= .sign u from h]]
def D8 (h:16*L+c<=f) (hc:6<=c): ∃g,f=g+1/\16*L+12<=g+16:=#[f-1,by lia,by lia]
section
variable {β:Type}{Z:Zf β}{H:Hp}
def jt {g:Nq->GN β}(Y:RX X Z.a Z.E) (l:dF v (Gx s)) (R:RS Z F b H ((.word (Gx s),xp)::t) Kn (HV>>=g)) (q: ∀H' t',RS Z F IN H' t' Kn (g ())->Bd X ss D (GM (.ref Z.B.r)::σ) H') (hp:jV p2 p4:=by rfl):
  Bd X (.Expr (.Call (.Attribute (.Name "reader" p1) "expect" p2) [.Constant (.str v) j p3] [] p4) p5::ss) D (GM (.ref Z.B.r)::σ) H:=
 rJ Y R (λr e ok=>by
  cases e;exact DD t (by rw[cz ok l];exact IK _) (by intro z;cases z) (by intro z;cases z with|inl z=>cases z|inr z=>cases z)) q hp
def Cs {g:Nq->GN β}(Y:RX X Z.a Z.E) (l:eV v (Gx s)) (R:RS Z F b H ((.sign (Gx s),xp)::t) Kn (HV>>=g)) (q: ∀H' t',RS Z F IN H' t' Kn (g ())->Bd X ss D (GM (.ref Z.B.r)::σ) H') (hp:jV p2 p4:=by rfl):
  Bd X (.Expr (.Call (.Attribute (.Name "reader" p1) "expect" p2) [.Constant (.str v) j p3] [] p4) p5::ss) D (GM (.ref Z.B.r)::σ) H:=
 rJ Y R (λr e ok=>by
  cases e;exact DD t (by rw[dg ok l];exact IK _) (by intro z;cases z) (by intro z;cases z with|inl z=>cases z|inr z=>cases z)) q hp
end
def ago (T:Txt K mg a) (XC:XT K a) (hk:8<=k)
  (G:T.Se.O P w base k (bv a IN Hd 12 (Lv j))):
  T.Wo.O P w base (k+1) (bv a IR Ic 6 (LvW (j+1) (Gx "sum"))):=by
 refine xf T XC hk T.Wo.F afJ λIF A outer s H B t Kn d fuel Q E hr hd ho hf hm=>?_;intro X D Z Y R;obtain⟨hl,h0⟩:=ho;obtain⟨xp,r,rfl⟩:=fP R h0;obtain⟨f,rfl,hF⟩:=D8 hf [01];have c:CB X "read_exp" ["reader","depth"] (bv a IN Hd 12 (Lv j)):=#[G,hr,T.Se.c,KB];have hl:13<=d+1+j:=by rw[NC];exact hl
 refine Au 2 Y hd (by intro z;cases z) (R.as tD) λlt R=>?_;refine jt Y wP R λH t R=>?_;refine db Y AD R λH t R=>?_;refine jI 3 Y R λu H t ft R=>?_;refine md Y XY R λH t R=>?_;refine eX 4 Y c (pv 2) [08] R (n8 λx=>(bB "..").bind) lt hl hF λe1 v1 H t R=>?_;refine db Y XZ R λH t R=>?_;refine eX 5 Y c (pv 2) [08] R (n8 λx=>(bB ":").bind) lt hl hF λe2 v2 H t R=>?_;refine db Y X0 R λH t R=>?_;refine ik Y (pv 3) [08] ft hm R λH R=>?_;refine eX 6 Y c (pv 2) [08] R (n8 λx=>(bB ")").bind) lt hl hF λe3 v3 H t R=>?_;refine mw Y (pv 3) [08] ft R λH R=>?_;refine db Y wr R λH t R=>?_;refine iA Y (Dn T) (aa (pv 3) (aa (pv 4) (aa (pv 5) (aa (pv 6) ac)))) [08] R KB λu H i R=>R.done ?_;unfold ag;exact#[v1,v2,v3,i,R.f (i:=2) KB,R.f (i:=1) KB,R.f (i:=0) KB]
def agp (T:Txt K mg a) (XC:XT K a) (hk:8<=k)
  (G:T.Se.O P w base k (bv a IN Hd 12 (Lv j))):
  T.Wn.O P w base (k+1) (bv a IR Ic 6 (LvS (j+1) (Gx "("))):=by
 refine xf T XC hk T.Wn.F afI λIF A outer s H B t Kn d fuel Q E hr hd ho hf hm=>?_;intro X D Z Y R;obtain⟨hl,h0⟩:=ho;obtain⟨xp,r,rfl⟩:=xE R h0;obtain⟨f,rfl,hF⟩:=D8 hf [01];have c:CB X "read_exp" ["reader","depth"] (bv a IN Hd 12 (Lv j)):=#[G,hr,T.Se.c,KB];have hl:13<=d+1+j:=by rw[NC];exact hl
 refine Au 2 Y hd (by intro z;cases z) (R.as wF) λlt R=>?_;refine Cs Y AD R λH t R=>?_;refine eX 3 Y c (pv 2) [08] R (n8 λx=>(bB ")").bind) lt hl hF λe v H t R=>?_;refine db Y wr R λH t R=>?_;exact aD (bW 3 (R.done (R.f (i:=0) KB)))
def agq (T:Txt K mg a) (XC:XT K a) (hk:8<=k)
  (G:T.Se.O P w base k (bv a IN Hd 12 (Lv j))):
  T.Wl.O P w base (k+1) (bv a IN Hd 12 (LvW (j+1) (Gx "if"))):=by
 refine xf T XC hk T.Wl.F afF λIF A outer s H B t Kn d fuel Q E hr hd ho hf hm=>?_;intro X D Z Y R;obtain⟨hl,h0⟩:=ho;obtain⟨xp,r,rfl⟩:=fP R h0;obtain⟨f,rfl,hF⟩:=D8 hf [01];have c:CB X "read_exp" ["reader","depth"] (bv a IN Hd 12 (Lv j)):=#[G,hr,T.Se.c,KB];have hl:13<=d+1+j:=by rw[NC];exact hl
 refine Au 2 Y hd (by intro z;cases z) (R.as Fx) λlt R=>?_;refine jt Y yG R λH t R=>?_;refine eX 3 Y c (pv 2) [08] R (n8 λx=>(fB "then").bind) lt hl hF λe1 v1 H t R=>?_;refine md Y FI R λH t R=>?_;refine eX 4 Y c (pv 2) [08] R (n8 λx=>(fB "else").bind) lt hl hF λe2 v2 H t R=>?_;refine md Y sf R λH t R=>?_;have l:t.length+1<=Z.L:=R.l;refine aD (j8 Y (qJ T) (aX (bW 3 (aX (bW 4 (aX #[_,Y.call2 c (pv 2) [01] KB,R.call aj8 lt hl (by lia) λe3 v3 H t nb R=>ca (R.new KB λu H i R=>R.done ?_ λ_=>nb)]))))));unfold ag;exact#[v1,v2,v3,i,R.f (i:=2) KB,R.f (i:=1) KB,R.f (i:=0) KB]
end OS
namespace OS
open Vbemac
def ors (f d:GQ) (Kn:GF):GN GD:=do
 let x<-ands f d Kn
 let l<-moreOr f d Kn
 return (match l with
  | .nil=>x
  |l=> .either x l)
abbrev Pairs:=Gr (HD×Exp)
def wl:Pairs->Exps->Exps
 |[],l=>l
 |x::r,l=> .cons x.2 (wl r l)
def wV:Pairs->Rest->Rest
 |[],l=>l
 |x::r,l=> .cons x.1 x.2 (wV r l)
def ug:wl (es++[x]) l=wl es (.cons x.2 l):=by
 induction es with
 |nil=>rfl
 |cons y r ih=>show Exps.cons y.2 (wl (r++[x]) l)=_;rw[ih];rfl
def vx:wV (es++[x]) l=wV es (.cons x.1 x.2 l):=by
 induction es with
 |nil=>rfl
 |cons y r ih=>show Rest.cons y.1 y.2 (wV (r++[x]) l)=_;rw[ih];rfl
def bU {α β:Type}{p:P α}{g:α->P β}{x:α}(h:p t= .ok (x,r)):(p>>=g) t=g x r:=by
 show Hh p g t=_
 unfold Hh;rw[h]
 rfl
def kH {α β:Type}{p q:P α}{g:α->P β}(e:p t=q t'):(p>>=g) t=(q>>=g) t':=by
 show Hh p g t=Hh q g t'
 unfold Hh;rw[e]
structure ChP (p sub:GQ->GQ->Known->P Exp) (c c':GQ) (sg:Gr HD) (once:HK) (res:Exp->Pairs->Exp) where
 q:GQ->GQ->Known->Exp->Pairs->P Exp
 start: ∀ {fuel d:GQ}{Kn:Known}{n:GQ},16*n+c<=fuel-> ∃f,16*n+c'<=f/\p fuel d Kn=(sub f d Kn>>=λe=>q f d Kn e [])
 P1: ∀f d Kn e es,iJ (q f d Kn e es)
 stop: ∀ {f d:GQ}{Kn:Known}{e:Exp}{es:Pairs}{t:Jn},1<=f->(once=IN->es.length<=1)->(once=IN/\es≠[]\/ ∀op,peek t= .sign op->op∉sg)->q f d Kn e es t= .ok (res e es,t)
 go: ∀ {f d:GQ}{Kn:Known}{e:Exp}{es:Pairs}{x:Tok×Pos}{t:Jn}{op:HD},16*(t.length+1)+c'<=f->(once=IN->es=[])->x.1= .sign op->op∈sg-> ∃f',16*t.length+c'<=f'/\q f d Kn e es (x::t)=(sub f' d Kn>>=λe2=>q f' d Kn e (es++[(op,e2)])) t
def FC (e:Exp):Exps->Exp
 | .nil=>e
 |l=> .either e l
def bth (e:Exp):Exps->Exp
 | .nil=>e
 |l=> .both e l
def sms (e:Exp):Rest->Exp
 | .nil=>e
 |l=> .sums e l
def prs (e:Exp):Rest->Exp
 | .nil=>e
 |l=> .prods e l
def S0:Gr HD:=[text "||"]
def S1:Gr HD:=[text "&&"]
def S2:Gr HD:=["==","!=","<=",">=","<",">"].map text
def S3:Gr HD:=["+","-"].map text
def S4:Gr HD:=["*","/","%"].map text
def aaG {f d:GQ}{Kn:Known} :ors f d Kn=(ands f d Kn>>=λx=>moreOr f d Kn>>=λl=>pure (FC x l):P Exp):=by
 unfold ors
 congr 1
def E8 {f d:GQ}{Kn:Known} :ands (f+1) d Kn=(compared f d Kn>>=λx=>moreAnd f d Kn>>=λl=>pure (bth x l):P Exp):=by
 rw[ands]
 congr 1
def EF {f d:GQ}{Kn:Known} :added (f+1) d Kn=(times f d Kn>>=λx=>moreAdded f d Kn>>=λl=>pure (sms x l):P Exp):=by
 rw[added]
 congr 1
def EJ {f d:GQ}{Kn:Known} :times (f+1) d Kn=(unary f d Kn>>=λx=>moreTimes f d Kn>>=λl=>pure (prs x l):P Exp):=by
 rw[times]
 congr 1
def oh {t:Jn}{s:String}{l:Gr HD}(h: ∀op,peek t= .sign op->op∉l) (m:text s∈l):Mg t s=IR:=by
 unfold Mg;rw[beq_eq_false_iff_ne];exact λz=>h _ z m
def kg (h: ∀op,peek t= .sign op->op∉l.map text):Mh l t= .ok (Ix,t):=by
 unfold Mh;cases e:peek t with
 |sign s=>
  dsimp only;rw[GG (by rw[HY];exact h s e)]
 |_=>rfl
def lM (e:x.1= .sign op) (h:op∈l.map text):Mh l (x::t)= .ok (GM op,t):=by
 unfold Mh;have e:peek (x::t)= .sign op:=e;rw[e];dsimp only;rw[GI (by rw[HY];exact h)]
 rfl
def wO {f d:GQ}{Kn:Known}{t:Jn}(h:Mg t "||"=IR):moreOr (f+1) d Kn t= .ok (.nil,t):=by
 rw[moreOr];show(Hh (ifSign "||") _) t=_;unfold Hh ifSign;rw[h]
 rfl
def ur {f d:GQ}{Kn:Known}{t:Jn}(h:Mg t "&&"=IR):moreAnd (f+1) d Kn t= .ok (.nil,t):=by
 rw[moreAnd];show(Hh (ifSign "&&") _) t=_;unfold Hh ifSign;rw[h]
 rfl
def AY {f d:GQ}{Kn:Known}{x:Tok×Pos}{t:Jn}(h:Mg (x::t) "||"=IN):moreOr (f+1) d Kn (x::t)=(ands f d Kn>>=λa=>moreOr f d Kn>>=λl=>pure (.cons a l):P Exps) t:=by
 rw[moreOr];show(Hh (ifSign "||") _) (x::t)=_;unfold Hh ifSign;rw[h]
 rfl
def wU {f d:GQ}{Kn:Known}{x:Tok×Pos}{t:Jn}(h:Mg (x::t) "&&"=IN):moreAnd (f+1) d Kn (x::t)=(compared f d Kn>>=λa=>moreAnd f d Kn>>=λl=>pure (.cons a l):P Exps) t:=by
 rw[moreAnd];show(Hh (ifSign "&&") _) (x::t)=_;unfold Hh ifSign;rw[h]
 rfl
def pZ {f d:GQ}{Kn:Known}{t:Jn}(h: ∀op,peek t= .sign op->op∉S3):moreAdded (f+1) d Kn t= .ok (.nil,t):=by
 rw[moreAdded];show(Hh (Mh ["+","-"]) _) t=_;unfold Hh;rw[kg h]
 rfl
def qe {f d:GQ}{Kn:Known}{t:Jn}(h: ∀op,peek t= .sign op->op∉S4):moreTimes (f+1) d Kn t= .ok (.nil,t):=by
 rw[moreTimes];show(Hh (Mh ["*","/","%"]) _) t=_;unfold Hh;rw[kg h]
 rfl
def rK {f d:GQ}{Kn:Known}{x:Tok×Pos}{t:Jn}{op:HD}(e:x.1= .sign op) (h:op∈S3):moreAdded (f+1) d Kn (x::t)=(times f d Kn>>=λa=>moreAdded f d Kn>>=λl=>pure (.cons op a l):P Rest) t:=by
 rw[moreAdded];show(Hh (Mh ["+","-"]) _) (x::t)=_;unfold Hh;rw[lM e h]
 rfl
def r9 {f d:GQ}{Kn:Known}{x:Tok×Pos}{t:Jn}{op:HD}(e:x.1= .sign op) (h:op∈S4):moreTimes (f+1) d Kn (x::t)=(unary f d Kn>>=λa=>moreTimes f d Kn>>=λl=>pure (.cons op a l):P Rest) t:=by
 rw[moreTimes];show(Hh (Mh ["*","/","%"]) _) (x::t)=_;unfold Hh;rw[lM e h]
 rfl
def om (f d:GQ) (Kn:Known) (a:Exp):P Exp:=Mh ["==","!=","<=",">=","<",">"]>>=λs=>match s with
 |none=>pure a
 |some op=>added f d Kn>>=λb=>pure (.cmp op a b)
def vg {f d:GQ}{Kn:Known} :compared (f+1) d Kn=(added f d Kn>>=λx=>om f d Kn x:P Exp):=by
 rw[compared]
 rfl
def wS (f d:GQ) (Kn:Known) (a:Exp):iJ (om f d Kn a):=(uy _).bind λs=>by
 cases s with
 |none=>exact gn _
 |some op=>exact(kE f d Kn).bind.P1
def Aj {f d:GQ}{Kn:Known}{a:Exp}{t:Jn}(h: ∀op,peek t= .sign op->op∉S2):om f d Kn a t= .ok (a,t):=by
 unfold om;show(Hh (Mh ["==","!=","<=",">=","<",">"]) _) t=_;unfold Hh;rw[kg h]
 rfl
def Di {f d:GQ}{Kn:Known}{a:Exp}{x:Tok×Pos}{t:Jn}{op:HD}(e:x.1= .sign op) (h:op∈S2):om f d Kn a (x::t)=(added f d Kn>>=λb=>pure (.cmp op a b):P Exp) t:=by
 unfold om;show(Hh (Mh ["==","!=","<=",">=","<",">"]) _) (x::t)=_;unfold Hh;rw[lM e h]
 rfl
def yh {x:Tok×Pos}{t:Jn}{op:HD}{s:String}(e:x.1= .sign op) (h:op∈[text s]):Mg (x::t) s=IN:=by
 unfold Mg;obtain rfl:=Hx.mp h;exact beq_iff_eq.mpr e
def aj9:ChP ors ands 11 11 S0 IR (λe es=>FC e (wl es .nil)) where
 q f d Kn e es:=moreOr f d Kn>>=λl=>pure (FC e (wl es l))
 start {fuel d Kn n} hf:=#[fuel,by lia,by rw[aaG];rfl]
 P1 f d Kn e es:=(uV f d Kn).bind λl=>gn _
 stop {f d Kn e es t} hf _ h:=by
  obtain⟨f,rfl⟩: ∃f',f=f'+1:=#[f-1,by lia];rcases h with⟨h,_⟩|h
  .cases h
  .exact bU (wO (oh h (Hx.mpr KB)))
 go {f d Kn e es x t op} hf _ e1 h:=by
  obtain⟨f,rfl⟩: ∃f',f=f'+1:=#[f-1,by lia];refine#[f,by lia,?_];rw[kH (AY (yh e1 h)),bind_assoc];refine Hv (λg=>(ands f d Kn>>=g:P Exp) t) (funext λa=>?_);rw[bind_assoc];simp only[ug]
  rfl
def agr:ChP ands compared 11 10 S1 IR (λe es=>bth e (wl es .nil)) where
 q f d Kn e es:=moreAnd f d Kn>>=λl=>pure (bth e (wl es l))
 start {fuel d Kn n} hf:=by
  obtain⟨f,rfl⟩: ∃f',fuel=f'+1:=#[fuel-1,by lia];exact#[f,by lia,by rw[E8];rfl]
 P1 f d Kn e es:=(rD f d Kn).bind λl=>gn _
 stop {f d Kn e es t} hf _ h:=by
  obtain⟨f,rfl⟩: ∃f',f=f'+1:=#[f-1,by lia];rcases h with⟨h,_⟩|h
  .cases h
  .exact bU (ur (oh h (Hx.mpr KB)))
 go {f d Kn e es x t op} hf _ e1 h:=by
  obtain⟨f,rfl⟩: ∃f',f=f'+1:=#[f-1,by lia];refine#[f,by lia,?_];rw[kH (wU (yh e1 h)),bind_assoc];refine Hv (λg=>(compared f d Kn>>=g:P Exp) t) (funext λa=>?_);rw[bind_assoc];simp only[ug]
  rfl
def ags:ChP added times 9 8 S3 IR (λe es=>sms e (wV es .nil)) where
 q f d Kn e es:=moreAdded f d Kn>>=λl=>pure (sms e (wV es l))
 start {fuel d Kn n} hf:=by
  obtain⟨f,rfl⟩: ∃f',fuel=f'+1:=#[fuel-1,by lia];exact#[f,by lia,by rw[EF];rfl]
 P1 f d Kn e es:=(oZ f d Kn).bind λl=>gn _
 stop {f d Kn e es t} hf _ h:=by
  obtain⟨f,rfl⟩: ∃f',f=f'+1:=#[f-1,by lia];rcases h with⟨h,_⟩|h
  .cases h
  .exact bU (pZ h)
 go {f d Kn e es x t op} hf _ e1 h:=by
  obtain⟨f,rfl⟩: ∃f',f=f'+1:=#[f-1,by lia];refine#[f,by lia,?_];rw[kH (rK e1 h),bind_assoc];refine Hv (λg=>(times f d Kn>>=g:P Exp) t) (funext λa=>?_);rw[bind_assoc];simp only[vx]
  rfl
def agt:ChP times unary 8 7 S4 IR (λe es=>prs e (wV es .nil)) where
 q f d Kn e es:=moreTimes f d Kn>>=λl=>pure (prs e (wV es l))
 start {fuel d Kn n} hf:=by
  obtain⟨f,rfl⟩: ∃f',fuel=f'+1:=#[fuel-1,by lia];exact#[f,by lia,by rw[EJ];rfl]
 P1 f d Kn e es:=(o4 f d Kn).bind λl=>gn _
 stop {f d Kn e es t} hf _ h:=by
  obtain⟨f,rfl⟩: ∃f',f=f'+1:=#[f-1,by lia];rcases h with⟨h,_⟩|h
  .cases h
  .exact bU (qe h)
 go {f d Kn e es x t op} hf _ e1 h:=by
  obtain⟨f,rfl⟩: ∃f',f=f'+1:=#[f-1,by lia];refine#[f,by lia,?_];rw[kH (r9 e1 h),bind_assoc];refine Hv (λg=>(unary f d Kn>>=g:P Exp) t) (funext λa=>?_);rw[bind_assoc];simp only[vx]
  rfl
def agu (e:Exp):Pairs->Exp
 |[]=>e
 |x::_=> .cmp x.1 e x.2
def aka (f d:GQ) (Kn:Known) (e:Exp):Pairs->P Exp
 |[]=>om f d Kn e
 |x::_=>pure (.cmp x.1 e x.2)
def agv:ChP compared added 10 9 S2 IN agu where
 q:=aka
 start {fuel d Kn n} hf:=by
  obtain⟨f,rfl⟩: ∃f',fuel=f'+1:=#[fuel-1,by lia];exact#[f,by lia,by rw[vg];rfl]
 P1 f d Kn e es:=by
  cases es with
  |nil=>exact wS f d Kn e
  |cons x r=>exact gn _
 stop {f d Kn e es t} hf _ h:=by
  cases es with
  |nil=>
   rcases h with⟨_,h⟩|h
   .exact G6 KB h
   .exact Aj h
  |cons x r=>rfl
 go {f d Kn e es x t op} hf h0 e1 h:=by
  obtain rfl:=h0 KB;exact#[f,by lia,Di e1 h]
end OS
namespace OS
open PySem PySem.Spec L2
open PyProof.Rows hiding St
variable {P:Hr}{w:HW}{K:Gy}{mg:Ha->GJ GC}{base:Im}{a:bI}
def X2 {u:Gz}{xp:HM} : ¬j5 (.word u,xp):=by intro z;cases z with|inl z=>cases z|inr z=>cases z
def nfS {u:Gz}{xp:HM} : ¬j5 (.sign u,xp):=by intro z;cases z with|inl z=>cases z|inr z=>cases z
def nfN {xp:HM} : ¬j5 (.num m,xp):=by intro z;cases z with|inl z=>cases z|inr z=>cases z
def vv (h:mD x=IN): ∃m,x= .num m:=by
 cases x with
 |num m=>exact#[m,KB]
 |_=>cases h
def ie (h:di x=IN): ∃u,x= .word u/\HU.contains u=IR:=by
 cases x with
 |word u=>rw[dU] at h;exact#[u,KB,by cases e:HU.contains u;rfl;rw[e] at h;cases h]
 |_=>cases h
def EL {A:Type} [BEq A] [LawfulBEq A] {x y:A}(h:(x == y)=IR):x≠y:=beq_eq_false_iff_ne.mp h
def vK:Ic (f+1) d Kn ((.num m,xp)::t)=(HV>>=λ_=>pure (.num m):GN GD) ((.num m,xp)::t):=by rw[Ic];rfl
def w8 (h0:mD x=IR) (h1:x≠ .sign (Gx "(")) (h2:x≠ .word (Gx "sum")) (h3:di x=IR):Ic (f+1) d Kn ((x,xp)::t)=Hm 2 ((x,xp)::t):=by
 rw[Ic];cases x with
 |num m=>cases h0
 |sign u=>
  show(if Hy ((.sign u,xp)::t) "("=IN then _ else Hm 2 ((.sign u,xp)::t))=_
  rw[GG (show¬Hy ((.sign u,xp)::t) "("=IN from λz=>h1 (beq_iff_eq.mp z))]
 |word u=>
  rw[dU] at h3;show(if u=Gx "sum" then _ else if HU.contains u=IN then _ else _)=_
  rw[GG λz=>h2 (by rw[z]),GI (by cases e:HU.contains u;rw[e] at h3;cases h3;rfl)]
 |eof=>rfl
 |bad=>rfl
def sK (ns:Jd u≠ .word (Gx "sum")) (hk:HU.contains u=IR) (hf:(Kn.funs.find? λf=>f.1 == u).isSome=IR):Ic (f+1) d Kn ((.word u,xp)::t)=if Kn.values.contains u=IN then .ok (.name u,t) else Hm 3 ((.word u,xp)::t):=by
 rw[Ic];show(if u=Gx "sum" then _ else if HU.contains u=IN then _ else _)=_
 rw[GG λz=>ns (by rw[z]),GG (by rw[hk];exact Gu),GJ.isSome_eq_false_iff.mp hf |> GJ.isNone_iff_eq_none.mp]
 rfl
def agw (T:Txt K mg a) (XC:XT K a) (hk:8<=k)
  (G1:T.Wn.O P w base k (bv a IR Ic 6 (LvS j (Gx "("))))
  (G2:T.Wo.O P w base k (bv a IR Ic 6 (LvW j (Gx "sum"))))
  (G3:T.Wq.O P w base k (bv a IR Ic 6 (LvC j))):
  T.Wm.O P w base (k+1) (bv a IR Ic 6 (Lv j)):=by
 refine xf T XC hk T.Wm.F afH λIF A outer s H B t Kn d fuel Q E hr hd hl hf hm=>?_;intro X D Z Y R;obtain⟨⟨x,xp⟩,r,rfl⟩:=R.cons;have tok:gK x:=R.tok;have st:=jy fuel (12-d) Kn;refine aY (dq (XX Y T.Y2.c (sj T XC) [01] (λ_=>rfl) R st λnb=>#[_,KB,bi (λe=>?_) λe0=>?_]))
 .obtain⟨m,rfl⟩:=vv e
  obtain⟨f,rfl,_⟩:=D8 hf [01];exact aD (j8 Y (gY T) (aX (je Y (R.as vK) nfN λH R=>ca (R.new KB λu H i R=>R.done (by unfold ag;exact i)))))
 refine aY (dq (jS Y R nb #[_,KB,bi (λe=>?_) λe1=>?_]))
 .obtain rfl:x=_:=beq_iff_eq.mp ((dg tok AD).symm.trans e)
  exact aD #[_,Y.call2 #[G1,hr,T.Wn.c,KB] (pv 1) [01] KB,R.tail hd #[hl,KB] hf]
 refine aY (dq (jS Y R nb #[_,KB,bi (λe=>?_) λe2=>?_]))
 .obtain rfl:x=_:=beq_iff_eq.mp ((cz tok wP).symm.trans e)
  exact aD #[_,Y.call2 #[G2,hr,T.Wo.c,KB] (pv 1) [01] KB,R.tail hd #[hl,KB] hf]
 have h1:=EL ((dg tok AD).symm.trans e1)
 have h2:=EL ((cz tok wP).symm.trans e2);obtain⟨f,rfl,_⟩:=D8 hf [01];refine dQ (p_L Y R st (λ_ e=>w8 e0 h1 h2 e) λ_ e=>?_)
 obtain⟨u,rfl,hu⟩:=ie e;refine aW 2 Y.nd (agm Y R st λ_=>?_);refine aY (aaE Y R (pv 2) [08] (bi (λe=>?_) λe3=>?_))
 .obtain⟨g,hg⟩:=LK.mp e
  exact aD #[_,Y.call2 #[G3,hr,T.Wq.c,KB] (pv 1) [01] KB,R.tail hd #[hl,u,g,KB,λz=>h2 (by rw[z]),hu,hg] hf]
 have ep:=sK (f:=f) (d:=12-d) (xp:=xp) (t:=r) h2 hu e3;refine aY (aaF Y R (pv 2) [08] (bi (λe=>?_) λe4=>?_))
 .refine dQ (rW Y (bA (by rfl) T.Qt) R nb ?_)
  rw[Vh] at e;rw[ep,e]
  rfl
 .refine aD (j8 Y (Fm T) (aX (je Y (R.as (p':=HV>>=λ_=>pure (.name u)) ?_) X2 λH R=>ca (R.new KB λu H i R=>R.done (by unfold ag;exact i)))))
  rw[US] at e4;rw[ep,e4]
  rfl
def akb:eV "-" (Gx "-"):=#[by decide+kernel,by decide+kernel]
def akc:eV "!" (Gx "!"):=#[by decide+kernel,by decide+kernel]
def eT {t:GA} :Hy (x::t) s=(x.1 == .sign (Gx s)):=rfl
def zS {f d:GQ}{Kn:GF}{xp:HM}{t:GA} :Ii (f+1) d Kn ((.sign (Gx "!"),xp)::t)=
  (IY d>>=λe=>HV>>=λ_=>Ii f e Kn>>=λx=>pure (.not x):GN GD) ((.sign (Gx "!"),xp)::t):=by
 rw[Ii];show(if Hy ((.sign (Gx "!"),xp)::t) "-"=IN then _ else if Hy ((.sign (Gx "!"),xp)::t) "!"=IN then _ else _)=_
 rw[GG (by rw[eT];show¬(Kb (Gx "!") == .sign (Gx "-"))=IN;decide+kernel),GI (by rw[eT];exact IK _)]
def AW {f d:GQ}{Kn:GF}{xp:HM}{t:GA}(h: ∀m,GX t≠ .num m):Ii (f+1) d Kn ((.sign (Gx "-"),xp)::t)=
  (IY d>>=λe=>HV>>=λ_=>Ii f e Kn>>=λx=>pure (.neg x):GN GD) ((.sign (Gx "-"),xp)::t):=by
 rw[Ii];show(if Hy ((.sign (Gx "-"),xp)::t) "-"=IN then(match GX t with
   | .num n=>_
   |_=>_) else _)=_
 rw[GI (by rw[eT];exact IK _)];cases e:GX t with
 |num m=>exact G6 e (h m)
 |_=>rfl
def AE {f d m:GQ}{Kn:GF}{xp:HM}{t:GA}(h:GX t= .num m):Ii (f+1) d Kn ((.sign (Gx "-"),xp)::t)= .ok (.neg (.num m),t.drop 1):=by
 rw[Ii];show(if Hy ((.sign (Gx "-"),xp)::t) "-"=IN then(match GX t with
   | .num n=>_
   |_=>_) else _)=_
 rw[GI (by rw[eT];exact IK _),h]
 rfl
def pc {f d:GQ}{Kn:GF}{t:GA}(h1:(x.1 == .sign (Gx "-"))=IR) (h2:(x.1 == .sign (Gx "!"))=IR):Ii (f+1) d Kn (x::t)=Ic f d Kn (x::t):=by
 rw[Ii];show(if Hy (x::t) "-"=IN then _ else if Hy (x::t) "!"=IN then _ else _)=_
 rw[GG (by rw[eT,h1];exact Gu),GG (by rw[eT,h2];exact Gu)]
def FF {f d m:GQ}{Kn:GF}{xp:HM}{t:GA} :Ii (f+2) d Kn ((.num m,xp)::t)= .ok (.num m,t):=by
 rw[pc KB KB,Ic]
 rfl
def wH {f d m:GQ}{Kn:GF}{xp:HM}{t:GA}(hf:2<=f) (w:t≠[]) (h:GX t= .num m):Ii (f+1) d Kn ((.sign (Gx "-"),xp)::t)=(HV>>=λ_=>Ii f d Kn>>=λx=>pure (.neg x):GN GD) ((.sign (Gx "-"),xp)::t):=by
 rw[AE h];obtain⟨g,rfl⟩: ∃g,f=g+2:=#[f-2,by lia];cases t with
 |nil=>exact G6 KB w
 |cons y r=>
  obtain⟨y,yp⟩:=y;obtain rfl:y= .num m:=h;show _=(Ii (g+2) d Kn>>=λx=>pure (.neg x):GN GD) ((.num m,yp)::r)
  rw[bU FF]
  rfl
def ir (okT okC:GQ->GF->GA->Prop) (T:Txt K mg a) (XC:XT K a) (hk:8<=k)
  (h0: ∀d Kn t,okT d Kn t->13<=d+j) (h1: ∀d Kn s xp t,okT d Kn ((.sign s,xp)::t)->d<12->okC (d+1) Kn t) (h2: ∀d Kn s xp t m,okT d Kn ((.sign s,xp)::t)->GX t= .num m->okC d Kn t)
  (G1:T.Wm.O P w base k (bv a IR Ic 6 (Lv j)))
  (G2:T.VX.O P w base k (bv a IR Ii 7 okC)):
  T.VX.O P w base (k+1) (bv a IR Ii 7 okT):=by
 refine xf T XC hk T.VX.F aah λIF A outer s H B t Kn d fuel Q E hr hd ho hf hm=>?_;intro X D Z Y R;obtain⟨⟨x,xp⟩,r,rfl⟩:=R.cons;have tok:gK x:=R.tok;have st:=li fuel (12-d) Kn;have vm:=dg tok akb;have vn:=dg tok akc;obtain⟨f,rfl⟩: ∃f,fuel=f+1:=#[fuel-1,by lia];rw[Gv] at hf;have tail: ∀(c:Gz) (d2:GQ) (mk:GD->GD),x= .sign c->(∀ {H:Hp}{e:GD}{u v:V},bP (fG B) H a.Ll [("sign",iX (.sign c)),("operand",u)] v->ag a (fG B) H e u->ag a (fG B) H (mk e) v)->d2<=12->okC d2 Kn r->
   RS Z [] IR H ((x,xp)::r) Kn (HV>>=λ_=>Ii f (12-d2) Kn>>=λy=>pure (mk y))->Bd X ((bq s_n).drop 3) D [GM (.ref B.r),GM (.int d),GM (.int d2),Ix] H:=by
  intro c d2 mk ex hmk hd2 hC R;subst ex;refine aW 3 Y.nd (je Y R nfS λH R=>?_);exact aD (j8 Y (oS T) (aX (bW 3 (aX #[_,Y.call2 #[G2,hr,T.VX.c,KB] (pv 2) [01] KB,R.agn hd2 hC (by lia) λe v H t R=>ca (R.new KB λu H i R=>R.done (hmk i (R.f (i:=0) KB)))]))))
 refine aY (uv (kT (dq (jp Y R st λnb=>#[_,KB,?_]))));have vm:ng "-" (GX ((x,xp)::r))=_:=vm;have vn:ng "!" (GX ((x,xp)::r))=_:=vn;rw[vm];cases em:(x == Kb (Gx "-")) with
 |true=>
  obtain rfl:x=_:=beq_iff_eq.mp em;refine cW (cW ?_);refine aW 2 Y.nd (bW 1 ?_);refine aY (aeW (dq (jS Y R nb #[_,KB,?_])));rw[vn];refine cW (kT (dq (aaD Y R nfS #[_,KB,?_])));cases ey:mD (GX r) with
  |true=>
   obtain⟨m,e⟩:=vv ey;refine cW (tail _ d _ KB (λi h=>by unfold ag;exact#[_,i,h]) hd (h2 _ _ _ _ _ m ho e) (R.as (wH (by lia) (λz=>by rw[z] at e;cases e) e)))
  |false=>
   refine dR (Au 2 Y hd (by intro z;cases z) (R.as (AW λm z=>by rw[z] at ey;cases ey)) λlt R=>w9 ?_);exact tail _ (d+1) _ KB (λi h=>by unfold ag;exact#[_,i,h]) lt (h1 _ _ _ _ _ ho lt) R
 |false=>
  refine dR (kT (dq (jS Y R nb #[_,KB,?_])));rw[vn];cases en:(x == Kb (Gx "!")) with
  |true=>
   obtain rfl:x=_:=beq_iff_eq.mp en;refine cW ?_;refine aW 2 Y.nd (bW 1 ?_);refine aY (aeW (dq (jS Y R nb #[_,KB,?_])));rw[vn,en];refine dR (dR (Au 2 Y hd (by intro z;cases z) (R.as zS) λlt R=>w9 ?_));exact tail _ (d+1) _ KB (λi h=>by unfold ag;exact#[_,i,h]) lt (h1 _ _ _ _ _ ho lt) R
  |false=>exact dR (aD #[_,Y.call2 #[G1,hr,T.Wm.c,KB] (pv 1) (by decide) KB,RS.tail (R.as (pc em en)) hd (h0 _ _ _ ho) (by rw[Gv];lia)])
def Zf.mo {β:Type}(Z:Zf β) (L:GB) (us:Gr V):Zf β:= { Z with B:=Z.B.more L us }
def dj.wide {M M':GB->Prop}{H H':Hp}(k:dj M H H') (h: ∀b,M b->M' b):dj M' H H':=λb o e m=>k b o e λz=>m (h b z)
section
variable {β:Type}{Z:Zf β}{H:Hp}{p:GN β}{Q:VK}
structure wG (Z:Zf β) (L:GB):Prop where
 n0:Z.H0 L=Ix
 nm: ¬fG Z.B L
 nx: ∀zs,¬Z.B.bl.x L zs
 nq:L≠Z.B.q
def RS.nwl (R:RS Z F b H t Kn p) (h:H L=Ix):wG Z L:=by
 obtain⟨n,S⟩:=R.S;have nm:=S.fresh h;refine#[?_,nm,λzs z=>(by rw[S.fr L zs z] at h;cases h),λz=>(by obtain⟨as,all,h1,_⟩:=S.rd.toks;rw[z,h1] at h;cases h)];cases e:Z.H0 L with
 |none=>rfl
 |some o=>rw[R.k L o e nm] at h;cases h
theorem RS.more {us:Gr V}(R:RS Z F b H t Kn p) (h:H L=Ix):RS (Z.mo L us) F b (bf H L (.lst us)) t Kn p:=by
 obtain⟨n,S⟩:=R.S;have N:=R.nwl h;have sm:aI H (bf H L (.lst us)):=a8 h;refine#[#[n,(S.same sm).more aj],(R.k.trans (OS.aI.keeps sm)).wide λb=>cP,λe=>jU.Ie (λb o e m=>#[λz=>(dL z).elim (λz=>by rw[z,h] at e;cases e) m,sm b o e]) (R.f e),R.l,R.w.mono (λ_ _ z=>z) λ_ _ z H' k=>z H' λb o e m=>k b o e λz=>(dL z).elim (λz=>by rw[z,N.n0] at e;cases e) m]
theorem RS.QK (R:RS (Z.mo L us) F b H t Kn p):H L=GM (.lst us):=by
 obtain⟨n,S⟩:=R.S;exact S.QK
def RS.push {v:V}(N:wG Z L) (R:RS (Z.mo L us) F b H t Kn p):RS (Z.mo L (us++[v])) F b (bf H L (.lst (us++[v]))) t Kn p:=by
 obtain⟨n,S⟩:=R.S;have mm: ∀c,fG (Z.B.more L us) c->fG (Z.B.more L (us++[v])) c:=λc h=>(dL h).elim (λz=>by rw[z];exact fT) λz=>cP z;have mm': ∀c,fG (Z.B.more L (us++[v])) c->fG (Z.B.more L us) c:=λc h=>(dL h).elim (λz=>by rw[z];exact fT) λz=>cP z;refine#[#[n,S.write N.nx N.nq],(R.k.wide mm).trans (fC fT),λe=>jU.Ie (λc o e m=>#[λz=>m (mm' c z),by rw[af λz=>m (by rw[z];exact fT)];exact e]) (R.f e),R.l,R.w.mono (λ_ _ z=>z) λ_ _ z H' k=>z H' (k.wide mm')]
theorem RS.less (N:wG Z L) (R:RS (Z.mo L us) F b H t Kn p):RS Z F b H t Kn p:=by
 obtain⟨n,S⟩:=R.S;refine#[#[n,S.less],λb o e m=>R.k b o e λz=>(dL z).elim (λz=>by rw[z,N.n0] at e;cases e) m,λe=>jU.Ie (λb o e m=>#[λz=>m (cP z),e]) (R.f e),R.l,R.w.mono (λ_ _ z=>z) λ_ _ z H' k=>z H' (k.wide λb=>cP)]
theorem wG.mo (N:wG Z L') (ne:L'≠L):wG (Z.mo L us) L':=#[N.n0,λz=>(dL z).elim ne N.nm,λzs z=>z.elim (N.nx zs) λz=>ne z.1,N.nq]
def RS.swap (R:RS ((Z.mo L us).mo L' Qu) F b H t Kn p):RS ((Z.mo L' Qu).mo L us) F b H t Kn p:=by
 obtain⟨n,S⟩:=R.S;have m1: ∀c,fG ((Z.B.more L us).more L' Qu) c->fG ((Z.B.more L' Qu).more L us) c:=λc h=>(dL h).elim (λz=>by rw[z];exact cP fT) λz=>(dL z).elim (λz=>by rw[z];exact fT) λz=>cP (cP z);have m2: ∀c,fG ((Z.B.more L' Qu).more L us) c->fG ((Z.B.more L us).more L' Qu) c:=λc h=>(dL h).elim (λz=>by rw[z];exact cP fT) λz=>(dL z).elim (λz=>by rw[z];exact fT) λz=>cP (cP z);exact#[#[n,S.rd,S.wh,S.kn,S.SE,S.R4,S.Qc,λc zs z=>S.fr c zs (z.elim (λz=>z.elim (λz=> .inl (.inl z)) .inr) λz=> .inl (.inr z))],R.k.wide m1,λe=>jU.Ie (λc o e m=>#[λz=>m (m2 c z),e]) (R.f e),R.l,R.w.mono (λ_ _ z=>z) λ_ _ z H' k=>z H' (k.wide m2)]
def nh (i:GQ) (Y:RX X Z.a Z.E) (R:RS Z F b H t Kn p) (q: ∀L H',wG Z L->RS (Z.mo L []) F b H' t Kn p->Bd X ss D (σ.set i (GM (.ref L))) H') (h:Sl X i y:=by exact#[KB,HF KB,KB]):Bd X (.Assign [.Name y p0] (.List [] p1) p5::ss) D σ H:=
 aW i Y.nd (sI λL h=>q L _ (R.nwl h) (R.more h)) h
def sy {te:TE}(N:wG Z L) (R:RS (Z.mo L us) F b H t Kn p) (he:PE X e te) (hv: ∀R:VK,R (.ref L) H->te σ H R) (q:Pe X f σ H λv H1=> ∃F' b' t' WQ p',us.length<GZ/\RS (Z.mo L us) F' b' H1 t' WQ p'/\(∀H2,RS (Z.mo L (us++[v])) F' b' H2 t' WQ p'->Bd X ss D σ H2))
  (hb:JN e "append" X.env (eval e X.env)=eval e X.env:=by rfl) (Mu:Hf [f] X.env=[(IR,eval f X.env)]:=by rfl) (hp:jV p2 p4:=by rfl):
  Bd X (.Expr (.Call (.Attribute e "append" p2) [f] [] p4) p5::ss) D σ H:=by
 refine CF he hv R.QK (q.mono λv H1 z=>?_) hb Mu hp;obtain⟨F',b',t',WQ,p',h1,R',h2⟩:=z;exact#[us,R'.QK,h1,h2 _ (R'.push N)]
def lN (Y:RX X Z.a Z.E) (R:RS Z F b H t Kn p) (lit:eV v (Gx s)) (st:be p) (h:Hy t s=IN->p t=Hm 5 t) (q:Hy t s=IR->Bd X ss D (GM (.ref Z.B.r)::σ) H) (hg:Gl X "refuse_here":=by rfl):
  Bd X (.Expr (.Call (.Name "refuse_here" p1) [.Name "reader" p2, .Constant (.str v) j p3] [] p4) p5::ss) D (GM (.ref Z.B.r)::σ) H:=by
 obtain⟨n,S⟩:=R.S;obtain⟨x,t',rfl,tok,Q2,MU,_⟩:=S.wh.first;refine dQ #[_,aq (agj Y.T Y.C) (Y.hr.mono [01]) hg Y.T.Y9.c Y.up (aa Y.rd (aa aK ac)),Z.B.r,Z.B.q,Z.B.kd,Z.B.fn,Z.B.ds,Z.B.bl,n,x,t',v,KB,S.rd,λb=>st.Mp (Q2.trans b) R.w H R.k,λnb e=>?_,λnb e=>?_]
 .rw[dg tok lit] at e
  exact ga (h e) nb R.w H R.k
 .rw[dg tok lit] at e
  exact q e
end
end OS
namespace OS
open Vbemac
def c9 (f e:GQ) (K:Known) (m:GQ):P Exps:=λu=>
 if m=0 then(if Mg u ","=IN then fail 5 u else(sign ")">>=λ_=>pure .nil:P Exps) u)
 else(if Mg u ")"=IN then fail 5 u else(sign ",">>=λ_=>arguments f e K m:P Exps) u)
def xV:Gr Exp->Exps->Exps
 |[],l=>l
 |e::r,l=> .cons e (xV r l)
def um {es:Gr Exp}{x:Exp}{l:Exps} :xV (es++[x]) l=xV es (.cons x l):=by
 induction es with
 |nil=>rfl
 |cons y r ih=>show Exps.cons y (xV (r++[x]) l)=_;rw[ih];rfl
def eI (f e:GQ) (K:Known) (m:GQ):be (c9 f e K m):=λt h=>by
 unfold c9;rw[dE h,dE h];by_cases c:m=0
 .rw[GI c,GG Gu]
  exact(bB ")").bind t h
 .rw[GG c,GG Gu]
  exact(bB ",").bind t h
def rN {f d:GQ}{Kn:Known}{u:HD}{xp:Pos}{t:Jn}{g:HD×GQ}(hs:u≠text "sum") (hk:KEYS.contains u=IR) (hf:Kn.funs.find? (λf=>f.1 == u)=GM g):
  primary (f+1) d Kn ((.word u,xp)::t)=(deeper d>>=λe=>next>>=λ_=>sign "(">>=λ_=>(if g.2=0 then(sign ")">>=λ_=>pure (.call u .nil)) else(arguments f e Kn g.2>>=λl=>pure (.call u l))):P Exp) ((.word u,xp)::t):=by
 rw[primary];show(if u=text "sum" then _ else _)=_
 rw[GG hs,GG (by rw[hk];exact Gu)];simp only[hf]
end OS
namespace OS
open PySem PySem.Spec L2
open PyProof.Rows hiding St
variable {P:Hr}{w:HW}{K:Gy}{mg:Ha->GJ GC}{base:Im}{a:bI}
section
open Vbemac (arguments)
def yu:eV "," (Gx ","):=#[by decide+kernel,by decide+kernel]
section
variable {α β γ:Type}{p q:GN α}{g:α->GN β}{h:β->GN γ}
def bo (e:p t=q t):(p>>=g) t=(q>>=g) t:=by
 show Hh p g t=Hh q g t
 unfold Hh;rw[e]
end
def Zf.at {β:Type}(Z:Zf β) (l:GQ):Zf β:= { Z with L:=l }
section
variable {β:Type}{Z:Zf β}{F:Gr (Fk×V)}{b:HK}{H:Hp}{t:GA}{Kn:GF}{p:GN β}{L:GB}{l:GQ}
theorem RS.at (R:RS Z F b H t Kn p):RS (Z.at t.length) F IR H t Kn p:=#[R.S,R.k,R.f,GY _,R.w]
def RS.back (h:l<=Z.L) (R:RS (Z.at l) F IN H t Kn p):RS Z F IN H t Kn p:=#[R.S,R.k,R.f,G0 R.l h,R.w]
end
def pN {K:GF}{t:GA}(h:Hy t ","=IR):c9 f e K 0 t=(Hw ")">>=λ_=>pure .nil:GN Je) t:=by
 unfold c9;rw[GI KB,GG (by rw[h];exact Gu)]
def pC {K:GF}{t:GA}(hm:m≠0) (h:Hy t ")"=IR):c9 f e K m t=(Hw ",">>=λ_=>arguments f e K m:GN Je) t:=by
 unfold c9;rw[GG hm,GG (by rw[h];exact Gu)]
def iH {K:GF}{t:GA}(h:if m=0 then Hy t ","=IN else Hy t ")"=IN):c9 f e K m t=Hm 5 t:=by
 unfold c9;by_cases c:m=0
 .rw[GI c] at h ⊢; rw[GI h]
 .rw[GG c] at h ⊢; rw[GI h]
def aaH {K:GF}{t:GA}(h:Hy t ")"=IN):arguments (f+1) e K n t=Hm 5 t:=by
 rw[arguments];show(if Hy t ")"=IN then _ else _)=_
 rw[GI h]
def F9 {K:GF}{t:GA}(hn:1<=n) (h:Hy t ")"=IR):arguments (f+1) e K n t=(Hd f e K>>=λa=>c9 f e K (n-1)>>=λl=>pure (.cons a l):GN Je) t:=by
 rw[arguments];show(if Hy t ")"=IN then _ else _)=_
 rw[GG (by rw[h];exact Gu)];show Hh _ _ t=Hh _ _ t;unfold Hh
 congr 1
 funext #[a,u]
 show(if n<=1 then _ else _:GN Je) u=(c9 f e K (n-1)>>=λl=>pure (.cons a l):GN Je) u
 by_cases n1:n<=1
 .rw[GI n1,show n-1=0 by lia]
  show(if Hy u ","=IN then Hm 5 u else _)=_
  by_cases c:Hy u ","=IN
  .rw[GI c,bo (iH (by rw[GI KB];exact c))]
   rfl
  .rw[GG c,bo (pN (by cases h:Hy u ",";rfl;exact G6 h c)),bind_assoc]
   rfl
 .rw[GG n1]
  show(if Hy u ")"=IN then Hm 5 u else _)=_
  by_cases c:Hy u ")"=IN
  .rw[GI c,bo (iH (by rw[GG (by lia)];exact c))]
   rfl
  .rw[GG c,bo (pC (by lia) (by cases h:Hy u ")";rfl;exact G6 h c)),bind_assoc]
def yM (f e:GQ) (Kn:GF) (u:Gz) (wanted:GQ):Gr GD->GN GD
 |[]=>if wanted=0 then(Hw ")">>=λ_=>pure (.call u .nil)) else(arguments f e Kn wanted>>=λl=>pure (.call u l))
 |x::es=>c9 f e Kn (wanted-(x::es).length)>>=λl=>pure (.call u (xV (x::es) l))
def xo {f e w:GQ}{Kn:GF}{t:GA}(lt:es.length<w) (hc:Hy t ")"=IR):
  (arguments (f+1) e Kn (w-es.length)>>=λl=>pure (.call u (xV es l)):GN GD) t=(Hd f e Kn>>=λa=>yM f e Kn u w (es++[a])) t:=by
 rw[bo (F9 (by lia) hc),bind_assoc];refine Hv (λg=>(Hd f e Kn>>=g:GN GD) t) (funext λa=>?_);rw[bind_assoc];have n:w-es.length-1=w-(es++[a]).length:=by rw[Gw,Ks];lia
 have e1:(λl=>(pure (Tt u (xV es (.cons a l))):GN GD))=λl=>pure (.call u (xV (es++[a]) l)):=funext λl=>by rw[um]
 rw[n];show(c9 f e Kn _>>=λl=>(pure (Tt u (xV es (.cons a l))):GN GD))=_
 rw[e1];cases es with
 |nil=>rfl
 |cons y r=>rfl
abbrev fkE (ps:Gr (GD×V)):Gr (Fk×V):=ps.map λx=>(.e x.1,x.2)
theorem xW {a:bI}{M:GB->Prop}{H:Hp}{l:Je}{ws:Gr V}(hl:bj a M H l ws): ∀ {ps:Gr (GD×V)},(∀ {i:GQ}{x:Fk×V},(fkE ps)[i]?=GM x->jU a M H x)->bj a M H (xV (ps.map (·.1)).reverse l) ((ps.map (·.2)).reverse++ws)
 |[],_=>hl
 | (e,v)::ps,h=>by
  rw[G8,G8,IX,IX,um,Hj];refine xW (l:= .cons e l) ?_ λ{i x} q=>h (i:=i+1) q;unfold bj;exact#[v,ws,KB,h (i:=0) KB,hl]
def px {Z:Zf GD}{F:Gr (Fk×V)}{b:HK}{H:Hp}{t:GA}{Kn K:GF}{f e w:GQ}{u:Gz}{x:GD×V}{r:Gr (GD×V)}(R:RS Z F b H t Kn (yM f e K u w ((x::r).map (·.1)).reverse)):RS Z F b H t Kn (c9 f e K (w-((x::r).map (·.1)).reverse.length)>>=λl=>pure (.call u (xV ((x::r).map (·.1)).reverse l))):=by
 cases h:((x::r).map (·.1)).reverse with
 |nil=>rw[Gr.reverse_eq_nil_iff] at h;cases h
 |cons y l=>rw[h] at R;exact R
def eU {b:HK}{A B:Prop}(e:b=IN) (h:A):if b=IN then A else B:=by rw[GI e];exact h
def sP (f e:GQ) (K:GF) (u:Gz) (w:GQ) (es:Gr GD) (x:GD):be (yM f e K u w (es++[x])):=by
 cases es with
 |nil=>exact(eI _ _ _ _).bind
 |cons y r=>exact(eI _ _ _ _).bind
def agx {β:Type}{Z:Zf β}{F:Gr (Fk×V)}{b:HK}{H:Hp}{t:GA}{Kn:GF}{p:GN β}{Q:VK}{te:TE}{g:Gz×GQ}(Y:RX X Z.a Z.E) (R:RS Z F b H t Kn p) (he:PE X e te) (hv: ∀Q:VK,Q (.str (sb u)) H->te (GM (.ref Z.B.r)::σ) H Q) (hg:Kn.funs.find? (λf=>f.1 == u)=GM g) (q:Q (.int (g.2:GQ)) H) (hs:FZ e:=by exact λ_ _=>rfl):
  Pe X (.Subscript (.Attribute (.Name "reader" p1) "functions" p2) e p3) (GM (.ref Z.B.r)::σ) H Q:=by
 obtain⟨n,S⟩:=R.S;obtain⟨dr,er⟩:=S.rd.ins;obtain⟨ff,f1,f2⟩:=S.kn.funs;have f2:=f2 u;rw[hg] at f2;exact#[_,Fn (gP Y.hr) (az Y.rd KB) he hs,Z.B.r,_,dr,_,_,KB,er,Y.T.Ht,Y.T.JV,KB,hv _ #[Z.B.fn,_,KB, .inl #[ff,nk u, .inl f1,KB,f2.symm],q]]
inductive X3 (Z:Zf GD) (L:GB) (Kn:GF) (u:Gz) (w e:GQ) (σ0:L2.St) (m:GQ) (σ:L2.St) (H:Hp):Prop
 |mk (ps:Gr (GD×V)) (t:GA) (f:GQ) (_:m=w-ps.length) (_:σ=σ0) (_:ps.length<=w) (_:ps.length+t.length<=Z.L) (_:16*t.length+12<=f) (_:ps=[]->16*t.length+13<=f) (_:RS (Z.mo L (ps.map (·.2)).reverse) (fkE ps) IN H t Kn (yM f e Kn u w (ps.map (·.1)).reverse)):X3 Z L Kn u w e σ0 m σ H
inductive agy (Z:Zf GD) (L:GB) (Kn:GF) (u:Gz) (w e:GQ) (σ0:L2.St) (ps:Gr (GD×V)) (l:GQ) (σ:L2.St) (H:Hp):Prop
 |mk (t:GA) (f:GQ) (_:σ=σ0) (_:t.length<=l) (_:16*t.length+12<=f) (_:RS (Z.mo L (ps.map (·.2)).reverse) (fkE ps) IN H t Kn (arguments (f+1) e Kn (w-(ps.map (·.1)).reverse.length)>>=λl=>pure (.call u (xV (ps.map (·.1)).reverse l)))):agy Z L Kn u w e σ0 ps l σ H
section
variable {k j:GQ}
def agz (T:Txt K mg a) (XC:XT K a) (hk:8<=k)
  (G:T.Se.O P w base k (bv a IN Hd 12 (Lv j))):
  T.Wq.O P w base (k+1) (bv a IR Ic 6 (LvC (j+1))):=by
 refine xf T XC hk T.Wq.F afK λIF A outer s H B t Kn d fuel Q E hr hd ho hf hm=>?_;intro X D Z Y R;obtain⟨hl,u,g,h0,hs,hu,hg⟩:=ho;obtain⟨xp,r,rfl⟩:=fP R h0;obtain⟨f,rfl⟩: ∃f,fuel=f+1:=#[fuel-1,by lia];have c:CB X "read_exp" ["reader","depth"] (bv a IN Hd 12 (Lv j)):=#[G,hr,T.Se.c,KB];have hl:13<=d+1+j:=by rw[NC];exact hl
 refine Au 2 Y hd (by intro z;cases z) (R.as (rN hs hu hg)) λlt R=>?_;refine aW 3 Y.nd (je Y R X2 λH R=>?_);refine db Y AD R λH t R=>?_;have l1:t.length+1<=Z.L:=R.l;refine aW 4 Y.nd (agx Y R (pv 3) [08] hg ?_);refine nh 5 Y R λL H N R=>?_;have hL:(r.length+1:GQ)<=Z.L:=GY _;have hm:Kn.values.length+Z.L<=4000:=hm;have hf:16*Z.L+6<=f+1:=hf;refine hJ Y.lv (X3 Z L Kn u g.2 (12-(d+1)) [GM (.ref B.r),GM (.int d),GM (.int ((d+1:GQ):Int)),GM (.str (sb u)),GM (.int (g.2:GQ)),GM (.ref L)]) _ #[[],t,f,KB,KB,HG _,by show 0+t.length<=_;lia,by lia,λ_=>by lia,R] ?_;rintro m σ H ⟨ps,t,f,rfl,rfl,h1,h2,h3,h4,R⟩;refine cA iQ (qP T.LV R.QK (pv 5) [08] (bW 4 #[_,_,KB,KB,_,KB,bi (λe=>?_) λe=>?_]))
 .have lt':ps.length<g.2:=by have:=Hs e;rw[IP,GK] at this;lia
  have len:((ps.map (·.1)).reverse:Gr GD).length=ps.length:=by rw[IP,GK]
  refine jL (agy Z L Kn u g.2 (12-(d+1)) [GM (.ref B.r),GM (.int d),GM (.int ((d+1:GQ):Int)),GM (.str (sb u)),GM (.int (g.2:GQ)),GM (.ref L)] ps t.length) ?_ ?_
  .rintro σ H ⟨t1,f1,rfl,l1,hf1,R⟩
   refine lN Y R wr (mC _ _ _ _).bind (λh=>(bo (aaH h)).trans KB) λhc=>?_;have R:=R.as (xo (by rw[len];exact lt') hc);refine sy N R (pv 5) [08] #[_,Y.call2 c (pv 2) [01] KB,R.at.call (n8 λx=>sP _ _ _ _ _ _ _) lt hl (by lia) λe1 v1 H t2 _ R2=>#[_,_,_,_,_,by rw[IP,GK];exact HH (show ps.length<=4000 by lia) [01],RS.back (Z:=Z.mo L _) (l:=t1.length) (by show t1.length<=Z.L;lia) R2,λH3 R3=>?_]];have l2:t2.length+1<=t1.length:=R2.l;refine lF #[_,(show g.2-((e1,v1)::ps).length<g.2-ps.length by rw[Gv];lia),(e1,v1)::ps,t2,f1,KB,KB,(by rw[Gv];lia),(by rw[Gv];lia),(by lia),(λz=>nomatch z),?_]
   rw[G8,G8,IX,IX];exact R3
  .refine cA qg (qP T.LV R.QK (pv 5) [08] (gS #[_,_,KB,KB,_,KB,?_]))
   cases ps with
   |nil=>
    refine cW ?_;have R:RS _ (fkE []) IN H t Kn (if g.2=0 then _ else _):=R
    rw[GG (by have:0<g.2:=lt';lia)] at R;obtain⟨f,rfl⟩: ∃f',f=f'+1:=#[f-1,by lia];exact#[t,f,KB,GY _,GQ.le_of_succ_le_succ (h4 KB),R]
   |cons x r=>
    refine eU (HC (by rw[IP,GK,Gv];lia)) ?_;have R:=px R;refine lN Y R wr (eI _ _ _ _).bind (λh=>(bo (iH (by rw[GG (by rw[len];lia)];exact h))).trans KB) λhc=>?_;refine db (Z:=(Z.mo L ((x::r).map (·.2)).reverse).at t.length) Y yu (R.at.as ((bo (pC (by rw[len];lia) hc)).trans (congrFun (bind_assoc _ _ _) t))) λH t2 R2=>fi ?_;have l2:t2.length+1<=t.length:=R2.l;obtain⟨f,rfl⟩: ∃f',f=f'+1:=#[f-1,by lia];exact#[t2,f,KB,by lia,by lia,RS.back (Z:=Z.mo L _) (l:=t.length) (by show t.length<=Z.L;lia) R2]
 .have eq:ps.length=g.2:=by have:=Hu e;rw[IP,GK] at this;lia
  have len:((ps.map (·.1)).reverse:Gr GD).length=ps.length:=by rw[IP,GK]
  have R:RS (Z.mo L (ps.map (·.2)).reverse) (fkE ps) IN H t Kn (if g.2=0 then(Hw ")">>=λ_=>pure (.call u .nil)) else(c9 f (12-(d+1)) Kn 0>>=λl=>pure (.call u (xV (ps.map (·.1)).reverse l)))):=by
   cases ps with
   |nil=>
    have h0:g.2=0:=eq.symm
    have R:RS _ (fkE []) IN H t Kn (if g.2=0 then _ else _):=R
    rw[GI h0] at R ⊢;exact R
   |cons x r=>
    have R:=px R;rw[len,eq,Me] at R;rw[GG (by rw[<-eq,Gv];lia)];exact R
  have fin:RS (Z.mo L (ps.map (·.2)).reverse) (fkE ps) IN H t Kn (Hw ")">>=λ_=>pure (.call u (xV (ps.map (·.1)).reverse .nil)))->Bd X ((bq YQ).drop 7) D [GM (.ref B.r),GM (.int d),GM (.int ((d+1:GQ):Int)),GM (.str (sb u)),GM (.int (g.2:GQ)),GM (.ref L)] H:=λR=>by
   refine db Y wr R λH t R=>?_;have hL:=R.QK;refine aD (j8 Y (yW T) (aX (bW 3 (aX (bW 5 (ca (R.new KB λv H i R=>?_)))))));have hL:=R.QK;have R:=R.less N;refine R.done ?_;unfold ag;refine#[.ref L,_,bP.keep (λb o e m=>#[λz=>m (cP z),e]) i,#[L,KB,N.nm,hL],?_];have:=xW (l:= .nil) (ws:=[]) (by unfold bj;rfl) R.f;rw[G7] at this;exact this
  refine aY (cA qg (bW 4 (gS #[_,_,KB,KB,_,KB,bi (λe=>?_) λe=>?_])))
  .have h0:g.2≠0:=by have:=Hs e;lia
   rw[GG h0] at R;refine lN Y R yu (eI _ _ _ _).bind (λh=>(bo (iH (by rw[GI KB];exact h))).trans KB) λhc=>w9 (fin (R.as ?_));exact(bo (pN hc)).trans (congrFun (bind_assoc _ _ _) t)
  .have h0:g.2=0:=by have:=Hu e;lia
   rw[GI h0] at R;obtain rfl:ps=[]:=Om.mp (eq.trans h0);exact fin R
end
end
theorem mT {α β:Type}{F:α->β->Prop} : ∀ {l:Gr α}{m:Gr β}{i:GQ}{y:β},Paired F l m->m[i]?=GM y-> ∃x,l[i]?=GM x/\F x y
 |_,_,_,_, .nil,h=>by cases h
 |_,_,0,_, .cons r t,h=>#[_,KB,by obtain rfl:=Hb h;exact r]
 |_,_,i+1,_, .cons r t,h=>mT (i:=i) t h
def Bc.row {K:Gy}{ad:GB}{i:GQ}{xs:Gr V}{H:Hp}(h:Bc K ad dN) (e:dN[i]?=GM xs): ∃qs:Gr GB,qs.length=5/\qd K H ad (qs.map V.ref)/\ ∃q,Dg (qs.map V.ref) (i:GQ)=GM (.ref q)/\qd K H q xs:=by
 obtain⟨qs,h1,h2⟩:=h;obtain⟨q,hq,hk⟩:=mT h2 e;refine#[qs,cr h2,h1.sq,q,?_,hk.sq];refine ci ?_;rw[HI,hq]
 rfl
def BB {x:HZ}(tok:gK x) {sg:Gr Gz}(hs: ∀o∈sg,o∈Ih) (h:uF (iX x) (sg.map λo=>V.str (dI o))=IN): ∃op∈sg,x= .sign op:=by
 unfold uF at h;rw[Oz,KY] at h;obtain⟨o,ho,e⟩:=h;refine#[o,ho,(tX tok (x:=dI o) #[KB,hs o ho]).mp ?_];have e:Fc (V.str (dI o)) (iX x)=IN:=e;cases x with
 |word u=>exact Hv GM (beq_iff_eq.mp (show(dI o == sb u)=IN from e)).symm
 |num n=>cases (show IR=IN from e)
 |sign u=>exact Hv GM (beq_iff_eq.mp (show(dI o == dI u)=IN from e)).symm
 |eof=>exact Hv GM (beq_iff_eq.mp (show(dI o == sb [])=IN from e)).symm
 |bad=>exact Hv GM (beq_iff_eq.mp (show(dI o == sb [])=IN from e)).symm
def B4 {op:Gz}{sg:Gr Gz}(h:op∈sg):uF (iX (.sign op)) (sg.map λo=>V.str (dI o))=IN:=by
 unfold uF;rw[Oz,KY];exact#[op,h,show(dI op == dI op)=IN from IK _]
def AL (x:HZ):ja (iX x)=IN:=by cases x<;>rfl
def xB (sg:Gr Gz):(sg.map λo=>V.str (dI o)).all ja=IN:=by
 rw[S8,LG];exact λ_ _=>rfl
section
variable {M:GB->Prop}{H:Hp}
theorem xr: ∀ {es:Pairs}{us:Gr V},Paired (λ(x:Gz×GD) u=>ag a M H x.2 u) es us->bj a M H (wl es .nil) us
 |_,_, .nil=>by unfold wl bj;rfl
 |_,_, .cons h t=>by unfold wl bj;exact#[_,_,KB,h,xr t]
theorem xn: ∀ {es:Pairs}{us:Gr V},Paired (λ(x:Gz×GD) u=>ag a M H x.2 u) es us->cR a M H (wV es .nil) us (es.map λx=>V.str (dI x.1))
 |_,_, .nil=>by unfold wV cR;exact#[KB,KB]
 |_,_, .cons h t=>by unfold wV cR;exact#[_,_,_,KB,KB,h,xn t]
theorem sV {F:Gz×GD->V->Prop}{o:Gz} : ∀ {es:Pairs}{us:Gr V},Paired F es us->(∀x∈es,x.1∈[o])->(es.map λx=>V.str (dI x.1))=us.map λ_=>V.str (dI o)
 |_,_, .nil,_=>rfl
 |_,_, .cons h t,hx=>by
  rw[G8,G8,Hx.mp (hx _ (GW ..)),sV t λy hy=>hx y (Hc _ hy)]
end
def agA:dI (Gx "||")="||":=by decide+kernel
def aaI:dI (Gx "&&")="&&":=by decide+kernel
structure qM (s:GQ) (sg:Gr Gz) (once:HK) (res:GD->Pairs->GD):Prop where
 UK: ∀e,res e []=e
 at_: ∀ {a:bI}{M:GB->Prop}{H:Hp}{e:GD}{es:Pairs}{v w:V}{us:Gr V}{q g:V},es≠[]->(∀x∈es,x.1∈sg)->(once=IN->es.length<=1)->bP M H a.Ky [("strength", .int (s:GQ)),("operands",q),("signs",g)] w->
  bM M H (v::us) q->bM M H (es.map λx=>V.str (dI x.1)) g->ag a M H e v->Paired (λ(x:Gz×GD) u=>ag a M H x.2 u) es us->ag a M H (res e es) w
def aaJ:qM 0 S0 IR (λe es=>FC e (wl es .nil)) where
 UK e:=rfl
 at_ {a M H e es v w us q g} h0 hs _ hi hq hg he VN:=by
  cases es with
  |nil=>exact G6 KB h0
  |cons y r=>
   rw[sV VN hs,agA] at hg;show ag a M H (.either e (wl (y::r) .nil)) w;unfold ag;exact#[q,g,v,_,hi,hq,hg,he,xr VN]
def Ga:qM 1 S1 IR (λe es=>bth e (wl es .nil)) where
 UK e:=rfl
 at_ {a M H e es v w us q g} h0 hs _ hi hq hg he VN:=by
  cases es with
  |nil=>exact G6 KB h0
  |cons y r=>
   rw[sV VN hs,aaI] at hg;show ag a M H (.both e (wl (y::r) .nil)) w;unfold ag;exact#[q,g,v,_,hi,hq,hg,he,xr VN]
def FG:qM 3 S3 IR (λe es=>sms e (wV es .nil)) where
 UK e:=rfl
 at_ {a M H e es v w us q g} h0 hs _ hi hq hg he VN:=by
  cases es with
  |nil=>exact G6 KB h0
  |cons y r=>
   show ag a M H (.sums e (wV (y::r) .nil)) w
   unfold ag;exact#[q,g,v,_,_,hi,hq,hg,he,xn VN]
def Fs:qM 4 S4 IR (λe es=>prs e (wV es .nil)) where
 UK e:=rfl
 at_ {a M H e es v w us q g} h0 hs _ hi hq hg he VN:=by
  cases es with
  |nil=>exact G6 KB h0
  |cons y r=>
   show ag a M H (.prods e (wV (y::r) .nil)) w
   unfold ag;exact#[q,g,v,_,_,hi,hq,hg,he,xn VN]
def FY:qM 2 S2 IN agu where
 UK e:=rfl
 at_ {a M H e es v w us q g} h0 hs h1 hi hq hg he VN:=by
  cases VN with
  |nil=>exact G6 KB h0
  |cons h t=>
   cases t with
   |nil=>
    show ag a M H (.cmp _ e _) w
    unfold ag;exact#[q,g,v,_,hi,hq,hg,he,h]
   |cons h2 t2=>
    have:=h1 KB;rw[Gv,Gv] at this;lia
inductive wz (a:bI) (w2:HK) (s:GQ) (p:GQ->GQ->GF->GN GD) (c:GQ) (ok:GQ->GF->GA->Prop) (vs:Gr V) (H:Hp) (Q:VK) (E:XK):Prop
 |mk (u v:V) (_:vs=[u,v, .int (s:GQ)]) (_:bv a w2 p c ok [u,v] H Q E):wz a w2 s p c ok vs H Q E
def FA {β:Type}(Z:Zf β):Prop:= ∀e r,GX r= .bad->Z.Ro e r->QE Z.a Z.B Z.H0 Z.E 1 (JG r)
theorem FA.mo {β:Type}{Z:Zf β}(h:FA Z) (N:wG Z L):FA (Z.mo L us):=λe r b o H' k=>h e r b o H' λc o e m=>k c o e λz=>(dL z).elim (λz=>by rw[z,N.n0] at e;cases e) m
theorem FA.bad {β:Type}{Z:Zf β}{p:GN β}(h:FA Z) (hr:iJ p) (b:GX t= .bad) (w:W p t Z.Ro (QE Z.a Z.B Z.H0 Z.E)):QE Z.a Z.B Z.H0 Z.E 1 (JG t):=by
 rcases hr t b with e|⟨x,e⟩
 .rw[jN e] at w;exact w
 .rw[wb e] at w;exact h x t b w
def enZ {a:bI}{E:XK}{H0:Hp}{Q:VK} :FA #[a,E,B,L,H0,Rz IN a B H0 L Kn Q E]:=λe r b w=>by
 have w:Rz IN a B H0 L Kn Q E e r:=w;unfold Rz at w;rw[GI #[KB,b]] at w;exact w
def agB {w2:HK}{pp:GQ->GQ->GF->GN GD}{c sn:GQ}{ok:GQ->GF->GA->Prop}{x Ja:Ha}{st:Stmt}{f:GB}{fd:Ia}{N:Gr Ha}(T:Txt K mg a) (XC:XT K a) (hk:8<=k) (F:sd K x Ja st f fd) (S:ax N ["reader","depth","strength"] (ah st))
  (K9: ∀(IF:GC) (A:IE) (outer:Gr Env) (s:GH) (H:Hp) (B:Rb) (t:GA) (Kn:GF) (d fuel:GQ) (Q:VK) (E:XK),cx k (A.deeper (Lg Ja (ah st) s.heap.objs.size f IF))->d<=12->ok d Kn t->16*t.length+c<=fuel->Kn.values.length+t.length<=4000->
   let X:=gU (jR P w) P w K mg base N Ja (ah st) f IF A outer s H E
   let D:dB:= { nx:=λ_ H'=>Q .Ko H',rt:=Q }
   let Z:Zf GD:=#[a,E,B,t.length,H,Rz w2 a B H t.length Kn Q E]
   RX X a E->RS Z [] IR H t Kn (pp fuel (12-d) Kn)->Bd X (bq st) D (L2.start N [.ref B.r, .int d, .int (sn:GQ)]) H):b6 P w K mg base (jR P w) (k+1) f fd ["reader","depth","strength"] (wz a w2 sn pp c ok):=by
 refine kr F S [03] [02];obtain⟨_,_,rfl,B,n,t,Kn,d,fuel,h0,hd,ho,St,hf,hW⟩:=h;cases h0;exact K9 IF A outer s H B t Kn d fuel Q E hr hd ho hf St.kn.len (kM T XC hk S hr) #[#[n,St],dj.refl,λ{i x} e=>(by cases e),GY _,hW]
section
variable {H:Hp}{Q:VK}{E:XK}
def DJ (Y:RX X a E) (KT:Bc X.K a.JB dN) (q:Q (.int 5) H) (h1:Gl X "len":=by rfl) (h2:Gl X "CHAIN_SIGNS":=by rfl):Pe X (.Call (.Name "len" p1) [.Name "CHAIN_SIGNS" p2] [] p3) σ H Q:=by
 obtain⟨qs,qs5,sqA,_⟩:=KT.row (H:=H) (i:=0) KB;refine#[_,aS bL h1 Y.T.LV Jg (aa (dn h2 Y.T.Pf) ac),_,_,KB, .inr sqA,?_];rw[GK,qs5];exact q
def p_R {te:TE}(Y:RX X a E) (KT:Bc X.K a.JB dN) (row:dN[sn]?=GM xs) (he:PE X e te) (hv: ∀Q:VK,Q (.int (sn:GQ)) H->te σ H Q) (q: ∀c,qd X.K H c xs->Q (.ref c) H) (h2:Gl X "CHAIN_SIGNS":=by rfl) (hs:sO e:=by exact λ_ _=>rfl):Pe X (.Subscript (.Name "CHAIN_SIGNS" p1) e p3) σ H Q:=by
 obtain⟨qs,qs5,sqA,c,atq,sq⟩:=KT.row (H:=H) row;exact#[_,eS ZW (dn h2 Y.T.Pf) he hs,hv _ #[_,_,_,_,KB,KB,sqA,atq,q c sq]]
def RX.X4 {sp:Sp}{σ:L2.St}(Y:RX X a E) (c:CB X "read_chain" ["reader","depth","strength"] sp) (q:sp [u,v, .int ((sn+1:GQ):Int)] H Q E) (h1:X.N[1]?=GM ("depth":Ha):=by rfl) (v1:tu X.env.scope "depth":=by exact HF KB) (h2:X.N[2]?=GM ("strength":Ha):=by rfl) (v2:tu X.env.scope "strength":=by exact HF KB):
  Pe X (.Call (.Name "read_chain" p1) [.Name "reader" p2, .Name "depth" p3, .BinOp (.Name "strength" p4) .Add (.Constant (.int 1) 0 p5) p6] [] p7) (GM u::GM v::GM (.int (sn:GQ))::σ) H Q:=by
 obtain⟨G,hr,d,hg⟩:=c;exact#[_,aq G hr hg d Y.up (aa Y.rd (aa (iM h1 v1) (aa (aZ eu (iM h2 v2) aG) ac))),_,_,KB,KB,q]
end
inductive ChI {p sub:GQ->GQ->GF->GN GD}{c c':GQ}{sg:Gr Gz}{once:HK}{res:GD->Pairs->GD}(L:ChP p sub c c' sg once res) (Z:Zf GD) (A1 A2:GB) (Kn:GF) (d:GQ) (e:GD) (v:V) (σ0:L2.St) (m:GQ) (σ:L2.St) (H:Hp):Prop
 |mk (F:Gr (Fk×V)) (es:Pairs) (us:Gr V) (t:GA) (f:GQ) (_:m=t.length) (_:σ=σ0) (_:once=IN->es=[]) (_:us.length+t.length<Z.L) (_: ∀x∈es,x.1∈sg) (_: ∃i:GQ,F[i]?=GM (.e e,v)) (_:Paired (λ(x:Gz×GD) u=> ∃i:GQ,F[i]?=GM (.e x.2,u)) es us) (_:16*t.length+c'<=f)
  (_:RS ((Z.mo A1 (v::us)).mo A2 (es.map λx=>V.str (dI x.1))) F IN H t Kn (L.q f d Kn e es)):ChI L Z A1 A2 Kn d e v σ0 m σ H
def AU (T:Txt K mg a) (XC:XT K a) (KT:Bc K a.JB dN) (hk:8<=k)
  (G:T.VX.O P w base k (bv a IR Ii 7 (Lv j))):
  T.Xb.O P w base (k+1) (wz a IR 5 Ii 7 (Lv j)):=by
 refine agB T XC hk T.Xb.F afG λIF A outer s H B t Kn d fuel Q E hr hd ho hf hm=>?_;intro X D Z Y R;exact aY (cA cu (bW 2 (DJ Y KT #[KB,_,KB,dR (aD #[_,Y.call2 #[G,hr,T.VX.c,KB] (pv 1) [01] KB,R.tail hd ho hf])])))
def fS (T:Txt K mg a) (XC:XT K a) (KT:Bc K a.JB dN) (hk:8<=k) (hs:sn<5) (h2:sn=2->w2=IN) {p sub:GQ->GQ->GF->GN GD}{res:GD->Pairs->GD}(V0:1<=c')
  (L:ChP p sub c c' sg once res) (N:qM sn sg once res) (row:dN[sn]?=GM (sg.map λo=>V.str (dI o))) (sgS: ∀o∈sg,o∈Ih) (X5:once=decide (sn=2))
  (G:T.Xb.O P w base k (wz a w2 (sn+1) sub c' (Lv j))):
  T.Xb.O P w base (k+1) (wz a IN sn p c (Lv j)):=by
 refine agB T XC hk T.Xb.F afG λIF A outer s H B t Kn d fuel Q E hr hd ho hf hm=>?_;intro X D Z Y R;have cb:CB X "read_chain" ["reader","depth","strength"] (wz a w2 (sn+1) sub c' (Lv j)):=#[G,hr,T.Xb.c,KB];refine aY (cA cu (bW 2 (DJ Y KT #[KB,_,KB,?_])));rw[cU,He (by lia)];refine cW ?_;obtain⟨f,hf1,hp⟩:=L.start (d:=12-d) (Kn:=Kn) (n:=t.length) hf;have z0:FA Z:=enZ;refine aW 3 Y.nd (so (aX (Y.X4 cb #[_,_,KB,(R.as (congrFun hp t)).Ul (λ_ e r b w=>z0.bad (L.P1 _ _ _ _ _) b w) hd ho hf1 λe v H t1 _ R=>ca #[by show 1<=GZ;decide,λA1 hA1=>?_]])));have N1:=R.nwl hA1;have l1:t1.length+1<=Z.L:=R.l;refine aW 4 Y.nd (sI λA2 hA2=>?_);have ne:A2≠A1:=λz=>by rw[z,aj] at hA2;cases hA2
 have N2:=R.nwl (L:=A2) (by rw[af ne] at hA2;exact hA2)
 have N2': ∀ {us:Gr V},wG (Z.mo A1 us) A2:=N2.mo ne
 have N1': ∀ {us:Gr V},wG (Z.mo A2 us) A1:=N1.mo ne.symm
 have R:=(R.more (us:=[v]) hA1).more (us:=[]) hA2
 have hm:Kn.values.length+Z.L<=4000:=hm
 have fin: ∀ {F:Gr (Fk×V)}{es:Pairs}{us:Gr V}{t:GA}{f:GQ}{H:Hp},1<=f->GX t≠ .bad->(once=IN->es.length<=1)->(once=IN/\es≠[]\/ ∀op,GX t= .sign op->op∉sg)->(∀x∈es,x.1∈sg)->(∃i:GQ,F[i]?=GM (.e e,v))->Paired (λ(x:Gz×GD) u=> ∃i:GQ,F[i]?=GM (.e x.2,u)) es us->
   RS ((Z.mo A1 (v::us)).mo A2 (es.map λx=>V.str (dI x.1))) F IN H t Kn (L.q f (12-d) Kn e es)->Bd X ((bq s_E).drop 4) D [GM (.ref B.r),GM (.int d),GM (.int (sn:GQ)),GM (.ref A1),GM (.ref A2)] H:=by
  intro F es us t f H hf nb h1 Mu hsg m0 mp R;have R:=R.as (p':=pure (res e es)) (L.stop hf h1 Mu);obtain⟨i0,m0⟩:=m0;refine aY (cA cu (qP T.LV R.QK (pv 4) [08] (gS #[KB,_,KB,?_])));rw[cU,GK];refine bi (λh=>?_) λh=>?_
  .obtain rfl:es=[]:=Om.mp (by have:=Hs h;lia)
   have hA1:=(R.less N2').QK
   have R:=(R.less N2').less N1;rw[N.UK] at R;exact aD #[_,eS cX (pv 3) aG (λ_ _=>rfl),A1,_,0,v,KB,KB,cJ.of hA1,ci (j:=0) KB,R.done (R.f m0) λ_=>nb]
  .have z1:es≠[]:=λz=>by rw[z] at h;cases h
   refine aD (j8 Y (oR T) (aX (bW 2 (aX (bW 3 (aX (bW 4 (ca (R.new KB λw H i R=>?_)))))))));have hA2:=R.QK;have hA1:=(R.less N2').QK;have R:=(R.less N2').less N1;exact R.done (N.at_ z1 hsg h1 (bP.keep (λb o e m=>#[λz=>m (cP (cP z)),e]) i) #[A1,KB,N1.nm,hA1] #[A2,KB,N2.nm,hA2] (R.f m0) (Paired.Nt mp λx u ⟨i,h⟩=>R.f h)) λ_=>nb
 refine hJ Y.lv (ChI L Z A1 A2 Kn (12-d) e v [GM (.ref B.r),GM (.int d),GM (.int (sn:GQ)),GM (.ref A1),GM (.ref A2)]) _ #[_,[],[],t1,f,KB,KB,λ_=>rfl,(by show 0+t1.length<_;lia),(λ_ z=>nomatch z),#[0,KB], .nil,by lia,R] ?_
 rintro m σ H ⟨F,es,us,t,f,rfl,rfl,on0,ul,hsg,m0,mp,hf,R⟩;have z2:FA ((Z.mo A1 (v::us)).mo A2 (es.map λx=>V.str (dI x.1))):=(z0.mo N1).mo N2'
 refine cA jG (xw Y R (λb=>z2.bad (L.P1 _ _ _ _ _) b R.w) λnb=>p_R Y KT row (pv 2) [08] λc sq=>#[c,_,KB, .inr sq,AL _,xB sg,_,KB,bi (λein=>?_) λein=>?_]) KB
 .obtain⟨⟨x,xp⟩,r,rfl⟩:=R.cons
  obtain⟨op,Xr,rfl⟩:=BB R.tok sgS ein;obtain⟨f6,hf6,h6⟩:=L.go (x:=(.sign op,xp)) (by rw[Gv] at hf;exact hf) on0 KB Xr;have lu:us.length=es.length:=(cr mp).symm;rw[Gv] at ul;refine sy N2' R (pv 4) [08] (je Y (R.as (p':=HV>>=λ_=>sub f6 (12-d) Kn>>=λe2=>L.q f6 (12-d) Kn e (es++[(op,e2)])) h6) nfS λH R=>#[_,_,_,_,_,by rw[GK];exact HH (show es.length<=4000 by lia) [01],R,λH R=>?_]);have R:=R.swap;have z3:FA (((Z.mo A2 ((es.map λx=>V.str (dI x.1))++[iX (.sign op)])).mo A1 (v::us)).at r.length):=(z0.mo N2).mo N1'
  refine sy N1' R (pv 3) [08] (Y.X4 cb #[_,_,KB,RS.Ul (Z:=((Z.mo A2 ((es.map λx=>V.str (dI x.1))++[iX (.sign op)])).mo A1 (v::us)).at r.length) R.at (λ_ e r b w=>z3.bad (L.P1 _ _ _ _ _) b w) hd ho hf6 λe2 v2 H t2 nb2 R2=>#[_,_,_,_,_,HH (show(v::us).length<=4000 by rw[Gv];lia) [01],RS.back (Z:=(Z.mo A2 _).mo A1 _) (l:=r.length) (by show r.length<=Z.L;lia) R2,λH R=>?_]]);have l2:t2.length+1<=r.length:=R2.l;have R:RS ((Z.mo A1 (v::(us++[v2]))).mo A2 ((es++[(op,e2)]).map λx=>V.str (dI x.1))) ((.e e2,v2)::F) IN H t2 Kn (L.q f6 (12-d) Kn e (es++[(op,e2)])):=by
   rw[IJ];exact R.swap
  have agC: ∀x∈es++[(op,e2)],x.1∈sg:=λx hx=>(HJ.mp hx).elim (hsg x) λz=>by rw[Hx.mp z];exact Xr
  have m0': ∃i:GQ,((.e e2,v2)::F)[i]?=GM (.e e,v):=m0.elim λi h=>#[i+1,h]
  have mp':Paired (λ(x:Gz×GD) u=> ∃i:GQ,((.e e2,v2)::F)[i]?=GM (.e x.2,u)) (es++[(op,e2)]) (us++[v2]):=gG (Paired.Nt mp λx u h=>h.elim λi h=>#[i+1,h]) #[0,KB]
  refine aY (cA cu (bW 2 #[_,bA (by rfl) T.RG,KB,_,KB,?_]));rw[cU];refine bi (λh=>?_) λh=>?_
  .have s2:sn=2:=by have:=Hs h;lia
   have on1:once=IN:=by rw[X5,s2];rfl
   have es0:=on0 on1;exact uc (fin (by lia) (nb2 (h2 s2)) (λ_=>by rw[es0];exact GY _) (.inl #[on1,λz=>by rw[SJ] at z;cases z.2]) agC m0' mp' R)
  .have on1:once≠IN:=by rw[X5,He λz=>by have:=Hu h;rw[z] at this;exact this KB];exact Gu
   exact lF #[_,(show t2.length<r.length+1 by lia),_,_,us++[v2],t2,f6,KB,KB,λz=>G6 z on1,(by rw[Gw,Ks];lia),agC,m0',mp',by lia,R]
 .exact fin (by lia) nb (λz=>by rw[on0 z];exact HG _) (.inr λop ho hm=>by
   rw[ho,B4 hm] at ein;cases ein) hsg m0 mp R
def Aa (h:GP t "if"=IR):Hd (f+1) d Kn t=ors f d Kn t:=by
 rw[Hd];show(if GP t "if"=IN then _ else _)=_
 rw[GG (by rw[h];exact Gu)]
 rfl
def akd (T:Txt K mg a) (XC:XT K a) (hk:8<=k)
  (G1:T.Wl.O P w base k (bv a IN Hd 12 (LvW j (Gx "if"))))
  (G2:T.Xb.O P w base k (wz a IN 0 ors 11 (Lv j))):
  T.Se.O P w base (k+1) (bv a IN Hd 12 (Lv j)):=by
 refine xf T XC hk T.Se.F afE λIF A outer s H B t Kn d fuel Q E hr hd ho hf hm=>?_;intro X D Z Y R;refine aY (dq (jp Y R (mE _ _ _) λnb=>#[_,KB,?_]));rw[cz R.tok yG];refine bi (λe=>?_) λe=>?_
 .exact aD #[_,Y.call2 #[G1,hr,T.Wl.c,KB] (pv 1) [01] KB,R.tail hd #[ho,beq_iff_eq.mp e] hf]
 .obtain⟨f,rfl⟩: ∃f,fuel=f+1:=#[fuel-1,by lia]
  exact aD #[_,aq G2 hr (by rfl) T.Xb.c Y.up (aa Y.rd (aa (pv 1) (aa aG ac))),_,_,KB,RS.tail (R.as (Aa e)) hd ho (by lia)]
def agD {CX:qO}{k:GQ}{sp1 sp2:Sp}(F1:b6 P w K mg base CX k f fd ps sp1) (F2:b6 P w K mg base CX k f fd ps sp2):b6 P w K mg base CX k f fd ps (λvs H Q E=>sp1 vs H Q E\/sp2 vs H Q E):=
 #[λvs H Q E h=>h.elim (F1.len vs H Q E) (F2.len vs H Q E),λA outer s H args us vs Q E hr he hb hv h=>h.elim (F1.run A outer s H args us vs Q E hr he hb hv) (F2.run A outer s H args us vs Q E hr he hb hv)]
def At {p:GQ->GQ->GF->GN GD}{ok1 ok2:GQ->GF->GA->Prop}{H:Hp}{Q:VK}{E:XK}(h:bv a w2 p c (λd K t=>ok1 d K t\/ok2 d K t) vs H Q E):bv a w2 p c ok1 vs H Q E\/bv a w2 p c ok2 vs H Q E:=by
 obtain⟨B,n,t,Kn,d,fuel,e,hd,ok,S,hf,hW⟩:=h;rcases ok with ok|ok
 .exact .inl #[B,n,t,Kn,d,fuel,e,hd,ok,S,hf,hW]
 .exact .inr #[B,n,t,Kn,d,fuel,e,hd,ok,S,hf,hW]
def kZ {p:GQ->GQ->GF->GN GD}{H:Hp}{Q:VK}{E:XK}(h:bv a w2 p c (Lv 0) vs H Q E):False:=by
 obtain⟨B,n,t,Kn,d,fuel,e,hd,ok,S,hf,hW⟩:=h;have ok:13<=d+0:=ok;lia
def kY:(∀o∈S0,o∈Ih)/\(∀o∈S1,o∈Ih)/\(∀o∈S2,o∈Ih)/\(∀o∈S3,o∈Ih)/\(∀o∈S4,o∈Ih):=by decide+kernel
def ake:dN[0]?=GM (S0.map λo=>V.str (dI o)):=by decide+kernel
def akf:dN[1]?=GM (S1.map λo=>V.str (dI o)):=by decide+kernel
def akg:dN[2]?=GM (S2.map λo=>V.str (dI o)):=by decide+kernel
def akh:dN[3]?=GM (S3.map λo=>V.str (dI o)):=by decide+kernel
def aki:dN[4]?=GM (S4.map λo=>V.str (dI o)):=by decide+kernel
def akj (T:Txt K mg a) (XC:XT K a) (KT:Bc K a.JB dN): ∀j:GQ,
  T.Se.O P w base (8+11*j) (bv a IN Hd 12 (Lv j))/\
  T.VX.O P w base (8+11*j) (bv a IR Ii 7 (Lv j)):=by
 intro j
 induction j with
 |zero=>exact#[kr T.Se.F afE (λ_ _ _ _ h=>(kZ h).elim) (λ_ _ _ _ _ _ _ _ _ h=>(kZ h).elim),kr T.VX.F aah (λ_ _ _ _ h=>(kZ h).elim) (λ_ _ _ _ _ _ _ _ _ h=>(kZ h).elim)]
 |succ j ih=>
  obtain⟨E0,U0⟩:=ih;have hk:8<=8+11*j:=by lia
  rw[show 8+11*(j+1)=8+11*j+11 by lia];generalize 8+11*j=k at hk E0 U0 ⊢;have B:=agp T XC hk E0;have Su:=ago T XC hk E0;have Ca:=agz T XC hk E0;have Ch:=agq T XC hk E0;have Pr:=agw T XC (by lia) B Su Ca;have UF:T.VX.O P w base (k+1+1) (bv a IR Ii 7 (λ_ _ _=>False)):=
   kr T.VX.F aah (λ_ _ _ _ h=>by obtain⟨B,n,t,Kn,d,fuel,e,hd,ok,_⟩:=h;exact ok.elim) (λ_ _ _ _ _ _ _ _ _ h=>by obtain⟨B,n,t,Kn,d,fuel,e,hd,ok,_⟩:=h;exact ok.elim)
  have UN:=ir (j:=j+1) (λd _ t=>13<=d+(j+1)/\ ∃m,GX t= .num m) (λ_ _ _=>False) T XC (by lia) (λd Kn t h=>h.1) (λd Kn s xp t h _=>by obtain⟨_,m,z⟩:=h;cases z) (λd Kn s xp t m h _=>by obtain⟨_,m,z⟩:=h;cases z) Pr UF
  have UB:=(agD (U0.mono (by lia:k<=k+1+1+1)) UN).imp λvs H Q E h=>At h
  have Un:=ir (j:=j+1) (Lv (j+1)) (λd K t=>Lv j d K t\/(13<=d+(j+1)/\ ∃m,GX t= .num m)) T XC (by lia) (λd Kn t h=>h) (λd Kn s xp t h lt=> .inl (by have h:13<=d+(j+1):=h;show 13<=d+1+j;lia)) (λd Kn s xp t m h z=> .inr #[h,m,z]) (Pr.mono (by lia:k+1+1<=k+1+1+1)) UB
  have C5:=AU T XC KT (by lia) Un
  have C4:=fS T XC KT (by lia) (sn:=4) [01] (λz=>by cases z) [01] agt Fs aki kY.2.2.2.2 KB C5
  have C3:=fS T XC KT (by lia) (sn:=3) [01] (λz=>by cases z) [01] ags FG akh kY.2.2.2.1 KB C4
  have C2:=fS T XC KT (by lia) (sn:=2) [01] (λ_=>rfl) [01] agv FY akg kY.2.2.1 KB C3
  have C1:=fS T XC KT (by lia) (sn:=1) [01] (λz=>by cases z) [01] agr Ga akf kY.2.1 KB C2
  have C0:=fS T XC KT (by lia) (sn:=0) [01] (λz=>by cases z) [01] aj9 aaJ ake kY.1 KB C1
  have Ex:=akd T XC (by lia) (Ch.mono (by lia)) C0;exact#[Ex.mono (by lia),Un.mono (by lia)]
end OS
namespace OS
open Vbemac
section
variable {K:Known}
def DE (h:Jj t "let"=IN):stmt (k+1) d K B t=(next>>=λ_=>newName K>>=λx=>sign "=">>=λ_=>expr k DEEP K>>=λe=>sign ";">>=λ_=>pure (.bind x e,K.with x,B):P (Stmt×Known×Blocks)) t:=by
 rw[stmt];show(if Jj t "let"=IN then _ else _)=_
 rw[GI h]
def DA (h1:Jj t "let"=IR) (h:Jj t "for"=IN):stmt (k+1) d K B t=(deeper d>>=λn=>next>>=λ_=>newName K>>=λx=>key "in">>=λ_=>expr k DEEP K>>=λlo=>sign "..">>=λ_=>expr k DEEP K>>=λhi=>
  sign "{">>=λ_=>stmts k n (K.with x) B>>=λl=>pure (.loop x lo hi l.1,K,l.2):P (Stmt×Known×Blocks)) t:=by
 rw[stmt];show(if Jj t "let"=IN then _ else if Jj t "for"=IN then _ else _)=_
 rw[GG (by rw[h1];exact Gu),GI h]
def lS (k n:GQ) (K:Known) (c:Exp) (a:Stmts×Blocks):P (Stmt×Known×Blocks):=ifKey "else">>=λm=>(if m=IN then(sign "{">>=λ_=>stmts k n K a.2>>=λb=>pure (.cond c a.1 b.1,K,b.2)) else pure (.cond c a.1 .nil,K,a.2))
def FH (h1:Jj t "let"=IR) (h2:Jj t "for"=IR) (h:Jj t "if"=IN):stmt (k+1) d K B t=(deeper d>>=λn=>next>>=λ_=>expr k DEEP K>>=λc=>sign "{">>=λ_=>stmts k n K B>>=λa=>lS k n K c a:P (Stmt×Known×Blocks)) t:=by
 rw[stmt];show(if Jj t "let"=IN then _ else if Jj t "for"=IN then _ else if Jj t "if"=IN then _ else _)=_
 rw[GG (by rw[h1];exact Gu),GG (by rw[h2];exact Gu),GI h]
 rfl
def k7 (m:GJ HD) (B:Blocks):Blocks:=match m with
 |some w=>w::B
 |none=>B
def xa (h1:Jj t "let"=IR) (h2:Jj t "for"=IR) (h3:Jj t "if"=IR) (h:Jj t "block"=IN):stmt (k+1) d K B t=(next>>=λ_=>maybeName B>>=λm=>side>>=λRL=>key "zone">>=λ_=>expr k DEEP K>>=λz=>
  key "price">>=λ_=>expr k DEEP K>>=λp=>key "amount">>=λ_=>newName K>>=λx=>sign ":">>=λ_=>expr k DEEP (K.with x)>>=λq=>behind "under" (knownBlock B)>>=λu=>behind "group" (expr k DEEP K)>>=λg=>sign ";">>=λ_=>
  pure (.block m RL z p x q u g,K,k7 m B):P (Stmt×Known×Blocks)) t:=by
 rw[stmt];show(if Jj t "let"=IN then _ else if Jj t "for"=IN then _ else if Jj t "if"=IN then _ else if Jj t "block"=IN then _ else _)=_
 rw[GG (by rw[h1];exact Gu),GG (by rw[h2];exact Gu),GG (by rw[h3];exact Gu),GI h]
 rfl
def zY (h1:Jj t "let"=IR) (h2:Jj t "for"=IR) (h3:Jj t "if"=IR) (h4:Jj t "block"=IR):stmt (k+1) d K B t=(side>>=λRL=>key "zone">>=λ_=>expr k DEEP K>>=λz=>
  key "quarter">>=λ_=>expr k DEEP K>>=λq=>key "price">>=λ_=>expr k DEEP K>>=λp=>behind "to" (expr k DEEP K)>>=λtop=>key "amount">>=λ_=>expr k DEEP K>>=λa=>sign ";">>=λ_=>
  pure (.step RL z q p top a,K,B):P (Stmt×Known×Blocks)) t:=by
 rw[stmt];show(if Jj t "let"=IN then _ else if Jj t "for"=IN then _ else if Jj t "if"=IN then _ else if Jj t "block"=IN then _ else _)=_
 rw[GG (by rw[h1];exact Gu),GG (by rw[h2];exact Gu),GG (by rw[h3];exact Gu),GG (by rw[h4];exact Gu)]
def AS (h:Mg t "}"=IN):stmts (k+1) d K B t= .ok ((.nil,B),t.drop 1):=by
 rw[stmts];show(if Mg t "}"=IN then _ else _)=_
 rw[GI h]
def D4 (h:Mg t "}"=IR):stmts (k+1) d K B t=(stmt k d K B>>=λs=>stmts k d s.2.1 s.2.2>>=λl=>pure (.cons s.1 l.1,l.2):P (Stmts×Blocks)) t:=by
 rw[stmts];show(if Mg t "}"=IN then _ else _)=_
 rw[GG (by rw[h];exact Gu)]
end
section
variable {K:Known}
def AK (h:n≠0):params (k+1) n K t=(newName K>>=λx=>ifSign ",">>=λm=>(if m=IN then(params k (n-1) (K.with x)>>=λl=>pure (x::l)) else(sign ")">>=λ_=>pure [x])):P (Gr HD)) t:=by
 rw[params];show(if n=0 then _ else _)=_
 rw[GG h]
def wN (h:n=0):params (k+1) n K t=fail 7 t:=by
 rw[params];show(if n=0 then _ else _)=_
 rw[GI h]
def Bt (h:peek t= .eof):tops (k+1) K n D t= .ok ([],t):=by
 rw[tops];show(if peek t= .eof then _ else _)=_
 rw[GI h]
def wj (h0:peek t≠ .eof) (h:Jj t "const"=IN):tops (k+1) K n D t=(next>>=λ_=>newName K>>=λx=>sign "=">>=λ_=>expr k DEEP K>>=λe=>sign ";">>=λ_=>tops k (K.with x) n D>>=λl=>pure (.const x e::l):P Sheet) t:=by
 rw[tops];show(if peek t= .eof then _ else if Jj t "const"=IN then _ else _)=_
 rw[GG h0,GI h]
def B0 (h0:peek t≠ .eof) (h1:Jj t "const"=IR) (h:Jj t "fun"=IN) (hn:n≠0):tops (k+1) K n D t=(next>>=λ_=>newName K>>=λx=>sign "(">>=λ_=>ifSign ")">>=λnone_=>
  (if none_=IN then give [] else params k PARAMS (K.with x))>>=λps=>sign "=">>=λ_=>expr k DEEP { K with values:=ps++K.values } >>=λe=>sign ";">>=λ_=>tops k { K with funs:=(x,ps.length)::K.funs } (n-1) D>>=λl=>pure (.func x ps e::l):P Sheet) t:=by
 rw[tops];show(if peek t= .eof then _ else if Jj t "const"=IN then _ else if Jj t "fun"=IN then(if n=0 then _ else _) else _)=_
 rw[GG h0,GG (by rw[h1];exact Gu),GI h,GG hn]
def zT (h0:peek t≠ .eof) (h1:Jj t "const"=IR) (h:Jj t "fun"=IN) (hn:n=0):tops (k+1) K n D t=fail 7 t:=by
 rw[tops];show(if peek t= .eof then _ else if Jj t "const"=IN then _ else if Jj t "fun"=IN then(if n=0 then _ else _) else _)=_
 rw[GG h0,GG (by rw[h1];exact Gu),GI h,GI hn]
def fg (D:Gr HD):P HD:=λu=>match anyName u with
 | .error e=> .error e
 | .ok (w,r)=>if D.contains w=IN then fail 4 u else .ok (w,r)
def AA (h0:peek t≠ .eof) (h1:Jj t "const"=IR) (h2:Jj t "fun"=IR) (h:Jj t "desk"=IN):tops (k+1) K n D t=(next>>=λ_=>fg D>>=λx=>sign "{">>=λ_=>stmts k NEST K []>>=λl=>tops k K n (x::D)>>=λr=>pure (.desk x l.1::r):P Sheet) t:=by
 rw[tops];show(if peek t= .eof then _ else if Jj t "const"=IN then _ else if Jj t "fun"=IN then _ else if Jj t "desk"=IN then _ else _)=_
 rw[GG h0,GG (by rw[h1];exact Gu),GG (by rw[h2];exact Gu),GI h]
 rfl
def zE (h0:peek t≠ .eof) (h1:Jj t "const"=IR) (h2:Jj t "fun"=IR) (h:Jj t "desk"=IR):tops (k+1) K n D t=fail 2 t:=by
 rw[tops];show(if peek t= .eof then _ else if Jj t "const"=IN then _ else if Jj t "fun"=IN then _ else if Jj t "desk"=IN then _ else _)=_
 rw[GG h0,GG (by rw[h1];exact Gu),GG (by rw[h2];exact Gu),GG (by rw[h];exact Gu)]
def mX (D:Gr HD):be (fg D):=λt e=>by unfold fg;rw[e7 t e]
end
end OS
namespace OS
open Vbemac
def mM:Stmt->GJ HD
 | .bind x _=>GM x
 |_=>Ix
def F4 (K:Known) (s:Stmt) (K':Known):Prop:=match mM s with
 |some x=>K'=K.with x/\K.taken x=IR
 |none=>K'=K
def kq (ss:Gr Stmt):Gr HD:=ss.filterMap mM
def DV:Gr Stmt->Stmts->Stmts
 |[],l=>l
 |s::r,l=> .cons s (DV r l)
def u9:DV (ss++[x]) l=DV ss (.cons x l):=by
 induction ss with
 |nil=>rfl
 |cons y r ih=>show Stmts.cons y (DV (r++[x]) l)=_;rw[ih];rfl
structure iN (K:Known) (ss:Gr Stmt) (K':Known):Prop where
 funs:K'.funs=K.funs
 vals:K'.values=(kq ss).reverse++K.values
 nodup:(kq ss).Nodup
 free: ∀x∈kq ss,x∉K.values
def iN.nil {K:Known} :iN K [] K:=#[KB,KB,Nu,λ_ z=>nomatch z]
def iN.snoc {K K1 K2:Known}(h:iN K ss K1) (h2:F4 K1 s K2):iN K (ss++[s]) K2:=by
 unfold F4 at h2;cases e:mM s with
 |none=>
  rw[e] at h2;have h2:K2=K1:=h2;have:kq (ss++[s])=kq ss:=by unfold kq;rw[Tf];simp [e]
  rw[h2];exact#[h.funs,by rw[this];exact h.vals,by rw[this];exact h.nodup,by rw[this];exact h.free]
 |some x=>
  rw[e] at h2;obtain⟨rfl,ht⟩:=h2;have:kq (ss++[s])=kq ss++[x]:=by unfold kq;rw[Tf];simp [e]
  unfold Known.taken at ht;rw[MP] at ht;have nc:x∉K1.values:=λz=>by rw[HY.mpr z] at ht;cases ht.1
  rw[h.vals] at nc;refine#[h.funs,?_,?_,?_]
  .rw[this]
   show x::K1.values=_
   rw[h.vals,Uq]
   rfl
  .rw[this,Qj]
   refine#[h.nodup,J1.mpr #[QG,Nu],λa ha b hb=>?_];rw[Hx.mp hb];intro z;exact nc (HJ.mpr (.inl (KZ.mpr (by rw[<-z];exact ha))))
  .rw[this]
   intro y hy z;rcases HJ.mp hy with hy|hy
   .exact h.free y hy z
   .rw[Hx.mp hy] at z
    exact nc (HJ.mpr (.inr z))
end OS
namespace OS
open Vbemac
abbrev iC:=Top×Known×GQ×Gr HD
def aaK (k:GQ) (K:Known) (n:GQ) (D:Gr HD):P iC:=newName K>>=λx=>sign "(">>=λ_=>ifSign ")">>=λnone_=>(if none_=IN then give [] else params k PARAMS (K.with x))>>=λps=>sign "=">>=λ_=>
 expr k DEEP { K with values:=ps++K.values } >>=λe=>sign ";">>=λ_=>pure (.func x ps e,{ K with funs:=(x,ps.length)::K.funs },n-1,D)
def xi (k:GQ) (K:Known) (n:GQ) (D:Gr HD):P iC:=newName K>>=λx=>sign "=">>=λ_=>expr k DEEP K>>=λe=>sign ";">>=λ_=>pure (.const x e,K.with x,n,D)
def CY (k:GQ) (K:Known) (n:GQ) (D:Gr HD):P iC:=fg D>>=λx=>sign "{">>=λ_=>stmts k NEST K []>>=λl=>pure (.desk x l.1,K,n,x::D)
def i5 (k:GQ) (K:Known) (n:GQ) (D:Gr HD):P iC:=λt=>
 if Jj t "const"=IN then(next>>=λ_=>xi k K n D:P iC) t
 else if Jj t "fun"=IN then(if n=0 then fail 7 t else(next>>=λ_=>aaK k K n D:P iC) t)
 else if Jj t "desk"=IN then(next>>=λ_=>CY k K n D:P iC) t
 else fail 2 t
def mK (k:GQ) (K:Known) (n:GQ) (D:Gr HD):be (i5 k K n D):=λt e=>by
 unfold i5;rw[cM e,cM e,cM e,GG Gu,GG Gu,GG Gu];exact aU 2 t e
end OS
namespace OS
open PySem PySem.Spec L2
open PyProof.Rows hiding St
variable {P:Hr}{w:HW}{K:Gy}{mg:Ha->GJ GC}{base:Im}{a:bI}
def agE:eV "=" (Gx "="):=#[by decide+kernel,by decide+kernel]
def DR:eV ";" (Gx ";"):=#[by decide+kernel,by decide+kernel]
def agF:eV "{" (Gx "{"):=#[by decide+kernel,by decide+kernel]
def X6:eV "}" (Gx "}"):=#[by decide+kernel,by decide+kernel]
def yY:dF "sell" (Gx "sell"):=#[by decide+kernel,by decide+kernel,by decide+kernel]
def Dx:dF "buy" (Gx "buy"):=#[by decide+kernel,by decide+kernel,by decide+kernel]
def qC:dF "amount" (Gx "amount"):=#[by decide+kernel,by decide+kernel,by decide+kernel]
def eJ (f:GQ) (Kn:GF):GN GD:=Hw "=">>=λ_=>Hd f Jf Kn>>=λe=>Hw ";">>=λ_=>pure e
def dP (s:String) (f:GQ) (Kn:GF):GN GD:=IQ s>>=λ_=>Hd f Jf Kn
def jD (f:GQ) (Kn:GF):GN (Gz×GD):=IQ "amount">>=λ_=>Ig Kn>>=λx=>Hw ":">>=λ_=>Hd f Jf (Kn.with x)>>=λe=>pure (x,e)
def Eg {α β:Type}(Z:Zf β) (g:α->GN β):Prop:= ∀e r,GX r= .bad->W (g e) r Z.Ro (QE Z.a Z.B Z.H0 Z.E)->QE Z.a Z.B Z.H0 Z.E 1 (JG r)
def E9 {α β:Type}{Z:Zf β}{g:α->GN β}(h: ∀e,be (g e)):Eg Z g:=λe _ nb w=>(h e).Mp nb w
def aaL {α β:Type}{Z:Zf β}{p:GN α}{g:α->GN β}{t:GA}(h:Eg Z g) (hr:iJ p) (b:GX t= .bad) (w:W (p>>=g) t Z.Ro (QE Z.a Z.B Z.H0 Z.E)):QE Z.a Z.B Z.H0 Z.E 1 (JG t):=by
 rw[de] at w;rcases hr t b with e|⟨x,e⟩
 .rw[jN e] at w;exact w
 .rw[wb e] at w;exact h x t b w
inductive gW {α:Type}(a:bI) (args:Gr V) (p:GQ->GF->GN α) (c:GQ) (en bt:HK) (mk:α->Fk) (vs:Gr V) (H:Hp) (Q:VK) (E:XK):Prop
 |mk {β:Type}(B:Rb) (L:GQ) (H0:Hp) (Ro:β->GA->Prop) (F:Gr (Fk×V)) (b:HK) (t:GA) (Kn:GF) (f:GQ) (g:α->GN β) (_:vs= .ref B.r::args) (_:16*t.length+c<=f) (_:en=IN->Eg ⟨a,E,B,L,H0,Ro⟩ g) (_:RS ⟨a,E,B,L,H0,Ro⟩ F b H t Kn (p f Kn>>=g))
  (_: ∀x v H' t',RS #[a,E,B,L,H0,Ro] ((mk x,v)::F) (b||bt) H' t' Kn (g x)->Q v H'):gW a args p c en bt mk vs H Q E
inductive Fb {α:Type}(a:bI) (pp:Rb->GN α->Prop) (val:α->V) (vs:Gr V) (H:Hp) (Q:VK) (E:XK):Prop
 |mk {β:Type}(B:Rb) (L:GQ) (H0:Hp) (Ro:β->GA->Prop) (F:Gr (Fk×V)) (b:HK) (t:GA) (Kn:GF) (p:GN α) (g:α->GN β) (_:vs=[.ref B.r]) (_:pp B p) (_:RS ⟨a,E,B,L,H0,Ro⟩ F b H t Kn (p>>=g))
  (_: ∀x H' t',RS #[a,E,B,L,H0,Ro] F IN H' t' Kn (g x)->Q (val x) H'):Fb a pp val vs H Q E
section
variable {β:Type}{Z:Zf β}{H:Hp}{p:GN β}
def RS.room (R:RS Z F b H t Kn p):Kn.values.length+t.length<=4000:=by
 obtain⟨n,S⟩:=R.S;exact S.kn.len
def RS.lL (R:RS Z F b H t Kn p):t.length<=Z.L:=G0 (JO _ _) R.l
def RS.or {c:HK}(R:RS Z F IN H t Kn p):RS Z F (c||true) H t Kn p:=by rw[Qq];exact R
def RS.cut (n:GQ) (R:RS Z F b H t Kn p):RS Z (F.drop n) b H t Kn p:=#[R.S,R.k,λ{i x} e=>R.f (i:=n+i) (by rw[<-Gr.getElem?_drop];exact e),R.l,R.w]
def RS.asf {α:Type}{q q':GN α}{g:α->GN β}(R:RS Z F b H t Kn (q>>=g)) (e:q t=q' t):RS Z F b H t Kn (q'>>=g):=R.as (bo e)
end
section
variable {k:GQ}{x Ja:Ha}{st:Stmt}{f:GB}{fd:Ia}{N ps:Gr Ha}{α:Type}{args:Gr V}{p:GQ->GF->GN α}{c:GQ}{en bt:HK}{mk:α->Fk}{val:α->V}{pp:Rb->GN α->Prop}
def Fa (T:Txt K mg a) (XC:XT K a) (hk:8<=k) (F:sd K x Ja st f fd) (S:ax N ("reader"::ps) (ah st)) (hl:args.length=ps.length)
  (K9: ∀(IF:GC) (A:IE) (outer:Gr Env) (s:GH) (H:Hp) {β:Type}(B:Rb) (L:GQ) (H0:Hp) (Ro:β->GA->Prop) (F:Gr (Fk×V)) (b:HK) (t:GA) (Kn:GF) (fu:GQ) (g:α->GN β) (Q:VK) (E:XK),cx k (A.deeper (Lg Ja (ah st) s.heap.objs.size f IF))->16*t.length+c<=fu->
   let X:=gU (jR P w) P w K mg base N Ja (ah st) f IF A outer s H E
   let D:dB:= { nx:=λ_ H'=>Q .Ko H',rt:=Q }
   let Z:Zf β:=#[a,E,B,L,H0,Ro]
   (en=IN->Eg Z g)->RX X a E->RS Z F b H t Kn (p fu Kn>>=g)->(∀x v H' t',RS Z ((mk x,v)::F) (b||bt) H' t' Kn (g x)->Q v H')->Bd X (bq st) D (L2.start N (.ref B.r::args)) H):b6 P w K mg base (jR P w) (k+1) f fd ("reader"::ps) (gW a args p c en bt mk):=by
 refine kr F S (λvs H Q E h=>?_) [02]
 .obtain⟨B,L,H0,Ro,F,b,t,Kn,fu,g,rfl,_⟩:=h
  exact Hv Ry hl
 .obtain⟨B,L,H0,Ro,F,b,t,Kn,fu,g,rfl,h1,h2,R,q⟩:=h
  exact K9 IF A outer s H B L H0 Ro F b t Kn fu g Q E hr h1 h2 (kM T XC hk S hr) R q
def agG (T:Txt K mg a) (XC:XT K a) (hk:8<=k) (F:sd K x Ja st f fd) (S:ax N ["reader"] (ah st))
  (K9: ∀(IF:GC) (A:IE) (outer:Gr Env) (s:GH) (H:Hp) {β:Type}(B:Rb) (L:GQ) (H0:Hp) (Ro:β->GA->Prop) (F:Gr (Fk×V)) (b:HK) (t:GA) (Kn:GF) (p:GN α) (g:α->GN β) (Q:VK) (E:XK),cx k (A.deeper (Lg Ja (ah st) s.heap.objs.size f IF))->pp B p->
   let X:=gU (jR P w) P w K mg base N Ja (ah st) f IF A outer s H E
   let D:dB:= { nx:=λ_ H'=>Q .Ko H',rt:=Q }
   let Z:Zf β:=#[a,E,B,L,H0,Ro]
   RX X a E->RS Z F b H t Kn (p>>=g)->(∀x H' t',RS Z F IN H' t' Kn (g x)->Q (val x) H')->Bd X (bq st) D (L2.start N [.ref B.r]) H):b6 P w K mg base (jR P w) (k+1) f fd ["reader"] (Fb a pp val):=by
 refine kr F S [03] [02];obtain⟨B,L,H0,Ro,F,b,t,Kn,p,g,rfl,h1,R,q⟩:=h;exact K9 IF A outer s H B L H0 Ro F b t Kn p g Q E hr h1 (kM T XC hk S hr) R q
end
section
variable {β:Type}{Z:Zf β}{H:Hp}{E:XK}{Q:VK}{sp:Sp}{p:GN β}
def fO (Y:RX X a E) (c:CB X x ["reader"] sp) (q:sp [.ref B] H Q E) (hx:(x == ("__debug__":Ha))=IR:=by decide):Pe X (.Call (.Name x p1) [.Name "reader" p2] [] p4) (GM (.ref B)::σ) H Q:=by
 obtain⟨G,hr,d,hg⟩:=c;exact#[_,aq G hr hg d Y.up (aa Y.rd ac) hx,q]
def yA (Y:RX X a E) (c:CB X x ["reader","word"] sp) (q:sp [.ref B, .str v] H Q E) (hx:(x == ("__debug__":Ha))=IR:=by decide):Pe X (.Call (.Name x p1) [.Name "reader" p2, .Constant (.str v) j p3] [] p4) (GM (.ref B)::σ) H Q:=by
 obtain⟨G,hr,d,hg⟩:=c;exact#[_,aq G hr hg d Y.up (aa Y.rd (aa aK ac)) hx,q]
end
abbrev oM (P:Hr) (w:HW) (K:Gy) (mg:Ha->GJ GC) (base:Im) (a:bI) (k:GQ):Prop:=b6 P w K mg base (jR P w) k a.f_f a.ads ["reader","depth"] (bv a IN Hd 12 (Lv 13))
def zB {Kn:GF}{t:GA} :Lv 13 0 Kn t:=by show 13<=0+13;decide
def agH (T:Txt K mg a) (XC:XT K a) (hk:8<=k) (G:oM P w K mg base a k):
  T.Xc.O P w base (k+1) (gW a [] eJ 12 IR IN .e):=by
 refine Fa T XC hk T.Xc.F ajP KB λIF A outer s H β B L H0 Ro F b t Kn fu g Q E hr hf=>?_;intro X D Z _ Y R q;have c:CB X "read_exp" ["reader","depth"] (bv a IN Hd 12 (Lv 13)):=#[G,hr,T.Se.c,KB];have lL:=R.lL;have hF:16*(Z.at t.length).L+12<=fu+16:=G0 hf (JO _ _);have R:RS (Z.at t.length) F IR H t Kn (Hw "=">>=λ_=>Hd fu Jf Kn>>=λe=>Hw ";">>=λ_=>g e):=by
  have:=R.at;simp only[eJ,bind_assoc,pure_bind] at this;exact this
 refine db (Z:=Z.at t.length) Y agE R λH t R=>?_;refine eX (Z:=Z.at _) (d:=0) 1 Y c aG [08] R (n8 λx=>(bB ";").bind) (HG _) zB hF λe v H t R=>?_;refine db (Z:=Z.at _) Y DR R λH t R=>?_;exact aD (bW 1 (q e v H t (R.back lL).or))
def aaM {v:Ha}{s:String}(lit:dF v (Gx s)) (T:Txt K mg a) (XC:XT K a) (hk:8<=k) (G:oM P w K mg base a k):
  T.WA.O P w base (k+1) (gW a [.str v] (dP s) 12 IN IN .e):=by
 refine Fa T XC hk T.WA.F ajQ KB λIF A outer s0 H β B L H0 Ro F b t Kn fu g Q E hr hf=>?_;intro X D Z en Y R q;have lL:=R.lL;have R:RS (Z.at t.length) F IR H t Kn (IQ s>>=λ_=>Hd fu Jf Kn>>=g):=by
  have:=R.at;simp only[dP,bind_assoc] at this;exact this
 refine yX (Z:=Z.at t.length) Y R (pv 1) [08] (λr _ ok=>lit.p r ok) λH t1 R=>?_;have l1:t1.length+1<=t.length:=R.l;exact aD #[_,Y.call2 #[G,hr,T.Se.c,KB] aG [01] KB,RS.call (Z:=Z.at _) (d:=0) R (en KB) (HG _) zB (by lia) λe v H t _ R=>q e v H t (R.back lL).or]
def rj {α:Type}{s:String}{p:GN α}{t:GA}(h:GP t s=IN):IM s p t=(IQ s>>=λ_=>p>>=λx=>pure (GM x):GN (GJ α)) t:=by
 unfold IM;rw[GI h];have e:(IQ s>>=λ_=>p>>=λx=>pure (GM x):GN (GJ α)) t=(p>>=λx=>pure (GM x):GN (GJ α)) (t.drop 1):=by
  show(Hh (IQ s) _) t=_
  unfold Hh IQ;rw[GI h]
  rfl
 rw[e];show _=(Hh p _) (t.drop 1);unfold Hh;cases p (t.drop 1) with
 |error e=>rfl
 |ok z=>rfl
def pO {α:Type}{s:String}{p:GN α}{t:GA}(h:GP t s=IR):IM s p t= .ok (Ix,t):=by
 unfold IM;rw[GG (by rw[h];exact Gu)]
def agI {v:Ha}{s:String}(lit:dF v (Gx s)) (T:Txt K mg a) (XC:XT K a) (hk:8<=k)
  (G:T.WA.O P w base k (gW a [.str v] (dP s) 12 IN IN .e)):
  T.d_Q.O P w base (k+1) (gW a [.str v] (λf Kn=>IM s (Hd f Jf Kn)) 12 IN IR .o):=by
 refine Fa T XC hk T.d_Q.F ajR KB λIF A outer s0 H β B L H0 Ro F b t Kn fu g Q E hr hf=>?_;intro X D Z en Y R q;have en:=en KB;refine aY (kT (dq (nN Y R (pv 1) [08] (λbd=>aaL en (gR s _) bd R.w) λnb=>#[_,KB,?_])));rw[cz R.tok lit];cases WI:(GX t == Jd (Gx s)) with
 |false=>
  refine dR (aD (cg (q Ix .Ko H t (RS.and ?_ KB))));rw[PJ];exact R.as (bU (pO WI))
 |true=>
  have R:RS Z F b H t Kn (dP s fu Kn>>=λx=>g (GM x)):=by
   have:=R.asf (rj WI);simp only[dP,bind_assoc,pure_bind] at this ⊢;exact this
  refine cW (aD #[_,aq G hr (by rfl) T.WA.c Y.up (aa Y.rd (aa (pv 1) ac)),Z.B,Z.L,Z.H0,Z.Ro,F,b,t,Kn,fu,_,KB,hf,λ_ x r b w=>en (GM x) r b w,R,λx v H' t' R=>q (GM x) v H' t' ?_]);obtain⟨S,k,f,l,w⟩:=R;refine#[S,k,λ{i y} e=>?_,G0 (Na (by cases b<;>decide) _) l,w];cases i with
  |zero=>cases e;exact f (i:=0) (x:=(.e x,v)) KB
  |succ i=>exact f (i:=i+1) e
inductive xL (a:bI) (vs:Gr V) (H:Hp) (Q:VK) (E:XK):Prop
 |mk (r q kd fn ds bl:GB) (n:GQ) (x:HZ×HM) (t:GA) (d:GQ) (_:vs=[.ref r, .int d]) (_:oN a H r q kd fn ds bl n (x::t)) (_:(d=6->o0 a.Jm E H (if x.1= .bad then 1 else 6) x.2)) (_:(d≠6->Q (.int ((d+1:GQ):Int)) H)):xL a vs H Q E
def Bk (bl:XN) (B:Jt):Prop:= ∀u,has bl.c u=B.contains u
def agJ (T:Txt K mg a) (XC:XT K a):T.Zk.O P w base 6 (xL a):=by
 have UI:=gh (P:=P) (w:=w) (base:=base) T XC;refine kr T.Zk.F af4 [03] [02];obtain⟨r,q,kd,fn,ds,bl,n,x,t,d,rfl,R,hf,hg⟩:=h;obtain⟨dr,er⟩:=R.ins;refine#[_,(ai (bz (bg cu (pv 1) (bA (by rfl) T.Ri) (a0 _)) (ak (a6 (eW (pv 0) T.Ht T.Vx.c UI [05] bN (aa (bA (by rfl) T.QU) ac)))) aQ)
   (ak (aB (aZ eu (pv 1) aG)))),?_]
 refine#[KB,_,KB,?_];rw[cU];refine bi (λe=>?_) λe=>?_
 .have:=Hs e
  exact#[r,dr,_,KB,er,KB,r,q,kd,fn,ds,bl,n,x,t,6,KB,R,hf (by lia)]
 .have:=Hu e
  exact#[_,_,KB,KB,hg (by lia)]
section
variable {β:Type}{Z:Zf β}{H:Hp}
def ud (i:GQ) {g:GQ->GN β}(Y:RX X Z.a Z.E) (hd:d<=6) (nb:GX t≠ .bad) (R:RS Z F b H t Kn (IY (6-d)>>=g)) (q:d<6->RS Z F b H t Kn (g (6-(d+1)))->Bd X ss D ((GM (.ref Z.B.r)::GM (.int d)::σ).set i (GM (.int ((d+1:GQ):Int)))) H)
  (h:Sl X i y:=by exact#[KB,HF KB,KB]) (h1:X.N[1]?=GM ("depth":Ha):=by rfl) (v1:tu X.env.scope "depth":=by exact HF KB) (hg:Gl X "deeper_braces":=by rfl):
  Bd X (.Assign [.Name y p0] (.Call (.Name "deeper_braces" p1) [.Name "reader" p2, .Name "depth" p3] [] p4) p5::ss) D (GM (.ref Z.B.r)::GM (.int d)::σ) H:=by
 obtain⟨n,S⟩:=R.S;obtain⟨⟨x,xp⟩,t',rfl,tok,Q2,MU,_⟩:=S.wh.first;have hW:=R.w;rw[de] at hW;have nx:x≠ .bad:=nb;refine aW i Y.nd (h:=h) #[_,Y.call2 #[agJ Y.T Y.C,Y.hr.mono [01],Y.T.Zk.c,hg] (iM h1 v1) [01] KB,Z.B.r,Z.B.q,Z.B.kd,Z.B.fn,Z.B.ds,Z.B.bl,n,(x,xp),t',d,KB,S.rd,λe=>?_,λe=>?_]
 .rw[GG nx]
  exact ga (p:=IY (6-d)) (n:=6) (by unfold IY;rw[GI (by lia)]) nb hW H R.k
 .have ed:IY (6-d) ((x,xp)::t')= .ok (6-(d+1),(x,xp)::t'):=by unfold IY;rw[GG (by lia),show 6-d-1=6-(d+1) by lia]
  rw[wb ed] at hW;exact q (by lia) #[R.S,R.k,R.f,R.l,hW]
def aaN {p:GN β}{C:HK->Hp->Prop}(Y:RX X Z.a Z.E) (R:RS Z F b H ((.word u,xp)::t) Kn p) (hB:Bk Z.B.bl Bs) (q:C (!Bs.contains u) H) (hp:jV p2 p4:=by rfl):
  Pt X (.Compare (.Attribute (.Call (.Attribute (.Name "reader" p1) "current" p2) [] [] p4) "value" p5) [.NotIn] [.Attribute (.Name "reader" p6) "blocks" p7] p3) (GM (.ref Z.B.r)::σ) H C:=by
 obtain⟨n,S⟩:=R.S;obtain⟨dr,er⟩:=S.rd.ins;refine#[_,fE (qG (gP Y.hr) eD (az Y.rd KB)),xw Y R (λb=>nomatch b) (λ_=>#[Z.B.r,_,dr,_,_,KB,er,Y.T.Ht,Y.T.KL,KB,Z.B.bl.p,_,KB,kG.k (k:=nk u) S.R4,_,KB,?_]) hp]
 have:=hB u;unfold has at this;rw[this];exact q
end
def Ab {t:GA}(h:(x.1 == .word (Gx "sell"))=IN):JY (x::t)= .ok (IR,t):=by
 unfold JY;rw[GI (show GP (x::t) "sell"=IN from h)]
 rfl
def Ce {t:GA}(h0:(x.1 == .word (Gx "sell"))=IR) (h:(x.1 == .word (Gx "buy"))=IN):JY (x::t)= .ok (IN,t):=by
 unfold JY;rw[GG (by rw[show GP (x::t) "sell"=IR from h0];exact Gu),GI (show GP (x::t) "buy"=IN from h)]
 rfl
def yK {t:GA}(h0:(GX t == .word (Gx "sell"))=IR) (h:(GX t == .word (Gx "buy"))=IR):JY t=Hm 2 t:=by
 unfold JY;rw[GG (by rw[show GP t "sell"=IR from h0];exact Gu),GG (by rw[show GP t "buy"=IR from h];exact Gu)]
def agK (T:Txt K mg a) (XC:XT K a):T.Zl.O P w base 9 (Fb a (λ_ p=>p=JY) pI):=by
 refine agG T XC (GY _) T.Zl.F af7 λIF A outer s0 H β B L H0 Ro F b t Kn p g Q E hr hp=>?_;intro X D Z Y R q;subst hp;obtain⟨⟨x,xp⟩,r,rfl⟩:=R.cons;have v1:ng "sell" (GX ((x,xp)::r))=(x == .word (Gx "sell")):=cz R.tok yY;have v2:ng "buy" (GX ((x,xp)::r))=(x == .word (Gx "buy")):=cz R.tok Dx;refine aY (uv (kT (dq (jp Y R mH.bind λnb=>#[_,KB,?_]))));rw[v1];cases e1:(x == Jd (Gx "sell")) with
 |true=>
  obtain rfl:=beq_iff_eq.mp e1;refine cW (cW (aD (je Y (R.as (p':=HV>>=λ_=>g IR) (bU (Ab e1))) X2 λH R=>?_)));show Q (.str (sb (Gx "sell"))) H;rw[<-yY.1];exact q IR H r R
 |false=>
  refine dR (kT (dq (jS Y R nb #[_,KB,?_])));rw[v2];cases e2:(x == Jd (Gx "buy")) with
  |true=>
   obtain rfl:=beq_iff_eq.mp e2;refine cW (aD (je Y (R.as (p':=HV>>=λ_=>g IN) (bU (Ce e1 e2))) X2 λH R=>?_));show Q (.str (sb (Gx "buy"))) H;rw[<-Dx.1];exact q IN H r R
  |false=>exact dR (dQ (rW Y (bA (by rfl) T.Pn) R nb ((bo (yK (t:=(x,xp)::r) e1 e2)).trans KB)))
def agL (T:Txt K mg a) (XC:XT K a) (hk:8<=k) (G:oM P w K mg base a k):
  T.WB.O P w base (k+1) (gW a [] jD 12 IN IN .am):=by
 refine Fa T XC hk T.WB.F aga KB λIF A outer s0 H β B L H0 Ro F b t Kn fu g Q E hr hf=>?_;intro X D Z en Y R q;have lL:=R.lL;have hm:Kn.values.length+(Z.at t.length).L<=4000:=R.room;have R:RS (Z.at t.length) F IR H t Kn (IQ "amount">>=λ_=>Ig Kn>>=λx=>Hw ":">>=λ_=>Hd fu Jf (Kn.with x)>>=λe=>g (x,e)):=by
  have:=R.at;simp only[jD,bind_assoc,pure_bind] at this;exact this
 refine md (Z:=Z.at t.length) Y qC R λH t1 R=>?_;refine jI (Z:=Z.at t.length) 1 Y R λu H t2 ft R=>?_;refine db (Z:=Z.at t.length) Y X0 R λH t3 R=>?_;refine ik (Z:=Z.at t.length) Y (pv 1) [08] ft hm R λH R=>?_;refine eX (Z:=Z.at t.length) (d:=0) 2 Y #[G,hr,T.Se.c,KB] aG [08] R (λe r b w=>en KB (u,e) r b w) (HG _) zB (by show 16*t.length+12<=fu+16;lia) λe v H t4 R=>?_;refine mw (Z:=Z.at t.length) Y (pv 1) [08] ft R λH R=>?_;refine iA (Z:=Z.at t.length) Y (oG T) (aa (pv 1) (aa (pv 2) ac)) [08] R KB λw H i R=>?_;have R:=(RS.back (Z:=Z) lL R).or (c:=b);obtain⟨S,k,f,l,w'⟩:=R;have fe:=f (i:=0) KB;refine q (u,e) w H t4 #[S,k,λ{j y} z=>?_,l,w'];cases j with
 |zero=>cases z;exact#[v,i,fe]
 |succ j=>exact f (i:=j+1) z
def mY {t:GA}(hk:HU.contains u=IR):Kg B ((.word u,xp)::t)=if B.contains u=IN then .ok (u,t) else Hm 3 ((.word u,xp)::t):=by
 unfold Kg;rw[dD,GG (by rw[hk];exact Gu)]
def o9 {t:GA}(h:di x.1=IR):VQ (x::t)=Hm 2 (x::t):=by
 obtain⟨x,xp⟩:=x;cases x with
 |word u=>
  have h:di (.word u)=IR:=h;rw[dU] at h;rw[dD,GI (by cases e:HU.contains u;rw[e] at h;cases h;rfl)]
 |_=>rfl
def agM (T:Txt K mg a) (XC:XT K a):T.Zo.O P w base 9 (Fb a (λB p=> ∃Bs,Bk B.bl Bs/\p=Kg Bs) λu=> .str (sb u)):=by
 refine agG T XC (GY _) T.Zo.F agb λIF A outer s0 H β B L H0 Ro F b t Kn p g Q E hr hp=>?_;intro X D Z Y R q;obtain⟨Bs,hB,rfl⟩:=hp;obtain⟨⟨x,xp⟩,r,rfl⟩:=R.cons;refine dQ (p_L Y R (k9 Bs).bind (λ_ e=>(bo (q:=Hm 2) ?_).trans KB) λnb e=>?_)
 .unfold Kg
  rw[o9 e]
  rfl
 obtain⟨u,rfl,hu⟩:=ie e;have ek:=mY (xp:=xp) (t:=r) (B:=Bs) hu;refine aY (aaN Y R hB (bi (λh=>?_) λh=>?_))
 .rw[Vh] at h
  rw[h,GG Gu] at ek;exact dQ (rW Y (bA (by rfl) T.Qt) R nb ((bo (q:=Hm 3) ek).trans KB))
 .rw[US] at h
  rw[h,GI KB] at ek;exact aD (je Y (R.as (p':=HV>>=λ_=>g u) (bU ek)) X2 λH R=>q u H r R)
def EI:dF "let" (Gx "let"):=#[by decide+kernel,by decide+kernel,by decide+kernel]
def yz:dF "zone" (Gx "zone"):=#[by decide+kernel,by decide+kernel,by decide+kernel]
def wk:dF "quarter" (Gx "quarter"):=#[by decide+kernel,by decide+kernel,by decide+kernel]
def uG:dF "price" (Gx "price"):=#[by decide+kernel,by decide+kernel,by decide+kernel]
def X7:dF "to" (Gx "to"):=#[by decide+kernel,by decide+kernel,by decide+kernel]
def ui:dF "block" (Gx "block"):=#[by decide+kernel,by decide+kernel,by decide+kernel]
def tY:dF "under" (Gx "under"):=#[by decide+kernel,by decide+kernel,by decide+kernel]
def vR:dF "group" (Gx "group"):=#[by decide+kernel,by decide+kernel,by decide+kernel]
abbrev XN.at_ (bl:XN) (c:Gr (cf×V)):XN:=#[bl.p,c,bl.x]
abbrev Rb.bk (B:Rb) (c:Gr (cf×V)):Rb:= { B with bl:=B.bl.at_ c }
abbrev B9:=Js×GF×Jt
inductive o6 (a:bI) (av:GQ->Gr V) (ok:GQ->GA->Prop) (vs:Gr V) (H:Hp) (Q:VK) (E:XK):Prop
 |mk {β:Type}(B:Rb) (L:GQ) (H0:Hp) (Ro:β->GA->Prop) (F:Gr (Fk×V)) (b:HK) (t:GA) (Kn:GF) (Bs:Jt) (d f:GQ) (g:B9->GN β) (_:vs= .ref B.r::av d) (_:d<=6) (_:ok d t) (_:16*t.length+14<=f) (_:Bk B.bl Bs) (_:B.bl.c.length+t.length<=4000) (_:Eg ⟨a,E,B,L,H0,Ro⟩ g) (_:RS ⟨a,E,B,L,H0,Ro⟩ F b H t Kn (K4 f (6-d) Kn Bs>>=g))
  (_: ∀s v H' t' c',F4 Kn s.1 s.2.1->Bk (B.bl.at_ c') s.2.2->c'.length+t'.length<=4000->RS #[a,E,B.bk c',L,H0,Ro] ((.st s.1,v)::F) IN H' t' s.2.1 (g s)->Q v H'):o6 a av ok vs H Q E
section
variable {k:GQ}{x Ja:Ha}{st:Stmt}{f:GB}{fd:Ia}{N ps:Gr Ha}{av:GQ->Gr V}{ok:GQ->GA->Prop}
def zO (T:Txt K mg a) (XC:XT K a) (hk:8<=k) (F:sd K x Ja st f fd) (S:ax N ("reader"::ps) (ah st)) (hl: ∀d,(av d).length=ps.length)
  (K9: ∀(IF:GC) (A:IE) (outer:Gr Env) (s:GH) (H:Hp) {β:Type}(B:Rb) (L:GQ) (H0:Hp) (Ro:β->GA->Prop) (F:Gr (Fk×V)) (b:HK) (t:GA) (Kn:GF) (Bs:Jt) (d fu:GQ) (g:B9->GN β) (Q:VK) (E:XK),cx k (A.deeper (Lg Ja (ah st) s.heap.objs.size f IF))->d<=6->ok d t->16*t.length+14<=fu->Bk B.bl Bs->B.bl.c.length+t.length<=4000->
   let X:=gU (jR P w) P w K mg base N Ja (ah st) f IF A outer s H E
   let D:dB:= { nx:=λ_ H'=>Q .Ko H',rt:=Q }
   let Z:Zf β:=#[a,E,B,L,H0,Ro]
   Eg Z g->RX X a E->RS Z F b H t Kn (K4 fu (6-d) Kn Bs>>=g)->(∀s v H' t' c',F4 Kn s.1 s.2.1->Bk (B.bl.at_ c') s.2.2->c'.length+t'.length<=4000->RS #[a,E,B.bk c',L,H0,Ro] ((.st s.1,v)::F) IN H' t' s.2.1 (g s)->Q v H')->Bd X (bq st) D (L2.start N (.ref B.r::av d)) H):b6 P w K mg base (jR P w) (k+1) f fd ("reader"::ps) (o6 a av ok):=by
 refine kr F S (λvs H Q E h=>?_) [02]
 .obtain⟨B,L,H0,Ro,F,b,t,Kn,Bs,d,fu,g,rfl,_⟩:=h
  exact Hv Ry (hl d)
 .obtain⟨B,L,H0,Ro,F,b,t,Kn,Bs,d,fu,g,rfl,h1,h2,h3,h4,h5,h6,R,q⟩:=h
  exact K9 IF A outer s H B L H0 Ro F b t Kn Bs d fu g Q E hr h1 h2 h3 h4 h5 h6 (kM T XC hk S hr) R q
end
section
variable {β:Type}{Z:Zf β}{H:Hp}
def jO (i:GQ) {g:GD->GN β}(Y:RX X Z.a Z.E) (c:CB X "read_part" ["reader","word"] (gW Z.a [.str v] (dP s) 12 IN IN .e)) (R:RS Z F IN H t Kn (dP s f Kn>>=g)) (hf:16*Z.L+12<=f+16) (en: ∀e,be (g e)) (q: ∀e v H' t',RS Z ((.e e,v)::F) IN H' t' Kn (g e)->Bd X ss D ((GM (.ref Z.B.r)::σ).set i (GM v)) H')
  (h:Sl X i y:=by exact#[KB,HF KB,KB]):Bd X (.Assign [.Name y p0] (.Call (.Name "read_part" p1) [.Name "reader" p2, .Constant (.str v) j p3] [] p4) p5::ss) D (GM (.ref Z.B.r)::σ) H:=by
 have l:t.length+1<=Z.L:=R.l;exact aW i Y.nd (yA Y c #[Z.B,Z.L,Z.H0,Z.Ro,F,IN,t,Kn,f,g,KB,by lia,λ_=>E9 en,R,q]) h
def qT (i:GQ) {g:GJ GD->GN β}(Y:RX X Z.a Z.E) (c:CB X "read_part_if_there" ["reader","word"] (gW Z.a [.str v] (λf Kn=>IM s (Hd f Jf Kn)) 12 IN IR .o)) (R:RS Z F IN H t Kn (IM s (Hd f Jf Kn)>>=g)) (hf:16*Z.L+12<=f+16) (en: ∀e,be (g e)) (q: ∀e v H' t',RS Z ((.o e,v)::F) IN H' t' Kn (g e)->Bd X ss D ((GM (.ref Z.B.r)::σ).set i (GM v)) H')
  (h:Sl X i y:=by exact#[KB,HF KB,KB]):Bd X (.Assign [.Name y p0] (.Call (.Name "read_part_if_there" p1) [.Name "reader" p2, .Constant (.str v) j p3] [] p4) p5::ss) D (GM (.ref Z.B.r)::σ) H:=by
 have l:t.length+1<=Z.L:=R.l;exact aW i Y.nd (yA Y c #[Z.B,Z.L,Z.H0,Z.Ro,F,IN,t,Kn,f,g,KB,by lia,λ_=>E9 en,R,q]) h
def oP (i:GQ) {g:GD->GN β}(Y:RX X Z.a Z.E) (c:CB X "read_given" ["reader"] (gW Z.a [] eJ 12 IR IN .e)) (R:RS Z F IN H t Kn (eJ f Kn>>=g)) (hf:16*Z.L+12<=f+16) (q: ∀e v H' t',RS Z ((.e e,v)::F) IN H' t' Kn (g e)->Bd X ss D ((GM (.ref Z.B.r)::σ).set i (GM v)) H')
  (h:Sl X i y:=by exact#[KB,HF KB,KB]):Bd X (.Assign [.Name y p0] (.Call (.Name "read_given" p1) [.Name "reader" p2] [] p4) p5::ss) D (GM (.ref Z.B.r)::σ) H:=by
 have l:t.length+1<=Z.L:=R.l;exact aW i Y.nd (fO Y c #[Z.B,Z.L,Z.H0,Z.Ro,F,IN,t,Kn,f,g,KB,by lia,(λz=>nomatch z),R,q]) h
def xH (i:GQ) {g:HK->GN β}(Y:RX X Z.a Z.E) (R:RS Z F b H t Kn (JY>>=g)) (hr:cx 9 X.A) (q: ∀e H' t',RS Z F IN H' t' Kn (g e)->Bd X ss D ((GM (.ref Z.B.r)::σ).set i (GM (pI e))) H')
  (h:Sl X i y:=by exact#[KB,HF KB,KB]) (hg:Gl X "read_side":=by rfl):Bd X (.Assign [.Name y p0] (.Call (.Name "read_side" p1) [.Name "reader" p2] [] p4) p5::ss) D (GM (.ref Z.B.r)::σ) H:=
 aW i Y.nd (fO Y #[agK Y.T Y.C,hr,Y.T.Zl.c,hg] #[Z.B,Z.L,Z.H0,Z.Ro,F,b,t,Kn,_,g,KB,KB,R,q]) h
end
section
variable {K:GF}{β:Type}{g:B9->GN β}
def aaO (h:GP t "let"=IN):(K4 (k+1) d K B>>=g) t=(HV>>=λ_=>Ig K>>=λx=>eJ k K>>=λe=>g (.bind x e,K.with x,B)) t:=by
 rw[bo (DE h)];simp only[eJ,bind_assoc,pure_bind]
def Ff (h1:GP t "let"=IR) (h2:GP t "for"=IR) (h3:GP t "if"=IR) (h4:GP t "block"=IR):(K4 (k+1) d K B>>=g) t=(JY>>=λRL=>dP "zone" k K>>=λz=>dP "quarter" k K>>=λq=>dP "price" k K>>=λp=>IM "to" (Hd k Jf K)>>=λtop=>dP "amount" k K>>=λa=>Hw ";">>=λ_=>g (.step RL z q p top a,K,B)) t:=by
 rw[bo (zY h1 h2 h3 h4)];simp only[dP,bind_assoc,pure_bind]
end
def agN (T:Txt K mg a) (XC:XT K a) (hk:8<=k) (G:T.Xc.O P w base k (gW a [] eJ 12 IR IN .e)):
  T.Zj.O P w base (k+1) (o6 a (λ_=>[]) λ_ t=>GP t "let"=IN):=by
 refine zO T XC hk T.Zj.F af3 (λ_=>rfl) λIF A outer s H β B L H0 Ro F b t Kn Bs d fu g Q E hr hd ho hf hB hc=>?_;intro X D Z en Y R q;have lL:=R.lL;have hm:Kn.values.length+(Z.at t.length).L<=4000:=R.room;obtain⟨xp,r,rfl⟩:=fP R (beq_iff_eq.mp ho);obtain⟨f,rfl⟩: ∃f,fu=f+1:=#[fu-1,by lia];have hF:16*(Z.at (((Jd (Gx "let"),xp)::r).length)).L+12<=f+16:=by show 16*((Jd (Gx "let"),xp)::r).length+12<=f+16;lia
 refine jt (Z:=Z.at _) Y EI (R.at.as (aaO ho)) λH t R=>?_;refine jI (Z:=Z.at _) 1 Y R λu H t ft R=>?_;refine oP (Z:=Z.at _) 2 Y #[G,hr,T.Xc.c,KB] R hF λe v H t R=>?_;refine ik (Z:=Z.at _) Y (pv 1) [08] ft hm R λH R=>?_;refine iA (Z:=Z.at _) Y (DN T) (aa (pv 1) (aa (pv 2) ac)) [08] R KB λw H i R=>?_;have l:t.length+1<=r.length+1:=R.l;have R:=RS.back (Z:=Z) lL R;refine q (.bind u e,Kn.with u,Bs) w H t B.bl.c ⟨rfl,ft⟩ hB (by rw[Gv] at hc;lia) ((R.cut 1).and ?_);show aO a (fG B) H (.bind u e) w;unfold aO;exact#[v,i,R.f (i:=0) KB]
def agO (T:Txt K mg a) (XC:XT K a) (hk:9<=k)
  (G1: ∀ {v:Ha}{s:String},dF v (Gx s)->T.WA.O P w base k (gW a [.str v] (dP s) 12 IN IN .e))
  (G2:T.d_Q.O P w base k (gW a [.str "to"] (λf Kn=>IM "to" (Hd f Jf Kn)) 12 IN IR .o)):
  T.Zm.O P w base (k+1) (o6 a (λ_=>[]) λ_ t=>GP t "let"=IR/\GP t "for"=IR/\GP t "if"=IR/\GP t "block"=IR):=by
 refine zO T XC (by lia) T.Zm.F af8 (λ_=>rfl) λIF A outer s H β B L H0 Ro F b t Kn Bs d fu g Q E hr hd ho hf hB hc=>?_;intro X D Z en Y R q;have lL:=R.lL;obtain⟨n1,n2,n3,n4⟩:=ho;obtain⟨f,rfl⟩: ∃f,fu=f+1:=#[fu-1,by lia];have hF:16*(Z.at t.length).L+12<=f+16:=by show 16*t.length+12<=f+16;lia
 have cp: ∀ {v:Ha}{s:String},dF v (Gx s)->CB X "read_part" ["reader","word"] (gW a [.str v] (dP s) 12 IN IN .e):=λl=>#[G1 l,hr,T.WA.c,KB]
 have ps: ∀ {γ:Type}{s:String}{f:GQ}{h:GD->GN γ},be (dP s f Kn>>=h):=(fB _).bind.bind;refine xH (Z:=Z.at t.length) 1 Y (R.at.as (Ff n1 n2 n3 n4)) (hr.mono hk) λbu H t1 R=>?_
 refine jO (Z:=Z.at t.length) 2 Y (cp yz) R hF (λ_=>ps) λe1 v1 H t2 R=>?_;refine jO (Z:=Z.at t.length) 3 Y (cp wk) R hF (λ_=>ps) λe2 v2 H t3 R=>?_;refine jO (Z:=Z.at t.length) 4 Y (cp uG) R hF (λ_=>(gR "to" _).strict λ_=>ps) λe3 v3 H t4 R=>?_;refine qT (Z:=Z.at t.length) 5 Y #[G2,hr,T.d_Q.c,KB] R hF (λ_=>ps) λe4 v4 H t5 R=>?_;refine jO (Z:=Z.at t.length) 6 Y (cp qC) R hF (λ_=>(bB ";").bind) λe5 v5 H t6 R=>?_;refine db (Z:=Z.at t.length) Y DR R λH t7 R=>?_;refine iA (Z:=Z.at t.length) Y (yV T) (aa (pv 1) (aa (pv 2) (aa (pv 3) (aa (pv 4) (aa (pv 5) (aa (pv 6) ac)))))) [08] R KB λw H i R=>?_;have l:t7.length+1<=t.length:=R.l;have R:=RS.back (Z:=Z) lL R;refine q (.step bu e1 e2 e3 e4 e5,Kn,Bs) w H t7 B.bl.c KB hB (by lia) ((R.cut 5).and ?_);show aO a (fG B) H (.step bu e1 e2 e3 e4 e5) w;unfold aO;exact#[v1,v2,v3,v4,v5,i,R.f (i:=4) KB,R.f (i:=3) KB,R.f (i:=2) KB,R.f (i:=1) KB,R.f (i:=0) KB]
def CN {B:Jt}{t:GA}(RK:HU.contains u=IR):KN B ((.word u,xp)::t)=if B.contains u=IN then Hm 4 ((.word u,xp)::t) else .ok (GM u,t):=by
 have c: ¬(GP ((.word u,xp)::t) "sell"=IN\/GP ((.word u,xp)::t) "buy"=IN):=λz=>z.elim (λz=>by
  have:Jd u= .word (Gx "sell"):=beq_iff_eq.mp z;cases this;exact G6 RK [00]) λz=>by
  have:Jd u= .word (Gx "buy"):=beq_iff_eq.mp z;cases this;exact G6 RK [00]
 unfold KN;rw[GG c];unfold UY;rw[dD,GG (by rw[RK];exact Gu)];dsimp only;by_cases h:B.contains u=IN
 .rw[GI h,GI h]
  rfl
 .rw[GG h,GG h]
def Eu {γ:Type}{B:Jt}{t:GA}(nb:x.1≠ .bad) (en:di x.1=IR) {g:GJ Gz->HK->GN γ} :(KN B>>=λm=>JY>>=λb=>g m b) (x::t)=(JY>>=λb=>g Ix b) (x::t):=by
 by_cases c:GP (x::t) "sell"=IN\/GP (x::t) "buy"=IN
 .exact bU (by unfold KN;rw[GI c])
 .have e:KN B (x::t)= .error (2,JG (x::t)):=by
   unfold KN UY;rw[GG c,o9 en];unfold Hm;rw[GG (show¬GX (x::t)= .bad from nb)]
  have e2:JY (x::t)= .error (2,JG (x::t)):=by
   rw[yK (t:=x::t) (by cases h:(GX (x::t) == Jd (Gx "sell"));rfl;exact G6 (.inl h) c) (by cases h:(GX (x::t) == Jd (Gx "buy"));rfl;exact G6 (.inr h) c)];unfold Hm;rw[GG (show¬GX (x::t)= .bad from nb)]
  show Hh _ _ (x::t)=Hh _ _ (x::t)
  unfold Hh;rw[e,e2]
  rfl
def fU.aaP {a:bI}{H:Hp}{B:Rb}{t:GA}{Kn:GF}(S:fU a B H n t Kn):fU a (B.bk c) (bf H B.bl.p (.dK c)) n t Kn:=by
 obtain⟨dr,er⟩:=S.rd.ins;obtain⟨as,all,h1,h2,h3⟩:=S.rd.toks;obtain⟨kk,k1,k2,k3⟩:=S.kn.vals;obtain⟨ff,f1,f2⟩:=S.kn.funs;have hy:=S.SE;have e:=S.R4;obtain⟨d1,d2,d3,d4,d5,d6⟩:=S.Qc;have nr:B.r≠B.bl.p:=λw=>by rw[w,e] at er;cases er
 have nq:B.q≠B.bl.p:=λw=>by rw[w,e] at h1;cases h1
 refine#[#[#[dr,(by show bf H B.bl.p (.dK c) B.r=_;rw[af nr];exact er)],as,all,(by show bf H B.bl.p (.dK c) B.q=_;rw[af nq];exact h1),Paired.Nt h2 λb x ⟨dx,ex⟩=>#[dx,?_],h3],S.wh,#[#[kk,(by show bf H B.bl.p (.dK c) B.kd=_;rw[af d3];exact k1),k2,k3],#[ff,(by show bf H B.bl.p (.dK c) B.fn=_;rw[af d5];exact f1),f2],S.kn.len,#[ff,(by show bf H B.bl.p (.dK c) B.fn=_;rw[af d5];exact f1),S.kn.fl f1]],(by show bf H B.bl.p (.dK c) B.ds.p=_;rw[af d6];exact hy),aj,S.Qc,λb xs h=>?_]
 .rw[af λw=>by rw[w,e] at ex;cases ex]
  exact ex
 .have e2:=S.fr b xs h
  rw[af λw=>by rw[w,e] at e2;cases e2];exact e2
section
variable {β:Type}{Z:Zf β}{H:Hp}{Q:VK}{p:GN β}
def wY (Y:RX X Z.a Z.E) (R:RS Z F b H t Kn p) (hb:GX t= .bad->QE Z.a Z.B Z.H0 Z.E 1 (JG t)) (no:GX t≠ .bad->ng v (GX t)=IR->Q (.bl IR) H)
  (yes: ∀ {x:HZ×HM}{r:GA},t=x::r->ng v x.1=IN->x.1≠ .bad-> ¬j5 x/\ ∃p',p (x::r)=(HV>>=λ_=>p') (x::r)/\ ∀H',RS Z F IN H' r Kn p'->Q (.bl IN) H') (hp:jV p2 p4:=by rfl):
  Pe X (.Call (.Attribute (.Name "reader" p1) "skips" p2) [.Constant (.str v) j p3] [] p4) (GM (.ref Z.B.r)::σ) H Q:=by
 obtain⟨n,S⟩:=R.S;obtain⟨x,t',rfl,tok,Q2,MU,_⟩:=S.wh.first;refine Y.m1 Y.T.Y5.c (DF Y.T Y.C) [01] Y.up S KB (vD #[Z.B.r,Z.B.q,Z.B.kd,Z.B.fn,Z.B.ds,Z.B.bl,n,x,t',v,KB,S.rd,λb=>hb (Q2.trans b) H R.k,no,λnb e H' hp=>?_]) hp KB;obtain⟨nf,p',e',q⟩:=yes KB e nb;exact q H' ((R.as e').past S nf hp (R.as e').w)
def zt (Y:RX X Z.a Z.E) (R:RS Z F b H t Kn p) (hf: ∀n,(sY Z.B.q Z.B.kd Z.B.fn Z.B.ds.p Z.B.bl.p n).lookup fld=GM (.ref gd)) (na:aH X.K Z.a.HP fld) (hg:H gd=GM (.dK gg)) (st:be p) (h2:GX t≠ .bad->di (GX t)=IR->p t=Hm 2 t) (h4: ∀u,GX t= .word u->HU.contains u=IR->has gg u=IN->p t=Hm 4 t)
  (q: ∀u xp r,t=(.word u,xp)::r->HU.contains u=IR->has gg u=IR-> ∃p',p ((.word u,xp)::r)=(HV>>=λ_=>p') ((.word u,xp)::r)/\ ∀H',RS Z F IN H' r Kn p'->Q (.str (sb u)) H') (hp:jV p2 p4:=by rfl):
  Pe X (.Call (.Attribute (.Name "reader" p1) "take_name_not_in" p2) [.Attribute (.Name "reader" p3) fld p6] [] p4) (GM (.ref Z.B.r)::σ) H Q:=by
 obtain⟨n,S⟩:=R.S;obtain⟨dr,er⟩:=S.rd.ins;obtain⟨⟨x,xp⟩,t',rfl,tok,Q2,MU,_⟩:=S.wh.first;refine Y.m1 Y.T.Y7.c (jT Y.T Y.C) [01] Y.up S KB #[_,az Y.rd KB,Z.B.r,_,dr,_,_,KB,er,Y.T.Ht,na,hf n,Z.B.r,Z.B.q,Z.B.kd,Z.B.fn,Z.B.ds,Z.B.bl,gd,n,(x,xp),t',gg,KB,S.rd,hg,λb=>st.Mp (Q2.trans b) R.w H R.k,λnb e=>ga (h2 nb e) nb R.w H R.k,λu ex e hu=>?_,λu ex e hu H' hp=>?_] hp KB
 .obtain⟨u',e1,e2⟩:=ie e
  obtain rfl:u=u':=by have:=ex.symm.trans e1;cases this;rfl
  exact ga (h4 u ex e2 hu) (by rw[show GX ((x,xp)::t')= .word u from ex];intro z;cases z) R.w H R.k
 .obtain⟨u',e1,e2⟩:=ie e
  obtain rfl:u=u':=by have:=ex.symm.trans e1;cases this;rfl
  obtain rfl:x= .word u:=ex;obtain⟨p',e',q⟩:=q u xp t' KB e2 hu;exact q H' ((R.as e').past S X2 hp (R.as e').w)
theorem RS.aaP {a:bI}{E:XK}{B:Rb}{H0:Hp}{Ro:β->GA->Prop}(R:RS #[a,E,B,L,H0,Ro] F b H t Kn p):RS #[a,E,B.bk c,L,H0,Ro] F b (bf H B.bl.p (.dK c)) t Kn p:=by
 obtain⟨n,S⟩:=R.S;have k:dj (fG B) H (bf H B.bl.p (.dK c)):=fC (.inr (.inr (.inr (.inr (.inl KB)))));exact#[#[n,S.aaP],R.k.trans k,λe=>jU.Ie k.two (R.f e),R.l,R.w]
end
section
variable {K:GF}{β:Type}{g:B9->GN β}
def BX (h1:GP t "let"=IR) (h2:GP t "for"=IR) (h3:GP t "if"=IR) (h:GP t "block"=IN):(K4 (k+1) d K B>>=g) t=(HV>>=λ_=>KN B>>=λm=>JY>>=λRL=>dP "zone" k K>>=λz=>dP "price" k K>>=λp=>jD k K>>=λx=>
  IM "under" (Kg B)>>=λu=>IM "group" (Hd k Jf K)>>=λgr=>Hw ";">>=λ_=>g (.block m RL z p x.1 x.2 u gr,K,k7 m B)) t:=by
 rw[bo (xa h1 h2 h3 h)];simp only[dP,jD,bind_assoc,pure_bind]
end
def agP (T:Txt K mg a) (XC:XT K a) (hk:9<=k)
  (G1: ∀ {v:Ha}{s:String},dF v (Gx s)->T.WA.O P w base k (gW a [.str v] (dP s) 12 IN IN .e))
  (G2:T.d_Q.O P w base k (gW a [.str "group"] (λf Kn=>IM "group" (Hd f Jf Kn)) 12 IN IR .o))
  (G3:T.WB.O P w base k (gW a [] jD 12 IN IN .am)):
  T.Zn.O P w base (k+1) (o6 a (λ_=>[]) λ_ t=>GP t "let"=IR/\GP t "for"=IR/\GP t "if"=IR/\GP t "block"=IN):=by
 refine zO T XC (by lia) T.Zn.F af9 (λ_=>rfl) λIF A outer s H β B L H0 Ro F b t Kn Bs d fu g Q E hr hd ho hf hB hc=>?_;intro X D Z en Y R q;have lL:=R.lL;have hm:Kn.values.length+(Z.at t.length).L<=4000:=R.room;obtain⟨n1,n2,n3,n4⟩:=ho;obtain⟨f,rfl⟩: ∃f,fu=f+1:=#[fu-1,by lia];have hF:16*(Z.at t.length).L+12<=f+16:=by show 16*t.length+12<=f+16;lia
 have cp: ∀ {v:Ha}{s:String},dF v (Gx s)->CB X "read_part" ["reader","word"] (gW a [.str v] (dP s) 12 IN IN .e):=λl=>#[G1 l,hr,T.WA.c,KB]
 have ps: ∀ {γ:Type}{s:String}{f:GQ}{h:GD->GN γ},be (dP s f Kn>>=h):=(fB _).bind.bind;obtain⟨xp,r,e⟩:=fP R (beq_iff_eq.mp n4)
 have R:=R.at.as (BX n1 n2 n3 n4);generalize hl:t.length=l at R lL hF hm hc hf;subst e;refine jt (Z:=Z.at l) Y ui R λH t R=>?_
 refine aW 1 Y.nd (cg ?_);refine jL (λσ' H'=> ∃(m:GJ Gz) (t:GA),σ'=[GM (.ref B.r),GM (jd m),Ix,Ix,Ix,Ix,Ix,Ix]/\RS (Z.at l) F IN H' t Kn (JY>>=λRL=>dP "zone" f Kn>>=λz=>dP "price" f Kn>>=λp=>jD f Kn>>=λx=>
  IM "under" (Kg Bs)>>=λu=>IM "group" (Hd f Jf Kn)>>=λgr=>Hw ";">>=λ_=>g (.block m RL z p x.1 x.2 u gr,Kn,k7 m Bs))) ?_ ?_
 .rintro σ H ⟨m,t,rfl,R⟩
  refine xH (Z:=Z.at l) 2 Y R (hr.mono hk) λbu H t R=>?_;refine jO (Z:=Z.at l) 3 Y (cp yz) R hF (λ_=>ps) λe1 v1 H t R=>?_;refine jO (Z:=Z.at l) 4 Y (cp uG) R hF (λ_=>(fB _).bind.bind) λe2 v2 H t R=>?_;have l5:t.length+1<=l:=R.l;have en6: ∀x:Gz×GD,be (IM "under" (Kg Bs)>>=λu=>IM "group" (Hd f Jf Kn)>>=λgr=>Hw ";">>=λ_=>g (.block m bu e1 e2 x.1 x.2 u gr,Kn,k7 m Bs)):=λ_=>(gR "under" _).strict λ_=>(gR "group" _).strict λ_=>(bB ";").bind;refine aW 5 Y.nd (fO Y #[G3,hr,T.WB.c,KB] #[B,l,H0,Ro,_,IN,t,Kn,f,_,KB,(by have:16*l+12<=f+16:=hF;lia),λ_=>E9 en6,R,λe3 v3 H t R=>?_]);have R:RS (Z.at l) _ IN H t Kn _:=R;refine aW 6 Y.nd (cg ?_);refine jL (λσ' H'=> ∃(un:GJ Gz) (t:GA),σ'=[GM (.ref B.r),GM (jd m),GM (pI bu),GM v1,GM v2,GM v3,GM (jd un),Ix]/\RS (Z.at l) ((.am e3,v3)::(.e e2,v2)::(.e e1,v1)::F) IN H' t Kn (IM "group" (Hd f Jf Kn)>>=λgr=>Hw ";">>=λ_=>g (.block m bu e1 e2 e3.1 e3.2 un gr,Kn,k7 m Bs))) ?_ ?_
  .rintro σ H ⟨un,t,rfl,R⟩
   refine qT (Z:=Z.at l) 7 Y #[G2,hr,T.d_Q.c,KB] R hF (λ_=>(bB ";").bind) λe4 v4 H t R=>?_;refine db (Z:=Z.at l) Y DR R λH t R=>?_;have l9:t.length+1<=l:=R.l;have R:=RS.back (Z:=Z) lL R;refine jL (λσ' H'=> ∃c',σ'=[GM (.ref B.r),GM (jd m),GM (pI bu),GM v1,GM v2,GM v3,GM (jd un),GM v4]/\Bk (B.bl.at_ c') (k7 m Bs)/\c'.length+t.length<=4000/\RS #[a,E,B.bk c',L,H0,Ro] ((.o e4,v4)::(.am e3,v3)::(.e e2,v2)::(.e e1,v1)::F) IN H' t Kn (g (.block m bu e1 e2 e3.1 e3.2 un e4,Kn,k7 m Bs))) ?_ ?_
   .rintro σ H ⟨c',rfl,hB',V0,R⟩
    refine iA (Z:=#[a,E,B.bk c',L,H0,Ro]) Y (ut T) (aa (pv 1) (aa (pv 2) (aa (pv 3) (aa (pv 4) (aa (pv 5) (aa (pv 6) (aa (pv 7) ac))))))) [08] R KB λw H i R=>?_;refine q (.block m bu e1 e2 e3.1 e3.2 un e4,Kn,k7 m Bs) w H t c' KB hB' V0 ((R.cut 4).and ?_);show aO a (fG B) H (.block m bu e1 e2 e3.1 e3.2 un e4) w;unfold aO;exact#[v1,v2,v3,v4,i,R.f (i:=3) KB,R.f (i:=2) KB,R.f (i:=1) KB,R.f (i:=0) KB]
   .refine#[_,fE (sS (pv 1)),_,KB,?_]
    cases m with
    |none=>exact cW #[B.bl.c,KB,hB,by lia,R]
    |some u=>
     obtain⟨n,S⟩:=R.S;obtain⟨dr,er⟩:=S.rd.ins;refine dR (dA (nI (gP hr) [07] (pv 1) tV KB) #[B.r,_,dr,_,_,KB,er,T.Ht,T.KL,KB,B.bl.p,_,KB, .inl #[B.bl.c,nk u,S.R4,KB,HH (show B.bl.c.length<=4000 by lia) [01],KB],fi #[fX B.bl.c (nk u) (.bl IN),KB,λv=>?_,?_,R.aaP]])
     .show has (fX B.bl.c (nk u) (.bl IN)) v=(u::Bs).contains v
      rw[sG,HS,hB v]
      congr 1
      rw[Iv,Il,beq_iff_eq]
     .have:=fR B.bl.c (nk u) (.bl IN)
      lia
  .refine dq (wY (Z:=Z.at l) Y R (λb=>(en6 e3).Mp b R.w) (λnb e=>#[_,KB,cW #[Ix,t,KB,R.as (bU (pO ((cz R.tok tY).symm.trans e)))]]) λ{x r} et e nb=>?_)
   subst et;have e:=(cz R.tok tY).symm.trans e;obtain⟨x,xp⟩:=x;obtain rfl:x=_:=beq_iff_eq.mp e;refine#[X2,Kg Bs>>=λu=>IM "group" (Hd f Jf Kn)>>=λgr=>Hw ";">>=λ_=>g (.block m bu e1 e2 e3.1 e3.2 (GM u) gr,Kn,k7 m Bs),?_,λH R=>#[_,KB,dR (aW 6 Y.nd (fO Y #[agM T XC,hr.mono hk,T.Zo.c,KB] #[B,l,H0,Ro,_,IN,r,Kn,_,_,KB,#[Bs,hB,KB],R,λu H t R=>fi #[GM u,t,KB,R]]))]];rw[bo (rj e),bind_assoc];simp only[bind_assoc,pure_bind];exact bU (by unfold IQ;rw[GI (show GP ((.word (Gx "under"),xp)::r) "under"=IN from e)])
 .obtain⟨⟨x,xp⟩,r,rfl⟩:=R.cons
  refine dq (XX (Z:=Z.at l) Y T.Wj.c (ox T XC) [01] (λ_=>rfl) R (hZ Bs).bind λnb=>#[_,KB,bi (λe=>?_) λe=>?_])
  .obtain⟨u,rfl,hu⟩:=ie e
   have em:=CN (B:=Bs) (xp:=xp) (t:=r) hu;obtain⟨n,S⟩:=R.S;refine aW 1 Y.nd (zt (Z:=Z.at l) Y R (λ_=>rfl) T.KL S.R4 (hZ Bs).bind (λ_ z=>G6 e (by rw[z];exact Gu)) (λu' e1 _ hu'=>?_) λu' xp' r' e1 _ hu'=>?_)
   .cases e1
    rw[GI ((hB u).symm.trans hu')] at em;exact(bo (q:=Hm 4) em).trans KB
   .cases e1
    have hx:Bs.contains u=IR:=(hB u).symm.trans hu';rw[hx,GG Gu] at em;exact#[_,(bU em).trans KB,λH R=>fi #[GM u,r,KB,R]]
  .exact#[Ix,_,KB,R.as (Eu nb e)]
structure qz (K:Gy) (a:bI):Prop where
 t1:Bu K a.Mt
 t2:Bu K a.NU
 t3:Bu K a.QB
 t4:Bu K a.LQ
 t5:Bu K a.KH
 k1:Jk K (.ref a.Mt) (.ref a.Mt)=GM IN
 k2:Jk K (.ref a.NU) (.ref a.Mt)=GM IR
 k3:Jk K (.ref a.QB) (.ref a.Mt)=GM IR
 k4:Jk K (.ref a.LQ) (.ref a.Mt)=GM IR
 k5:Jk K (.ref a.KH) (.ref a.Mt)=GM IR
theorem qz.of {K:Gy}{a:bI}{M:GB->Prop}{H:Hp}(I:qz K a) (h:aO a M H s v): ∃C,jh K H v (.ref C)/\Jk K (.ref C) (.ref a.Mt)=GM (mM s).isSome:=by
 cases s with
 |bind x e=>
  unfold aO at h;obtain⟨u,⟨p,dx,rfl,m,z⟩,_⟩:=h;exact#[_,I.t1.of z,I.k1]
 |loop x lo hi l=>
  unfold aO at h;obtain⟨u1,u2,q,us,⟨p,dx,rfl,m,z⟩,_⟩:=h;exact#[_,I.t2.of z,I.k2]
 |cond c x y=>
  unfold aO at h;obtain⟨u,q,us,g,ws,⟨p,dx,rfl,m,z⟩,_⟩:=h;exact#[_,I.t3.of z,I.k3]
 |step b z qu p top am=>
  unfold aO at h;obtain⟨u1,u2,u3,u4,u5,⟨p,dx,rfl,m,z⟩,_⟩:=h;exact#[_,I.t4.of z,I.k4]
 |block nm b z p x am un g=>
  unfold aO at h;obtain⟨u1,u2,u3,u4,⟨p,dx,rfl,m,z⟩,_⟩:=h;exact#[_,I.t5.of z,I.k5]
def fU.WR {a:bI}{H:Hp}{t:GA}{K1 K2:GF}(S:fU a B H n t K1) (hc:K1.values.contains u=IN) (hf:K2.funs=K1.funs) (hl:K2.values.length+1=K1.values.length)
  (hv: ∀v,K2.values.contains v=(!decide (v=u)&&K1.values.contains v)) {kk:Gr (cf×V)}(e:H B.kd=GM (.dK kk)):has kk u=IN/\fU a B (bf H B.kd (.dK (f7 kk (nk u)))) n t K2:=by
 obtain⟨dr,er⟩:=S.rd.ins;obtain⟨as,all,h1,h2,h3⟩:=S.rd.toks;obtain⟨UJ,k1,k2,k3⟩:=S.kn.vals;obtain⟨ff,f1,f2⟩:=S.kn.funs;have hy:=S.SE;have hz:=S.R4;obtain rfl:UJ=kk:=by rw[e] at k1;cases k1;rfl
 obtain⟨d1,d2,d3,d4,d5,d6⟩:=S.Qc;have nr:B.r≠B.kd:=λw=>by rw[w,e] at er;cases er
 have nq:B.q≠B.kd:=λw=>by rw[w,e] at h1;cases h1
 have hu:has UJ u=IN:=by rw[k3];exact hc
 have len:=S.kn.len;refine#[hu,#[#[dr,by rw[af nr];exact er],as,all,by rw[af nq];exact h1,Paired.Nt h2 λb x ⟨dx,ex⟩=>#[dx,?_],h3],S.wh,#[#[_,aj,?_,λv=>?_],#[ff,by rw[af d1.symm];exact f1,by rw[hf];exact f2],by lia,#[ff,by rw[af d1.symm];exact f1,(by rw[hf];exact S.kn.fl f1)]],(by rw[af d2.symm];exact hy),(by rw[af d3.symm];exact hz),S.Qc,λb xs h=>?_]
 .rw[af λw=>by rw[w,e] at ex;cases ex]
  exact ex
 .have:(f7 UJ (nk u)).length<UJ.length:=by
   unfold f7;refine Ve (OW _ _) λw=>?_;rw[Qh] at w;unfold has cT at hu;rw[JU,NQ] at hu;obtain⟨p,hp,e1⟩:=hu;have:=w p hp;simp only[Ow] at this e1;exact this e1
  lia
 .rw[uq,k3,hv]
 .have e2:=S.fr b xs h
  rw[af λw=>by rw[w,e] at e2;cases e2];exact e2
def AM (Kn:GF) (ss:Gr Js):GF:=#[(kq ss).reverse++Kn.values,Kn.funs]
def uT {x:Gz}{rest V:Gr Gz}(h1:x∉rest) (h2:x∉V) (v:Gz):(rest.reverse++V).contains v=(!decide (v=x)&&((x::rest).reverse++V).contains v):=by
 by_cases e:v=x
 .subst e
  rw[HC KB];show _=IR;rw[Vi];intro z;rcases HJ.mp (HY.mp z) with z|z
  .exact h1 (KZ.mp z)
  .exact h2 z
 .rw[He e]
  show _=((x::rest).reverse++V).contains v
  rw[Iv,HY,HY,HJ,HJ,KZ,KZ,Hg];constructor
  .rintro(z|z)
   .exact .inl (.inr z)
   .exact .inr z
  .rintro((z|z)|z)
   .exact G6 z e
   .exact .inl z
   .exact .inr z
inductive kN (a:bI) (m:GQ) (vs:Gr V) (H:Hp) (Q:VK) (E:XK):Prop
 |mk {β:Type}(B:Rb) (L:GQ) (H0:Hp) (Ro:β->GA->Prop) (F:Gr (Fk×V)) (b:HK) (t:GA) (Kn:GF) (Bs:Jt) (d f:GQ) (g:Ir×Jt->GN β) (_:vs=[.ref B.r, .int d]) (_:d<=6) (_:7<=d+m) (_:16*t.length<=f) (_:Bk B.bl Bs) (_:B.bl.c.length+t.length<=4000) (_:RS ⟨a,E,B,L,H0,Ro⟩ F b H t Kn (Hw "{">>=λ_=>J8 f (6-d) Kn Bs>>=g))
  (_: ∀l v H' t' c',Bk (B.bl.at_ c') l.2->c'.length+t'.length<=4000->RS #[a,E,B.bk c',L,H0,Ro] ((.sts l.1,v)::F) IN H' t' Kn (g l)->Q v H'):kN a m vs H Q E
abbrev rc (a:bI) (m:GQ) (ok:GA->Prop):Sp:=o6 a (λd=>[.int d]) λd t=>7<=d+m/\ok t
section
variable {k m:GQ}{x Ja:Ha}{st:Stmt}{f:GB}{fd:Ia}{N:Gr Ha}
def akk (T:Txt K mg a) (XC:XT K a) (hk:8<=k) (F:sd K x Ja st f fd) (S:ax N ["reader","depth"] (ah st))
  (K9: ∀(IF:GC) (A:IE) (outer:Gr Env) (s:GH) (H:Hp) {β:Type}(B:Rb) (L:GQ) (H0:Hp) (Ro:β->GA->Prop) (F:Gr (Fk×V)) (b:HK) (t:GA) (Kn:GF) (Bs:Jt) (d fu:GQ) (g:Ir×Jt->GN β) (Q:VK) (E:XK),cx k (A.deeper (Lg Ja (ah st) s.heap.objs.size f IF))->d<=6->7<=d+m->16*t.length<=fu->Bk B.bl Bs->B.bl.c.length+t.length<=4000->
   let X:=gU (jR P w) P w K mg base N Ja (ah st) f IF A outer s H E
   let D:dB:= { nx:=λ_ H'=>Q .Ko H',rt:=Q }
   let Z:Zf β:=#[a,E,B,L,H0,Ro]
   RX X a E->RS Z F b H t Kn (Hw "{">>=λ_=>J8 fu (6-d) Kn Bs>>=g)->(∀l v H' t' c',Bk (B.bl.at_ c') l.2->c'.length+t'.length<=4000->RS #[a,E,B.bk c',L,H0,Ro] ((.sts l.1,v)::F) IN H' t' Kn (g l)->Q v H')->Bd X (bq st) D (L2.start N [.ref B.r, .int d]) H):b6 P w K mg base (jR P w) (k+1) f fd ["reader","depth"] (kN a m):=by
 refine kr F S [03] [02];obtain⟨B,L,H0,Ro,F,b,t,Kn,Bs,d,fu,g,rfl,h1,h2,h3,h4,h5,R,q⟩:=h;exact K9 IF A outer s H B L H0 Ro F b t Kn Bs d fu g Q E hr h1 h2 h3 h4 h5 (kM T XC hk S hr) R q
end
abbrev fkS (ps:Gr (Js×V)) (F:Gr (Fk×V)):Gr (Fk×V):=(ps.map λx=>(Fk.st x.1,x.2))++F
theorem vO {a:bI}{M:GB->Prop}{H:Hp}{F:Gr (Fk×V)}{l:Ir}{ws:Gr V}(hl:aT a M H l ws): ∀ {ps:Gr (Js×V)},(∀ {i:GQ}{x:Fk×V},(fkS ps F)[i]?=GM x->jU a M H x)->aT a M H (DV (ps.map (·.1)).reverse l) ((ps.map (·.2)).reverse++ws)
 |[],_=>hl
 | (e,v)::ps,h=>by
  rw[G8,G8,IX,IX,u9,Hj];refine vO (l:= .cons e l) ?_ λ{i x} q=>h (i:=i+1) q;unfold aT;exact#[v,ws,KB,h (i:=0) KB,hl]
def aaQ {F:Gr (Fk×V)}{ps:Gr (Js×V)}{i:GQ}{y:V}(h:((ps.map λx:Js×V=>x.2).reverse)[i]?=GM y): ∃(s:Js) (j:GQ),((ps.map λx:Js×V=>x.1).reverse)[i]?=GM s/\(fkS ps F)[j]?=GM (Fk.st s,y):=by
 have hi:i<ps.length:=by
  obtain⟨h,_⟩:=Ho.mp h;rw[IP,GK] at h;exact h
 rw[Tg (by rw[GK];exact hi),GK,HI] at h;obtain⟨⟨s,v⟩,e,rfl⟩:=IT.mp h;refine#[s,ps.length-1-i,?_,?_]
 .rw[Tg (by rw[GK];exact hi),GK,HI,e]
  rfl
 .rw[Rp (by rw[GK];lia),HI,e]
  rfl
theorem iN.drop {Kn K1:GF}{ss:Gr Js}{x:Gz}(lo:iN Kn ss K1) (h:ss[i]?=GM (.bind x e)):(AM Kn (ss.drop i)).values.contains x=IN/\(AM Kn (ss.drop (i+1))).values.length+1=(AM Kn (ss.drop i)).values.length/\ ∀v,(AM Kn (ss.drop (i+1))).values.contains v=(!decide (v=x)&&(AM Kn (ss.drop i)).values.contains v):=by
 have ed:ss.drop i= .bind x e::ss.drop (i+1):=by
  obtain⟨h,e⟩:=Ho.mp h;rw[<-e];exact Kz h
 have el:kq (Js.bind x e::ss.drop (i+1))=x::kq (ss.drop (i+1)):=rfl
 have sub:(x::kq (ss.drop (i+1))).Sublist (kq ss):=by
  rw[<-el,<-ed];exact(Vj i ss).filterMap mM
 have nin:=(J1.mp (sub.nodup lo.nodup)).1
 have nV:=lo.free x (sub.subset (GW ..));unfold AM;rw[ed,el];refine#[HY.mpr (HJ.mpr (.inl (KZ.mpr (GW ..)))),?_,uT nin nV];simp only[Gw,IP,Gv];lia
def Cw {Kn:GF}{ss:Gr Js}(h:ss[i]?=GM s) (hl:mM s=Ix):AM Kn (ss.drop i)=AM Kn (ss.drop (i+1)):=by
 have ed:ss.drop i=s::ss.drop (i+1):=by
  obtain⟨h,e⟩:=Ho.mp h;rw[<-e];exact Kz h
 rw[ed];unfold AM kq;rw[LL,hl]
def BQ {x:Gz}(hl:mM s=GM x): ∃e1,s= .bind x e1:=by
 cases s with
 |bind y e1=>cases hl;exact#[e1,KB]
 |loop _ _ _ _=>cases hl
 |cond _ _ _=>cases hl
 |step _ _ _ _ _ _=>cases hl
 |block _ _ _ _ _ _ _ _=>cases hl
inductive BrI {β:Type}(Z:Zf β) (Ls:GB) (F:Gr (Fk×V)) (Kn:GF) (d l:GQ) (g:Ir×Jt->GN β) (σ0:L2.St) (m:GQ) (σ:L2.St) (H:Hp):Prop
 |mk (ps:Gr (Js×V)) (K1:GF) (B1:Jt) (c:Gr (cf×V)) (t:GA) (f:GQ) (_:m=t.length) (_:σ=σ0) (_:ps.length+t.length<l) (_:Bk (Z.B.bl.at_ c) B1) (_:c.length+t.length<=4000) (_:16*t.length+15<=f) (_:iN Kn (ps.map (·.1)).reverse K1)
  (_:RS (Zf.mo { Z with B:=Z.B.bk c } Ls (ps.map (·.2)).reverse) (fkS ps F) IN H t K1 (J8 f d K1 B1>>=λx=>g (DV (ps.map (·.1)).reverse x.1,x.2))):BrI Z Ls F Kn d l g σ0 m σ H
section
variable {β:Type}{Z:Zf β}{H:Hp}{p:GN β}
def pw {e f:Jc}{te:TE}(hL:H L=GM (.lst us)) (he:PE X e te) (hv: ∀R:VK,R (.ref L) H->te σ H R) (q:Pe X f σ H λv H1=> ∃(Z:Zf β) (F':Gr (Fk×V)) (b':HK) (t':GA) (WQ:GF) (p':GN β),wG Z L/\us.length<GZ/\RS (Z.mo L us) F' b' H1 t' WQ p'/\(∀H2,RS (Z.mo L (us++[v])) F' b' H2 t' WQ p'->Bd X ss D σ H2))
  (hb:JN e "append" X.env (eval e X.env)=eval e X.env:=by rfl) (Mu:Hf [f] X.env=[(IR,eval f X.env)]:=by rfl) (hp:jV p2 p4:=by rfl):
  Bd X (.Expr (.Call (.Attribute e "append" p2) [f] [] p4) p5::ss) D σ H:=by
 refine CF he hv hL (q.mono λv H1 z=>?_) hb Mu hp;obtain⟨Z,F',b',t',WQ,p',N,h1,R',h2⟩:=z;exact#[us,R'.QK,h1,h2 _ (R'.push N)]
def oO {te:TE}(Y:RX X Z.a Z.E) (he:PE X e te) (hv: ∀Q:VK,Q (.str (sb u)) H->te (GM (.ref Z.B.r)::σ) H Q) (R:RS Z F b H t K1 p) (hc:K1.values.contains u=IN) (hf:K2.funs=K1.funs) (hl:K2.values.length+1=K1.values.length) (hk: ∀v,K2.values.contains v=(!decide (v=u)&&K1.values.contains v))
  (q: ∀H',RS Z F b H' t K2 p->Bd X ss D (GM (.ref Z.B.r)::σ) H') (hp:jV p2 p4:=by rfl) (Mu:Hf [e] X.env=[(IR,eval e X.env)]:=by rfl):
  Bd X (.Expr (.Call (.Attribute (.Name "reader" p1) "forget" p2) [e] [] p4) p5::ss) D (GM (.ref Z.B.r)::σ) H:=by
 obtain⟨n,S⟩:=R.S;obtain⟨dr,er⟩:=S.rd.ins;obtain⟨kk,k1,k2,k3⟩:=S.kn.vals;obtain⟨hu,S'⟩:=S.WR hc hf hl hk k1;refine dQ (Y.m1 Y.T.Wk.c (qv Y.T) [01] aC S KB #[_,he,hv _ #[Z.B.r,dr,Z.B.q,Z.B.kd,Z.B.fn,Z.B.ds,Z.B.bl,n,u,kk,KB,er,k1,hu,?_]] hp Mu);exact q _ (R.go S' (fC (.inr (.inl KB))) R.l R.w)
end
def akl (T:Txt K mg a) (XC:XT K a) (IL:qz K a) (hk:8<=k)
  (G:T.Wx.O P w base k (rc a m λ_=>True)):
  T.VZ.O P w base (k+1) (kN a m):=by
 refine akk T XC hk T.VZ.F af1 λIF A outer s H β B L H0 Ro F b t Kn Bs d fu g Q E hr hd hm hf hB hc=>?_;intro X D Z Y R q;have lL:=R.lL;have room:=R.room;refine db (Z:=Z.at t.length) Y agF R.at λH t1 R=>?_;have l1:t1.length+1<=t.length:=R.l;have R:=RS.back (Z:=Z) lL R;refine nh 2 Y R λLs H N R=>?_;refine hJ Y.lv (BrI Z Ls F Kn (6-d) t.length g [GM (.ref B.r),GM (.int d),GM (.ref Ls),Ix]) _ #[[],Kn,Bs,B.bl.c,t1,fu,KB,KB,by show 0+t1.length<_;lia,hB,by lia,by lia,iN.nil,R] ?_;rintro mm σ H ⟨ps,K1,B1,c,t2,f,rfl,rfl,ul,hB1,hc1,hf1,lo,R⟩;obtain⟨f,rfl⟩: ∃f',f=f'+1:=#[f-1,by lia];have N': ∀ {c:Gr (cf×V)},wG { Z with B:=Z.B.bk c } Ls:=#[N.n0,N.nm,N.nx,N.nq];have len:((ps.map (·.2)).reverse:Gr V).length=ps.length:=by rw[IP,GK]
 refine kT (dq (jp (Z:=Zf.mo { Z with B:=Z.B.bk c } Ls (ps.map (·.2)).reverse) Y R (kO _ _ _ _).bind λnb=>#[_,KB,?_]));rw[dg R.tok X6];cases hs:(GX t2 == Kb (Gx "}")) with
 |false=>
  have R1:RS (Zf.mo { Z with B:=Z.B.bk c } Ls (ps.map (·.2)).reverse) (fkS ps F) IN H t2 K1 (K4 f (6-d) K1 B1>>=λs=>J8 f (6-d) s.2.1 s.2.2>>=λx=>g (DV (ps.map (·.1)).reverse (.cons s.1 x.1),x.2)):=by
   have:=R.asf (D4 hs);simp only[bind_assoc,pure_bind] at this;exact this
  refine dR (pw (β:=β) R.QK (pv 2) [08] #[_,Y.call2 #[G,hr,T.Wx.c,KB] (pv 1) [01] KB,(B.bk c).more Ls (ps.map (·.2)).reverse,t2.length,H0,Ro,fkS ps F,IR,t2,K1,B1,d,f,_,KB,hd,#[hm,IS],by lia,hB1,hc1,E9 λs=>(kO f (6-d) s.2.1 s.2.2).bind,R1.at,λs v H' t' c' kn hB' V0 R2=>?_]);have l2:t'.length+1<=t2.length:=R2.l;have R2:=RS.back (Z:=Zf.mo { Z with B:=Z.B.bk c' } Ls (ps.map λx:Js×V=>x.2).reverse) (l:=t2.length) (by show t2.length<=L;have:t.length<=L:=lL;lia) R2;refine#[{ Z with B:=Z.B.bk c' },_,_,_,_,_,N',by rw[len];exact HH (show ps.length<=4000 by lia) [01],R2,λH3 R3=>?_];refine lF #[_,l2,(s.1,v)::ps,s.2.1,s.2.2,c',t',f,KB,KB,(by rw[Gv];lia),hB',V0,(by lia),?_,?_]
  .rw[G8,IX]
   exact lo.snoc kn
  .rw[G8,G8,IX,IX]
   simp only[u9];exact R3
 |true=>
  obtain⟨xp,r,rfl⟩:=xE R (beq_iff_eq.mp hs);refine cW (Cs (Z:=Zf.at (Zf.mo { Z with B:=Z.B.bk c } Ls (ps.map (·.2)).reverse) ((Kb (Gx "}"),xp)::r).length) Y X6 (R.at.as (p':=HV>>=λ_=>g (DV (ps.map (·.1)).reverse .nil,B1)) (bU (AS hs))) λH t5 R=>?_);have l5:t5.length+1<=((Kb (Gx "}"),xp)::r).length:=R.l;have R:=RS.back (Z:=Zf.mo { Z with B:=Z.B.bk c } Ls (ps.map λx:Js×V=>x.2).reverse) (by show((Kb (Gx "}"),xp)::r).length<=L;have:t.length<=L:=lL;lia) R;have eK:K1=AM Kn (ps.map (·.1)).reverse:=by
   obtain⟨v1,f1⟩:=K1;unfold AM;rw[<-lo.vals,<-lo.funs]
  rw[eK] at R;generalize hss:(ps.map (·.1)).reverse=ss at R lo;generalize hus:(ps.map (·.2)).reverse=us at R len;refine yT 3 Y.lv Y.nd (pv 2) [08] (λi σ H=> ∃v:GJ V,σ=[GM (.ref B.r),GM (.int d),GM (.ref Ls),v]/\RS (Zf.mo { Z with B:=Z.B.bk c } Ls us) (fkS ps F) IN H t5 (AM Kn (ss.drop i)) (g (DV ss .nil,B1))) #[Ix,KB,R] (λ_ _ _ _ ⟨_,_,R⟩=>R.QK) ?_ ?_
  .rintro i y σ H hi ⟨v,rfl,R⟩
   rw[<-hus] at hi;obtain⟨s,j,hs,hj⟩:=aaQ (F:=F) hi;rw[hss] at hs;have sa:aO a (fG (Zf.mo { Z with B:=Z.B.bk c } Ls us).B) H s y:=R.f hj;obtain⟨C,ty,Zv⟩:=IL.of sa;refine aY #[_,bS (aS bX (by rfl) T.HR ID (aa (pv 3) (aa (dn (by rfl) T.RD) ac))),_,_,_,_,KB,ty,Zv,_,KB,?_];cases hl:mM s with
   |none=>
    rw[Cw hs hl] at R;exact cW (fi #[_,KB,R])
   |some x=>
    obtain⟨e1,rfl⟩:=BQ hl;obtain⟨h1,h2,h3⟩:=lo.drop hs;unfold aO at sa;obtain⟨ue,⟨p,dx,rfl,mp,zp⟩,_⟩:=sa;exact dR (oO (Z:=Zf.mo { Z with B:=Z.B.bk c } Ls us) Y (az (pv 3) KB) (λQ q=>#[p,_,dx,_,_,KB,zp,T.Pj,T.Nz,KB,q]) (K2:=AM Kn (ss.drop (i+1))) R h1 KB h2 h3 λH R=>fi (fi #[_,KB,R]))
  .rintro σ H ⟨v,rfl,R⟩
   have eL:us.length=ss.length:=by rw[len,<-hss,IP,GK]
   rw[eL,VP] at R;have R1:=R.less N';refine aD #[_,pv 2,q (DV ss .nil,B1) (.ref Ls) H t5 c hB1 (by lia) ?_];have R2:RS { Z with B:=Z.B.bk c } F IN H t5 Kn (g (DV ss .nil,B1)):=by
    have:=R1.cut ps.length;rw[show(fkS ps F).drop ps.length=F from Gr.drop_left' (by rw[GK])] at this;exact this
   refine R2.and #[us,#[Ls,KB,N.nm,R.QK],?_];rw[<-hss,<-hus,<-G7 (Gr.reverse (ps.map (·.2)))];exact vO (F:=F) (by unfold aT;rfl) λe=>R1.f e
def B2:dF "for" (Gx "for"):=#[by decide+kernel,by decide+kernel,by decide+kernel]
section
variable {K:GF}{β:Type}{g:B9->GN β}{a:Ir×Jt}
def aaR (h1:GP t "let"=IR) (h:GP t "for"=IN):(K4 (k+1) d K B>>=g) t=(IY d>>=λn=>HV>>=λ_=>Ig K>>=λx=>IQ "in">>=λ_=>Hd k Jf K>>=λlo=>Hw "..">>=λ_=>Hd k Jf K>>=λhi=>
  Hw "{">>=λ_=>J8 k n (K.with x) B>>=λl=>g (.loop x lo hi l.1,K,l.2)) t:=by
 rw[bo (DA h1 h)];simp only[bind_assoc,pure_bind]
def agQ (h1:GP t "let"=IR) (h2:GP t "for"=IR) (h:GP t "if"=IN):(K4 (k+1) d K B>>=g) t=(IY d>>=λn=>HV>>=λ_=>Hd k Jf K>>=λc=>Hw "{">>=λ_=>J8 k n K B>>=λa=>lS k n K c a>>=g) t:=by
 rw[bo (FH h1 h2 h)];simp only[bind_assoc]
def yl (h:GP t "else"=IR):(lS k n K c a>>=g) t=g (.cond c a.1 .nil,K,a.2) t:=by
 unfold lS;rw[bind_assoc];exact(bU (x:=IR) (r:=t) (by unfold W0;rw[GG (by rw[h];exact Gu)])).trans KB
def BG (h:GP (x::r) "else"=IN):(lS k n K c a>>=g) (x::r)=(HV>>=λ_=>Hw "{">>=λ_=>J8 k n K a.2>>=λb=>g (.cond c a.1 b.1,K,b.2)) (x::r):=by
 unfold lS;rw[bind_assoc];refine(bU (x:=IN) (r:=r) (by unfold W0;rw[GI h];rfl)).trans ?_;rw[GI KB];simp only[bind_assoc,pure_bind]
 rfl
end
def agR (T:Txt K mg a) (XC:XT K a) (hk:8<=k) (G:oM P w K mg base a k)
  (G2:T.VZ.O P w base k (kN a m)):
  T.Wy.O P w base (k+1) (rc a (m+1) λt=>GP t "let"=IR/\GP t "for"=IN):=by
 refine zO T XC hk T.Wy.F af5 (λ_=>rfl) λIF A outer s H β B L H0 Ro F b t Kn Bs d fu g Q E hr hd ho hf hB hc=>?_;intro X D Z en Y R q;have lL:=R.lL;have hm:Kn.values.length+(Z.at t.length).L<=4000:=R.room;obtain⟨dm,n1,n2⟩:=ho;obtain⟨xp,r,e⟩:=fP R (beq_iff_eq.mp n2);obtain⟨f,rfl⟩: ∃f,fu=f+1:=#[fu-1,by lia];have c:CB X "read_exp" ["reader","depth"] (bv a IN Hd 12 (Lv 13)):=#[G,hr,T.Se.c,KB];have hF:16*(Z.at t.length).L+12<=f+16:=by show 16*t.length+12<=f+16;lia
 have R:=R.at.as (aaR n1 n2);generalize hl:t.length=l at R lL hF hm hc hf
 have nb:GX t≠ .bad:=by rw[e];intro z;cases z
 subst e;refine ud (Z:=Z.at l) 2 Y hd nb R λlt R=>?_;refine jt (Z:=Z.at l) Y B2 R λH t R=>?_;refine jI (Z:=Z.at l) 3 Y R λu H t ft R=>?_;refine md (Z:=Z.at l) Y XY R λH t R=>?_;refine eX (Z:=Z.at l) (d:=0) 4 Y c aG [08] R (n8 λ_=>(bB "..").bind) (HG _) zB hF λe1 v1 H t R=>?_;refine db (Z:=Z.at l) Y XZ R λH t R=>?_;refine eX (Z:=Z.at l) (d:=0) 5 Y c aG [08] R (n8 λ_=>(bB "{").bind) (HG _) zB hF λe2 v2 H t R=>?_;refine ik (Z:=Z.at l) Y (pv 3) [08] ft hm R λH R=>?_;have l7:t.length+1<=l:=R.l;refine aW 6 Y.nd #[_,Y.call2 #[G2,hr,T.VZ.c,KB] (pv 2) [01] KB,B,l,H0,Ro,_,_,t,Kn.with u,Bs,d+1,f,_,KB,lt,by lia,by lia,hB,by lia,R,λx v3 H t c' hB' V0 R=>?_];refine mw (Z:=#[a,E,B.bk c',l,H0,Ro]) Y (pv 3) [08] ft R λH R=>?_;refine iA (Z:=#[a,E,B.bk c',l,H0,Ro]) Y (Cj T) (aa (pv 3) (aa (pv 4) (aa (pv 5) (aa (pv 6) ac)))) [08] R KB λw H i R=>?_;have R:=RS.back (Z:=#[a,E,B.bk c',L,H0,Ro]) lL R;refine q (.loop u e1 e2 x.1,Kn,x.2) w H t c' KB hB' V0 ((R.cut 3).and ?_);obtain⟨us,la,sa⟩:qi a (fG B) H x.1 v3:=R.f (i:=0) KB;show aO a (fG B) H (.loop u e1 e2 x.1) w;unfold aO;exact#[v1,v2,v3,us,i,R.f (i:=2) KB,R.f (i:=1) KB,la,sa]
def agS (T:Txt K mg a) (XC:XT K a) (hk:8<=k) (G:oM P w K mg base a k)
  (G2:T.VZ.O P w base k (kN a m)):
  T.Wz.O P w base (k+1) (rc a (m+1) λt=>GP t "let"=IR/\GP t "for"=IR/\GP t "if"=IN):=by
 refine zO T XC hk T.Wz.F af6 (λ_=>rfl) λIF A outer s H β B L H0 Ro F b t Kn Bs d fu g Q E hr hd ho hf hB hc=>?_;intro X D Z en Y R q;have lL:=R.lL;obtain⟨dm,n1,n2,n3⟩:=ho;obtain⟨xp,r,e⟩:=fP R (beq_iff_eq.mp n3);obtain⟨f,rfl⟩: ∃f,fu=f+1:=#[fu-1,by lia];have c:CB X "read_exp" ["reader","depth"] (bv a IN Hd 12 (Lv 13)):=#[G,hr,T.Se.c,KB];have hF:16*(Z.at t.length).L+12<=f+16:=by show 16*t.length+12<=f+16;lia
 have R:=R.at.as (agQ n1 n2 n3);generalize hl:t.length=l at R lL hF hc hf
 have nb:GX t≠ .bad:=by rw[e];intro z;cases z
 subst e;refine ud (Z:=Z.at l) 2 Y hd nb R λlt R=>?_;refine jt (Z:=Z.at l) Y yG R λH t R=>?_;refine eX (Z:=Z.at l) (d:=0) 3 Y c aG [08] R (n8 λ_=>(bB "{").bind) (HG _) zB hF λe1 v1 H t R=>?_;have l4:t.length+1<=l:=R.l;have cb:CB X "read_braces" ["reader","depth"] (kN a m):=#[G2,hr,T.VZ.c,KB];refine aW 4 Y.nd #[_,Y.call2 cb (pv 2) [01] KB,B,l,H0,Ro,_,_,t,Kn,Bs,d+1,f,_,KB,lt,by lia,by lia,hB,by lia,R,λx v3 H t c3 hB3 hc3 R=>?_];refine nh (Z:=#[a,E,B.bk c3,l,H0,Ro]) 5 Y R λLs H N R=>?_;have R:=(R.less N).and (e:=(.sts .nil, .ref Ls)) #[[],#[Ls,KB,N.nm,R.QK],by unfold aT;rfl];have l5:t.length+1<=l:=R.l;refine jL (λσ' H'=> ∃(y:Ir) (B5:Jt) (v5:V) (c5:Gr (cf×V)) (t5:GA),σ'=[GM (.ref B.r),GM (.int d),GM (.int ((d+1:GQ):Int)),GM v1,GM v3,GM v5]/\Bk (B.bl.at_ c5) B5/\c5.length+t5.length<=4000/\RS #[a,E,B.bk c5,l,H0,Ro] ((.sts y,v5)::(.sts x.1,v3)::(.e e1,v1)::F) IN H' t5 Kn (g (.cond e1 x.1 y,Kn,B5))) ?_ ?_
 .rintro σ H ⟨y,B5,v5,c5,t5,rfl,hB5,hc5,R⟩
  refine iA (Z:=#[a,E,B.bk c5,l,H0,Ro]) Y (XM T) (aa (pv 3) (aa (pv 4) (aa (pv 5) ac))) [08] R KB λw H i R=>?_;have R:=RS.back (Z:=#[a,E,B.bk c5,L,H0,Ro]) lL R;refine q (.cond e1 x.1 y,Kn,B5) w H t5 c5 KB hB5 hc5 ((R.cut 3).and ?_);obtain⟨us,la,sa⟩:qi a (fG B) H x.1 v3:=R.f (i:=1) KB;obtain⟨us5,la5,sa5⟩:qi a (fG B) H y v5:=R.f (i:=0) KB;show aO a (fG B) H (.cond e1 x.1 y) w;unfold aO;exact#[v1,v3,us,v5,us5,i,R.f (i:=2) KB,la,sa,la5,sa5]
 .refine dq (wY (Z:=#[a,E,B.bk c3,l,H0,Ro]) Y R (λb=>en _ t b (R.as (yl (cM b "else"))).w) (λnb e=>#[_,KB,cW #[.nil,x.2, .ref Ls,c3,t,KB,hB3,hc3,R.as (yl ((cz R.tok sf).symm.trans e))]]) λ{y r} et e nb=>?_)
  subst et;have e:=(cz R.tok sf).symm.trans e;obtain⟨y,yp⟩:=y;obtain rfl:y=_:=beq_iff_eq.mp e;refine#[X2,_,BG e,λH R=>#[_,KB,dR (aW 5 Y.nd #[_,Y.call2 cb (pv 2) [01] KB,B.bk c3,l,H0,Ro,_,_,r,Kn,x.2,d+1,f,_,KB,lt,by lia,by rw[Gv] at l5;lia,hB3,by rw[Gv] at hc3;show c3.length+_<=_;lia,R.cut 1,λy v5 H t c5 hB5 hc5 R=>fi #[y.1,y.2,v5,c5,t,KB,hB5,hc5,R]])]]
abbrev aaS (P:Hr) (w:HW) (K:Gy) (mg:Ha->GJ GC) (base:Im) (a:bI) (k:GQ) (f:GB) (fd:Ia) (ok:GA->Prop):Prop:=b6 P w K mg base (jR P w) k f fd ["reader"] (o6 a (λ_=>[]) λ_ t=>ok t)
def agT (T:Txt K mg a) (XC:XT K a) (hk:8<=k)
  (G1:aaS P w K mg base a k a.acM a.W8 λt=>GP t "let"=IN)
  (G2:T.Wy.O P w base k (rc a m λt=>GP t "let"=IR/\GP t "for"=IN))
  (G3:T.Wz.O P w base k (rc a m λt=>GP t "let"=IR/\GP t "for"=IR/\GP t "if"=IN))
  (G4:aaS P w K mg base a k a.acO a.Xa λt=>GP t "let"=IR/\GP t "for"=IR/\GP t "if"=IR/\GP t "block"=IN)
  (G5:aaS P w K mg base a k a.acN a.W9 λt=>GP t "let"=IR/\GP t "for"=IR/\GP t "if"=IR/\GP t "block"=IR):
  T.Wx.O P w base (k+1) (rc a m λ_=>True):=by
 refine zO T XC hk T.Wx.F af2 (λ_=>rfl) λIF A outer s H β B L H0 Ro F b t Kn Bs d fu g Q E hr hd ho hf hB hc=>?_;intro X D Z en Y R q;have see: ∀ {ss:Gr Stmt}{A:Gr Stmt}{s:String}{v:Ha}{j:GQ}{p1 p2 p3 p4 p5:Pos}(lit:dF v (Gx s)) (hp:jV p2 p4),(GP t s=IN->Bd X A (D.to X ss) [GM (.ref B.r),GM (.int d)] H)->(GP t s=IR->Bd X ss D [GM (.ref B.r),GM (.int d)] H)->Bd X (.If (.Call (.Attribute (.Name "reader" p1) "sees" p2) [.Constant (.str v) j p3] [] p4) A [] p5::ss) D [GM (.ref B.r),GM (.int d)] H:=λlit hp yes no=>
  aY (dq (jp (Z:=Z) Y R (mJ _ _ _ _).bind (λnb=>#[_,KB,by rw[cz R.tok lit];exact bi yes no]) hp))
 refine see EI KB (λe1=>aD (fO Y #[G1,hr,T.Zj.c,KB] #[B,L,H0,Ro,F,b,t,Kn,Bs,d,fu,g,KB,hd,e1,hf,hB,hc,en,R,q])) λe1=>?_;refine see B2 KB (λe2=>aD #[_,Y.call2 #[G2,hr,T.Wy.c,KB] (pv 1) [01] KB,B,L,H0,Ro,F,b,t,Kn,Bs,d,fu,g,KB,hd,#[ho.1,e1,e2],hf,hB,hc,en,R,q]) λe2=>?_;refine see yG KB (λe3=>aD #[_,Y.call2 #[G3,hr,T.Wz.c,KB] (pv 1) [01] KB,B,L,H0,Ro,F,b,t,Kn,Bs,d,fu,g,KB,hd,#[ho.1,e1,e2,e3],hf,hB,hc,en,R,q]) λe3=>?_;refine see ui KB (λe4=>aD (fO Y #[G4,hr,T.Zn.c,KB] #[B,L,H0,Ro,F,b,t,Kn,Bs,d,fu,g,KB,hd,#[e1,e2,e3,e4],hf,hB,hc,en,R,q])) λe4=>?_;exact aD (fO Y #[G5,hr,T.Zm.c,KB] #[B,L,H0,Ro,F,b,t,Kn,Bs,d,fu,g,KB,hd,#[e1,e2,e3,e4],hf,hB,hc,en,R,q])
def tE {H:Hp}{Q:VK}{E:XK}(h:kN a 0 vs H Q E):False:=by
 obtain⟨B,L,H0,Ro,F,b,t,Kn,Bs,d,f,g,e,hd,hm,_⟩:=h;lia
def A3 (T:Txt K mg a) (XC:XT K a) (IL:qz K a) (hk:8<=k) (G:oM P w K mg base a k): ∀m:GQ,
  T.VZ.O P w base (k+3+3*m) (kN a m):=by
 intro m
 induction m with
 |zero=>exact kr T.VZ.F af1 (λ_ _ _ _ h=>(tE h).elim) (λ_ _ _ _ _ _ _ _ _ h=>(tE h).elim)
 |succ m ih=>
  have Pa: ∀ {v:Ha}{s:String},dF v (Gx s)->T.WA.O P w base (k+2) (gW a [.str v] (dP s) 12 IN IN .e):=λl=>(aaM l T XC hk G).mono (by lia)
  have Am:=agL T XC hk G
  have Le:=agN T XC (by lia) (agH T XC hk G)
  have St:=agO T XC (by lia) Pa (agI X7 T XC (by lia) (aaM X7 T XC hk G))
  have Bl:=agP T XC (by lia) Pa (agI vR T XC (by lia) (aaM vR T XC hk G)) (Am.mono (by lia))
  have Fo:=agR T XC (by lia) (G.mono (by lia:k<=k+3+3*m)) ih
  have If_:=agS T XC (by lia) (G.mono (by lia:k<=k+3+3*m)) ih
  have Sm:=agT T XC (by lia) (Le.mono (by lia)) Fo If_ (Bl.mono (by lia)) (St.mono (by lia))
  have:=akl T XC IL (by lia) Sm;exact this.mono (by lia)
def uR:dF "const" (Gx "const"):=#[by decide+kernel,by decide+kernel,by decide+kernel]
abbrev Rb.tp (B:Rb) (dc:Gr (cf×V)) (bp:GB) (bc:Gr (cf×V)):Rb:= { B with ds:=#[B.ds.p,dc,B.ds.x],bl:=#[bp,bc,B.bl.x] }
def ES (B:Rb) (H:Hp):Prop:= ∀b,fG B b->H b=Ix
inductive pU (a:bI) (ok:GA->Prop) (vs:Gr V) (H:Hp) (Q:VK) (E:XK):Prop
 |mk {β:Type}(B:Rb) (L:GQ) (H0:Hp) (Ro:β->GA->Prop) (F:Gr (Fk×V)) (b:HK) (t:GA) (Kn:GF) (nf:GQ) (Ds:Gr Gz) (f:GQ) (g:iC->GN β) (_:vs=[.ref B.r]) (_:ok t) (_:16*t.length<=f) (_:Bk B.ds Ds) (_:B.ds.c.length+t.length<=4000) (_:Kn.funs.length+nf=9) (_:ES B H0) (_:RS ⟨a,E,B,L,H0,Ro⟩ F b H t Kn (i5 f Kn nf Ds>>=g))
  (_: ∀x v H' t' dc bp bc,(∀u,has dc u=x.2.2.2.contains u)->dc.length+t'.length<=4000->x.2.1.funs.length+x.2.2.1=9->ES (B.tp dc bp bc) H0->RS #[a,E,B.tp dc bp bc,L,H0,Ro] ((.top x.1,v)::F) IN H' t' x.2.1 (g x)->Q v H'):pU a ok vs H Q E
inductive FR (a:bI) (vs:Gr V) (H:Hp) (Q:VK) (E:XK):Prop
 |mk {β:Type}(B:Rb) (L:GQ) (H0:Hp) (Ro:β->GA->Prop) (F:Gr (Fk×V)) (b:HK) (t:GA) (Kn Kf:GF) (JL:Gz) (g:Gz->GN β) (_:vs=[.ref B.r, .str (sb JL)]) (_:dF (sb JL) JL) (_:HU.contains JL=IR) (_: ∀u,Kf.taken u=(decide (u=JL)||Kn.taken u)) (_:RS ⟨a,E,B,L,H0,Ro⟩ F b H t Kn (Ig Kf>>=g))
  (_: ∀u H' t',Kn.values.contains u=IR->RS #[a,E,B,L,H0,Ro] F IN H' t' (Kn.with u) (g u)->Q (.str (sb u)) H'):FR a vs H Q E
section
variable {k m:GQ}{x Ja:Ha}{st:Stmt}{f:GB}{fd:Ia}{N:Gr Ha}{ok:GA->Prop}
def F5 (T:Txt K mg a) (XC:XT K a) (hk:8<=k) (F:sd K x Ja st f fd) (S:ax N ["reader"] (ah st))
  (K9: ∀(IF:GC) (A:IE) (outer:Gr Env) (s:GH) (H:Hp) {β:Type}(B:Rb) (L:GQ) (H0:Hp) (Ro:β->GA->Prop) (F:Gr (Fk×V)) (b:HK) (t:GA) (Kn:GF) (nf:GQ) (Ds:Gr Gz) (fu:GQ) (g:iC->GN β) (Q:VK) (E:XK),cx k (A.deeper (Lg Ja (ah st) s.heap.objs.size f IF))->ok t->16*t.length<=fu->Bk B.ds Ds->B.ds.c.length+t.length<=4000->Kn.funs.length+nf=9->ES B H0->
   let X:=gU (jR P w) P w K mg base N Ja (ah st) f IF A outer s H E
   let D:dB:= { nx:=λ_ H'=>Q .Ko H',rt:=Q }
   let Z:Zf β:=#[a,E,B,L,H0,Ro]
   RX X a E->RS Z F b H t Kn (i5 fu Kn nf Ds>>=g)->(∀x v H' t' dc bp bc,(∀u,has dc u=x.2.2.2.contains u)->dc.length+t'.length<=4000->x.2.1.funs.length+x.2.2.1=9->ES (B.tp dc bp bc) H0->RS #[a,E,B.tp dc bp bc,L,H0,Ro] ((.top x.1,v)::F) IN H' t' x.2.1 (g x)->Q v H')->Bd X (bq st) D (L2.start N [.ref B.r]) H):b6 P w K mg base (jR P w) (k+1) f fd ["reader"] (pU a ok):=by
 refine kr F S [03] [02];obtain⟨B,L,H0,Ro,F,b,t,Kn,nf,Ds,fu,g,rfl,h1,h2,h3,h4,h5,h6,R,q⟩:=h;exact K9 IF A outer s H B L H0 Ro F b t Kn nf Ds fu g Q E hr h1 h2 h3 h4 h5 h6 (kM T XC hk S hr) R q
def akm (T:Txt K mg a) (XC:XT K a) (hk:8<=k) (F:sd K x Ja st f fd) (S:ax N ["reader","function"] (ah st))
  (K9: ∀(IF:GC) (A:IE) (outer:Gr Env) (s:GH) (H:Hp) {β:Type}(B:Rb) (L:GQ) (H0:Hp) (Ro:β->GA->Prop) (F:Gr (Fk×V)) (b:HK) (t:GA) (Kn Kf:GF) (JL:Gz) (g:Gz->GN β) (Q:VK) (E:XK),cx k (A.deeper (Lg Ja (ah st) s.heap.objs.size f IF))->dF (sb JL) JL->HU.contains JL=IR->(∀u,Kf.taken u=(decide (u=JL)||Kn.taken u))->
   let X:=gU (jR P w) P w K mg base N Ja (ah st) f IF A outer s H E
   let D:dB:= { nx:=λ_ H'=>Q .Ko H',rt:=Q }
   let Z:Zf β:=#[a,E,B,L,H0,Ro]
   RX X a E->RS Z F b H t Kn (Ig Kf>>=g)->(∀u H' t',Kn.values.contains u=IR->RS #[a,E,B,L,H0,Ro] F IN H' t' (Kn.with u) (g u)->Q (.str (sb u)) H')->Bd X (bq st) D (L2.start N [.ref B.r, .str (sb JL)]) H):b6 P w K mg base (jR P w) (k+1) f fd ["reader","function"] (FR a):=by
 refine kr F S [03] [02];obtain⟨B,L,H0,Ro,F,b,t,Kn,Kf,JL,g,rfl,h1,h2,h3,R,q⟩:=h;exact K9 IF A outer s H B L H0 Ro F b t Kn Kf JL g Q E hr h1 h2 h3 (kM T XC hk S hr) R q
end
section
variable {K:GF}{β:Type}{g:iC->GN β}
def tP (h:GP t "const"=IN):(i5 k K n D>>=g) t=(HV>>=λ_=>Ig K>>=λx=>eJ k K>>=λe=>g (.const x e,K.with x,n,D)) t:=by
 rw[bo (show i5 k K n D t=(HV>>=λ_=>xi k K n D:GN iC) t by unfold i5;rw[GI h])];simp only[xi,eJ,bind_assoc,pure_bind]
end
def agU (T:Txt K mg a) (XC:XT K a) (hk:8<=k) (G:T.Xc.O P w base k (gW a [] eJ 12 IR IN .e)):
  T.Wu.O P w base (k+1) (pU a λt=>GP t "const"=IN):=by
 refine F5 T XC hk T.Wu.F afW λIF A outer s H β B L H0 Ro F b t Kn nf Ds fu g Q E hr ho hf hB hc hn hN=>?_;intro X D Z Y R q;have lL:=R.lL;have hm:Kn.values.length+(Z.at t.length).L<=4000:=R.room;obtain⟨xp,r,rfl⟩:=fP R (beq_iff_eq.mp ho);have hF:16*(Z.at (((Jd (Gx "const"),xp)::r).length)).L+12<=fu+16:=by show 16*((Jd (Gx "const"),xp)::r).length+12<=fu+16;lia
 refine jt (Z:=Z.at _) Y uR (R.at.as (tP ho)) λH t R=>?_;refine jI (Z:=Z.at _) 1 Y R λu H t ft R=>?_;refine oP (Z:=Z.at _) 2 Y #[G,hr,T.Xc.c,KB] R hF λe v H t R=>?_;refine ik (Z:=Z.at _) Y (pv 1) [08] ft hm R λH R=>?_;refine iA (Z:=Z.at _) Y (tZ T) (aa (pv 1) (aa (pv 2) ac)) [08] R KB λw H i R=>?_;have l:t.length+1<=r.length+1:=R.l;have R:=RS.back (Z:=Z) lL R;refine q (.const u e,Kn.with u,nf,Ds) w H t B.ds.c B.bl.p B.bl.c hB (by rw[Gv] at hc;lia) hn hN ((R.cut 1).and ?_);exact#[v,i,R.f (i:=0) KB]
def agV (T:Txt K mg a) (XC:XT K a):T.Zi.O P w base 9 (FR a):=by
 refine akm T XC (k:=8) [01] T.Zi.F afZ λIF A outer s H β B L H0 Ro F b t Kn Kf JL g Q E hr lit UL hK=>?_;intro X D Z Y R q;have lL:=R.lL;have hm:Kn.values.length+(Z.at t.length).L<=4000:=R.room;refine aY (dq (nN (Z:=Z) Y R (pv 1) [08] (λbd=>(gz Kf).bind.Mp bd R.w) λnb=>#[_,KB,?_]));rw[cz R.tok lit];refine bi (λe=>?_) λe=>?_
 .obtain⟨xp,r,rfl⟩:=fP R (beq_iff_eq.mp e)
  refine dQ (rW (Z:=Z) (i:=4) Y (bA (by rfl) T.Po) R nb ?_);rw[bo (q:=(Hm 4:GN Gz)) (by rw[fh UL,GI (by rw[hK,HC KB];rfl)])]
  rfl
 .have en:Ig Kf t=Ig Kn t:=by
   obtain⟨⟨x,xp⟩,r,rfl⟩:=R.cons;cases x with
   |word u=>
    cases RK:HU.contains u with
    |true=>rw[i9 RK,i9 RK]
    |false=>
     have nf:decide (u=JL)=IR:=He λz=>by
      have e:(Jd u == Jd JL)=IR:=e;rw[z,IK] at e;cases e
     rw[fh RK,fh RK,hK,nf];rfl
   |num m=>rfl
   |sign s=>rfl
   |eof=>rfl
   |bad=>rfl
  refine jI (Z:=Z.at t.length) 2 Y (R.at.asf en) λu H t ft R=>?_;refine ik (Z:=Z.at _) Y (pv 2) [08] ft hm R λH R=>?_;exact aD (bW 2 (q u H t (kj ft) (RS.back (Z:=Z) lL R)))
def gb (f n:GQ) (K:GF):GN (Gr Gz):=LM ",">>=λm=>(if m=IN then Li f n K else(Hw ")">>=λ_=>pure []))
section
variable {K:GF}{β:Type}{g:Gr Gz->GN β}
def qY (hn:n≠0):(Li (f+1) n K>>=g) t=(Ig K>>=λx=>gb f (n-1) (K.with x)>>=λl=>g (x::l)) t:=by
 rw[bo (AK hn),bind_assoc];have e: ∀x,((LM ",">>=λm=>(if m=IN then(Li f (n-1) (K.with x)>>=λl=>pure (x::l)) else(Hw ")">>=λ_=>pure [x])):GN (Gr Gz))>>=g)=(gb f (n-1) (K.with x)>>=λl=>g (x::l)):=λx=>by
  unfold gb;rw[bind_assoc,bind_assoc]
  congr 1
  funext m
  cases m with
  |true=>rw[GI KB,GI KB,bind_assoc];simp only[pure_bind]
  |false=>rw[GG Gu,GG Gu,bind_assoc,bind_assoc];simp only[pure_bind]
 simp only[e]
def xq (no:Hy t ","=IR):(gb f n K>>=g) t=(Hw ")">>=λ_=>g []) t:=by
 unfold gb;rw[bind_assoc];refine(bU (x:=IR) (r:=t) (by unfold LM;rw[GG (by rw[no];exact Gu)])).trans ?_;rw[GG Gu,bind_assoc];simp only[pure_bind]
def tQ {x:HZ×HM}(yes:Hy (x::r) ","=IN):(gb f n K>>=g) (x::r)=(HV>>=λ_=>Li f n K>>=g) (x::r):=by
 unfold gb;rw[bind_assoc];refine(bU (x:=IN) (r:=r) (by unfold LM;rw[GI yes];rfl)).trans ?_;rw[GI KB]
 rfl
def nY (f n:GQ) (K:GF):be (gb f n K):=(mW ",").strict λm=>by
 cases m with
 |true=>
  rw[GI KB];exact jY f n K
 |false=>
  rw[GG Gu];exact(bB ")").bind
end
def ou {K:GF}{f u:Gz} :(#[vs++f::K.values,K.funs]:GF).taken u=(decide (u=f)||(⟨vs++K.values,K.funs⟩:GF).taken u):=by
 unfold OA;rw[<-HK.or_assoc]
 congr 1
 rw[Iv,OB,Il,HY,HY,HJ,HJ,Hg];constructor
 .rintro(h|h|h)
  .exact .inr (.inl h)
  .exact .inl h
  .exact .inr (.inr h)
 .rintro(h|h|h)
  .exact .inr (.inl h)
  .exact .inl h
  .exact .inr (.inr h)
def fD {α β:Type}{g:α->GN β}(t:GA):((Hm i:GN α)>>=g) t=Hm i t:=rfl
section
variable {β:Type}{Z:Zf β}{H:Hp}{Q:VK}{p:GN β}
def xN {e:Jc}{i:GQ}(Y:RX X Z.a Z.E) (he:PE X e (tC (.int i))) (R:RS Z F b H t Kn p) (h:p t=Hm i t) (hp:jV p2 p4:=by rfl) (Mu:Hf [e] X.env=[(IR,eval e X.env)]:=by rfl):
  Pe X (.Call (.Attribute (.Name "reader" p1) "fail" p2) [e] [] p4) (GM (.ref Z.B.r)::σ) H Q:=by
 obtain⟨n,S⟩:=R.S;obtain⟨⟨x,xp⟩,t',rfl,tok,Q2,MU,_⟩:=S.wh.first;refine Y.m1 Y.T.Vx.c (gh Y.T Y.C) [01] Y.up S KB #[_,he,Z.B.r,Z.B.q,Z.B.kd,Z.B.fn,Z.B.ds,Z.B.bl,n,(x,xp),t',i,KB,S.rd,?_] hp Mu;have w:=R.w;have w:=agl (p':=Hm i) h w;rw[aaB] at w;exact w H R.k
end
inductive aaT (a:bI) (vs:Gr V) (H:Hp) (Q:VK) (E:XK):Prop
 |mk {β:Type}(B:Rb) (L:GQ) (H0:Hp) (Ro:β->GA->Prop) (F:Gr (Fk×V)) (b:HK) (t:GA) (Kn:GF) (JL:Gz) (f:GQ) (g:Gr Gz->GN β) (_:vs=[.ref B.r, .str (sb JL)]) (_:dF (sb JL) JL) (_:HU.contains JL=IR) (_:t.length<f) (_:RS ⟨a,E,B,L,H0,Ro⟩ F b H t Kn (Li f 6 (Kn.with JL)>>=g))
  (_: ∀ps v H' t',ps.length<=6->ps.Nodup->(∀x∈ps,x∉Kn.values)->RS #[a,E,B,L,H0,Ro] ((.ps ps,v)::F) IN H' t' #[ps.reverse++Kn.values,Kn.funs] (Hw ")">>=λ_=>g ps)->Q v H'):aaT a vs H Q E
inductive PsI {β:Type}(Z:Zf β) (Ls:GB) (F:Gr (Fk×V)) (Kn:GF) (JL:Gz) (g:Gr Gz->GN β) (σ0:L2.St) (m:GQ) (σ:L2.St) (H:Hp):Prop
 |mk (ps:Gr Gz) (t:GA) (f:GQ) (_:m=t.length) (_:σ=σ0) (_:ps≠[]) (_:ps.length<=6) (_:ps.Nodup) (_: ∀x∈ps,x∉Kn.values) (_:t.length<f)
  (_:RS (Z.mo Ls (i4 ps)) F IN H t #[ps.reverse++Kn.values,Kn.funs] (gb f (6-ps.length) #[ps.reverse++JL::Kn.values,Kn.funs]>>=λl=>g (ps++l))):PsI Z Ls F Kn JL g σ0 m σ H
section
variable {k m:GQ}{x Ja:Ha}{st:Stmt}{f:GB}{fd:Ia}{N:Gr Ha}
def akn (T:Txt K mg a) (XC:XT K a) (hk:8<=k) (F:sd K x Ja st f fd) (S:ax N ["reader","function"] (ah st))
  (K9: ∀(IF:GC) (A:IE) (outer:Gr Env) (s:GH) (H:Hp) {β:Type}(B:Rb) (L:GQ) (H0:Hp) (Ro:β->GA->Prop) (F:Gr (Fk×V)) (b:HK) (t:GA) (Kn:GF) (JL:Gz) (fu:GQ) (g:Gr Gz->GN β) (Q:VK) (E:XK),cx k (A.deeper (Lg Ja (ah st) s.heap.objs.size f IF))->dF (sb JL) JL->HU.contains JL=IR->t.length<fu->
   let X:=gU (jR P w) P w K mg base N Ja (ah st) f IF A outer s H E
   let D:dB:= { nx:=λ_ H'=>Q .Ko H',rt:=Q }
   let Z:Zf β:=#[a,E,B,L,H0,Ro]
   RX X a E->RS Z F b H t Kn (Li fu 6 (Kn.with JL)>>=g)->(∀ps v H' t',ps.length<=6->ps.Nodup->(∀x∈ps,x∉Kn.values)->RS ⟨a,E,B,L,H0,Ro⟩ ((.ps ps,v)::F) IN H' t' ⟨ps.reverse++Kn.values,Kn.funs⟩ (Hw ")">>=λ_=>g ps)->Q v H')->Bd X (bq st) D (L2.start N [.ref B.r, .str (sb JL)]) H):b6 P w K mg base (jR P w) (k+1) f fd ["reader","function"] (aaT a):=by
 refine kr F S [03] [02];obtain⟨B,L,H0,Ro,F,b,t,Kn,JL,fu,g,rfl,h1,h2,h3,R,q⟩:=h;exact K9 IF A outer s H B L H0 Ro F b t Kn JL fu g Q E hr h1 h2 h3 (kM T XC hk S hr) R q
def agW (T:Txt K mg a) (XC:XT K a):T.Zh.O P w base 10 (aaT a):=by
 refine akn T XC (k:=9) [01] T.Zh.F afY λIF A outer s H β B L H0 Ro F b t Kn JL fu g Q E hr lit UL hf=>?_;intro X D Z Y R q;have lL:=R.lL;have one: ∀ {σ:L2.St}{H:Hp}{Q:VK}{p1 p2 p3 p4:Pos},FR a [.ref B.r, .str (sb JL)] H Q E->Pe X (.Call (.Name "read_parameter" p1) [.Name "reader" p2, .Name "function" p3] [] p4) (GM (.ref B.r)::GM (.str (sb JL))::σ) H Q:=λh=>#[_,aq (agV T XC) hr (by rfl) T.Zi.c Y.up (aa Y.rd (aa (pv 1) ac)),h]
 obtain⟨f,rfl⟩: ∃f,fu=f+1:=#[fu-1,by lia];refine aW 2 Y.nd (so (aX (one #[B,t.length,H0,Ro,F,IR,t,Kn,Kn.with JL,JL,_,KB,lit,UL,λu=>ou (vs:=[]),R.at.as (qY [01]),λu H t1 fv R=>ca #[by show 1<=GZ;decide,λLs hL=>?_]])));have l1:t1.length+1<=t.length:=R.l;have R:=RS.back (Z:=Z) lL R;have N:=R.nwl hL;have fr: ∀ {vs:Gr Gz}{u:Gz},vs.contains u=IR->u∉vs:=λh z=>by rw[HY.mpr z] at h;cases h
 refine hJ Y.lv (PsI Z Ls F Kn JL g [GM (.ref B.r),GM (.str (sb JL)),GM (.ref Ls)]) _ #[[u],t1,f,KB,KB,IV _ _,(by show 1<=6;decide),J1.mpr #[QG,Nu],λx hx=>by rw[Hx.mp hx];exact fr fv,by lia,R.more hL] ?_;rintro mm σ H ⟨ps,t,f,rfl,rfl,pne,p6,pnd,pfr,hf1,R⟩;have lL:=R.lL;have sl:(i4 ps).length=ps.length:=GK ..;refine dq (wY (Z:=(Zf.mo Z Ls (i4 ps)).at t.length) Y R.at (λb=>(nY _ _ _).bind.Mp b R.w) (λnb e=>#[_,KB,cW ?_]) λ{x r} et e nb=>?_)
 .have R:=R.as (xq ((dg R.tok yu).symm.trans e))
  rw[G7] at R;exact aD (bW 2 (q ps (.ref Ls) H t p6 pnd pfr ((R.less N).and #[Ls,KB,N.nm,R.QK])))
 .subst et
  have e:=(dg R.tok yu).symm.trans e;obtain⟨x,xp⟩:=x;obtain rfl:x=_:=beq_iff_eq.mp e;refine#[nfS,_,tQ e,λH R=>#[_,KB,dR ?_]]
  have l5:r.length+1<=_:=R.l;obtain⟨f,rfl⟩: ∃f',f=f'+1:=#[f-1,by lia]
  have hLs:H Ls=GM (.lst (i4 ps)):=RS.QK (Z:=Z.at ((Kb (Gx ","),xp)::r).length) (L:=Ls) (us:=i4 ps) R;refine aY (cA cu (qP T.LV hLs (pv 2) [08] #[_,bA (by rfl) T.PZ,KB,_,KB,?_]));rw[cU,sl];refine bi (λe=>?_) λe=>?_
  .have p6':ps.length=6:=by have:=Hs e;lia
   exact dQ (xN (Z:=(Zf.mo Z Ls (i4 ps)).at _) (i:=7) Y (bA (by rfl) T.QV) R ((bo (q:=(Hm 7:GN (Gr Gz))) (wN (by lia))).trans (fD _)))
  .have p5:ps.length<6:=by have:=Hu e;lia
   refine pw (β:=β) hLs (pv 2) [08] (one #[B.more Ls (i4 ps),_,H0,Ro,F,IN,r,_,_,JL,_,KB,lit,UL,λu=>ou,R.as (qY (by lia)),λu H t5 fv R=>?_]);have l6:t5.length+1<=_:=R.l;have R:=RS.back (Z:=Zf.mo Z Ls (i4 ps)) lL R;refine#[Z,_,_,_,_,_,N,HH (show(i4 ps).length<=6 by rw[sl];exact p6) [01],R,λH R=>?_];have ns:i4 ps++[V.str (sb u)]=i4 (ps++[u]):=by unfold i4;rw[IJ];rfl
   rw[ns] at R;have nu:=fr fv;have er: ∀(V:Gr Gz),(ps++[u]).reverse++V=u::(ps.reverse++V):=λV=>by rw[Uq];rfl
   refine lF #[_,l6,ps++[u],t5,f,KB,KB,(λz=>by rw[SJ] at z;exact nomatch z.2),by rw[Gw,Ks];lia,?_,λx hx z=>?_,by lia,?_]
   .rw[Qj]
    refine#[pnd,J1.mpr #[QG,Nu],λx hx y hy z=>?_];rw[Hx.mp hy] at z;exact nu (HJ.mpr (.inl (KZ.mpr (by rw[<-z];exact hx))))
   .rcases HJ.mp hx with hx|hx
    .exact pfr x hx z
    .rw[Hx.mp hx] at z
     exact nu (HJ.mpr (.inr z))
   .rw[er,er,Gw,Ks]
    have e2: ∀l,g (ps++[u]++l)=g (ps++u::l):=λl=>by rw[Hj];rfl
    simp only[e2];exact R
end
def CS:dF "fun" (Gx "fun"):=#[by decide+kernel,by decide+kernel,by decide+kernel]
def fU.TV {a:bI}{H:Hp}{n:GQ}{t:GA}{K1 K2:GF}(S:fU a B H n t K1) (hc: ∀u,K2.values.contains u=K1.values.contains u) (hl:K2.values.length=K1.values.length) (hf:K2.funs=K1.funs):fU a B H n t K2:=by
 obtain⟨kk,k1,k2,k3⟩:=S.kn.vals;obtain⟨ff,f1,f2⟩:=S.kn.funs;refine#[S.rd,S.wh,#[#[kk,k1,by rw[hl];exact k2,λu=>by rw[hc];exact k3 u],#[ff,f1,by rw[hf];exact f2],by rw[hl];exact S.kn.len,#[ff,f1,by rw[hf];exact S.kn.fl f1]],S.SE,S.R4,S.Qc,S.fr]
def Dl {IB:Gr (cf×V)}{j:cf}{v:V}(h:cT IB j=Ix):(fX IB j v).length=IB.length+1:=by
 unfold fX;rw[GG,Gw]
 .rfl
 .intro z
  rw[KY] at z;obtain⟨p,hp,e⟩:=z;have:(cT IB j).isSome=IN:=by
   unfold cT;rw[JU,NQ];exact#[p,hp,e]
  rw[h] at this;cases this
def fU.Lj {a:bI}{H:Hp}{B:Rb}{n:GQ}{t:GA}{Kn:GF}{x:Gz}{c:GQ}{ff:Gr (cf×V)}(S:fU a B H n t Kn) (hx:Kn.taken x=IR) (e:H B.fn=GM (.dK ff)):
  fU a B (bf H B.fn (.dK (fX ff (nk x) (.int (c:GQ))))) n t { Kn with funs:=(x,c)::Kn.funs } :=by
 obtain⟨dr,er⟩:=S.rd.ins;obtain⟨as,all,h1,h2,h3⟩:=S.rd.toks;obtain⟨kk,k1,k2,k3⟩:=S.kn.vals;obtain⟨ff',f1,f2⟩:=S.kn.funs;have hy:=S.SE;have hz:=S.R4;have fl:=S.kn.fl e;obtain rfl:ff'=ff:=by rw[e] at f1;cases f1;rfl
 obtain⟨d1,d2,d3,d4,d5,d6⟩:=S.Qc;have nr:B.r≠B.fn:=λw=>by rw[w,e] at er;cases er
 have nq:B.q≠B.fn:=λw=>by rw[w,e] at h1;cases h1
 unfold OA at hx;rw[MP] at hx;have none_:cT ff' (nk x)=Ix:=by
  rw[f2];have:Kn.funs.find? (λf=>f.1 == x)=Ix:=by
   rw[UT];intro y hy z;have:=hx.2;rw[Qi] at this;exact this y hy z
  rw[this]
  rfl
 refine#[#[#[dr,by rw[af nr];exact er],as,all,by rw[af nq];exact h1,Paired.Nt h2 λb x ⟨dx,ex⟩=>#[dx,?_],h3],S.wh,#[#[kk,by rw[af d1];exact k1,k2,k3],#[_,aj,λu=>?_],S.kn.len,#[_,aj,?_]],(by rw[af d4.symm];exact hy),(by rw[af d5.symm];exact hz),S.Qc,λb xs h=>?_]
 .rw[af λw=>by rw[w,e] at ex;cases ex]
  exact ex
 .rw[uO,IC]
  by_cases w:u=x
  .rw[GI (by rw[w]),w,show((x,c).1 == x)=IN from IK x]
   rfl
  .rw[GG λz=>w (fY (Ms z)),show((x,c).1 == u)=IR from beq_eq_false_iff_ne.mpr (K3 w)]
   exact f2 u
 .rw[Dl none_,fl]
  rfl
 .have e2:=S.fr b xs h
  rw[af λw=>by rw[w,e] at e2;cases e2];exact e2
def wA:gB X (.builtin "len") (λxs H Q=> ∃a IB,xs=[V.ref a]/\vT X.prog X.w X.K a IB/\Q (.int IB.length) H):=by
 intro pins s σ H xs us Q I r h;obtain⟨a,IB,rfl,kd,q⟩:=h;obtain⟨u,rfl,ru⟩:=lE r;cases ru;obtain⟨vs,dd,rel⟩:=kd.at_;have z:=kd.len;refine call_len_dict kd.no (dd _ I.NY) (by rw[<-rel.length];rw[Nj] at z;lia) ?_;rw[<-rel.length];exact#[.int IB.length,H,I.tok _,#[_,KB],q]
def bM.is {M:GB->Prop}{H:Hp}(h:bM M H us (.ref L)):H L=GM (.lst us):=by
 obtain⟨p,e,_,h⟩:=h;cases e;exact h
section
variable {β:Type}{Z:Zf β}{H:Hp}{p:GN β}
theorem RS.TV (R:RS Z F b H t Kn p) (hc: ∀u,K2.values.contains u=Kn.values.contains u) (hl:K2.values.length=Kn.values.length) (hf:K2.funs=Kn.funs):RS Z F b H t K2 p:=by
 obtain⟨n,S⟩:=R.S;exact R.go (S.TV hc hl hf) dj.refl R.l R.w
theorem RS.Lj (R:RS Z F b H t Kn p) (hx:Kn.taken x=IR) (e:H Z.B.fn=GM (.dK ff)):RS Z F b (bf H Z.B.fn (.dK (fX ff (nk x) (.int (c:GQ))))) t { Kn with funs:=(x,c)::Kn.funs } p:=by
 obtain⟨n,S⟩:=R.S;exact R.go (S.Lj hx e) (fC (.inr (.inr (.inl KB)))) R.l R.w
end
section
variable {K:GF}{β:Type}{g:iC->GN β}
def k8 (k n:GQ) (K:GF) (D:Gr Gz) (g:iC->GN β) (x:Gz) (ps:Gr Gz):GN β:=eJ k { K with values:=ps++K.values } >>=λe=>g (.func x ps e,{ K with funs:=(x,ps.length)::K.funs },n-1,D)
def mQ (k n:GQ) (K:GF) (D:Gr Gz) (g:iC->GN β) (x:Gz):GN β:=LM ")">>=λm=>(if m=IN then Vbemac.give [] else Li k 6 (K.with x))>>=λps=>k8 k n K D g x ps
def Cm (h1:GP t "const"=IR) (h2:GP t "fun"=IN) (hn:n≠0):(i5 k K n D>>=g) t=(HV>>=λ_=>Ig K>>=λx=>Hw "(">>=λ_=>mQ k n K D g x) t:=by
 rw[bo (show i5 k K n D t=(HV>>=λ_=>aaK k K n D:GN iC) t by unfold i5;rw[GG (by rw[h1];exact Gu),GI h2,GG hn])];unfold aaK mQ;simp only[k8,eJ,bind_assoc,pure_bind]
 rfl
def zo (h1:GP t "const"=IR) (h2:GP t "fun"=IN) (hn:n=0):(i5 k K n D>>=g) t=Hm 7 t:=
 (bo (q:=(Hm 7:GN iC)) (by unfold i5;rw[GG (by rw[h1];exact Gu),GI h2,GI hn])).trans (fD t)
def sZ:be (k8 k n K D g x ps):=(bB "=").bind.bind
def tj:be (mQ k n K D g x):=(mW ")").strict λm=>by
 cases m with
 |true=>rw[GI KB];exact sZ
 |false=>rw[GG Gu];exact(jY _ _ _).bind
def Ei (h:Hy t ")"=IN):mQ k n K D g x t=(Hw ")">>=λ_=>k8 k n K D g x []) t:=by
 unfold mQ;refine(bU (x:=IN) (r:=t.drop 1) (by unfold LM;rw[GI h])).trans ?_;rw[GI KB];refine Eq.trans (b:=k8 k n K D g x [] (t.drop 1)) KB ?_;exact(bU (p:=Hw ")") (g:=λ_=>k8 k n K D g x []) (x:=()) (r:=t.drop 1) (by unfold Hw;rw[GI h])).symm
def Ar (h:Hy t ")"=IR):mQ k n K D g x t=(Li k 6 (K.with x)>>=k8 k n K D g x) t:=by
 unfold mQ;refine(bU (x:=IR) (r:=t) (by unfold LM;rw[GG (by rw[h];exact Gu)])).trans ?_;rw[GG Gu]
end
def xk {ps V:Gr Gz}{i:GQ}{x:Gz}(h:ps[i]?=GM x) (nd:ps.Nodup) (fr: ∀x∈ps,x∉V):(ps.drop i++V).contains x=IN/\(ps.drop (i+1)++V).length+1=(ps.drop i++V).length/\ ∀v,(ps.drop (i+1)++V).contains v=(!decide (v=x)&&(ps.drop i++V).contains v):=by
 have ed:ps.drop i=x::ps.drop (i+1):=by
  obtain⟨h,e⟩:=Ho.mp h;rw[<-e];exact Kz h
 have sub:(x::ps.drop (i+1)).Sublist ps:=by
  rw[<-ed];exact Vj i ps
 have nin:=(J1.mp (sub.nodup nd)).1
 have nV:=fr x (sub.subset (GW ..));rw[ed];refine#[HY.mpr (GW ..),KB,λz=>?_]
 rw[Jo,HS];by_cases e:z=x
 .subst e
  rw[HC KB];show _=IR;rw[Vi];intro w;rcases HJ.mp (HY.mp w) with w|w
  .exact nin w
  .exact nV w
 .rw[He e,show(z == x)=IR from beq_eq_false_iff_ne.mpr e]
  rfl
def agX (T:Txt K mg a) (XC:XT K a) (kF:vT P w K a.HQ cv) (hk:10<=k) (G:T.Xc.O P w base k (gW a [] eJ 12 IR IN .e)):
  T.Wv.O P w base (k+1) (pU a λt=>GP t "const"=IR/\GP t "fun"=IN):=by
 refine F5 T XC (by lia) T.Wv.F afX λIF A outer s H β B L H0 Ro F b t Kn nf Ds fu g Q E hr ho hf hB hc hn hN=>?_;intro X D Z Y R q;have lL:=R.lL;obtain⟨n1,n2⟩:=ho;obtain⟨xp,r,ex⟩:=fP R (beq_iff_eq.mp n2);have hF:16*(Z.at t.length).L+12<=fu+16:=by show 16*t.length+12<=fu+16;lia
 obtain⟨n,S⟩:=R.S;obtain⟨dr,er⟩:=S.rd.ins;obtain⟨ff,f1,_⟩:=S.kn.funs;have fl:=S.kn.fl f1;refine aY #[_,bg cu (aS zM (by rfl) T.LV Jg (aa [07] ac)) (aZ eu (aS wA (by rfl) T.LV Jg (aa (dn (by rfl) T.L9) ac)) (bA (by rfl) T.Qb)) (a0 _),B.r,_,dr,_,_,KB,er,T.Ht,T.JV,KB,B.fn,ff,KB,f1,a.HQ,cv,KB,kF,_,_,KB,KB,KB,_,KB,?_];rw[cU];refine bi (λe=>?_) λe=>?_
 .have e:(ff.length:Int)=3+6:=Hs e
  exact dQ (xN (Z:=Z) (i:=7) Y (bA (by rfl) T.QV) R (zo n1 n2 (by lia)))
 have n0:nf≠0:=λz=>Hu e (by show(ff.length:Int)=3+6;lia)
 have R:=R.at.as (Cm n1 n2 n0);generalize hl:t.length=l at R lL hF hc hf;subst ex;refine jt (Z:=Z.at l) Y CS R λH t R=>?_
 refine uu (Z:=Z.at l) 1 Y R λu H t lit UL ft R=>?_;refine db (Z:=Z.at l) Y AD R λH t R=>?_;refine nh (Z:=Z.at l) 2 Y R λLs H N R=>?_;have R:=(R.less N).and (e:=(.ps [], .ref Ls)) #[Ls,KB,N.nm,R.QK];have l5:t.length+1<=l:=R.l;refine jL (λσ' H'=> ∃(ps:Gr Gz) (v:V) (t:GA),σ'=[GM (.ref B.r),GM (.str (sb u)),GM v,Ix,Ix]/\ps.length<=6/\ps.Nodup/\(∀x∈ps,x∉Kn.values)/\RS (Z.at l) ((.ps ps,v)::F) IN H' t #[ps.reverse++Kn.values,Kn.funs] (Hw ")">>=λ_=>k8 fu nf Kn Ds g u ps)) ?_ ?_
 .rintro σ H ⟨ps,v,t,rfl,p6,pnd,pfr,R⟩
  refine db (Z:=Z.at l) Y wr R λH t R=>?_;have R:=R.TV (K2:= { Kn with values:=ps++Kn.values }) (λv=>by
   rw[Iv,HY,HY,HJ,HJ,KZ]) (by
   show(ps++Kn.values).length=(ps.reverse++Kn.values).length
   rw[Gw,Gw,IP]) KB
  refine oP (Z:=Z.at l) 3 Y #[G,hr,T.Xc.c,KB] R hF λe v3 H t R=>?_;obtain⟨Lp,rfl,nLp,hLp⟩:bM (fG B) H (i4 ps) v:=R.f (i:=1) KB;refine yT 4 Y.lv Y.nd (pv 2) [08] (λi σ H=> ∃y:GJ V,σ=[GM (.ref B.r),GM (.str (sb u)),GM (.ref Lp),GM v3,y]/\RS (Z.at l) ((.e e,v3)::(.ps ps, .ref Lp)::F) IN H t { Kn with values:=ps.drop i++Kn.values } (g (.func u ps e,{ Kn with funs:=(u,ps.length)::Kn.funs },nf-1,Ds))) #[Ix,KB,R] (λ_ _ _ _ ⟨_,_,R⟩=>bM.is (R.f (i:=1) KB)) ?_ ?_
  .rintro i y σ H hi ⟨y0,rfl,R⟩
   unfold i4 at hi;rw[HI] at hi;obtain⟨x,hx,rfl⟩:=IT.mp hi;obtain⟨h1,h2,h3⟩:=xk hx pnd pfr;exact oO (Z:=Z.at l) (K2:= { Kn with values:=ps.drop (i+1)++Kn.values }) Y (pv 4) [08] R h1 KB h2 h3 λH R=>fi #[_,KB,R]
  .rintro σ H ⟨y0,rfl,R⟩
   have sl:(i4 ps).length=ps.length:=GK ..;rw[sl,VP] at R
   have R:RS (Z.at l) _ IN H t Kn _:=R;obtain⟨n,S⟩:=R.S;obtain⟨dr,er⟩:=S.rd.ins;obtain⟨gg,g1,_⟩:=S.kn.funs
   have gl:=S.kn.fl g1;refine dA (nI (gP hr) [07] (pv 1) (aS bL (by rfl) T.LV Jg (aa (pv 2) ac)) KB) #[_,_,KB, .inl (cJ.of (bM.is (R.f (i:=1) KB))),B.r,_,dr,_,_,KB,er,T.Ht,T.JV,KB,B.fn,_,KB, .inl #[gg,nk u,g1,KB,HH (show gg.length<=9 by lia) [01],KB],?_]
   have R:=R.Lj (x:=u) (c:=(i4 ps).length) ft g1;rw[sl] at R ⊢;refine iA (Z:=Z.at l) Y (BZ T) (aa (pv 1) (aa (pv 2) (aa (pv 3) ac))) [08] R KB λw H i R=>?_
   have l9:t.length+1<=l:=R.l
   have R:=RS.back (Z:=Z) lL R;refine q (.func u ps e,{ Kn with funs:=(u,ps.length)::Kn.funs },nf-1,Ds) w H t B.ds.c B.bl.p B.bl.c hB (by lia) (by show Kn.funs.length+1+(nf-1)=9;lia) hN ((R.cut 2).and ?_);exact#[.ref Lp,v3,i,R.f (i:=1) KB,R.f (i:=0) KB]
 .refine kT (dq (jp (Z:=Z.at l) Y R tj λnb=>#[_,KB,?_]))
  rw[dg R.tok wr];cases hs:(GX t == Kb (Gx ")")) with
  |true=>exact cW #[[], .ref Ls,t,KB,HG _,Nu,(λ_ z=>nomatch z),R.as (Ei hs)]
  |false=>exact dR (aW 2 Y.nd #[_,aq (agW T XC) (hr.mono hk) (by rfl) T.Zh.c Y.up (aa Y.rd (aa (pv 1) ac)),B,l,H0,Ro,F,IN,t,Kn,u,fu,_,KB,lit,UL,by lia,(R.as (Ar hs)).cut 1,λps v H t p6 pnd pfr R=>fi #[ps,v,t,KB,p6,pnd,pfr,R]])
def Gb:dF "desk" (Gx "desk"):=#[by decide+kernel,by decide+kernel,by decide+kernel]
def ic {α:Type}{o:GJ α}{x:α}(h1:o=Ix) (h2:o=GM x):False:=nomatch h1.symm.trans h2
def X8 {b:HK}(h:b=IR): ¬b=IN:=λz=>Gu (h.symm.trans z)
abbrev Rb.nb (B:Rb) (nb:GB):Rb:= { B with bl:=#[nb,[],B.bl.x] }
abbrev Rb.dk (B:Rb) (c:Gr (cf×V)):Rb:= { B with ds:=#[B.ds.p,c,B.ds.x] }
def fU.aaU {a:bI}{H:Hp}{B:Rb}{n:GQ}{t:GA}{Kn:GF}{nb:GB}(S:fU a B H n t Kn) (UM:H nb=Ix) {dr:GB}(er:H B.r=GM (.ins a.HP dr (sY B.q B.kd B.fn B.ds.p B.bl.p n))):
  fU a (B.nb nb) (bf (bf H nb (.dK [])) B.r (.ins a.HP dr (sY B.q B.kd B.fn B.ds.p nb n))) n t Kn/\dj (fG B) H (bf (bf H nb (.dK [])) B.r (.ins a.HP dr (sY B.q B.kd B.fn B.ds.p nb n))):=by
 obtain⟨as,all,h1,h2,h3⟩:=S.rd.toks;obtain⟨kk,k1,k2,k3⟩:=S.kn.vals;obtain⟨ff,f1,f2⟩:=S.kn.funs;have hy:=S.SE;obtain⟨d1,d2,d3,d4,d5,d6⟩:=S.Qc;have old: ∀ {b:GB}{o:HO},H b=GM o->b≠B.r->bf (bf H nb (.dK [])) B.r (.ins a.HP dr (sY B.q B.kd B.fn B.ds.p nb n)) b=GM o:=λe w=>by
  rw[af w,af (aw e UM)];exact e
 have nir: ∀ {b:GB}{o:HO},H b=GM o->(∀C dx fs,o≠ .ins C dx fs)->b≠B.r:=λe no w=>by
  rw[w,er] at e;exact no _ _ _ (Hb e).symm
 have nbr:nb≠B.r:=(aw er UM).symm
 have ako: ∀ {b:GB}{x:HZ×HM},gv a.Kd H b x->b≠B.r:=λ{b x} ⟨dx,ex⟩ w=>by
  rw[w,er] at ex;have:=Hv (λo:HO=>match o with| .ins _ _ fs=>fs.length|_=>0) (Hb ex)
  exact G6 this (by show¬(6=4);decide)
 refine#[#[#[#[dr,aj],as,all,old h1 (nir h1 λ_ _ _ z=>nomatch z),Paired.Nt h2 λb x h=>?_,h3],S.wh,#[#[kk,old k1 (nir k1 λ_ _ _ z=>nomatch z),k2,k3],#[ff,old f1 (nir f1 λ_ _ _ z=>nomatch z),f2],S.kn.len,#[ff,old f1 (nir f1 λ_ _ _ z=>nomatch z),S.kn.fl f1]],old hy (nir hy λ_ _ _ z=>nomatch z),by show bf (bf H nb (.dK [])) B.r _ nb=GM (.dK []);rw[af nbr];exact aj,#[d1,d2,aw k1 UM,d4,aw f1 UM,aw hy UM],λb xs h=>?_],λb o e m=>old e λz=>m (.inl z)]
 .have w:=ako h
  obtain⟨dx,ex⟩:=h;exact#[dx,old ex w]
 .have e2:=S.fr b xs h
  exact old e2 (nir e2 λ_ _ _ z=>nomatch z)
def uj {q kd fn ds bl nb:GB}{n:GQ} :Lj "blocks" (.ref nb) (sY q kd fn ds bl n)=sY q kd fn ds nb n:=by
 unfold sY;simp only[Lj]
 rfl
def fU.putD {a:bI}{H:Hp}{B:Rb}{n:GQ}{t:GA}{Kn:GF}(S:fU a B H n t Kn):fU a (B.dk c) (bf H B.ds.p (.dK c)) n t Kn:=by
 obtain⟨dr,er⟩:=S.rd.ins;obtain⟨as,all,h1,h2,h3⟩:=S.rd.toks;obtain⟨kk,k1,k2,k3⟩:=S.kn.vals;obtain⟨ff,f1,f2⟩:=S.kn.funs;have hy:=S.R4;have e:=S.SE;obtain⟨d1,d2,d3,d4,d5,d6⟩:=S.Qc;have nr:B.r≠B.ds.p:=λw=>by rw[w,e] at er;cases er
 have nq:B.q≠B.ds.p:=λw=>by rw[w,e] at h1;cases h1
 refine#[#[#[dr,(by show bf H B.ds.p (.dK c) B.r=_;rw[af nr];exact er)],as,all,(by show bf H B.ds.p (.dK c) B.q=_;rw[af nq];exact h1),Paired.Nt h2 λb x ⟨dx,ex⟩=>#[dx,?_],h3],S.wh,#[#[kk,(by show bf H B.ds.p (.dK c) B.kd=_;rw[af d2];exact k1),k2,k3],#[ff,(by show bf H B.ds.p (.dK c) B.fn=_;rw[af d4];exact f1),f2],S.kn.len,#[ff,(by show bf H B.ds.p (.dK c) B.fn=_;rw[af d4];exact f1),S.kn.fl f1]],aj,(by show bf H B.ds.p (.dK c) B.bl.p=_;rw[af d6.symm];exact hy),S.Qc,λb xs h=>?_]
 .rw[af λw=>by rw[w,e] at ex;cases ex]
  exact ex
 .have e2:=S.fr b xs h
  rw[af λw=>by rw[w,e] at e2;cases e2];exact e2
section
variable {β:Type}{H H0:Hp}{p:GN β}{E:XK}{Ro:β->GA->Prop}
theorem RS.putD (R:RS #[a,E,B,L,H0,Ro] F b H t Kn p):RS #[a,E,B.dk c,L,H0,Ro] F b (bf H B.ds.p (.dK c)) t Kn p:=by
 obtain⟨n,S⟩:=R.S;have k:dj (fG B) H (bf H B.ds.p (.dK c)):=fC (.inr (.inr (.inr (.inl KB))));exact#[#[n,S.putD],R.k.trans k,λe=>jU.Ie k.two (R.f e),R.l,R.w]
theorem RS.aaU {n:GQ}{nb dr:GB}(R:RS #[a,E,B,L,H0,Ro] F b H t Kn p) (hN:ES B H0) (S:fU a B H n t Kn) (UM:H nb=Ix) (er:H B.r=GM (.ins a.HP dr (sY B.q B.kd B.fn B.ds.p B.bl.p n))):
  ES (B.nb nb) H0/\RS #[a,E,B.nb nb,L,H0,Ro] F b (bf (bf H nb (.dK [])) B.r (.ins a.HP dr (sY B.q B.kd B.fn B.ds.p nb n))) t Kn p:=by
 obtain⟨S',k⟩:=S.aaU UM er;have m: ∀ {b},fG (B.nb nb) b->fG B b\/b=nb:=λ{b} z=>by
  rcases z with z|z|z|z|z|z
  .exact .inl (.inl z)
  .exact .inl (.inr (.inl z))
  .exact .inl (.inr (.inr (.inl z)))
  .exact .inl (.inr (.inr (.inr (.inl z))))
  .exact .inr z
  .exact .inl (.inr (.inr (.inr (.inr (.inr z)))))
 have h0:H0 nb=Ix:=by
  cases e:H0 nb with
  |none=>rfl
  |some o=>
   have:=R.k nb o e λz=>by rw[hN nb z] at e;cases e
   rw[UM] at this;cases this
 have N':ES (B.nb nb) H0:=λb z=>(m z).elim (hN b) λz=>by rw[z];exact h0
 refine#[N',#[n,S'],λb o e _=>?_,λe=>jU.Ie (λb o e w=>#[λz=>(m z).elim w (λz=>ic (by rw[z];exact UM) e),k b o e w]) (R.f e),R.l,R.w.mono (λ_ _ z=>z) λ_ _ z H' k'=>z H' λb o e _=>k' b o e λz=>ic (N' b z) e];have w: ¬fG B b:=λz=>ic (hN b z) e
 exact k b o (R.k b o e w) w
end
section
variable {K:GF}{β:Type}{g:iC->GN β}
def zb (h1:GP t "const"=IR) (h2:GP t "fun"=IR):(i5 k K n D>>=g) t=(IQ "desk">>=λ_=>fg D>>=λx=>Hw "{">>=λ_=>J8 k 6 K []>>=λl=>g (.desk x l.1,K,n,x::D)) t:=by
 have c1: ¬GP t "const"=IN:=by rw[h1];exact Gu
 have c2: ¬GP t "fun"=IN:=by rw[h2];exact Gu
 cases hd:GP t "desk" with
 |true=>
  rw[bo (show i5 k K n D t=(HV>>=λ_=>CY k K n D:GN iC) t by unfold i5;rw[GG c1,GG c2,GI hd])];refine Eq.trans ?_ (bU (p:=IQ "desk") (x:=()) (r:=t.drop 1) (by unfold IQ;rw[GI hd])).symm;unfold CY;simp only[bind_assoc,pure_bind]
  rfl
 |false=>
  have c3: ¬GP t "desk"=IN:=by rw[hd];exact Gu
  refine(bo (q:=(Hm 2:GN iC)) (by unfold i5;rw[GG c1,GG c2,GG c3])).trans ?_;exact((fD t).trans (fD t).symm).trans (bo (p:=IQ "desk") (q:=(Hm 2:GN Nq)) (by unfold IQ;rw[GG c3])).symm
def uI (nb:x≠ .bad) (en:di x=IR):fg D ((x,xp)::t)=Hm 2 ((x,xp)::t):=by
 cases x with
 |word u=>
  rw[dU] at en;have RK:HU.contains u=IN:=by cases h:HU.contains u;rw[h] at en;cases en;rfl
  unfold fg;rw[dD,GI RK]
  rfl
 |num m=>rfl
 |sign s=>rfl
 |eof=>rfl
 |bad=>exact G6 KB nb
def mO (RK:HU.contains u=IR):fg D ((.word u,xp)::t)=if D.contains u=IN then Hm 4 ((.word u,xp)::t) else .ok (u,t):=by
 unfold fg;rw[dD,GG (by rw[RK];exact Gu)]
end
def agY (T:Txt K mg a) (XC:XT K a) (hk:8<=k)
  (G:T.VZ.O P w base k (kN a 7)):
  T.Ww.O P w base (k+1) (pU a λt=>GP t "const"=IR/\GP t "fun"=IR):=by
 refine F5 T XC hk T.Ww.F af0 λIF A outer s H β B L H0 Ro F b t Kn nf Ds fu g Q E hr ho hf hB hc hn hN=>?_;intro X D Z Y R q;have lL:=R.lL;have hm:Kn.values.length+t.length<=4000:=R.room;have R:=R.at.as (zb ho.1 ho.2);generalize hl:t.length=l at R lL hc hf hm;refine md (Z:=Z.at l) Y Gb R λH t R=>?_;have l1:t.length+1<=l:=R.l;obtain⟨n,S⟩:=R.S;refine aW 1 Y.nd (zt (Z:=Z.at l) Y R (λ_=>rfl) T.MM S.SE (mX Ds).bind (λnb en=>?_) (λu e1 hk hu=>?_) λu xp r e1 hk hu=>#[Hw "{">>=λ_=>J8 fu 6 Kn []>>=λl=>g (.desk u l.1,Kn,nf,u::Ds),(bU (x:=u) (r:=r) ((mO hk).trans (GG (X8 ((hB u).symm.trans hu))))).trans KB,λH R=>?_])
 .obtain⟨⟨x,xp⟩,r,rfl⟩:=R.cons
  exact(bo (q:=Hm 2) (uI nb en)).trans (fD _)
 .obtain⟨⟨x,xp⟩,r,rfl⟩:=R.cons
  obtain rfl:x= .word u:=e1;exact(bo (q:=Hm 4) ((mO hk).trans (GI ((hB u).symm.trans hu)))).trans (fD _)
 rw[e1,Gv] at l1;obtain⟨n,S⟩:=R.S;obtain⟨dr,er⟩:=S.rd.ins;refine dA (nI (gP hr) [07] (pv 1) tV KB) #[B.r,_,dr,_,_,KB,er,T.Ht,T.MM,KB,B.ds.p,_,KB, .inl #[B.ds.c,nk u,S.SE,KB,HH (show B.ds.c.length<=4000 by lia) [01],KB],?_];have hD: ∀v,has (fX B.ds.c (nk u) (.bl IN)) v=(u::Ds).contains v:=λv=>by
  rw[sG,HS,hB v]
  congr 1
  rw[Iv,Il,beq_iff_eq]
 have hDl:=fR B.ds.c (nk u) (.bl IN)
 have R:=R.putD (c:=fX B.ds.c (nk u) (.bl IN));generalize fX B.ds.c (nk u) (.bl IN)=c3 at R hD hDl ⊢;generalize bf H B.ds.p (.dK c3)=H at R ⊢;obtain⟨n,S⟩:=R.S;obtain⟨dr,er⟩:=S.rd.ins;refine dA (fV (pv 0) lj KB) λnb UM=>#[B.r,_,dr,_,KB,(by rw[af λz=>by rw[<-z,er] at UM;cases UM];exact er),T.Ht,T.KL,(by show 6<1000;decide),?_]
 rw[uj];obtain⟨hN,R⟩:=R.aaU hN S UM er;refine aD (j8 Y (yg T) (aX (bW 1 (aX #[_,Y.call2 #[G,hr,T.VZ.c,KB] aG [01] KB,(B.dk c3).nb nb,l,H0,Ro,F,_,r,Kn,[],0,fu,_,KB,HG _,by decide,by lia,(λv=>rfl),(by show 0+r.length<=4000;lia),R,λx v H t c' hB' V0 R=>ca (R.new KB λw H i R=>?_)]))));have l9:t.length+1<=l:=R.l;have R:=RS.back (Z:=#[a,E,B.tp c3 nb c',L,H0,Ro]) lL R;obtain⟨us,la,sa⟩:qi a (fG (B.tp c3 nb c')) H x.1 v:=R.f (i:=0) KB;exact q (.desk u x.1,Kn,nf,u::Ds) w H t c3 nb c' hD (by lia) hn hN ((R.cut 1).and #[v,us,i,la,sa])
def agZ (T:Txt K mg a) (XC:XT K a) (hk:8<=k)
  (G1:T.Wu.O P w base k (pU a λt=>GP t "const"=IN))
  (G2:T.Wv.O P w base k (pU a λt=>GP t "const"=IR/\GP t "fun"=IN))
  (G3:T.Ww.O P w base k (pU a λt=>GP t "const"=IR/\GP t "fun"=IR)):
  T.Wt.O P w base (k+1) (pU a λ_=>True):=by
 refine F5 T XC hk T.Wt.F afV λIF A outer s H β B L H0 Ro F b t Kn nf Ds fu g Q E hr ho hf hB hc hn hN=>?_;intro X D Z Y R q;refine aY (dq (jp (Z:=Z) Y R (mK _ _ _ _).bind λnb=>#[_,KB,?_]));rw[cz R.tok uR];refine bi (λe1=>aD (fO Y #[G1,hr,T.Wu.c,KB] #[B,L,H0,Ro,F,b,t,Kn,nf,Ds,fu,g,KB,e1,hf,hB,hc,hn,hN,R,q])) λe1=>?_;refine aY (dq (jp (Z:=Z) Y R (mK _ _ _ _).bind λnb=>#[_,KB,?_]));rw[cz R.tok CS];refine bi (λe2=>aD (fO Y #[G2,hr,T.Wv.c,KB] #[B,L,H0,Ro,F,b,t,Kn,nf,Ds,fu,g,KB,#[e1,e2],hf,hB,hc,hn,hN,R,q])) λe2=>?_;exact aD (fO Y #[G3,hr,T.Ww.c,KB] #[B,L,H0,Ro,F,b,t,Kn,nf,Ds,fu,g,KB,#[e1,e2],hf,hB,hc,hn,hN,R,q])
section
open Vbemac (tokens)
def wI (u:Gz):cT cv (nk u)=(Kk.funs.find? λf=>f.1 == u).map λf=>V.int (f.2:GQ):=by
 have h1:(Jw "min":cf)=nk (Gx "min"):=by show(Jw "min":cf)=Jw (sb (Gx "min"));congr 1
 have h2:(Jw "max":cf)=nk (Gx "max"):=by show(Jw "max":cf)=Jw (sb (Gx "max"));congr 1
 have h3:(Jw "abs":cf)=nk (Gx "abs"):=by show(Jw "abs":cf)=Jw (sb (Gx "abs"));congr 1
 unfold cv Kk LD;rw[h1,h2,h3];have ne: ∀ {v:Gz},¬v=u-> ¬nk v=nk u:=λh z=>h (fY (Ms z))
 have st: ∀(v:Gz) (x:V) (r:Gr (cf×V)),cT ((nk v,x)::r) (nk u)=if v=u then GM x else cT r (nk u):=λv x r=>by
  by_cases e:v=u
  .rw[GI e];exact cO (by rw[e])
  .rw[GG e];exact cF (ne e)
 rw[st,st,st,IC,IC,IC];dsimp only;by_cases e1:Gx "min"=u
 .rw[GI e1,show(Gx "min" == u)=IN from beq_iff_eq.mpr e1];rfl
 .rw[GG e1,show(Gx "min" == u)=IR from beq_eq_false_iff_ne.mpr e1]
  dsimp only;by_cases e2:Gx "max"=u
  .rw[GI e2,show(Gx "max" == u)=IN from beq_iff_eq.mpr e2];rfl
  .rw[GG e2,show(Gx "max" == u)=IR from beq_eq_false_iff_ne.mpr e2]
   dsimp only;by_cases e3:Gx "abs"=u
   .rw[GI e3,show(Gx "abs" == u)=IN from beq_iff_eq.mpr e3];rfl
   .rw[GG e3,show(Gx "abs" == u)=IR from beq_eq_false_iff_ne.mpr e3];rfl
abbrev F0:GB->Gr V->Prop:=λ_ _=>False
def aaA.st {a:bI}{H H':Hp}(N:aaA a H H' r dr q kd fn ds bl) (hq:H q=GM (.lst (as.map V.ref))) (nq:q≠r) (tk:Paired (gv a.Kd H) as (tokens bs)) (nt: ∀b∈as,b≠r) (hl:bs.length<=3000):
  fU a #[r,q,kd,fn,#[ds,[],F0],#[bl,[],F0]] H' 0 (tokens bs) Kk:=by
 have len:(tokens bs).length<=4000:=by
  have:=dW (bs.length+1) (1,1) bs;unfold tokens;lia
 refine#[#[#[dr,N.ins],as,tokens bs,N.kept _ _ hq nq,?_,KB],gu _ _ _,#[#[[],N.kd1,GY _,λu=>rfl],#[cv,N.fn1,wI],by show 0+(tokens bs).length<=4000;lia,#[cv,N.fn1,KB]],N.ds1,N.bl1,#[N.Qc.1,N.Qc.2.1,N.Qc.2.2.1,N.Qc.2.2.2.1,N.Qc.2.2.2.2.1,N.Qc.2.2.2.2.2],λ_ _ z=>z.elim];clear len hq;revert nt;generalize tokens bs=ts at tk ⊢
 induction tk with
 |nil=>exact λ_=> .nil
 |cons h t ih=>exact λnt=> .cons (by obtain⟨dx,e⟩:=h;exact#[dx,N.kept _ _ e (nt _ (GW ..))]) (ih λb hb=>nt b (Hc _ hb))
end
abbrev wa (a:bI) (M:GB->Prop) (H:Hp) (ss:Gr Iy) (us:Gr V):Prop:=Paired (λs v=>f8 a M H s v) ss us
inductive nQ (K:Gy) (a:bI) (vs:Gr V) (H:Hp) (Q:VK) (E:XK):Prop
 |mk (l:GB) (bs:Gz) (_:vs=[.ref l]) (_:cJ K H l (lJ bs)) (_:bs.length<=3000) (_:W (K5 (Mz (Ib bs)) Kk NF []) (Ib bs) (λss _=> ∀H' (L:GB) (us:Gr V) (M:GB->Prop),aI H H'->H L=Ix-> ¬M L->H' L=GM (.lst us)->wa a M H' ss us->Q (.ref L) H') (λk x=> ∀H',aI H H'->o0 a.Jm E H' k x)):nQ K a vs H Q E
def E1 {k n:GQ}{K:GF}{β:Type}{g:MX->GN β}(h0:GX t≠ .eof):(K5 (k+1) K n D>>=g) t=(i5 k K n D>>=λx=>K5 k x.2.1 x.2.2.1 x.2.2.2>>=λl=>g (x.1::l)) t:=by
 have e:K5 (k+1) K n D t=(i5 k K n D>>=λx=>K5 k x.2.1 x.2.2.1 x.2.2.2>>=λl=>pure (x.1::l):GN MX) t:=by
  cases h1:GP t "const" with
  |true=>
   rw[wj h0 h1,tP h1];simp only[eJ,bind_assoc,pure_bind]
  |false=>
   cases h2:GP t "fun" with
   |true=>
    by_cases hn:n=0
    .rw[zT h0 h1 h2 hn,zo h1 h2 hn]
    .rw[B0 h0 h1 h2 hn,Cm h1 h2 hn]
     unfold mQ;simp only[k8,eJ,bind_assoc,pure_bind]
     rfl
   |false=>
    rw[zb h1 h2];cases h3:GP t "desk" with
    |true=>
     rw[AA h0 h1 h2 h3];refine Eq.trans ?_ (bU (p:=IQ "desk") (x:=()) (r:=t.drop 1) (by unfold IQ;rw[GI h3])).symm
     rfl
    |false=>
     rw[zE h0 h1 h2 h3];exact((bo (p:=IQ "desk") (q:=(Hm 2:GN Nq)) (by unfold IQ;rw[GG (X8 h3)])).trans (fD t)).symm
 rw[bo e];simp only[bind_assoc,pure_bind]
abbrev fkT (ps:Gr (Iy×V)):Gr (Fk×V):=ps.map λx=>(Fk.top x.1,x.2)
theorem yF {a:bI}{M:GB->Prop}{H:Hp}{l:Gr Iy}{ws:Gr V}(hl:wa a M H l ws): ∀ {ps:Gr (Iy×V)},(∀ {i:GQ}{x:Fk×V},(fkT ps)[i]?=GM x->jU a M H x)->wa a M H ((ps.map λx:Iy×V=>x.1).reverse++l) ((ps.map λx:Iy×V=>x.2).reverse++ws)
 |[],_=>hl
 | (e,v)::ps,h=>by
  rw[G8,G8,IX,IX,Hj,Hj];exact yF (.cons (h (i:=0) KB) hl) λ{i x} q=>h (i:=i+1) q
inductive ShI (a:bI) (E:XK) (B:Rb) (H0:Hp) (Ro:MX->GA->Prop) (Ls:GB) (l:GQ) (σ0:L2.St) (m:GQ) (σ:L2.St) (H:Hp):Prop
 |mk (ps:Gr (Iy×V)) (K1:GF) (nf:GQ) (D:Gr Gz) (dc:Gr (cf×V)) (bp:GB) (bc:Gr (cf×V)) (t:GA) (f:GQ) (_:m=t.length) (_:σ=σ0) (_:ps.length+t.length<=l) (_: ∀u,has dc u=D.contains u) (_:dc.length+t.length<=4000) (_:K1.funs.length+nf=9) (_:16*t.length+1<=f) (_:ES (B.tp dc bp bc) H0)
  (_:wG #[a,E,B.tp dc bp bc,l,H0,Ro] Ls) (_:RS (Zf.mo #[a,E,B.tp dc bp bc,l,H0,Ro] Ls (ps.map λx:Iy×V=>x.2).reverse) (fkT ps) IR H t K1 (K5 f K1 nf D>>=λx=>pure ((ps.map λx:Iy×V=>x.1).reverse++x))):ShI a E B H0 Ro Ls l σ0 m σ H
def akp (T:Txt K mg a) (XC:XT K a) (kS:Bi P w K a.K6 eQ) (kF:vT P w K a.HQ cv) (hk:8<=k)
  (G:T.Wt.O P w base k (pU a λ_=>True)):
  T.d_z.O P w base (k+1) (nQ K a):=by
 have G1:=ph (P:=P) (w:=w) (base:=base) T kF
 have G2:=aj1 (P:=P) (w:=w) (base:=base) T kS
 have G3:=zR (P:=P) (w:=w) (base:=base) T XC;refine kr T.d_z.F aao (λvs H Q E h=>?_) [02]
 .obtain⟨l,bs,rfl,_⟩:=h
  rfl
 obtain⟨l,bs,rfl,hS,hl,hW⟩:=h;refine aW 1 aao.nd #[_,kX T.UC G1 [05] (by rfl) T.Uy T.Y0.c.b .nil aC (aa (aq G2 [05] (by rfl) T.d_m.c aC (aa (pv 0) ac)) ac),l,bs,KB,hS,hl,λH1 q as s1 hq0 hq1 tk=>?_];intro r dr hr0 hdr ne;refine#[r,dr,q,KB,aj,λH2 kd fn ds bl N=>#[KB,?_]];have qr:q≠r:=(aw hq1 hr0);have up1: ∀ {b:GB}{o:HO},H1 b=GM o->bf (bf H1 dr (.own r)) r (.ins a.HP dr []) b=GM o:=λe=>by
  rw[af (aw e hr0),af (aw e hdr)];exact e
 have ag0: ∀ {as:Gr GB}{ts:GA},Paired (gv a.Kd H1) as ts-> ∀b∈as,b≠r:=λtk=>by
  induction tk with
  |nil=>exact λb hb=>nomatch hb
  |cons h t ih=>
   intro b hb;rcases Hg.mp hb with hb|hb
   .obtain⟨dx,e⟩:=h
    rw[hb];exact aw e hr0
   .exact ih b hb
 have S2:=N.st (up1 hq1) qr (Paired.Nt tk λb x ⟨dx,e⟩=>#[dx,up1 e]) (ag0 tk) hl
 have s02:aI H H2:=λb o e=>N.kept b o (up1 (s1 b o e)) (aw (s1 b o e) hr0)
 have upn: ∀ {b:GB},bf (bf H1 dr (.own r)) r (.ins a.HP dr []) b=Ix->H b=Ix:=λ{b} e=>by
  cases z:H b with
  |none=>rfl
  |some o=>rw[up1 (s1 b o z)] at e;cases e
 have hN:ES ⟨r,q,kd,fn,⟨ds,[],F0⟩,⟨bl,[],F0⟩⟩ H:=λb z=>by
  rcases z with z|z|z|z|z|⟨_,z⟩
  .rw[z]
   cases e:H r with
   |none=>rfl
   |some o=>exact(ic hr0 (s1 r o e)).elim
  .rw[z];exact upn N.kd0
  .rw[z];exact upn N.fn0
  .rw[z];exact upn N.ds0
  .rw[z];exact upn N.bl0
  .exact z.elim
 clear N ag0 up1 upn;have tl:(Ib bs).length<=3002:=by
  have:=dW (bs.length+1) (1,1) bs;unfold Ib;lia
 generalize hRo:(λ(ss:MX) (_:GA)=> ∀H' (L:GB) (us:Gr V) (M:GB->Prop),aI H H'->H L=Ix-> ¬M L->H' L=GM (.lst us)->wa a M H' ss us->Q (.ref L) H')=Ro at hW;generalize hB:(#[r,q,kd,fn,#[ds,[],F0],#[bl,[],F0]]:Rb)=B at S2 hN;have Br:B.r=r:=by rw[<-hB]
 have same: ∀ {dc bp bc} {H':Hp},ES (B.tp dc bp bc) H->dj (fG (B.tp dc bp bc)) H H'->aI H H':=λn k b o e=>k b o e λz=>ic (n b z) e
 have R:RS ⟨a,E,B,(Ib bs).length,H,Ro⟩ (fkT []) IR H2 (Ib bs) Kk (K5 (Mz (Ib bs)) Kk NF []>>=λx=>pure ([]++x)):=#[#[_,S2],λb o e _=>s02 b o e,(λe=>nomatch e),GY _,by
  rw[de];exact hW.mono (λ_ _ z=>z) λ_ _ z H' k'=>z H' λb o e=>k' b o e λz=>ic (hN b z) e]
 rw[<-Br];refine aW 2 aao.nd (sI λLs hL=>?_);have hx: ∀b zs,¬B.bl.x b zs:=λb zs=>by rw[<-hB];exact λz=>z
 have hdc:B.ds.c=[]:=by rw[<-hB]
 refine hJ Tb (ShI a E B H Ro Ls (Ib bs).length [GM (.ref l),GM (.ref B.r),GM (.ref Ls)]) _ #[[],Kk,NF,[],B.ds.c,B.bl.p,B.bl.c,Ib bs,Mz (Ib bs),KB,KB,by show 0+_<=_;lia,(λ_=>by rw[hdc];rfl),by rw[hdc];show 0+_<=_;lia,KB,by unfold Mz;lia,hN,R.nwl hL,R.more hL] ?_;rintro mm σ H4 ⟨ps,K1,nf,D,dc,bp,bc,t,f,rfl,rfl,ul,hD,hDl,hn,hf,hN',N,R⟩;obtain⟨f,rfl⟩: ∃f',f=f'+1:=#[f-1,by lia];obtain⟨n4,S⟩:=R.S;obtain⟨⟨x,xp⟩,t5,rfl,tok,Q2,MU,_⟩:=S.wh.first;obtain⟨dr4,er4⟩:=S.rd.ins;refine#[_,lT (bS (cV (pv 1) T.Ht T.Y1.c G3 [05] bN)),B.r,dr4,_,KB,er4,KB,B.r,B.q,B.kd,B.fn,B.ds.p,bp,n4,(x,xp),t5,KB,S.rd,(λb=>(tM _ _ _ _).bind.Mp (Q2.trans b) R.w H4 R.k),λnb=>#[_,KB,?_]];have len:((ps.map λx:Iy×V=>x.2).reverse:Gr V).length=ps.length:=by rw[IP,GK]
 cases he:BD x with
 |true=>
  have ex:x= .eof:=by cases x<;>first|rfl|cases he
  subst ex;refine cW (aD (bW 2 ?_));have w:=(R.as (p':=pure ((ps.map λx:Iy×V=>x.1).reverse++[])) ((bU (Bt KB)).trans KB)).w
  have w:Ro ((ps.map λx:Iy×V=>x.1).reverse++[]) ((.eof,xp)::t5):=w
  rw[<-hRo] at w;refine w H4 Ls _ (fG (B.tp dc bp bc)) (same hN' (R.less N).k) N.n0 N.nm R.QK ?_;rw[<-G7 (ps.map λx:Iy×V=>x.2).reverse];exact yF .nil λe=>(R.less N).f e
 |false=>
  have ne:GX ((x,xp)::t5)≠ .eof:=λz=>by
   have z:x= .eof:=z;rw[z] at he;cases he
  refine dR (pw (β:=MX) R.QK (pv 2) [08] #[_,aq G hr (by rfl) T.Wt.c bN (aa (pv 1) ac),(B.tp dc bp bc).more Ls (ps.map λx:Iy×V=>x.2).reverse,((x,xp)::t5).length,H,Ro,fkT ps,IR,(x,xp)::t5,K1,nf,D,f,_,KB,IS,by lia,hD,hDl,hn,λb z=>(dL z).elim (λz=>by rw[z];exact N.n0) (hN' b),R.at.as (E1 ne),λy v H' t' dc' bp' bc' SD akq hn' hN2 R2=>?_]);have l2:t'.length+1<=((x,xp)::t5).length:=R2.l;have R2:=RS.back (Z:=Zf.mo #[a,E,B.tp dc' bp' bc',(Ib bs).length,H,Ro] Ls (ps.map λx:Iy×V=>x.2).reverse) (by show((x,xp)::t5).length<=(Ib bs).length;lia) R2;have N2:wG ⟨a,E,B.tp dc' bp' bc',(Ib bs).length,H,Ro⟩ Ls:=by
   refine#[N.n0,λz=>?_,N.nx,N.nq];rcases z with z|z|z|z|z|⟨zs,z⟩
   .exact N.nm (.inl z)
   .exact N.nm (.inr (.inl z))
   .exact N.nm (.inr (.inr (.inl z)))
   .exact N.nm (.inr (.inr (.inr (.inl z))))
   .obtain⟨n5,S5⟩:=R2.S
    have h1:=R2.QK
    have h2:=S5.R4
    have z:Ls=bp':=z;rw[z] at h1;cases h1.symm.trans h2
   .exact hx _ _ z
  refine#[_,_,_,_,_,_,N2,by rw[len];exact HH (show ps.length<=4000 by lia) [01],R2,λH3 R3=>?_];refine lF #[_,l2,(y.1,v)::ps,y.2.1,y.2.2.1,y.2.2.2,dc',bp',bc',t',f,KB,KB,(by rw[Gv];lia),SD,akq,hn',(by lia),λb z=>hN2 b (cP z),N2,?_];rw[G8,G8,IX,IX];simp only[Hj];exact#[R3.S,R3.k,R3.f,G0 (JO _ _) R3.l,R3.w]
def Cl {P:Hr}{w:HW}{K:Gy}{mg:Ha->GJ GC}{base:Im}{a:bI}(T:Txt K mg a) (XC:XT K a) (IL:qz K a) (KT:Bc K a.JB dN) (kS:Bi P w K a.K6 eQ) (kF:vT P w K a.HQ cv):
  T.d_z.O P w base 178 (nQ K a):=by
 have E:oM P w K mg base a 151:=(akj T XC KT 13).1
 have Br:=A3 T XC IL [01] E 7
 have Gi:=agH T XC [01] E
 have Co:=agU T XC [01] Gi
 have Fu:=agX T XC kF [01] Gi
 have De:=agY T XC [01] Br
 have To:=agZ T XC [01] (Co.mono (by decide:153<=176)) (Fu.mono [01]) De;exact akp T XC kS kF [01] To
end OS
namespace OS
open Vbemac
open PySem (Str)
def ki (n:GQ):Ha:=Ha.ofString (toString (n:Int))
abbrev tx (s:String):Ha:=Ha.ofString s
def pF (w:GQ) (e:Exp) (ps:Gr Ha):Gr Ha:=if strength e<w then tx "("::(ps++[tx ")"]) else ps
mutual
def xF:Exp->Gr Ha
 | .num n=>[ki n]
 | .name x=>[sb x]
 | .call f l=>sb f::tx "("::(aF l++[tx ")"])
 | .neg e=>tx "-"::pF 5 e (xF e)
 | .not e=>tx "!"::pF 5 e (xF e)
 | .sums e r=>pF 4 e (xF e)++rF 4 r
 | .prods e r=>pF 5 e (xF e)++rF 5 r
 | .cmp op a b=>pF 3 a (xF a)++(tx " "::dI op::tx " "::pF 3 b (xF b))
 | .both e l=>pF 2 e (xF e)++mF 2 (tx "&&") l
 | .either e l=>pF 1 e (xF e)++mF 1 (tx "||") l
 | .pick c a b=>tx "if "::(xF c++(tx " then "::(xF a++(tx " else "::xF b))))
 | .sum x lo hi e=>tx "sum("::sb x::tx " in "::(xF lo++(tx " .. "::(xF hi++(tx ": "::(xF e++[tx ")"])))))
def aF:Exps->Gr Ha
 | .nil=>[]
 | .cons e .nil=>xF e
 | .cons e l=>xF e++(tx ", "::aF l)
def mF (w:GQ) (g:Ha):Exps->Gr Ha
 | .nil=>[]
 | .cons e l=>tx " "::g::tx " "::(pF w e (xF e)++mF w g l)
def rF (w:GQ):Rest->Gr Ha
 | .nil=>[]
 | .cons op e r=>tx " "::dI op::tx " "::(pF w e (xF e)++rF w r)
def fr:Exp->GQ
 | .num n=>if n<1000000000000000000 then 4 else 1000
 | .name _=>4
 | .call _ l=>4+kl l
 | .neg e=>2+fr e
 | .not e=>2+fr e
 | .sums e r=>3+max (fr e) (oE r)
 | .prods e r=>3+max (fr e) (oE r)
 | .cmp _ a b=>3+max (fr a) (fr b)
 | .both e l=>3+max (fr e) (kl l)
 | .either e l=>3+max (fr e) (kl l)
 | .pick c a b=>4+max (fr c) (max (fr a) (fr b))
 | .sum _ lo hi e=>4+max (fr lo) (max (fr hi) (fr e))
def kl:Exps->GQ
 | .nil=>0
 | .cons e l=>max (fr e) (kl l)
def oE:Rest->GQ
 | .nil=>0
 | .cons _ e r=>max (fr e) (oE r)
end
def bO (p:Ha):Gr Int:=if p=ml then [37] else p.cps.toList.map MG
def bF (ps:Gr Ha):Gr Int:=ps.flatMap bO
def mS (ps:Gr Ha):GQ:=(ps.map λp=>p.cps.size+1).sum
def eP:bF []=[]:=rfl
def aA (p:Ha) (ps:Gr Ha):bF (p::ps)=bO p++bF ps:=rfl
def bw (a b:Gr Ha):bF (a++b)=bF a++bF b:=KR
def cy:mS []=0:=rfl
def ae (p:Ha) (ps:Gr Ha):mS (p::ps)=p.cps.size+1+mS ps:=by unfold mS;rw[G8,RO]
def au (a b:Gr Ha):mS (a++b)=mS a+mS b:=by unfold mS;rw[IJ,Gr.sum_append]
def xh (ps:Gr Ha):ps.length<=mS ps:=by
 induction ps with
 |nil=>exact GY _
 |cons p r ih=>rw[ae,Gv];lia
def DT (ps:Gr Ha):(bF ps).length<=mS ps:=by
 induction ps with
 |nil=>exact GY _
 |cons p r ih=>
  rw[ae,aA,Gw];have:(bO p).length<=p.cps.size+1:=by
   unfold bO;split
   .simp
   .simp
  lia
structure Wd (x:HD):Prop where
 ne:x≠[]
 ok: ∀c∈x,b8 c=IN
 len:x.length<=24
def TB (t:Jn):Prop:= ∀x∈t,(∀w,x.1= .word w->Wd w)/\ ∀n,x.1= .num n->n<1000000000000000000
theorem TB.drop {t:Jn}(h:TB t) (k:GQ):TB (t.drop k):=λx hx=>h x (Gr.mem_of_mem_drop hx)
def pS {t:Jn}{k:Tok}(h:peek t=k) (hk:k≠ .eof): ∃p r,t=(k,p)::r:=by
 cases t with
 |nil=>exact G6 h.symm hk
 |cons x r=>obtain⟨a,p⟩:=x;cases h;exact#[p,r,KB]
theorem TB.word {t:Jn}(h:TB t) {w:HD}(e:peek t= .word w):Wd w:=by
 obtain⟨p,r,rfl⟩:=pS e (by intro z;cases z);exact(h _ GW).1 w KB
theorem TB.num {t:Jn}(h:TB t) {n:GQ}(e:peek t= .num n):n<1000000000000000000:=by
 obtain⟨p,r,rfl⟩:=pS e (by intro z;cases z);exact(h _ GW).2 n KB
def wg {t:Jn}{k:Tok}(e:peek t=k) (hk:k≠ .eof):(t.drop 1).length+1=t.length:=by
 obtain⟨p,r,rfl⟩:=pS e hk
 rfl
def jw {x:HD}(h:Wd x):bO (sb x)=«ints» x:=by
 unfold bO;rw[GG]
 .show(x.map KD).toArray.toList.map MG=_
  unfold «ints»;rw[JX]
  rfl
 .intro z
  rw[qV] at z;have z:=fY z;have:=h.ok 47 (by rw[z];exact GW);exact G6 this [01]
def e9 {x:HD}(h:Wd x):(sb x).cps.size<=24:=by
 show(x.map KD).toArray.size<=24
 rw[Hz,GK];exact h.len
def Dt: ∀s∈SIGNS,bO (dI s)=«ints» s:=by decide+kernel
def vw: ∀s∈SIGNS,(dI s).cps.size<=5:=by decide+kernel
def nU (n:GQ):(ki n).cps.toList=(Tp 10 n).map U7:=by
 unfold ki;rw[Ha.ofString_eq_toList];show(((toString n:String).toList.map U7).toArray).toList=_;rw[QD,SN]
def EH {n:GQ}{c:Char}(h:c∈Tp 10 n):c.toNat<58/\48<=c.toNat:=by
 have:=GQ.isDigit_of_mem_toDigits [01] [01] h;unfold Char.isDigit at this;rw[Jx,Il,Il] at this
 have h1:=RM.mp this.1
 have h2:=RM.mp this.2
 have e1:(48:UInt32).toNat=48:=rfl
 have e2:(57:UInt32).toNat=57:=rfl
 show c.val.toNat<58/\48<=c.val.toNat
 constructor
 .have:c.val.toNat<=57:=h2
  lia
 .exact h1
def aaV (n:GQ):bO (ki n)=«ints» (decimal n):=by
 unfold bO;rw[GG,nU]
 .unfold «ints» decimal text
  rw[QD,SN,JX,JX];refine Pu λc hc=>?_;have:=(EH hc).1;show MG c.toNat=MG (MF c.toNat).toNat;rw[show(MF c.toNat).toNat=c.toNat from JZ.toNat_ofNat_of_lt' (by show c.toNat<256;lia)]
 .intro z
  have:(ki n).cps.toList=ml.cps.toList:=Hv (λx=>x.cps.toList) z
  rw[nU] at this;have m:(115:GQ)∈(Tp 10 n).map U7:=by rw[this];decide
  obtain⟨c,hc,e⟩:=Nf.mp m;have:=(EH hc).1;lia
def lC {n:GQ}(h:n<1000000000000000000):(ki n).cps.size<=18:=by
 rw[<-Pg,nU,GK];exact(GQ.length_toDigits_le_iff [01] [01]).mpr h
def aV (a b:HD):«ints» (a++b)=«ints» a++«ints» b:=IJ
end OS
namespace OS
open Vbemac
open PySem (Str)
abbrev T0:GQ->Pos->Prop:=λ_ _=>True
section
variable {α β:Type}{p:P α}{f:α->P β}{t:Jn}{Qo:α->Jn->Prop}{Ro:β->Jn->Prop}
def W.then (h:W p t Qo T0) (g: ∀a r,Qo a r->W (f a) r Ro T0):W (p>>=f) t Ro T0:=by
 rw[de];exact h.mono g λ_ _ z=>z
def W.of (h: ∀a r,p t= .ok (a,r)->Qo a r):W p t Qo T0:=by
 unfold W;split
 .rename_i a r e
  exact h a r e
 .trivial
def W.to (h:W p t Qo T0) {a:α}{r:Jn}(e:p t= .ok (a,r)):Qo a r:=by
 rw[wb e] at h;exact h
def c6 {n:GQ} :W (fail n:P α) t Qo T0:=trivial
end
def Go (t r:Jn):Prop:=TB r/\r.length+1=t.length
def go1 {t:Jn}(h:TB t) {k:Tok}(e:peek t=k) (hk:k≠ .eof):Go t (t.drop 1):=#[h.drop 1,wg e hk]
def Af {t:Jn}(h:TB t) {w:String}(e:Jj t w=IN):Go t (t.drop 1):=go1 h (beq_iff_eq.mp e) (by intro z;cases z)
def goS {t:Jn}(h:TB t) {w:String}(e:Mg t w=IN):Go t (t.drop 1):=go1 h (beq_iff_eq.mp e) (by intro z;cases z)
def jx {t:Jn}(h:TB t) (w:String):W (key w) t (λ_ r=>Go t r) T0:=by
 unfold key;rw[lU (p:=λt=> .ok ((),t.drop 1)) (q:=fail 2)];split
 .rename_i e
  exact Af h e
 .exact c6
def cE {t:Jn}(h:TB t) (w:String):W (sign w) t (λ_ r=>Go t r) T0:=by
 unfold sign;rw[lU (p:=λt=> .ok ((),t.drop 1)) (q:=fail 2)];split
 .rename_i e
  exact goS h e
 .exact c6
def lK {t:Jn}(h:TB t) (w:String):W (ifSign w) t (λb r=>if b=IN then Go t r else r=t) T0:=by
 unfold ifSign;rw[lU (p:=λt=> .ok (IN,t.drop 1)) (q:=λt=> .ok (IR,t))];split
 .rename_i e
  exact goS h e
 .exact KB
def E3 {t:Jn}(h:TB t) (w:String):W (ifKey w) t (λb r=>if b=IN then Go t r else r=t) T0:=by
 unfold ifKey;rw[lU (p:=λt=> .ok (IN,t.drop 1)) (q:=λt=> .ok (IR,t))];split
 .rename_i e
  exact Af h e
 .exact KB
def X9 {t:Jn}(h:TB t) (d:GQ):W (deeper d) t (λe r=>r=t/\e+1=d) T0:=by
 unfold deeper;rw[lU (c:=λ_=>d=0) (p:=fail 6) (q:=λt=> .ok (d-1,t))];split
 .exact c6
 .exact#[KB,by lia]
def jQ {t:Jn}(h:TB t):W anyName t (λx r=>Wd x/\Go t r) T0:=by
 unfold W anyName;cases e:peek t with
 |word w=>
  dsimp only;split
  .rename_i z
   split at z
   .cases z
   .cases z
    exact#[h.word e,go1 h e (by intro z;cases z)]
  .trivial
 |_=>trivial
def fH {t:Jn}(h:TB t) (K:Known):W (newName K) t (λx r=>Wd x/\Go t r) T0:=by
 have q:=jQ h;unfold W at q ⊢;unfold newName;cases e:anyName t with
 |error z=>trivial
 |ok z=>
  rw[e] at q;dsimp only;split
  .rename_i y
   split at y
   .cases y
   .cases y
    exact q
  .trivial
def oA {t:Jn}(h:TB t) (l:Gr String):W (Mh l) t (λo r=>match o with
  |some s=>s∈l.map text/\Go t r
  |none=>r=t) T0:=by
 unfold W Mh;cases e:peek t with
 |sign s=>
  dsimp only;by_cases c:(l.map text).contains s=IN
  .rw[GI c]
   exact#[HY.mp c,go1 h e (by intro z;cases z)]
  .rw[GG c]
 |_=>exact KB
def kL:Exps->GQ
 | .nil=>0
 |_=>8
def AR:Gr HD:=["+","-","*","/","%"].map text
def CM:Gr HD:=["==","!=","<=",">=","<",">"].map text
def Be:Exps->GQ
 | .nil=>0
 | .cons _ l=>Be l+1
def BC (F:Gr (HD×GQ)):Prop:= ∀f k,(BUILT.find? λg=>g.1 == f)=GM k->(F.find? λg=>g.1 == f)=GM k
mutual
def GE:Exp->Prop
 | .num n=>n<1000000000000000000
 | .name x=>Wd x
 | .call f l=>Wd f/\GL l/\ ∀k,(BUILT.find? λg=>g.1 == f)=GM k->Be l=k.2
 | .neg e=>GE e
 | .not e=>GE e
 | .sums e r=>GE e/\GR r
 | .prods e r=>GE e/\GR r
 | .cmp op a b=>op∈CM/\GE a/\GE b
 | .both e l=>GE e/\GL l/\kL l=8
 | .either e l=>GE e/\GL l/\kL l=8
 | .pick c a b=>GE c/\GE a/\GE b
 | .sum x lo hi e=>Wd x/\GE lo/\GE hi/\GE e
def GL:Exps->Prop
 | .nil=>True
 | .cons e l=>GE e/\GL l
def GR:Rest->Prop
 | .nil=>True
 | .cons op e r=>op∈AR/\GE e/\GR r
end
structure Gd (c d:GQ) (t:Jn) (e:Exp) (r:Jn):Prop where
 tb:TB r
 fr:fr e<=c+19*d
 ms:mS (xF e)+8+64*r.length<=64*t.length
 ok:GE e
structure zn (c d:GQ) (t:Jn) (f m:GQ) (ps:Gr Ha) (g:Prop) (r:Jn):Prop where
 tb:TB r
 fr:f<=c+19*d
 ms:mS ps+m+64*r.length<=64*t.length
 ok:g
def kR:Rest->GQ
 | .nil=>0
 |_=>8
def Gd.up {c c' d:GQ}{t t1 r:Jn}{e:Exp}(g:Gd c d t e r) (h:c<=c'):Gd c' d t e r:=#[g.tb,by have:=g.fr;lia,g.ms,g.ok]
def jZ {w:GQ}{e:Exp}{ps:Gr Ha}{b:HD}(h:bF ps=«ints» b):bF (pF w e ps)=«ints» (guarded w e b):=by
 unfold pF guarded;split
 .rw[aA,bw,h,aV,aV]
  rfl
 .exact h
def iS (w:GQ) (e:Exp) (ps:Gr Ha):mS (pF w e ps)<=mS ps+4:=by
 unfold pF;split
 .rw[ae,au]
  show 1+1+(mS ps+(1+1+0))<=_
  lia
 .lia
def sz (s:String) (n:GQ) (h:(tx s).cps.size=n:=by decide+kernel):(tx s).cps.size=n:=h
def bQ (s:String) (b:HD) (h:bO (tx s)=«ints» b:=by decide+kernel):bO (tx s)=«ints» b:=h
def W.ite {α:Type}{t:Jn}{c:Jn->HK}{p q:P α}{Qo:α->Jn->Prop}(h1:c t=IN->W p t Qo T0) (h2:W q t Qo T0):W (λt=>if c t=IN then p t else q t) t Qo T0:=by
 rw[lU];split
 .rename_i e
  exact h1 e
 .exact h2
def Fh {w:GQ}{g:Ha}{e:Exp}{l:Exps} :mS (mF w g (.cons e l))<=9+g.cps.size+mS (xF e)+mS (mF w g l):=by
 rw[mF];have:=iS w e (xF e);rw[ae,ae,ae,au];show 1+1+(_+1+(1+1+_))<=_;lia
def xZ {w:GQ}{op:HD}{e:Exp}{r:Rest} :mS (rF w (.cons op e r))<=9+(dI op).cps.size+mS (xF e)+mS (rF w r):=by
 rw[rF];have:=iS w e (xF e);rw[ae,ae,ae,au];show 1+1+(_+1+(1+1+_))<=_;lia
structure PF (k:GQ):Prop where
 expr: ∀d K t,BC K.funs->TB t->W (expr k d K) t (Gd 21 d t) T0
 moreOr: ∀d K t,BC K.funs->TB t->W (moreOr k d K) t (λl=>zn 18 d t (kl l) (kL l) (mF 1 (tx "||") l) (GL l)) T0
 ands: ∀d K t,BC K.funs->TB t->W (ands k d K) t (Gd 18 d t) T0
 moreAnd: ∀d K t,BC K.funs->TB t->W (moreAnd k d K) t (λl=>zn 15 d t (kl l) (kL l) (mF 2 (tx "&&") l) (GL l)) T0
 compared: ∀d K t,BC K.funs->TB t->W (compared k d K) t (Gd 15 d t) T0
 added: ∀d K t,BC K.funs->TB t->W (added k d K) t (Gd 12 d t) T0
 moreAdded: ∀d K t,BC K.funs->TB t->W (moreAdded k d K) t (λl=>zn 9 d t (oE l) (kR l) (rF 4 l) (GR l)) T0
 times: ∀d K t,BC K.funs->TB t->W (times k d K) t (Gd 9 d t) T0
 moreTimes: ∀d K t,BC K.funs->TB t->W (moreTimes k d K) t (λl=>zn 6 d t (oE l) (kR l) (rF 5 l) (GR l)) T0
 unary: ∀d K t,BC K.funs->TB t->W (unary k d K) t (Gd 6 d t) T0
 primary: ∀d K t,BC K.funs->TB t->W (primary k d K) t (Gd 6 d t) T0
 arguments: ∀d K n t,BC K.funs->TB t->W (arguments k d K n) t (λl=>zn 21 d t (kl l) 64 (aF l) (GL l/\(n≠0->Be l=n))) T0
def El: ∀s∈AR,s∈SIGNS:=by decide+kernel
def ze: ∀s∈CM,s∈SIGNS/\s∉AR:=by decide+kernel
def xP {c d w:GQ}{g:String}{t t1 t2 t3:Jn}{e:Exp}{l:Exps}(hs:(tx g).cps.size=2) (G:Go t t1) (a:Gd c d t1 e t2) (b:zn c d t2 (kl l) (kL l) (mF w (tx g) l) (GL l) t3):
  zn c d t (kl (.cons e l)) (kL (.cons e l)) (mF w (tx g) (.cons e l)) (GL (.cons e l)) t3:=by
 have h1:=a.fr
 have h2:=a.ms
 have h3:=b.fr
 have h4:=b.ms
 have h5:=G.2
 have h6:=Fh (w:=w) (g:=tx g) (e:=e) (l:=l);refine#[b.tb,?_,?_,by rw[GL];exact#[a.ok,b.ok]]
 .unfold kl;exact Iq.mpr #[h1,h3]
 .rw[hs] at h6
  show _+8+_<=_
  lia
def xO {c d w:GQ}{op:HD}{t t1 t2 t3:Jn}{e:Exp}{l:Rest}(ho:op∈AR) (G:Go t t1) (a:Gd c d t1 e t2) (b:zn c d t2 (oE l) (kR l) (rF w l) (GR l) t3):
  zn c d t (oE (.cons op e l)) (kR (.cons op e l)) (rF w (.cons op e l)) (GR (.cons op e l)) t3:=by
 have h1:=a.fr
 have h2:=a.ms
 have h3:=b.fr
 have h4:=b.ms
 have h5:=G.2
 have h6:=xZ (w:=w) (op:=op) (e:=e) (r:=l)
 have h7:=vw op (El op ho);refine#[b.tb,?_,?_,by rw[GR];exact#[ho,a.ok,b.ok]]
 .unfold oE;exact Iq.mpr #[h1,h3]
 .show _+8+_<=_
  lia
def pL {c d:GQ}{t:Jn}{g:Prop}(h:TB t) (q:g):zn c d t 0 0 [] g t:=#[h,by lia,by show 0+0+_<=_;lia,q]
def jn {c d w f:GQ}{t t1 t2:Jn}{e x:Exp}{ps:Gr Ha}{b:Prop}(a:Gd c d t e t1) (g:zn c d t1 f 8 ps b t2) (h1:fr x=3+max (fr e) f) (h2:xF x=pF w e (xF e)++ps) (h3:GE e->b->GE x):Gd (c+3) d t x t2:=by
 have q1:=a.fr
 have q2:=a.ms
 have q3:=g.fr
 have q4:=g.ms
 have q5:=iS w e (xF e);refine#[g.tb,?_,?_,h3 a.ok g.ok]
 .rw[h1]
  have:max (fr e) f<=c+19*d:=Iq.mpr #[q1,q3];lia
 .rw[h2,au]
  lia
def sr {c d f:GQ}{t t1 t2:Jn}{e:Exp}{ps:Gr Ha}{b:Prop}(a:Gd c d t e t1) (g:zn c d t1 f 0 ps b t2):Gd (c+3) d t e t2:=#[g.tb,by have:=a.fr;lia,by have:=a.ms;have:=g.ms;lia,a.ok]
def Ya {d d':GQ}{c:String}{t t1 t2:Jn}{e x:Exp}(hd:d'+1=d) (G:Go t t1) (a:Gd 6 d' t1 e t2) (h1:fr x=2+fr e) (h2:xF x=tx c::pF 5 e (xF e)) (h3:GE x=GE e) (hs:(tx c).cps.size=1):Gd 6 d t x t2:=by
 have q1:=a.fr
 have q2:=a.ms
 have q3:=G.2
 have q5:=iS 5 e (xF e);refine#[a.tb,by rw[h1];lia,?_,by rw[h3];exact a.ok];rw[h2,ae,hs];lia
theorem rZ: ∀k,PF k
 |0=>by
  refine#[?_,?_,?_,?_,?_,?_,?_,?_,?_,?_,?_,?_]<;>intros<;>first|(unfold Hd;exact c6)|(unfold We;exact c6)|(unfold YF;exact c6)|(unfold VR;exact c6)|(unfold Vm;exact c6)|(unfold W2;exact c6)|(unfold UZ;exact c6)|(unfold W3;exact c6)|(unfold U1;exact c6)|(unfold Ii;exact c6)|(unfold Ic;exact c6)|(unfold Ql;exact c6)
 |k+1=>by
  have I:=rZ k;refine#[λd K t b h=>?_,λd K t b h=>?_,λd K t b h=>?_,λd K t b h=>?_,λd K t b h=>?_,λd K t b h=>?_,λd K t b h=>?_,λd K t b h=>?_,λd K t b h=>?_,λd K t b h=>?_,λd K t b h=>?_,λd K n t b h=>?_]
  .unfold Hd
   refine W.ite (λe=>?_) ?_
   .refine(X9 h d).then λd' r ⟨hr,hd⟩=>?_
    subst hr;rw[de,fF];obtain⟨h1,l1⟩:=Af h e;refine(I.expr d' K _ b h1).then λc t2 gc=>(jx gc.tb _).then λ_ t3 ⟨h3,l3⟩=>(I.expr d' K _ b h3).then λx t4 gx=>(jx gx.tb _).then λ_ t5 ⟨h5,l5⟩=>(I.expr d' K _ b h5).then λy t6 gy=>?_;rw[c7];have a1:=gc.ms;have a2:=gx.ms;have a3:=gy.ms;have b1:=gc.fr;have b2:=gx.fr;have b3:=gy.fr;refine#[gy.tb,?_,?_,by rw[GE];exact#[gc.ok,gx.ok,gy.ok]]
    .unfold fr
     have:max (fr c) (max (fr x) (fr y))<=21+19*d':=Iq.mpr #[b1,Iq.mpr #[b2,b3]];lia
    .unfold xF
     rw[ae,au,ae,au,ae,sz "if " 3,sz " then " 6,sz " else " 6];lia
   .refine(I.ands d K t b h).then λx t1 gx=>(I.moreOr d K t1 b gx.tb).then λl t2 gl=>?_
    rw[c7];cases l with
    |nil=>exact sr gx gl
    |cons y s=>exact jn gx gl (by rw[fr]) (by rw[xF]) (λp q=>by rw[GE];first|exact#[p,q]|exact#[p,q,KB])
  .unfold We
   refine(lK h _).then λm t1 hm=>?_;split
   .rename_i e
    rw[GI e] at hm;refine(I.ands d K t1 b hm.1).then λx t2 gx=>(I.moreOr d K t2 b gx.tb).then λl t3 gl=>?_;exact xP (g:="||") [00] hm gx gl
   .rename_i e
    rw[GG e] at hm;subst hm;exact pL h (by first|rw[GL];trivial|rw[GR];trivial)
  .unfold YF
   refine(I.compared d K t b h).then λx t1 gx=>(I.moreAnd d K t1 b gx.tb).then λl t2 gl=>?_;rw[c7];cases l with
   |nil=>exact sr gx gl
   |cons y s=>exact jn gx gl (by rw[fr]) (by rw[xF]) (λp q=>by rw[GE];first|exact#[p,q]|exact#[p,q,KB])
  .unfold VR
   refine(lK h _).then λm t1 hm=>?_;split
   .rename_i e
    rw[GI e] at hm;refine(I.compared d K t1 b hm.1).then λx t2 gx=>(I.moreAnd d K t2 b gx.tb).then λl t3 gl=>?_;exact xP (g:="&&") [00] hm gx gl
   .rename_i e
    rw[GG e] at hm;subst hm;exact pL h (by first|rw[GL];trivial|rw[GR];trivial)
  .unfold Vm
   refine(I.added d K t b h).then λx t1 gx=>(oA gx.tb _).then λs t2 hs=>?_;cases s with
   |none=>
    subst hs;exact gx.up (t1:=[]) [01]
   |some op=>
    obtain⟨ho,hg⟩:=hs;refine(I.added d K t2 b hg.1).then λy t3 gy=>?_;rw[c7];have q1:=gy.fr;have q2:=gy.ms;have q3:=hg.2;have q4:=vw op (ze op ho).1;have q6:=xZ (w:=3) (op:=op) (e:=y) (r:= .nil);refine jn (w:=3) gx (f:=fr y) (ps:=rF 3 (.cons op y .nil)) (b:=GE y) #[gy.tb,q1,?_,gy.ok] ?_ ?_ ?_
    .rw[show mS (rF 3 Rest.nil)=0 by rw[rF,cy]] at q6
     lia
    .rw[fr]
    .rw[xF,rF,rF,G7]
    .intro p q
     rw[GE];exact#[ho,p,q]
  .unfold W2
   refine(I.times d K t b h).then λx t1 gx=>(I.moreAdded d K t1 b gx.tb).then λl t2 gl=>?_;rw[c7];cases l with
   |nil=>exact sr gx gl
   |cons op y s=>exact jn gx gl (by rw[fr]) (by rw[xF]) (λp q=>by rw[GE];first|exact#[p,q]|exact#[p,q,KB])
  .unfold UZ
   refine(oA h _).then λs t1 hs=>?_;cases s with
   |none=>
    subst hs;exact pL h (by first|rw[GL];trivial|rw[GR];trivial)
   |some op=>
    obtain⟨ho,hg⟩:=hs;exact(I.times d K t1 b hg.1).then λy t2 gy=>(I.moreAdded d K t2 b gy.tb).then λr t3 gr=>xO ((by decide+kernel: ∀s∈W5 text _,s∈AR) op ho) hg gy gr
  .unfold W3
   refine(I.unary d K t b h).then λx t1 gx=>(I.moreTimes d K t1 b gx.tb).then λl t2 gl=>?_;rw[c7];cases l with
   |nil=>exact sr gx gl
   |cons op y s=>exact jn gx gl (by rw[fr]) (by rw[xF]) (λp q=>by rw[GE];first|exact#[p,q]|exact#[p,q,KB])
  .unfold U1
   refine(oA h _).then λs t1 hs=>?_;cases s with
   |none=>
    subst hs;exact pL h (by first|rw[GL];trivial|rw[GR];trivial)
   |some op=>
    obtain⟨ho,hg⟩:=hs;exact(I.unary d K t1 b hg.1).then λy t2 gy=>(I.moreTimes d K t2 b gy.tb).then λr t3 gr=>xO ((by decide+kernel: ∀s∈W5 text _,s∈AR) op ho) hg gy gr
  .unfold Ii
   refine W.ite (λe=>?_) (W.ite (λe=>?_) (I.primary d K t b h))
   .obtain⟨h1,l1⟩:=goS h e
    show W (λt=>match peek (t.drop 1) with
     | .num n=> .ok (.neg (.num n),t.drop 2)
     |_=>(deeper d>>=λe=>next>>=λ_=>Ii k e K>>=λa=>pure (.neg a):P Exp) t) t _ _
    have un:W (deeper d>>=λe=>next>>=λ_=>Ii k e K>>=λa=>pure (.neg a):P Exp) t (Gd 6 d t) T0:=by
     refine(X9 h d).then λd' r ⟨hr,hd⟩=>?_;subst hr;rw[de,fF];refine(I.unary d' K _ b h1).then λx t2 gx=>?_;exact Ya hd #[h1,l1] gx (by rw[fr]) (by rw[xF]) (by rw[GE]) [00]
    unfold W at un ⊢;dsimp only;split
    .rename_i z
     split at z
     .rename_i n hn
      cases z;have nn:=h1.num hn;have l2:=wg hn (by intro z;cases z);rw[Pb] at l2;refine#[h.drop 2,by rw[fr,fr,GI nn];lia,?_,by rw[GE,GE];exact nn]
      .rw[xF,xF,ae,sz "-" 1]
       have:=iS 5 (.num n) [ki n]
       have:mS [ki n]=(ki n).cps.size+1+0:=ae _ _
       have:=lC nn
       have:(R8 (1+1) t).length+1=(R8 1 t).length:=l2
       show _+8+64*(R8 (1+1) t).length<=_
       lia
     .rename_i z'
      rw[z] at un;exact un
    .trivial
   .obtain⟨h1,l1⟩:=goS h e
    refine(X9 h d).then λd' r ⟨hr,hd⟩=>?_;subst hr;rw[de,fF];refine(I.unary d' K _ b h1).then λx t2 gx=>?_;exact Ya hd #[h1,l1] gx (by rw[fr]) (by rw[xF]) (by rw[GE]) [00]
  .unfold Ic
   refine W.of λa r e=>?_;split at e
   .rename_i n hn
    cases e;have nn:=h.num hn;have l1:=wg hn (by intro z;cases z);refine#[h.drop 1,by rw[fr,GI nn];lia,?_,by rw[GE];exact nn];rw[xF,ae,cy];have:=lC nn;lia
   .split at e
    .rename_i hp
     refine W.to (show W (deeper d>>=λe=>next>>=λ_=>Hd k e K>>=λa=>sign ")">>=λ_=>pure a:P Exp) t (Gd 6 d t) T0 from ?_) e
     obtain⟨h1,l1⟩:=goS h hp;refine(X9 h d).then λd' r ⟨hr,hd⟩=>?_;subst hr;rw[de,fF];refine(I.expr d' K _ b h1).then λx t2 gx=>(cE gx.tb _).then λ_ t3 ⟨h3,l3⟩=>?_;exact#[h3,by have:=gx.fr;lia,by have:=gx.ms;lia,gx.ok]
    .cases e
   .rename_i w hw
    have ww:=h.word hw;obtain⟨h1,l1⟩:=go1 h hw (by intro z;cases z);split at e
    .refine W.to (show W (deeper d>>=λe=>next>>=λ_=>sign "(">>=λ_=>newName K>>=λx=>key "in">>=λ_=>Hd k e K>>=λlo=>sign "..">>=λ_=>Hd k e K>>=λhi=>sign ":">>=λ_=>Hd k e (K.with x)>>=λa=>sign ")">>=λ_=>pure (.sum x lo hi a):P Exp) t (Gd 6 d t) T0 from ?_) e
     refine(X9 h d).then λd' r ⟨hr,hd⟩=>?_;subst hr;rw[de,fF];refine(cE h1 _).then λ_ t2 ⟨h2,l2⟩=>(fH h2 K).then λx t3 ⟨wx,h3,l3⟩=>(jx h3 _).then λ_ t4 ⟨h4,l4⟩=>(I.expr d' K _ b h4).then λlo t5 g5=>(cE g5.tb _).then λ_ t6 ⟨h6,l6⟩=>(I.expr d' K _ b h6).then λhi t7 g7=>(cE g7.tb _).then λ_ t8 ⟨h8,l8⟩=>(I.expr d' (K.with x) _ b h8).then λy t9 g9=>(cE g9.tb _).then λ_ t10 ⟨h10,l10⟩=>?_;rw[c7];have a1:=g5.ms;have a2:=g7.ms;have a3:=g9.ms;have a4:=e9 wx;refine#[h10,?_,?_,by rw[GE];exact#[wx,g5.ok,g7.ok,g9.ok]]
     .rw[fr]
      have:=Iq.mpr #[g5.fr,Iq.mpr #[g7.fr,g9.fr]];lia
     .rw[xF,ae,ae,ae,au,ae,au,ae,au,ae,cy,sz "sum(" 4,sz " in " 4,sz " .. " 4,sz ": " 2,sz ")" 1]
      lia
    split at e
    .cases e
    split at e
    .rename_i f hf
     refine W.to (show W (deeper d>>=λe=>next>>=λ_=>sign "(">>=λ_=>(if f.2=0 then(sign ")">>=λ_=>pure (.call w .nil)) else(Ql k e K f.2>>=λl=>pure (.call w l)):P Exp)) t (Gd 6 d t) T0 from ?_) e
     refine(X9 h d).then λd' r ⟨hr,hd⟩=>?_;subst hr;rw[de,fF];refine(cE h1 _).then λ_ t2 ⟨h2,l2⟩=>?_;have end_: ∀(l:Exps) (t3:Jn),zn 21 d' t2 (kl l) 64 (aF l) (GL l/\Be l=f.2) t3->Gd 6 d r (.call w l) t3:=λl t3 g=>by
      have a1:=g.ms
      have a2:=g.fr
      have a4:=e9 ww;refine#[g.tb,by rw[fr];lia,?_,?_]
      .rw[xF,ae,ae,au,ae,cy,sz "(" 1,sz ")" 1]
       lia
      .rw[GE]
       exact#[ww,g.ok.1,λk hk=>by rw[b _ _ hk] at hf;cases hf;exact g.ok.2]
     split
     .rename_i f0
      refine(cE h2 _).then λ_ t3 ⟨h3,l3⟩=>?_;rw[c7];exact end_ _ _ #[h3,by rw[kl];lia,by rw[aF,cy];lia,by rw[GL];trivial,by rw[f0];rfl]
     .refine(I.arguments d' K f.2 t2 b h2).then λl t3 gl=>?_
      rename_i f0;exact end_ _ _ #[gl.tb,gl.fr,gl.ms,gl.ok.1,gl.ok.2 f0]
    .split at e
     .cases e
      have a4:=e9 ww;refine#[h1,by rw[fr];lia,?_,by rw[GE];exact ww];rw[xF,ae,cy];lia
     .cases e
   .cases e
  .unfold Ql
   refine W.ite (λ_=>c6) ((I.expr d K t b h).then λx t1 gx=>?_);split
   .rename_i n1
    refine W.ite (λ_=>c6) ((cE gx.tb _).then λ_ t2 ⟨h2,l2⟩=>?_);rw[c7];refine#[h2,?_,?_,by rw[GL,GL];exact#[gx.ok,trivial],λn0=>by rw[Be,Be];lia]
    .rw[kl,kl,GQ.max_zero];exact gx.fr
    .rw[aF]
     have:=gx.ms;lia
   .rename_i n1
    refine W.ite (λ_=>c6) ((cE gx.tb _).then λ_ t2 ⟨h2,l2⟩=>(I.arguments d K _ t2 b h2).then λl t3 gl=>?_);rw[c7];have b1:=gl.ms;have b2:=gx.ms;refine#[gl.tb,?_,?_,by rw[GL];exact#[gx.ok,gl.ok.1],λn0=>by rw[Be,gl.ok.2 (by lia)];lia]
    .rw[kl];exact Iq.mpr #[gx.fr,gl.fr]
    .cases l with
     |nil=>
      rw[aF];lia
     |cons y s=>
      rw[aF,au,ae,sz ", " 2]
      .lia
      .intro z;cases z
end OS
namespace OS
open Vbemac
open PySem (Str)
def gF (n:GQ):Ha:=#[Ox (2*n) 32]
def mG (b:HK):Ha:=if b=IN then tx "buy" else tx "sell"
def tm (w:String) (e:Exp):Gr Ha:=tx " "::tx w::tx " "::xF e
def vV (w:String):GJ Exp->Gr Ha
 |none=>[]
 |some e=>tm w e
def nmF:GJ HD->Gr Ha
 |none=>[]
 |some x=>[sb x,tx " "]
def nmB:GJ HD->HD
 |none=>[]
 |some x=>x++text " "
def unF:GJ HD->Gr Ha
 |none=>[]
 |some x=>[tx " under ",sb x]
def ql (n:GQ) (ls:Gr Ha):Gr Ha:=tx " {\n"::(ls++[gF n,tx "}"])
mutual
def fj (n:GQ):Stmt->Gr Ha
 | .bind x e=>tx "let "::sb x::tx " = "::(xF e++[tx ";"])
 | .loop x lo hi l=>tx "for "::sb x::tx " in "::(xF lo++(tx " .. "::(xF hi++ql n (iY (n+1) l))))
 | .cond c a .nil=>tx "if "::(xF c++ql n (iY (n+1) a))
 | .cond c a b=>tx "if "::(xF c++(ql n (iY (n+1) a)++(tx " else"::ql n (iY (n+1) b))))
 | .step RL z q p top a=>mG RL::(tm "zone" z++(tm "quarter" q++(tm "price" p++(vV "to" top++(tm "amount" a++[tx ";"])))))
 | .block m RL z p x q u g=>tx "block "::(nmF m++(mG RL::(tm "zone" z++(tm "price" p++(tx " amount "::sb x::tx ": "::(xF q++(unF u++(vV "group" g++[tx ";"]))))))))
def iY (n:GQ):Stmts->Gr Ha
 | .nil=>[]
 | .cons s l=>gF n::(fj n s++(tx "\n"::iY n l))
end
def Ai:GJ Exp->GQ
 |none=>0
 |some e=>fr e
mutual
def gX:Stmt->GQ
 | .bind _ e=>2+fr e
 | .loop _ lo hi l=>max (3+fr lo) (max (3+fr hi) (1+iy l))
 | .cond c a b=>max (3+fr c) (max (2+iy a) (2+iy b))
 | .step _ z q p top a=>4+max (fr z) (max (fr q) (max (fr p) (max (Ai top) (fr a))))
 | .block _ _ z p _ q _ g=>4+max (fr z) (max (fr p) (max (fr q) (Ai g)))
def iy:Stmts->GQ
 | .nil=>1
 | .cons s l=>max (1+gX s) (iy l)
end
def GO:GJ Exp->Prop
 |none=>True
 |some e=>GE e
def WO:GJ HD->Prop
 |none=>True
 |some x=>Wd x
mutual
def GS:Stmt->Prop
 | .bind x e=>Wd x/\GE e
 | .loop x lo hi l=>Wd x/\GE lo/\GE hi/\qm l
 | .cond c a b=>GE c/\qm a/\qm b
 | .step _ z q p top am=>GE z/\GE q/\GE p/\GO top/\GE am
 | .block m _ z p x q u g=>WO m/\GE z/\GE p/\Wd x/\GE q/\WO u/\GO g
def qm:Stmts->Prop
 | .nil=>True
 | .cons s l=>GS s/\qm l
end
def Ea (n:GQ):bO (gF n)=«ints» (indent n):=by
 unfold bO;rw[GG]
 .show(Ox (2*n) 32).toList.map MG=(Jv (2*n) (32:JZ)).map _
  rw[Ot,UU,UU]
  rfl
 .intro z
  have e:(Ox (2*n) 32).toList=ml.cps.toList:=Hv (λx=>x.cps.toList) z
  have m:(47:GQ)∈(Ox (2*n) 32).toList:=by rw[e];decide
  rw[Ot] at m;have:=(Gr.mem_replicate.mp m).2;lia
def vt (n:GQ):(gF n).cps.size=2*n:=KC.size_replicate
def yk (b:HK):bO (mG b)=«ints» (sideWord b):=by cases b<;>decide+kernel
def qL (b:HK):(mG b).cps.size<=4:=by cases b<;>decide+kernel
def pE {w:String}{e:Exp}(hw:bO (tx w)=«ints» (text w)) (h:bF (xF e)=«ints» (shown e)):bF (tm w e)=«ints» (text " "++(text w++(text " "++shown e))):=by
 unfold tm;rw[aA,aA,aA,h,hw,aV,aV,aV]
 rfl
def dS {w:String}{n:GQ}{e:Exp}(hw:(tx w).cps.size=n):mS (tm w e)=n+5+mS (xF e):=by
 unfold tm;rw[ae,ae,ae,hw,sz " " 1];lia
def Do {t:Jn}(h:TB t):W side t (λ_ r=>Go t r) T0:=by
 refine W.of λa r e=>?_;unfold side at e;split at e
 .rename_i k
  cases e;exact Af h k
 split at e
 .rename_i k
  cases e;exact Af h k
 .cases e
def vA {t:Jn}(h:TB t) {α:Type}{p:P α}{Q:Jn->α->Jn->Prop}{w:String}(hp: ∀t1,Go t t1->W p t1 (Q t1) T0):W (behind w p) t (λo r=>match o with
  |none=>r=t
  |some a=> ∃t1,Go t t1/\Q t1 a r) T0:=by
 refine W.of λo r e=>?_;unfold behind at e;split at e
 .rename_i k
  have g:=Af h k;split at e
  .cases e
  .rename_i z
   cases e;exact#[_,g,(hp _ g).to z]
 .cases e
  exact KB
def uW {t:Jn}(h:TB t) (B:Blocks):W (blockName B) t (λx r=>Wd x/\Go t r) T0:=by
 refine W.of λo r e=>?_;unfold blockName at e;split at e
 .cases e
 .rename_i z
  split at e
  .cases e
  .cases e
   exact(jQ h).to z
def r8 {t:Jn}(h:TB t) (B:Blocks):W (knownBlock B) t (λx r=>Wd x/\Go t r) T0:=by
 refine W.of λo r e=>?_;unfold knownBlock at e;split at e
 .cases e
 .rename_i z
  split at e
  .cases e
   exact(jQ h).to z
  .cases e
def vC {t:Jn}(h:TB t) (B:Blocks):W (maybeName B) t (λo r=>match o with
  |none=>r=t
  |some x=>Wd x/\Go t r) T0:=by
 refine W.of λo r e=>?_;unfold maybeName at e;split at e
 .cases e
  exact KB
 split at e
 .cases e
 .rename_i z
  cases e;exact(uW h B).to z
def BK {t:Jn}(h:TB t) {w:String}{k:GQ}{K:Known}(b:BC K.funs) (hs:(tx w).cps.size<=8):W (behind w (expr k DEEP K)) t (λo=>zn 21 12 t (Ai o) 0 (vV w o) (GO o)) T0:=by
 refine(vA h (λt1 g=>(rZ k).expr DEEP K t1 b g.1)).mono (λo r q=>?_) λ_ _ z=>z;cases o with
 |none=>
  cases q;exact pL h trivial
 |some e=>
  obtain⟨t1,g,q⟩:=q;have a1:=q.ms;have a2:=g.2;refine#[q.tb,q.fr,?_,q.ok];have:mS (vV w (GM e))=_:=dS (e:=e) (rfl:(tx w).cps.size=_);lia
structure Gs (n d:GQ) (t:Jn) (f m:GQ) (ps:Gr Ha) (g:Prop) (r:Jn):Prop where
 tb:TB r
 fr:f<=253+3*d
 ms:mS ps+m+64*r.length<=64*t.length
 ok:g
structure PS (k:GQ):Prop where
 stmts: ∀n d K B t,BC K.funs->n+d<=7->TB t->W (stmts k d K B) t (λl r=>Gs n d t (iy l.1-1) 64 (iY n l.1) (qm l.1) r) T0
 stmt: ∀n d K B t,BC K.funs->n+d<=7->TB t->W (stmt k d K B) t (λs r=>Gs n d t (gX s.1) 0 (gF n::(fj n s.1++[tx "\n"])) (GS s.1/\s.2.1.funs=K.funs) r) T0
def gQ (n:GQ) (ls:Gr Ha):mS (ql n ls)=7+2*n+mS ls:=by
 unfold ql;rw[ae,au,ae,ae,cy,vt,sz " {\n" 3,sz "}" 1];lia
def ua {n:GQ}{ls:Gr Ha}{b:HD}(h:bF ls=«ints» b):bF (ql n ls)=«ints» (text " {\n"++(b++(indent n++text "}"))):=by
 unfold ql;rw[aA,bw,aA,aA,eP,h,Ea,bQ " {\n" (text " {\n"),bQ "}" (text "}")];simp only[aV,G7]
def line {n d f:GQ}{t r:Jn}{s:Stmt}{g:Prop}(tb:TB r) (hn:n+d<=7) (hf:gX s=f) (h1:f<=253+3*d) (h2:mS (fj n s)+17+64*r.length<=64*t.length) (h3:g):Gs n d t (gX s) 0 (gF n::(fj n s++[tx "\n"])) g r:=by
 refine#[tb,by rw[hf];exact h1,?_,h3];rw[ae,au,ae,cy,vt,sz "\n" 1];lia
theorem DM: ∀k,PS k
 |0=>by
  refine#[?_,?_]<;>intros<;>first|(unfold J8;exact c6)|(unfold K4;exact c6)
 |k+1=>by
  have I:=DM k
  have X: ∀K t,BC K.funs->TB t->W (Hd k DEEP K) t (Gd 21 12 t) T0:=(rZ k).expr 12;refine#[λn d K B t b hn h=>?_,λn d K B t b hn h=>?_]
  .unfold J8
   refine W.ite (p:=λt=> .ok ((Stmts.nil,B),t.drop 1)) (λe=>?_) ?_
   .obtain⟨h1,l1⟩:=goS h e
    refine#[h1,by show iy .nil-1<=_;rw[iy];lia,?_,by show qm .nil;rw[qm];trivial];show mS (iY n .nil)+64+64*(t.drop 1).length<=_;rw[iY,cy];lia
   .refine(I.stmt n d K B t b hn h).then λs t1 gs=>(I.stmts n d s.2.1 s.2.2 t1 (by rw[gs.ok.2];exact b) hn gs.tb).then λl t2 gl=>?_
    rw[c7];have a1:=gs.ms;have a2:=gl.ms;have a3:=gs.fr;have a4:=gl.fr;refine#[gl.tb,?_,?_,by show qm (.cons s.1 l.1);rw[qm];exact#[gs.ok.1,gl.ok]]
    .show iy (.cons s.1 l.1)-1<=_
     rw[iy];have:max (1+gX s.1) (iy l.1)<=254+3*d:=Iq.mpr #[by lia,by lia];lia
    .show mS (iY n (.cons s.1 l.1))+64+_<=_
     rw[iY,ae,au,ae];rw[ae,au,ae,cy] at a1;lia
  .unfold K4
   refine W.ite (λe=>?_) (W.ite (λe=>?_) (W.ite (λe=>?_) (W.ite (λe=>?_) ?_)))
   .rw[de,fF]
    obtain⟨h1,l1⟩:=Af h e;refine(fH h1 K).then λx t2 ⟨wx,h2,l2⟩=>(cE h2 _).then λ_ t3 ⟨h3,l3⟩=>(X K t3 b h3).then λy t4 gy=>(cE gy.tb _).then λ_ t5 ⟨h5,l5⟩=>?_;rw[c7];have a1:=gy.ms;have a2:=gy.fr;have a3:=e9 wx;refine line h5 hn (by rw[gX]) (by lia) ?_ (by rw[GS];exact#[#[wx,gy.ok],KB])
    .rw[fj,ae,ae,ae,au,ae,cy,sz "let " 4,sz " = " 3,sz ";" 1]
     lia
   .refine(X9 h d).then λd' r ⟨hr,hd⟩=>?_
    subst hr;rw[de,fF];obtain⟨h1,l1⟩:=Af h e;refine(fH h1 K).then λx t2 ⟨wx,h2,l2⟩=>(jx h2 _).then λ_ t3 ⟨h3,l3⟩=>(X K t3 b h3).then λlo t4 g4=>(cE g4.tb _).then λ_ t5 ⟨h5,l5⟩=>(X K t5 b h5).then λhi t6 g6=>(cE g6.tb _).then λ_ t7 ⟨h7,l7⟩=>(I.stmts (n+1) d' (K.with x) B t7 b (by lia) h7).then λl t8 g8=>?_;rw[c7];have a1:=g4.ms;have a2:=g6.ms;have a3:=g8.ms;have a4:=e9 wx;have b1:=g4.fr;have b2:=g6.fr;have b3:=g8.fr;refine line g8.tb hn (by rw[gX]) (Iq.mpr #[by lia,Iq.mpr #[by lia,by lia]]) ?_ (by rw[GS];exact#[#[wx,g4.ok,g6.ok,g8.ok],KB])
    .rw[fj,ae,ae,ae,au,ae,au,gQ,sz "for " 4,sz " in " 4,sz " .. " 4]
     lia
   .refine(X9 h d).then λd' r ⟨hr,hd⟩=>?_
    subst hr;rw[de,fF];obtain⟨h1,l1⟩:=Af h e;refine(X K _ b h1).then λc t2 g2=>(cE g2.tb _).then λ_ t3 ⟨h3,l3⟩=>(I.stmts (n+1) d' K B t3 b (by lia) h3).then λx t4 g4=>(E3 g4.tb _).then λm t5 hm=>?_;have a1:=g2.ms;have a2:=g4.ms;have b1:=g2.fr;have b2:=g4.fr;have one: ∀ {t5:Jn},TB t5->t5.length<=t4.length->Gs n d r (gX (.cond c x.1 .nil)) 0 (gF n::(fj n (.cond c x.1 .nil)++[tx "\n"])) (GS (.cond c x.1 .nil)/\K.funs=K.funs) t5:=λh5 l5=>by
     refine line h5 hn (by rw[gX,iy]) (Iq.mpr #[by lia,Iq.mpr #[by lia,by lia]]) ?_ (by rw[GS,qm];exact#[#[g2.ok,g4.ok,trivial],KB])
     .rw[fj,ae,au,gQ,sz "if " 3]
      lia
    split
    .rename_i em
     rw[GI em] at hm;obtain⟨h5,l5⟩:=hm;refine(cE h5 _).then λ_ t6 ⟨h6,l6⟩=>(I.stmts (n+1) d' K x.2 t6 b (by lia) h6).then λy t7 g7=>?_;rw[c7];have a3:=g7.ms;have b3:=g7.fr;show Gs n d r (gX (.cond c x.1 y.1)) 0 (gF n::(fj n (.cond c x.1 y.1)++[tx "\n"])) (GS (.cond c x.1 y.1)/\K.funs=K.funs) t7;cases hy:y.1 with
     |nil=>exact one g7.tb (by lia)
     |cons s l=>
      rw[hy] at a3 b3;have g7b:=g7.ok;rw[hy] at g7b;refine line g7.tb hn (by rw[gX]) (Iq.mpr #[by lia,Iq.mpr #[by lia,by lia]]) ?_ (by rw[GS];exact#[#[g2.ok,g4.ok,g7b],KB])
      .rw[fj,ae,au,au,gQ,ae,gQ,sz "if " 3,sz " else" 5]
       .lia
       .intro z;cases z
    .rename_i em
     rw[GG em] at hm;subst hm;rw[c7];exact one g4.tb (GY _)
   .rw[de,fF]
    obtain⟨h1,l1⟩:=Af h e;refine(vC h1 B).then λm t2 hm=>?_;have m2:TB t2/\mS (nmF m)+64*t2.length<=64*(t.drop 1).length/\WO m:=by
     cases m with
     |none=>
      cases hm;exact#[h1,by show 0+_<=_;lia,trivial]
     |some x=>
      obtain⟨wx,h2,l2⟩:=hm;have:=e9 wx;refine#[h2,?_,wx];show mS [sb x,tx " "]+_<=_;rw[ae,ae,cy,sz " " 1];lia
    obtain⟨h2,l2,wm⟩:=m2;refine(Do h2).then λYb t3 ⟨h3,l3⟩=>(jx h3 _).then λ_ t4 ⟨h4,l4⟩=>(X K t4 b h4).then λz t5 g5=>(jx g5.tb _).then λ_ t6 ⟨h6,l6⟩=>(X K t6 b h6).then λp t7 g7=>(jx g7.tb _).then λ_ t8 ⟨h8,l8⟩=>(fH h8 K).then λx t9 ⟨wx,h9,l9⟩=>(cE h9 _).then λ_ t10 ⟨h10,l10⟩=>(X (K.with x) t10 b h10).then λq t11 g11=>?_;refine(vA g11.tb (w:="under") (λt1 g=>r8 g.1 B)).then λu t12 hu=>?_;have u2:TB t12/\mS (unF u)+64*t12.length<=64*t11.length/\WO u:=by
     cases u with
     |none=>
      cases hu;exact#[g11.tb,by show 0+_<=_;lia,trivial]
     |some y=>
      obtain⟨t1,q1,wy,q2⟩:=hu;have:=e9 wy;have:=q1.2;have:=q2.2;refine#[q2.1,?_,wy];show mS [tx " under ",sb y]+_<=_;rw[ae,ae,cy,sz " under " 7];lia
    obtain⟨h12,l12,wu⟩:=u2;refine(BK h12 (w:="group") b [00]).then λg t13 g13=>(cE g13.tb _).then λ_ t14 ⟨h14,l14⟩=>?_;rw[c7];have a5:=g5.ms;have a7:=g7.ms;have a11:=g11.ms;have a13:=g13.ms;have b5:=g5.fr;have b7:=g7.fr;have b11:=g11.fr;have b13:=g13.fr;have s1:=e9 wx;have s2:=qL Yb;refine line h14 hn (f:=4+max (fr z) (max (fr p) (max (fr q) (Ai g)))) (by rw[gX]) ?_ ?_ (by rw[GS];exact#[#[wm,g5.ok,g7.ok,wx,g11.ok,wu,g13.ok],KB])
    .have:max (fr z) (max (fr p) (max (fr q) (Ai g)))<=249:=Iq.mpr #[b5,Iq.mpr #[b7,Iq.mpr #[b11,b13]]]
     lia
    .rw[fj,ae,au,ae,au,au,dS (sz "zone" 4),dS (sz "price" 5),ae,ae,ae,au,au,au,ae,cy,sz "block " 6,sz " amount " 8,sz ": " 2,sz ";" 1]
     lia
   .refine(Do h).then λYb t3 ⟨h3,l3⟩=>(jx h3 _).then λ_ t4 ⟨h4,l4⟩=>(X K t4 b h4).then λz t5 g5=>(jx g5.tb _).then λ_ t6 ⟨h6,l6⟩=>(X K t6 b h6).then λq t7 g7=>(jx g7.tb _).then λ_ t8 ⟨h8,l8⟩=>(X K t8 b h8).then λp t9 g9=>(BK g9.tb (w:="to") b [00]).then λu t10 g10=>(jx g10.tb _).then λ_ t11 ⟨h11,l11⟩=>(X K t11 b h11).then λy t12 g12=>(cE g12.tb _).then λ_ t14 ⟨h14,l14⟩=>?_
    rw[c7];have a5:=g5.ms;have a7:=g7.ms;have a9:=g9.ms;have a10:=g10.ms;have a12:=g12.ms;have b5:=g5.fr;have b7:=g7.fr;have b9:=g9.fr;have b10:=g10.fr;have b12:=g12.fr;have s2:=qL Yb;refine line h14 hn (f:=4+max (fr z) (max (fr q) (max (fr p) (max (Ai u) (fr y))))) (by rw[gX]) ?_ ?_ (by rw[GS];exact#[#[g5.ok,g7.ok,g9.ok,g10.ok,g12.ok],KB])
    .have:max (fr z) (max (fr q) (max (fr p) (max (Ai u) (fr y))))<=249:=Iq.mpr #[b5,Iq.mpr #[b7,Iq.mpr #[b9,Iq.mpr #[b10,b12]]]]
     lia
    .rw[fj,ae,au,au,au,au,au,dS (sz "zone" 4),dS (sz "quarter" 7),dS (sz "price" 5),dS (sz "amount" 6),ae,cy,sz ";" 1]
     lia
end OS
namespace OS
open Vbemac
open PySem (Str)
def i6:Top->Gr Ha
 | .const x e=>tx "const "::sb x::tx " = "::(xF e++[tx ";\n"])
 | .func x ps e=>tx "fun "::sb x::tx "("::sb (commas ps)::tx ") = "::(xF e++[tx ";\n"])
 | .desk x l=>tx "desk "::sb x::(ql 0 (iY 1 l)++[tx "\n"])
def kt (s:Sheet):Gr Ha:=s.flatMap i6
def pV:Top->GQ
 | .const _ e=>2+fr e
 | .func _ _ e=>2+fr e
 | .desk _ l=>1+iy l
def js (x y:HD) (l:Gr HD):commas (x::y::l)=x++(text ", "++commas (y::l)):=rfl
theorem lV: ∀(ps:Gr HD),(∀x∈ps,Wd x)->(∀c∈commas ps,b8 c=IN\/c=44\/c=32)/\(commas ps).length<=26*ps.length
 |[],_=>#[λ_ h=>(nomatch h),GY _]
 |[x],h=>by
  have w:=h x GW
  have e:commas [x]=x:=by unfold commas;simp
  rw[e];exact#[λc hc=> .inl (w.ok c hc),by have:=w.len;show _<=26*1;lia]
 |x::y::l,h=>by
  have w:=h x GW
  have i:=lV (y::l) λz hz=>h z (Hc _ hz)
  rw[js];constructor
  .intro c hc
   rcases HJ.mp hc with z|z
   .exact .inl (w.ok c z)
   rcases HJ.mp z with z|z
   .have:c∈[44,32]:=z
    rcases Hg.mp this with q|q
    .exact .inr (.inl q)
    .exact .inr (.inr (Hx.mp q))
   .exact i.1 c z
  .rw[Gw,Gw]
   have:=w.len
   have:=i.2
   have:(text ", ").length=2:=by decide+kernel
   rw[Gv];lia
def aaW {ps:Gr HD}(h: ∀x∈ps,Wd x):bO (sb (commas ps))=«ints» (commas ps):=by
 unfold bO;rw[GG]
 .show((commas ps).map KD).toArray.toList.map MG=_
  unfold «ints»;rw[JX]
  rfl
 .intro z
  rw[qV] at z;have z:=fY z;have:=(lV ps h).1 47 (by rw[z];exact GW);exact G6 this [01]
def DK {ps:Gr HD}(h: ∀x∈ps,Wd x) (h6:ps.length<=6):(sb (commas ps)).cps.size<=156:=by
 show((commas ps).map KD).toArray.size<=156
 rw[Hz,GK];have:=(lV ps h).2;lia
theorem uJ: ∀(k n:GQ) (K:Known) (t:Jn),TB t->W (params k n K) t (λps r=>TB r/\r.length<=t.length/\ps.length<=n/\ ∀x∈ps,Wd x) T0
 |0,n,K,t,h=>by unfold params;exact c6
 |k+1,n,K,t,h=>by
  refine W.of λa r e=>?_;unfold params at e;split at e
  .cases e
  .rename_i n0
   refine W.to (Qo:=λps r=>TB r/\r.length<=t.length/\ps.length<=n/\ ∀x∈ps,Wd x) (show W (newName K>>=λx=>ifSign ",">>=λm=>(if m=IN then(params k (n-1) (K.with x)>>=λl=>pure (x::l)) else(sign ")">>=λ_=>pure [x]):P (Gr HD))) t _ T0 from ?_) e
   refine(fH h K).then λx t1 ⟨wx,h1,l1⟩=>(lK h1 _).then λm t2 hm=>?_;split
   .rename_i em
    rw[GI em] at hm;refine(uJ k (n-1) (K.with x) t2 hm.1).then λl t3 ⟨h3,l3,q,w⟩=>?_;have:=hm.2;refine#[h3,by lia,by rw[Gv];lia,λy hy=>?_];rcases Hg.mp hy with z|z
    .rw[z];exact wx
    .exact w y z
   .rename_i em
    rw[GG em] at hm;subst hm;refine(cE h1 _).then λ_ t3 ⟨h3,l3⟩=>?_;exact#[h3,by lia,by show 1<=n;lia,λy hy=>by rw[Hx.mp hy];exact wx]
def GT:Top->Prop
 | .const x e=>Wd x/\GE e
 | .func x ps e=>Wd x/\(∀y∈ps,Wd y)/\GE e
 | .desk x l=>Wd x/\qm l
def aaX {t:Jn}(h:TB t) (K:Known):W (newName K) t (λx r=>(Wd x/\K.taken x=IR)/\Go t r) T0:=by
 have q:=fH h K;unfold W newName at q ⊢;cases e:anyName t with
 |error z=>trivial
 |ok z=>
  rw[e] at q;dsimp only at q ⊢;cases y:K.taken z.1 with
  |true=>rw[GI KB];trivial
  |false=>
   rw[y,GG Gu] at q;rw[GG Gu];exact#[#[q.1,y],q.2]
def Fz {K:Known}{x:HD}{n:GQ}(b:BC K.funs) (h:K.taken x=IR):BC ((x,n)::K.funs):=by
 intro f k hk;have z:=b f k hk;rw[IC];cases e:x == f with
 |false=>exact z
 |true=>
  unfold Known.taken at h;rw[MP] at h;have e:=beq_iff_eq.mp e;have m:=Rq z;have p:=V8 z;rw[<-e] at p;have:=KY (p:=λg:HD×GQ=>g.1 == x).mpr #[k,m,p]
  rw[h.2] at this;cases this
structure Gt (t:Jn) (ss:Sheet):Prop where
 fr: ∀s∈ss,pV s<=273
 ms:mS (kt ss)<=64*t.length
 ok: ∀s∈ss,GT s
def su {t t1:Jn}{s:Top}{l:Sheet}(h1:pV s<=273) (h2:mS (i6 s)+64*t1.length<=64*t.length) (h3:GT s) (g:Gt t1 l):Gt t (s::l):=by
 refine#[IA.mpr #[h1,g.fr],?_,IA.mpr #[h3,g.ok]];have:=g.ms;show mS (i6 s++kt l)<=_;rw[au];lia
theorem rG: ∀(k:GQ) (K:Known) (f:GQ) (D:Gr HD) (t:Jn),BC K.funs->TB t->W (tops k K f D) t (λss _=>Gt t ss) T0
 |0,K,f,D,t,b,h=>by unfold tops;exact c6
 |k+1,K,f,D,t,b,h=>by
  have X: ∀K t,BC K.funs->TB t->W (Hd k DEEP K) t (Gd 21 12 t) T0:=(rZ k).expr 12;refine W.of λa r e=>?_
  unfold tops at e;split at e
  .cases e
   exact#[λ_ z=>(nomatch z),HG _,λ_ z=>nomatch z]
  split at e
  .rename_i ek
   refine W.to (Qo:=λss _=>Gt t ss) (show W (next>>=λ_=>newName K>>=λx=>sign "=">>=λ_=>Hd k DEEP K>>=λe=>sign ";">>=λ_=>tops k (K.with x) f D>>=λl=>pure (.const x e::l):P Sheet) t _ T0 from ?_) e
   rw[de,fF];obtain⟨h1,l1⟩:=Af h ek;refine(fH h1 K).then λx t2 ⟨wx,h2,l2⟩=>(cE h2 _).then λ_ t3 ⟨h3,l3⟩=>(X K t3 b h3).then λy t4 gy=>(cE gy.tb _).then λ_ t5 ⟨h5,l5⟩=>(rG k (K.with x) _ _ t5 b h5).then λl t6 gl=>?_;rw[c7];have a1:=gy.ms;have a2:=gy.fr;have a3:=e9 wx;refine su (by rw[pV];lia) ?_ #[wx,gy.ok] gl
   .rw[i6,ae,ae,ae,au,ae,cy,sz "const " 6,sz " = " 3,sz ";\n" 2]
    lia
  split at e
  .rename_i ek
   split at e
   .cases e
   refine W.to (Qo:=λss _=>Gt t ss) (show W (next>>=λ_=>newName K>>=λx=>sign "(">>=λ_=>ifSign ")">>=λnone_=>(if none_=IN then give [] else params k PARAMS (K.with x))>>=λps=>sign "=">>=λ_=>Hd k DEEP { K with values:=ps++K.values } >>=λe=>sign ";">>=λ_=>tops k { K with funs:=(x,ps.length)::K.funs } (f-1) D>>=λl=>pure (.func x ps e::l):P Sheet) t _ T0 from ?_) e
   rw[de,fF];obtain⟨h1,l1⟩:=Af h ek;refine(aaX h1 K).then λx t2 ⟨⟨wx,fx⟩,h2,l2⟩=>(cE h2 _).then λ_ t3 ⟨h3,l3⟩=>(lK h3 _).then λm t4 hm=>?_;have hp:W (if m=IN then give [] else params k PARAMS (K.with x)) t4 (λps r=>TB r/\r.length<=t3.length/\ps.length<=6/\ ∀x∈ps,Wd x) T0:=by
    split
    .rename_i em
     rw[GI em] at hm;have:=hm.2;exact#[hm.1,by lia,HG _,λ_ z=>nomatch z]
    .rename_i em
     rw[GG em] at hm;subst hm;exact uJ k 6 (K.with x) t4 h3
   refine hp.then λps t5 ⟨h5,l5,p6,wp⟩=>(cE h5 _).then λ_ t6 ⟨h6,l6⟩=>(X { K with values:=ps++K.values } t6 b h6).then λy t7 gy=>(cE gy.tb _).then λ_ t8 ⟨h8,l8⟩=>(rG k { K with funs:=(x,ps.length)::K.funs } _ _ t8 (Fz b fx) h8).then λl t9 gl=>?_;rw[c7];have a1:=gy.ms;have a2:=gy.fr;have a3:=e9 wx;have a4:=DK wp p6;refine su (by rw[pV];lia) ?_ #[wx,wp,gy.ok] gl
   .rw[i6,ae,ae,ae,ae,ae,au,ae,cy,sz "fun " 4,sz "(" 1,sz ") = " 4,sz ";\n" 2]
    lia
  split at e
  .rename_i ek
   refine W.to (Qo:=λss _=>Gt t ss) (show W (next>>=λ_=>(λu=>match anyName u with
    | .error e=> .error e
    | .ok (w,r)=>if D.contains w=IN then fail 4 u else .ok (w,r):P HD)>>=λx=>sign "{">>=λ_=>J8 k NEST K []>>=λl=>tops k K f (x::D)>>=λr=>pure (.desk x l.1::r):P Sheet) t _ T0 from ?_) e
   rw[de,fF];obtain⟨h1,l1⟩:=Af h ek;have hx:W (λu=>match anyName u with
    | .error e=> .error e
    | .ok (w,r)=>if D.contains w=IN then fail 4 u else .ok (w,r):P HD) (t.drop 1) (λx r=>Wd x/\Go (t.drop 1) r) T0:=by
    refine W.of λo r e=>?_;split at e
    .cases e
    .rename_i z
     split at e
     .cases e
     .cases e
      exact(jQ h1).to z
   refine hx.then λx t2 ⟨wx,h2,l2⟩=>(cE h2 _).then λ_ t3 ⟨h3,l3⟩=>((DM k).stmts 1 6 K [] t3 b [01] h3).then λl t4 gl=>(rG k _ _ _ t4 b gl.tb).then λs t5 gs=>?_;rw[c7];have a1:=gl.ms;have a2:=gl.fr;have a3:=e9 wx;refine su (by rw[pV];lia) ?_ #[wx,gl.ok] gs
   .rw[i6,ae,ae,au,gQ,ae,cy,sz "desk " 5,sz "\n" 1]
    lia
  .cases e
theorem CU {p:JZ->HK} : ∀(l:HD),∀c∈l.takeWhile p,p c=IN
 |[],_,h=>nomatch h
 |x::l,c,h=>by
  rw[Kj] at h;split at h
  .rename_i hx
   rcases Hg.mp h with z|z
   .rw[z];exact hx
   .exact CU l c z
  .cases h
theorem Ee: ∀(w:HD) (n k:GQ),(∀c∈w,digit c=IN)->n<10 ^ k->w.foldl (λn c=>10*n+(c.toNat-48)) n<10 ^ (k+w.length)
 |[],n,k,_,h=>h
 |c::w,n,k,hd,h=>by
  rw[V9];have hc:c.toNat<=57:=by
   have:=hd c (GW ..);unfold digit at this;rw[Jx,Il,Il] at this;exact JZ.le_iff_toNat_le.mp this.2
  have z:=Ee w (10*n+(c.toNat-48)) (k+1) (λx hx=>hd x (Hc _ hx)) (by rw[GQ.pow_succ];lia)
  rw[show k+(c::w).length=k+1+w.length by rw[Gv];lia];exact z
theorem lO: ∀(k:GQ) (p:Pos) (b:HD),TB (lex k p b)
 |0,p,b=>by intro x hx;unfold lex at hx;rw[Hx.mp hx];exact#[λ_ e=>(nomatch e),λ_ e=>nomatch e]
 |k+1,p,[]=>by intro x hx;unfold lex at hx;rw[Hx.mp hx];exact#[λ_ e=>(nomatch e),λ_ e=>nomatch e]
 |k+1,p,c::r=>by
  have one: ∀ {y:Tok}{t:Jn},((∀w,y= .word w->Wd w)/\ ∀n,y= .num n->n<1000000000000000000)->TB t->TB ((y,p)::t):=λh1 h2 x hx=>by
   rcases Hg.mp hx with z|z
   .rw[z];exact h1
   .exact h2 x z
  have nil:TB []:=λx hx=>nomatch hx
  unfold lex;split
  .exact lO k _ _
  split
  .exact lO k _ _
  split
  .rename_i hl
   dsimp only;split
   .exact one #[λ_ e=>(nomatch e),λ_ e=>nomatch e] nil
   .rename_i hn
    refine one #[λw e=>?_,λ_ e=>nomatch e] (lO k _ _)
    cases e;refine#[?_,λc hc=>CU (p:=λx=>letter x||digit x) _ c hc,by lia]
    rw[Kj,GI (by rw[hl];rfl)];exact IV _ _
  split
  .dsimp only
   split
   .exact one #[λ_ e=>(nomatch e),λ_ e=>nomatch e] nil
   .rename_i h
    refine one #[λ_ e=>(nomatch e),λn e=>?_] (lO k _ _)
    cases e;have z:=Ee ((c::r).takeWhile digit) 0 0 (CU _) [01];rw[not_or] at h;exact Hl z (GQ.pow_le_pow_right [01] (show 0+((c::r).takeWhile digit).length<=18 by lia))
  .split
   .exact one #[λ_ e=>(nomatch e),λ_ e=>nomatch e] (lO k _ _)
   .exact one #[λ_ e=>(nomatch e),λ_ e=>nomatch e] nil
def re {b:HD}{ss:Sheet}(h:MA b= .ok ss):Gt (tokens b) ss:=by
 unfold MA at h;dsimp only at h;split at h
 .cases h
 .rename_i z
  cases h;exact(rG _ _ _ _ _ (λ_ _ z=>z) (lO _ _ _)).to z
end OS
namespace OS
open Vbemac
open PySem (Str)
mutual
theorem dY: ∀e:Exp,GE e->bF (xF e)=«ints» (shown e)
 | .num n,h=>by rw[xF,shown,aA,eP,G7,aaV]
 | .name x,h=>by rw[GE] at h;rw[xF,shown,aA,eP,G7,jw h]
 | .call f l,h=>by
  rw[GE] at h;rw[xF,shown,aA,aA,bw,aA,eP,ag1 l h.2.1,jw h.1,bQ "(" (text "("),bQ ")" (text ")")];simp only[aV,G7]
 | .neg e,h=>by rw[GE] at h;rw[xF,shown,aA,jZ (dY e h),bQ "-" (text "-"),aV]
 | .not e,h=>by rw[GE] at h;rw[xF,shown,aA,jZ (dY e h),bQ "!" (text "!"),aV]
 | .sums e r,h=>by rw[GE] at h;rw[xF,shown,bw,jZ (dY e h.1),aaY 4 r h.2,aV]
 | .prods e r,h=>by rw[GE] at h;rw[xF,shown,bw,jZ (dY e h.1),aaY 5 r h.2,aV]
 | .cmp op a b,h=>by
  rw[GE] at h;rw[xF,shown,bw,aA,aA,aA,jZ (dY a h.2.1),jZ (dY b h.2.2),Dt _ (ze _ h.1).1,bQ " " (text " ")];simp only[aV]
 | .both e l,h=>by rw[GE] at h;rw[xF,shown,bw,jZ (dY e h.1),aaZ 2 "&&" (text " && ") (by decide+kernel) l h.2.1,aV]
 | .either e l,h=>by rw[GE] at h;rw[xF,shown,bw,jZ (dY e h.1),aaZ 1 "||" (text " || ") (by decide+kernel) l h.2.1,aV]
 | .pick c a b,h=>by
  rw[GE] at h;rw[xF,shown,aA,bw,aA,bw,aA,dY c h.1,dY a h.2.1,dY b h.2.2,bQ "if " (text "if "),bQ " then " (text " then "),bQ " else " (text " else ")];simp only[aV]
 | .sum x lo hi e,h=>by
  rw[GE] at h;rw[xF,shown,aA,aA,aA,bw,aA,bw,aA,bw,aA,eP,dY lo h.2.1,dY hi h.2.2.1,dY e h.2.2.2,jw h.1,bQ "sum(" (text "sum("),bQ " in " (text " in "),bQ " .. " (text " .. "),bQ ": " (text ": "),bQ ")" (text ")")];simp only[aV,G7]
theorem ag1: ∀l:Exps,GL l->bF (aF l)=«ints» (Wc l)
 | .nil,_=>by rw[aF,Wc];rfl
 | .cons e .nil,h=>by rw[GL] at h;rw[aF,Wc];exact dY e h.1
 | .cons e (.cons f l),h=>by
  rw[GL] at h;rw[aF,Wc,bw,aA,dY e h.1,ag1 (.cons f l) h.2,bQ ", " (text ", "),aV,aV]
  all_goals intro z;cases z
theorem aaZ (w:GQ) (g:String) (s:HD) (hs:bO (tx " ")++(bO (tx g)++bO (tx " "))=«ints» s): ∀l:Exps,GL l->bF (mF w (tx g) l)=«ints» (shownMore w s l)
 | .nil,_=>by rw[mF,shownMore];rfl
 | .cons e l,h=>by
  rw[GL] at h;rw[mF,shownMore,aA,aA,aA,bw,jZ (dY e h.1),aaZ w g s hs l h.2,aV,aV,<-hs];simp only[Hj]
theorem aaY (w:GQ): ∀r:Rest,GR r->bF (rF w r)=«ints» (shownRest w r)
 | .nil,_=>by rw[rF,shownRest];rfl
 | .cons op e r,h=>by
  rw[GR] at h;rw[rF,shownRest,aA,aA,aA,bw,jZ (dY e h.2.1),aaY w r h.2.2,Dt _ (El _ h.1),bQ " " (text " ")];simp only[aV]
end
def ag2: ∀(w:String) (o:GJ Exp),bO (tx w)=«ints» (text w)->GO o->bF (vV w o)=«ints» (opt w shown o)
 |w,none,_,_=>rfl
 |w,some e,hw,h=>pE hw (dY e h)
def akr: ∀o:GJ HD,WO o->bF (nmF o)=«ints» (nmB o)
 |none,_=>rfl
 |some x,h=>by
  show bF [sb x,tx " "]=«ints» (x++text " ")
  rw[aA,aA,eP,jw h,bQ " " (text " "),aV,G7]
def aks: ∀o:GJ HD,WO o->bF (unF o)=«ints» (opt "under" (λw=>w) o)
 |none,_=>rfl
 |some y,h=>by
  show bF [tx " under ",sb y]=«ints» (text " "++(text "under"++(text " "++y)))
  rw[aA,aA,eP,jw h,bQ " under " (text " "++(text "under"++text " "))];simp only[aV,Hj,G7]
def mr {n:GQ}{s:Stmt}{b:HD}(h3:bF (fj n s)=«ints» b) (h4:N6 n s=indent n++(b++[10])):bF (gF n::(fj n s++[tx "\n"]))=«ints» (N6 n s):=by
 rw[aA,bw,aA,eP,h3,h4,Ea,aV,aV,bQ "\n" [10]];simp only[G7]
mutual
theorem aa0: ∀(s:Stmt) (n:GQ),GS s->bF (gF n::(fj n s++[tx "\n"]))=«ints» (N6 n s)
 | .bind x e,n,h=>by
  rw[GS] at h;refine mr (b:=text "let "++(x++(text " = "++(shown e++[59])))) ?_ ?_
  .rw[fj,aA,aA,aA,bw,aA,eP,dY e h.2,jw h.1,bQ "let " (text "let "),bQ " = " (text " = "),bQ ";" [59]]
   simp only[aV,G7]
  .rw[N6]
   simp only[cat,Lu,LH,Hj,G7]
   rfl
 | .loop x lo hi l,n,h=>by
  rw[GS] at h;refine mr (b:=text "for "++(x++(text " in "++(shown lo++(text " .. "++(shown hi++(text " {\n"++(N9 (n+1) l++(indent n++text "}"))))))))) ?_ ?_
  .rw[fj,aA,aA,aA,bw,aA,bw,ua (jJ l (n+1) h.2.2.2),dY lo h.2.1,dY hi h.2.2.1,jw h.1,bQ "for " (text "for "),bQ " in " (text " in "),bQ " .. " (text " .. ")]
   simp only[aV]
  .rw[N6]
   simp only[cat,Lu,LH,Hj,G7]
   rfl
 | .cond c x .nil,n,h=>by
  rw[GS] at h;refine mr (b:=text "if "++(shown c++(text " {\n"++(N9 (n+1) x++(indent n++text "}"))))) ?_ ?_
  .rw[fj,aA,bw,ua (jJ x (n+1) h.2.1),dY c h.1,bQ "if " (text "if ")]
   simp only[aV]
  .rw[N6]
   simp only[cat,Lu,LH,Hj,G7]
   rfl
 | .cond c x (.cons s l),n,h=>by
  rw[GS] at h;refine mr (b:=text "if "++(shown c++((text " {\n"++(N9 (n+1) x++(indent n++text "}")))++(text " else"++(text " {\n"++(N9 (n+1) (.cons s l)++(indent n++text "}"))))))) ?_ ?_
  .rw[fj,aA,bw,bw,ua (jJ x (n+1) h.2.1),aA,ua (jJ (.cons s l) (n+1) h.2.2),dY c h.1,bQ "if " (text "if "),bQ " else" (text " else")]
   .simp only[aV]
   .intro z;cases z
  .rw[N6]
   .simp only[cat,Lu,LH,Hj,G7]
    rfl
   .intro z;cases z
 | .step RL z q p top am,n,h=>by
  rw[GS] at h;refine mr (b:=sideWord RL++((text " "++(text "zone"++(text " "++shown z)))++((text " "++(text "quarter"++(text " "++shown q)))++((text " "++(text "price"++(text " "++shown p)))++(opt "to" shown top++((text " "++(text "amount"++(text " "++shown am)))++[59])))))) ?_ ?_
  .rw[fj,aA,bw,bw,bw,bw,bw,pE (w:="zone") [00] (dY z h.1),pE (w:="quarter") [00] (dY q h.2.1),pE (w:="price") [00] (dY p h.2.2.1),pE (w:="amount") [00] (dY am h.2.2.2.2),aA,eP,ag2 _ _ [00] h.2.2.2.1,yk,bQ ";" [59]]
   simp only[aV,G7]
  .rw[N6]
   simp only[cat,Lu,LH,Hj,G7]
   rfl
 | .block m RL z p x q u g,n,h=>by
  rw[GS] at h;refine mr (b:=text "block "++(nmB m++(sideWord RL++((text " "++(text "zone"++(text " "++shown z)))++((text " "++(text "price"++(text " "++shown p)))++(text " amount "++(x++(text ": "++(shown q++(opt "under" (λw=>w) u++(opt "group" shown g++[59]))))))))))) ?_ ?_
  .rw[fj,aA,bw,aA,bw,bw,pE (w:="zone") [00] (dY z h.2.1),pE (w:="price") [00] (dY p h.2.2.1),aA,aA,aA,bw,bw,bw,aA,eP,akr m h.1,aks u h.2.2.2.2.2.1,dY q h.2.2.2.2.1,ag2 _ _ [00] h.2.2.2.2.2.2,yk,jw h.2.2.2.1,bQ "block " (text "block "),bQ " amount " (text " amount "),bQ ": " (text ": "),bQ ";" [59]]
   simp only[aV,G7]
  .rw[N6.eq_def]
   cases m<;>simp only[nmB,cat,Lu,LH,Hj,G7]<;>rfl
theorem jJ: ∀(l:Stmts) (n:GQ),qm l->bF (iY n l)=«ints» (N9 n l)
 | .nil,n,_=>by rw[iY,N9];rfl
 | .cons s l,n,h=>by
  rw[qm] at h;rw[iY,N9,aV,<-aa0 s n h.1,<-jJ l n h.2];simp only[aA,bw,eP,Hj,G7]
end
def ag3: ∀s:Top,GT s->bF (i6 s)=«ints» (Tq s)
 | .const x e,h=>by
  rw[i6,Tq,aA,aA,aA,bw,aA,eP,dY e h.2,jw h.1,bQ "const " (text "const "),bQ " = " (text " = "),bQ ";\n" [59,10]];simp only[aV,G7]
 | .func x ps e,h=>by
  rw[i6,Tq,aA,aA,aA,aA,aA,bw,aA,eP,dY e h.2.2,jw h.1,aaW h.2.1,bQ "fun " (text "fun "),bQ "(" (text "("),bQ ") = " (text ") = "),bQ ";\n" [59,10]];simp only[aV,G7]
 | .desk x l,h=>by
  rw[i6,Tq,aA,aA,bw,ua (jJ l 1 h.2),aA,eP,jw h.1,bQ "desk " (text "desk "),bQ "\n" (text "\n")];simp only[aV,G7,Hj]
  rfl
theorem yi: ∀ss:Sheet,(∀s∈ss,GT s)->bF (kt ss)=«ints» (print ss)
 |[],_=>rfl
 |s::l,h=>by
  have h:=IA.mp h
  show bF (i6 s++kt l)=«ints» (Tq s++print l)
  rw[bw,aV,ag3 s h.1,yi l h.2]
end OS
namespace OS
open Vbemac
open PySem (Str)
theorem eA: ∀e:Exp,4<=fr e
 | .num n=>by rw[fr];split<;>lia
 | .name _=>by rw[fr];exact GY _
 | .call _ l=>by rw[fr];lia
 | .neg e=>by rw[fr];have:=eA e;lia
 | .not e=>by rw[fr];have:=eA e;lia
 | .sums e r=>by rw[fr];have:=eA e;lia
 | .prods e r=>by rw[fr];have:=eA e;lia
 | .cmp _ e b=>by rw[fr];have:=eA e;lia
 | .both e r=>by rw[fr];have:=eA e;lia
 | .either e r=>by rw[fr];have:=eA e;lia
 | .pick c _ _=>by rw[fr];lia
 | .sum _ _ _ _=>by rw[fr];lia
def fw (w:GQ) (e:Exp) (ps:Gr Ha):mS ps<=mS (pF w e ps):=by
 unfold pF;split
 .rw[ae,au];lia
 .exact GY _
theorem lm: ∀e:Exp,1<=mS (xF e)
 | .num n=>by rw[xF,ae];lia
 | .name _=>by rw[xF,ae];lia
 | .call _ l=>by rw[xF,ae];lia
 | .neg e=>by rw[xF,ae];lia
 | .not e=>by rw[xF,ae];lia
 | .sums e r=>by rw[xF,au];have:=lm e;have:=fw 4 e (xF e);lia
 | .prods e r=>by rw[xF,au];have:=lm e;have:=fw 5 e (xF e);lia
 | .cmp _ e b=>by rw[xF,au];have:=lm e;have:=fw 3 e (xF e);lia
 | .both e r=>by rw[xF,au];have:=lm e;have:=fw 2 e (xF e);lia
 | .either e r=>by rw[xF,au];have:=lm e;have:=fw 1 e (xF e);lia
 | .pick c _ _=>by rw[xF,ae];lia
 | .sum _ _ _ _=>by rw[xF,ae];lia
abbrev Wr (v:Int):Prop:= -1000000000000000000<v/\v<1000000000000000000
def sv: ∀ {e:Exp}{v:Int},GE e->lit e=GM v->Wr v
 | .num n,v,h,e=>by rw[GE] at h;cases e;show _/\_;lia
 | .neg (.num n),v,h,e=>by rw[GE,GE] at h;cases e;show _/\_;lia
theorem yo: ∀ {l:Exps}{vs:Gr Int},GL l->lits l=GM vs-> ∀v∈vs,Wr v
 | .nil,vs,_,e=>by cases e;exact λ_ z=>nomatch z
 | .cons x l,vs,h,e=>by
  rw[GL] at h;rw[lits] at e;split at e
  .rename_i e1 e2
   cases e;exact IA.mpr #[sv h.1 e1,yo h.2 e2]
  .cases e
structure SM (e e':Exp):Prop where
 ok:GE e'
 fr:fr e'<=fr e+2
 ms:mS (xF e')<=21*mS (xF e)
structure SL (l l':Exps):Prop where
 ok:GL l'
 fr:kl l'<=kl l+2
 ms:mS (aF l')<=21*mS (aF l)
 mm: ∀w g,mS (mF w g l')+kL l<=21*mS (mF w g l)
 k:kL l'=kL l
 ln:Be l'=Be l
structure SR (r r':Rest):Prop where
 ok:GR r'
 fr:oE r'<=oE r+2
 ms: ∀w,mS (rF w r')+kR r<=21*mS (rF w r)
 k:kR r'=kR r
structure MK (e:Exp):Prop where
 ok:GE e
 fr:fr e<=6
 ms:mS (xF e)<=21
def rl {v:Int}(h:Wr v):MK (mk v):=by
 unfold mk;have one: ∀n:GQ,mS [ki n]=(ki n).cps.size+1:=λn=>ae _ _
 split
 .have z:(-v).toNat<1000000000000000000:=by lia
  refine#[by rw[GE,GE];exact z,by rw[OS.fr,OS.fr,GI z];decide,?_];rw[xF,xF,ae,sz "-" 1,show pF 5 (.num (-v).toNat) [ki (-v).toNat]=[ki (-v).toNat] from KB,one];have:=lC z;lia
 .have z:v.toNat<1000000000000000000:=by lia
  refine#[by rw[GE];exact z,by rw[OS.fr,GI z];decide,?_];rw[xF,one];have:=lC z;lia
def MK.sm {e e':Exp}(h:MK e'):SM e e':=#[h.ok,by have:=h.fr;have:=eA e;lia,by have:=h.ms;have:=lm e;lia]
def vP (b:HK):Wr (truth b):=by cases b<;>decide
def rS (b:HK):MK (mk (truth b)):=rl (vP b)
def vY (h:n<2):MK (.num n):=by
 have e:Exp.num n=mk (n:GQ):=by
  unfold mk;rw[GG (by lia)]
  rfl
 rw[e];exact rl (by show _/\_;lia)
def ag4 {v:Int}(h:writable v=IN):Wr v:=by
 unfold writable BIG at h
 simpa using h
def Em {f:HD}{l:Gr Int}(h: ∀v∈l,Wr v):Wr (builtIn f l):=by
 have d: ∀i,Wr (l.getD i 0):=λi=>by
  rw[Rk];cases e:l[i]? with
  |none=>decide
  |some v=>exact h v (Iz e)
 have d0:=d 0
 have d1:=d 1;unfold builtIn;dsimp only;split
 .show _/\_;lia
 split
 .show _/\_;lia
 split
 .show _/\_;lia
 .exact d0
theorem xM (w:GQ): ∀ {r:Rest}{e:Exp},GE e->GR r->GE (lead e r).1/\GR (lead e r).2/\fr (lead e r).1<=max (fr e) 6/\oE (lead e r).2<=oE r/\mS (xF (lead e r).1)<=max (mS (xF e)) 21/\mS (rF w (lead e r).2)<=mS (rF w r)
 | .nil,e,h1,h2=>by rw[lead];exact#[h1,h2,Iw _ _,GY _,Iw _ _,GY _]
 | .cons op f r,e,h1,h2=>by
  have st:GE e/\GR (.cons op f r)/\fr e<=max (fr e) 6/\oE (.cons op f r)<=oE (.cons op f r)/\mS (xF e)<=max (mS (xF e)) 21/\mS (rF w (.cons op f r))<=mS (rF w (.cons op f r)):=#[h1,h2,Iw _ _,GY _,Iw _ _,GY _];rw[lead];split
  .split
   .split
    .rename_i hw
     have m:=rl (ag4 hw);rw[GR] at h2;obtain⟨q1,q2,q3,q4,q5,q6⟩:=xM w m.ok h2.2.2
     have:=m.fr
     have:=m.ms;refine#[q1,q2,by lia,by rw[oE];lia,by lia,?_];rw[rF,ae,ae,ae,au];lia
    .exact st
   .exact st
  .exact st
def uX {c:Exp->Rest->Exp}{w:GQ}{e e':Exp}{r r':Rest}(g: ∀e r,GE (c e r)=(GE e/\GR r)) (f: ∀e r,fr (c e r)=3+max (fr e) (oE r)) (x: ∀e r,xF (c e r)=pF w e (xF e)++rF w r) (he:SM e e') (hr:SR r r'):SM (c e r) (match lead e' r' with
  | (a, .nil)=>a
  | (a,s)=>c a s):=by
 have q:=xM w he.ok hr.ok
 have f1:=he.fr
 have f2:=hr.fr
 have m1:=he.ms
 have m2:=hr.ms w
 have m3:=eA e
 have m4:=lm e
 have p1:=fw w e (xF e);split
 .rename_i h
  rw[h] at q;obtain⟨q1,q2,q3,q4,q5,q6⟩:=q;dsimp only at q1 q3 q5;refine#[q1,by rw[f];lia,?_];rw[x,au];lia
 .rename_i a s hn h
  rw[h] at q;obtain⟨q1,q2,q3,q4,q5,q6⟩:=q;dsimp only at q1 q2 q3 q4 q5 q6;refine#[by rw[g];exact#[q1,q2],by rw[f,f];lia,?_];rw[x,x,au,au];have p2:=iS w a (xF a);have:kR r=8:=by
   cases hr':r' with
   |nil=>
    rw[hr',lead] at h;cases h;exact(hn KB).elim
   |cons=>rw[<-hr.k,hr'];rfl
  lia
def xY {w:GQ}{g:Ha}{c:Exp->Exps->Exp}{e e':Exp}{l l':Exps}(g1: ∀e l,GE (c e l)=(GE e/\GL l/\kL l=8)) (f: ∀e r,fr (c e r)=3+max (fr e) (kl r)) (x: ∀e r,xF (c e r)=pF w e (xF e)++mF w g r) (hk:kL l=8) (he:SM e e') (hl:SL l l'):SM (c e l) (c e' l'):=by
 have f1:=he.fr
 have f2:=hl.fr
 have m1:=he.ms
 have m2:=hl.mm w g
 have p1:=fw w e (xF e)
 have p2:=iS w e' (xF e');refine#[by rw[g1];exact#[he.ok,hl.ok,by rw[hl.k,hk]],by rw[f,f];lia,?_];rw[x,x,au,au];lia
def Yc {c:Exp->Exp}{s:String}{e e':Exp}(g1: ∀e,GE (c e)=GE e) (f: ∀e,fr (c e)=2+fr e) (x: ∀e,xF (c e)=tx s::pF 5 e (xF e)) (he:SM e e'):SM (c e) (c e'):=by
 have f1:=he.fr
 have m1:=he.ms
 have p1:=fw 5 e (xF e)
 have p2:=iS 5 e' (xF e');refine#[by rw[g1];exact he.ok,by rw[f,f];lia,?_];rw[x,x,ae,ae];lia
def xc (e:Exp): ∀ {l:Exps},kL l=8->mS (aF (.cons e l))=mS (xF e)+(3+mS (aF l))
 | .nil,h=>by cases h
 | .cons y s,_=>by
  rw[aF,au,ae,sz ", " 2];intro z;cases z
mutual
theorem eF: ∀e:Exp,GE e->SM e (fold e)
 | .num n,h=>by rw[fold];exact#[h,by lia,by lia]
 | .name n,h=>by rw[fold];exact#[h,by lia,by lia]
 | .call f l,h=>by
  rw[GE] at h;have q:=Fq l h.2.1;rw[fold];split
  .rename_i e1 e2
   exact(rl (Em (yo q.ok e2))).sm
  .refine#[by rw[GE];exact#[h.1,q.ok,by rw[q.ln];exact h.2.2],by rw[OS.fr,OS.fr];have:=q.fr;lia,?_]
   simp only[xF,ae,au,cy];have:=q.ms;lia
 | .neg e,h=>by
  rw[GE] at h;have q:=eF e h;rw[fold];split
  .rename_i v e1
   have:=sv q.ok e1;exact(rl (by show _/\_;lia)).sm
  .exact Yc (s:="-") (λ_=>by rw[GE]) (λ_=>by rw[OS.fr]) (λ_=>by rw[xF]) q
 | .not e,h=>by
  rw[GE] at h;have q:=eF e h;rw[fold];split
  .exact(rS _).sm
  .exact Yc (s:="!") (λ_=>by rw[GE]) (λ_=>by rw[OS.fr]) (λ_=>by rw[xF]) q
 | .sums e r,h=>by
  rw[GE] at h;rw[fold];exact uX (w:=4) (λ_ _=>by rw[GE]) (λ_ _=>by rw[OS.fr]) (λ_ _=>by rw[xF]) (eF e h.1) (Du r h.2)
 | .prods e r,h=>by
  rw[GE] at h;rw[fold];exact uX (w:=5) (λ_ _=>by rw[GE]) (λ_ _=>by rw[OS.fr]) (λ_ _=>by rw[xF]) (eF e h.1) (Du r h.2)
 | .cmp op a b,h=>by
  rw[GE] at h;have q1:=eF a h.2.1;have q2:=eF b h.2.2;rw[fold];split
  .exact(rS _).sm
  .have:=q1.fr
   have:=q2.fr
   have:=q1.ms
   have:=q2.ms
   have:=fw 3 a (xF a)
   have:=fw 3 b (xF b)
   have:=iS 3 (fold a) (xF (fold a))
   have:=iS 3 (fold b) (xF (fold b));refine#[by rw[GE];exact#[h.1,q1.ok,q2.ok],by rw[OS.fr,OS.fr];lia,?_];simp only[xF,ae,au,cy];lia
 | .both e l,h=>by
  rw[GE] at h;have q1:=eF e h.1;have q2:=Fq l h.2.1;rw[fold];split
  .exact(vY [01]).sm
  .exact(rS _).sm
  .exact xY (λ_ _=>by rw[GE]) (λ_ _=>by rw[OS.fr]) (λ_ _=>by rw[xF]) h.2.2 q1 q2
 | .either e l,h=>by
  rw[GE] at h;have q1:=eF e h.1;have q2:=Fq l h.2.1;have k:SM (.either e l) (.either (fold e) (foldAll l)):=xY (λ_ _=>by rw[GE]) (λ_ _=>by rw[OS.fr]) (λ_ _=>by rw[xF]) h.2.2 q1 q2
  rw[fold];split
  .exact(rS _).sm
  .exact k
  .exact(vY [01]).sm
  .exact k
 | .pick c a b,h=>by
  rw[GE] at h;have q1:=eF c h.1;have q2:=eF a h.2.1;have q3:=eF b h.2.2;have:=q1.fr;have:=q2.fr;have:=q3.fr;have:=q1.ms;have:=q2.ms;have:=q3.ms;rw[fold];split
  .split
   .exact#[q2.ok,by simp only[OS.fr];lia,by simp only[xF,ae,au];lia]
   .exact#[q3.ok,by simp only[OS.fr];lia,by simp only[xF,ae,au];lia]
  .refine#[by rw[GE];exact#[q1.ok,q2.ok,q3.ok],by rw[OS.fr,OS.fr];lia,?_]
   simp only[xF,ae,au,cy];lia
 | .sum x lo hi e,h=>by
  rw[GE] at h;have q1:=eF lo h.2.1;have q2:=eF hi h.2.2.1;have q3:=eF e h.2.2.2;have:=q1.fr;have:=q2.fr;have:=q3.fr;have:=q1.ms;have:=q2.ms;have:=q3.ms;have k:SM (.sum x lo hi e) (.sum x (fold lo) (fold hi) (fold e)):=by
   refine#[by rw[GE];exact#[h.1,q1.ok,q2.ok,q3.ok],by rw[OS.fr,OS.fr];lia,?_];simp only[xF,ae,au,cy];lia
  rw[fold];split
  .split
   .exact(vY [01]).sm
   .exact k
  .exact k
theorem Fq: ∀l:Exps,GL l->SL l (foldAll l)
 | .nil,h=>by rw[foldAll];exact#[h,by lia,by lia,λw g=>by rw[mF,cy];exact GY _,KB,KB]
 | .cons e l,h=>by
  rw[GL] at h;have q1:=eF e h.1;have q2:=Fq l h.2;have:=q1.fr;have:=q2.fr;have:=q1.ms;have:=q2.ms;have kk:=q2.k;rw[foldAll];refine#[by rw[GL];exact#[q1.ok,q2.ok],by rw[kl,kl];lia,?_,λw g=>?_,KB,by rw[Be,Be,q2.ln]]
  .cases l with
   |nil=>rw[foldAll,aF,aF];exact q1.ms
   |cons y s=>
    have e1:=xc (fold e) (l:=foldAll (.cons y s)) kk
    have e2:=xc e (l:= .cons y s) KB;lia
  .have m:=q2.mm w g
   have:=fw w e (xF e)
   have:=iS w (fold e) (xF (fold e));rw[mF,mF,ae,ae,ae,au,ae,ae,ae,au]
   show _+8<=_
   lia
theorem Du: ∀r:Rest,GR r->SR r (Oc r)
 | .nil,h=>by rw[Oc];exact#[h,by lia,λw=>by rw[rF,cy];exact GY _,KB]
 | .cons op e r,h=>by
  rw[GR] at h;have q1:=eF e h.2.1;have q2:=Du r h.2.2;have:=q1.fr;have:=q2.fr;have:=q1.ms;rw[Oc];refine#[by rw[GR];exact#[h.1,q1.ok,q2.ok],by rw[oE,oE];lia,λw=>?_,KB];have m:=q2.ms w;have:=fw w e (xF e);have:=iS w (fold e) (xF (fold e));rw[rF,rF,ae,ae,ae,au,ae,ae,ae,au];show _+8<=_;lia
end
end OS
namespace OS
open Vbemac
open PySem (Str)
structure SO (o o':GJ Exp):Prop where
 ok:GO o'
 fr:Ai o'<=Ai o+2
 ms: ∀w,mS (vV w o')<=21*mS (vV w o)
def ag5: ∀o:GJ Exp,GO o->SO o (o.map fold)
 |none,h=>#[trivial,HG _,λ_=>HG _]
 |some e,h=>by
  have q:=eF e h;refine#[q.ok,q.fr,λw=>?_]
  have:=q.ms
  show mS (tm w _)<=21*mS (tm w _)
  rw[dS KB,dS KB];lia
def yO {a b a' b':GQ}(h:a'<=a+2) (h':b'<=b+2):max a' b'<=max a b+2:=by lia
def Bh {a a':GQ}(n:GQ) (h:a'<=a+2):n+a'<=n+a+2:=Na h n
structure SS (s s':Stmt):Prop where
 ok:GS s'
 fr:gX s'<=gX s+2
 ms: ∀n,mS (fj n s')<=21*mS (fj n s)
structure SB (l l':Stmts):Prop where
 ok:qm l'
 fr:iy l'<=iy l+2
 ms: ∀n,mS (iY n l')<=21*mS (iY n l)
mutual
theorem akt: ∀s:Stmt,GS s->SS s (foldStmt s)
 | .bind x e,h=>by
  rw[GS] at h;have q:=eF e h.2;rw[foldStmt];refine#[by rw[GS];exact#[h.1,q.ok],by simp only[gX];exact Bh 2 q.fr,λn=>?_];have:=q.ms;simp only[fj,ae,au];lia
 | .loop x lo hi l,h=>by
  rw[GS] at h;have q1:=eF lo h.2.1;have q2:=eF hi h.2.2.1;have q3:=zF l h.2.2.2;rw[foldStmt];refine#[by rw[GS];exact#[h.1,q1.ok,q2.ok,q3.ok],by simp only[gX];exact yO (Bh 3 q1.fr) (yO (Bh 3 q2.fr) (Bh 1 q3.fr)),λn=>?_];have:=q1.ms;have:=q2.ms;have:=q3.ms (n+1);simp only[fj,ae,au,gQ];lia
 | .cond c a .nil,h=>by
  rw[GS] at h;have q1:=eF c h.1;have q2:=zF a h.2.1;rw[foldStmt,foldStmts];refine#[by rw[GS];exact#[q1.ok,q2.ok,h.2.2],by simp only[gX];exact yO (Bh 3 q1.fr) (yO (Bh 2 q2.fr) (JO _ 2)),λn=>?_];have:=q1.ms;have:=q2.ms (n+1);simp only[fj,ae,au,gQ];lia
 | .cond c a (.cons s l),h=>by
  rw[GS] at h;have q1:=eF c h.1;have q2:=zF a h.2.1;have q3:=zF (.cons s l) h.2.2;rw[foldStmt];refine#[by rw[GS];exact#[q1.ok,q2.ok,q3.ok],by simp only[gX];exact yO (Bh 3 q1.fr) (yO (Bh 2 q2.fr) (Bh 2 q3.fr)),λn=>?_];have:=q1.ms;have:=q2.ms (n+1);have:=q3.ms (n+1);rw[foldStmts] at this ⊢;rw[fj,fj]
  .simp only[ae,au,gQ];lia
  all_goals intro z;cases z
 | .step RL z q p top am,h=>by
  rw[GS] at h;have q1:=eF z h.1;have q2:=eF q h.2.1;have q3:=eF p h.2.2.1;have q4:=ag5 top h.2.2.2.1;have q5:=eF am h.2.2.2.2;rw[foldStmt];refine#[by rw[GS];exact#[q1.ok,q2.ok,q3.ok,q4.ok,q5.ok],by simp only[gX];exact Bh 4 (yO q1.fr (yO q2.fr (yO q3.fr (yO q4.fr q5.fr)))),λn=>?_];have:=q1.ms;have:=q2.ms;have:=q3.ms;have:=q4.ms "to";have:=q5.ms;simp only[fj,ae,au,dS (sz "zone" 4),dS (sz "quarter" 7),dS (sz "price" 5),dS (sz "amount" 6)];lia
 | .block m RL z p x q u g,h=>by
  rw[GS] at h;have q1:=eF z h.2.1;have q2:=eF p h.2.2.1;have q3:=eF q h.2.2.2.2.1;have q4:=ag5 g h.2.2.2.2.2.2;rw[foldStmt];refine#[by rw[GS];exact#[h.1,q1.ok,q2.ok,h.2.2.2.1,q3.ok,h.2.2.2.2.2.1,q4.ok],by simp only[gX];exact Bh 4 (yO q1.fr (yO q2.fr (yO q3.fr q4.fr))),λn=>?_];have:=q1.ms;have:=q2.ms;have:=q3.ms;have:=q4.ms "group";simp only[fj,ae,au,dS (sz "zone" 4),dS (sz "price" 5)];lia
theorem zF: ∀l:Stmts,qm l->SB l (foldStmts l)
 | .nil,h=>by rw[foldStmts];exact#[h,by lia,λn=>by lia]
 | .cons s l,h=>by
  rw[qm] at h;have q1:=akt s h.1;have q2:=zF l h.2;have:=q1.fr;have:=q2.fr;rw[foldStmts];exact#[by rw[qm];exact#[q1.ok,q2.ok],by simp only[iy];exact yO (Bh 1 q1.fr) q2.fr,λn=>by have:=q1.ms n;have:=q2.ms n;simp only[iY,ae,au];lia]
end
def cC:Top->Top
 | .const x e=> .const x (fold e)
 | .func x ps e=> .func x ps (fold e)
 | .desk x l=> .desk x (foldStmts l)
def A8 (l:Sheet):folded l=l.map cC:=Pu λt _=>by cases t<;>rfl
def aa1: ∀t:Top,GT t->GT (cC t)/\pV (cC t)<=pV t+2/\mS (i6 (cC t))<=21*mS (i6 t)
 | .const x e,h=>by
  have q:=eF e h.2
  have:=q.fr
  have:=q.ms;exact#[#[h.1,q.ok],by simp only[cC,pV];lia,by simp only[cC,i6,ae,au];lia]
 | .func x ps e,h=>by
  have q:=eF e h.2.2
  have:=q.fr
  have:=q.ms;exact#[#[h.1,h.2.1,q.ok],by simp only[cC,pV];lia,by simp only[cC,i6,ae,au];lia]
 | .desk x l,h=>by
  have q:=zF l h.2
  have:=q.fr
  have:=q.ms 1;exact#[#[h.1,q.ok],by simp only[cC,pV];lia,by simp only[cC,i6,ae,au,gQ];lia]
theorem Yd: ∀ss:Sheet,(∀s∈ss,GT s)->mS (kt (ss.map cC))<=21*mS (kt ss)
 |[],_=>HG _
 |s::l,h=>by
  have h:=IA.mp h
  have:=(aa1 s h.1).2.2
  have:=Yd l h.2
  show mS (i6 (cC s)++kt (l.map cC))<=21*mS (i6 s++kt l)
  rw[au,au];lia
def Ac {b:HD}{ss:Sheet}(h:MA b= .ok ss):(∀s∈ss.map cC,pV s<=275)/\mS (kt (ss.map cC))<=1344*(tokens b).length/\bF (kt (ss.map cC))=«ints» (print (folded ss)):=by
 have g:=re h;refine#[λs hs=>?_,?_,?_]
 .obtain⟨t,ht,rfl⟩:=Nf.mp hs
  have:=g.fr t ht
  have:=(aa1 t (g.ok t ht)).2.1;lia
 .have:=g.ms
  have:=Yd ss g.ok;lia
 .rw[A8]
  refine yi _ λs hs=>?_;obtain⟨t,ht,rfl⟩:=Nf.mp hs;exact(aa1 t (g.ok t ht)).1
end OS
namespace OS
open PySem PySem.Spec L2
open PyProof.Rows hiding St
variable {P:Hr}{w:HW}{K:Gy}{mg:Ha->GJ GC}{base:Im}{a:bI}
section
open Vbemac (strength)
def e8 {b:HK}{A B:Prop}(e:b=IR) (h:B):if b=IN then A else B:=by rw[GG (by rw[e];exact Gu)];exact h
def tJ:GD->GQ
 | .num _=>0
 | .name _=>1
 | .call _ _=>2
 | .neg _=>3
 | .not _=>3
 | .pick _ _ _=>5
 | .sum _ _ _ _=>6
 |_=>4
def jK.is {K:Gy}{a:bI}{H:Hp}(I:jK K a) {i j:GQ}{C D q dx:GB}{fs:Gr (Ha×V)}(hi:(tq a)[i]?=GM C) (hj:(tq a)[j]?=GM D) (z:H q=GM (.ins C dx fs)):jh K H (.ref q) (.ref C)/\Jk K (.ref C) (.ref D)=GM (decide (i=j)):=by
 refine#[(I.ty C (Iz hi)).of z,?_];have i7:i<15:=(Ho.mp hi).1;have j7:j<15:=(Ho.mp hj).1;have:=Hv (λl:Gr (Gr (GJ HK))=>(l[i]?.bind λr=>r[j]?)) I.Zv
 simpa [hi,hj,KS i7,KS j7] using this
abbrev Ye (K:Gy):Gr V->Hp->VK->Prop:=λxs H Q=> ∃(x:V) (C:GB) (t:GC) (b:HK),xs=[x, .ref C]/\jh K H x t/\Jk K t (.ref C)=GM b/\Q (.bl b) H
def yP {K:Gy}{a:bI}{H:Hp}{σ:L2.St}{t u:TS}{Z:dB}(I:jK K a) {i j n:GQ}{C D q dx:GB}{fs:Gr (Ha×V)}(hi:(tq a)[i]?=GM C) (hj:(tq a)[j]?=GM D) (z:H q=GM (.ins C dx fs)) (hv:σ[n]?=GM (GM (.ref q)))
  (h1:i=j->t Z σ H) (h2:i≠j->u Z σ H):ZL (tB (tCB (Ye K) (fz (ei n) (fz (tC (.ref D)) j9)))) t u Z σ H:=by
 obtain⟨q1,q2⟩:=I.is hi hj z;refine g0 #[_,D,_,_,KB,q1,q2,_,KB,?_] hv;by_cases e:i=j
 .exact eU (HC e) (h1 e)
 .exact e8 (He e) (h2 e)
abbrev gM (ps:Gr Ha):Gr V:=ps.map V.str
def Nw (H:Hp) (ps:Gr Ha) (Q:VK):Prop:= ∀(H':Hp) (p:GB),aI H H'->H p=Ix->H' p=GM (.lst (gM ps))->Q (.ref p) H'
def Ev (te:TE) (σ:L2.St) (H:Hp) (v:V):Prop:= ∀Q:VK,Q v H->te σ H Q
def Bj (ta:TA) (σ:L2.St) (H:Hp) (vs:Gr V):Prop:= ∀Q:Gr V->Hp->Prop,Q vs H->ta σ H Q
def Fr (te:TE) (σ:L2.St) (H:Hp) (ps:Gr Ha):Prop:= ∀Q:VK,Nw H ps Q->te σ H Q
structure eY (H0:Hp) (L:GB) (H:Hp) (ps:Gr Ha):Prop where
 nw:H0 L=Ix
 sm:aI H0 H
 at_:H L=GM (.lst (gM ps))
section
variable {σ:L2.St}{H H0:Hp}{te ta' tb':TE}{ta:TA}{v:V}{vs:Gr V}{ps qs:Gr Ha}{L:GB}
def gm {H H':Hp}(s:aI H H') {p:GB}(h:H' p=Ix):H p=Ix:=by
 cases e:H p with
 |none=>rfl
 |some o=>rw[s p o e] at h;cases h
def cq:Ev (tC v) σ H v:=λ_ q=>q
def bE {i:GQ}(h:σ[i]?=GM (GM v)):Ev (ei i) σ H v:=λ_ q=>g0 q h
def cN {p C dx:GB}{fs:Gr (Ha×V)}{f:Ha}(h:Ev te σ H (.ref p)) (e:H p=GM (.ins C dx fs)) (c:iZ K C) (n:aH K C f) (l:fs.lookup f=GM v):Ev (m8 K te f) σ H v:=λQ q=>h _ #[p,C,dx,fs,v,KB,e,c,n,l,q]
def aE:Bj j9 σ H []:=λ_ q=>q
def ao (h1:Ev te σ H v) (h2:Bj ta σ H vs):Bj (fz te ta) σ H (v::vs):=λQ q=>h1 _ (h2 _ q)
def Fr.eq (h:Fr te σ H ps) (e:ps=qs):Fr te σ H qs:=e▸h
def jm (h:Bj ta σ H vs) (e:vs=gM ps) (hl:ps.length<=GZ):Fr (ZS ta) σ H ps:=λQ q=>h _ #[by rw[e,GK];exact hl,λp hp=>q _ p (a8 hp) hp (by rw[<-e];exact aj)]
def bV (h1:Fr ta' σ H ps) (h2: ∀H',aI H H'->Fr tb' σ H' qs) (hl:ps.length+qs.length<=GZ):Fr (Bg Ft ta' tb') σ H (ps++qs):=λQ q=>
 h1 _ λH1 l s1 n1 e1=>h2 H1 s1 _ λH2 b s2 n2 e2=>#[l,b,_,_,KB,KB,s2 _ _ e1,e2,by rw[GK,GK];exact hl,λp hp=>
  q _ p ((s1.trans s2).trans (a8 hp)) (gm (s1.trans s2) hp) (by rw[show gM (ps++qs)=gM ps++gM qs from IJ];exact aj)]
def sR (h1:Ev ta' σ H (.ref L)) (e1:H L=GM (.lst (gM ps))) (h2:Fr tb' σ H qs) (hl:ps.length+qs.length<=GZ):Fr (Bg Ft ta' tb') σ H (ps++qs):=λQ q=>
 h1 _ (h2 _ λH2 b s2 n2 e2=>#[L,b,_,_,KB,KB,s2 _ _ e1,e2,by rw[GK,GK];exact hl,λp hp=>
  q _ p (s2.trans (a8 hp)) (gm s2 hp) (by rw[show gM (ps++qs)=gM ps++gM qs from IJ];exact aj)])
def Nw.up {Q:VK}(s:aI H0 H) (q:Nw H0 ps Q):Nw H ps Q:=λH' p s' n e=>q H' p (s.trans s') (gm s n) e
def dw {sp:Sp}{E:XK}(h:Bj ta σ H vs) (hs: ∀Q,Nw H ps Q->sp (vs++[]) H Q E):Fr (iV sp [] E ta) σ H ps:=λQ q=>h _ (hs Q q)
def eY.of {H':Hp}(s:aI H H') (n:H L=Ix) (e:H' L=GM (.lst (gM ps))):eY H L H' ps:=#[n,s,e]
def eY.put (g:eY H0 L H ps) {H':Hp}(s:aI H H'):eY H0 L (bf H' L (.lst (gM qs))) qs:=
 #[g.nw,λb o e=>by rw[af (aw e g.nw)];exact s b o (g.sm b o e),aj]
def eY.end_ (g:eY H0 L H ps) {Q:VK}(q:Nw H0 ps Q):Q (.ref L) H:=q H L g.sm g.nw g.at_
def seq {t u:TS}{Z:dB}(h:t { Z with nx:=u Z } σ H):uD t u Z σ H:=h
def aa2 {i:GQ}{Z:dB}(h:Fr te σ H ps) (q: ∀H1 L,eY H L H1 ps->Z.nx (σ.set i (GM (.ref L))) H1):BV te (gI i) Z σ H:=h _ λH1 L s1 n1 e1=>q H1 L (eY.of s1 n1 e1)
def dH {Z:dB}(h:Fr te σ H ps) (q:Nw H ps Z.rt):ZK te Z σ H:=h _ q
def j0 {i:GQ}{Z:dB}(g:eY H0 L H ps) (hv:σ[i]?=GM (GM (.ref L))) (h:Fr te σ H qs) (hl:ps.length+qs.length<=GZ) (q: ∀H',eY H0 L H' (ps++qs)->Z.nx σ H'):tG (tBM K "list" nv (ei i) (fz te j9)) Z σ H:=
 g0 #[.inl #[KB,_,cJ.of g.at_],h _ λH1 b s1 n1 e1=>#[L,b,_,_,KB,KB,s1 _ _ g.at_,e1,by rw[GK,GK];exact hl,by
  rw[<-IJ];exact q _ (g.put s1)]] hv
def wM {i:GQ}{p:Ha}{Z:dB}(g:eY H0 L H ps) (hv:σ[i]?=GM (GM (.ref L))) (h:Ev te σ H (.str p)) (hl:ps.length+1<=GZ) (q: ∀H',eY H0 L H' (ps++[p])->Z.nx σ H'):tG (tBM K "list" nS (ei i) (fz te j9)) Z σ H:=
 g0 #[.inl #[KB,_,cJ.of g.at_],h _ #[L,_,_,KB,KB,g.at_,by rw[GK];exact hl,by
  rw[show ps.map V.str++[V.str p]=(ps++[p]).map V.str by simp];exact q _ (g.put λ_ _ e=>e)]] hv
def iG {i:GQ}{u:TS}{Z:dB}(h:Fr te σ H ps) (q: ∀H1 L,eY H L H1 ps->u Z (σ.set i (GM (.ref L))) H1):uD (BV te (gI i)) u Z σ H:=aa2 (Z:= { Z with nx:=u Z }) h q
def fQ {i:GQ}{u:TS}{Z:dB}(g:eY H0 L H ps) (hv:σ[i]?=GM (GM (.ref L))) (h:Fr te σ H qs) (hl:ps.length+qs.length<=GZ) (q: ∀H',eY H0 L H' (ps++qs)->u Z σ H'):uD (tG (tBM K "list" nv (ei i) (fz te j9))) u Z σ H:=j0 (Z:= { Z with nx:=u Z }) g hv h hl q
def lB {i:GQ}{p:Ha}{u:TS}{Z:dB}(g:eY H0 L H ps) (hv:σ[i]?=GM (GM (.ref L))) (h:Ev te σ H (.str p)) (hl:ps.length+1<=GZ) (q: ∀H',eY H0 L H' (ps++[p])->u Z σ H'):uD (tG (tBM K "list" nS (ei i) (fz te j9))) u Z σ H:=wM (Z:= { Z with nx:=u Z }) g hv h hl q
def pb {t u:TS}{Z:dB}(J:L2.St->Hp->Prop) (h:t { Z with nx:=J } σ H) (q: ∀σ' H',J σ' H'->u Z σ' H'):uD (Xz t) u Z σ H:=#[J,h,q]
def cD {a:bI}{t v:TS}{Z:dB}(I:jK K a) {i j n:GQ}{C D q dx:GB}{fs:Gr (Ha×V)}(hi:(tq a)[i]?=GM C) (hj:(tq a)[j]?=GM D) (z:H q=GM (.ins C dx fs)) (hv:σ[n]?=GM (GM (.ref q)))
  (h1:i=j->t { Z with nx:=v Z } σ H) (h2:i≠j->v Z σ H):uD (ZL (tB (tCB (Ye K) (fz (ei n) (fz (tC (.ref D)) j9)))) t Xk) v Z σ H:=yP (Z:= { Z with nx:=v Z }) I hi hj z hv h1 h2
end
def sw {a:bI}{M:GB->Prop}{H:Hp}{e:GD}{v:V}(h:ag a M H e v): ∃C q dx fs,(tq a)[tJ e]?=GM C/\v= .ref q/\H q=GM (.ins C dx fs)/\(tJ e=4->fs.lookup ("strength":Ha)=GM (V.int (strength e:GQ))):=by
 cases e<;>unfold ag at h
 .obtain⟨p,dx,rfl,_,z⟩:=h;exact#[_,p,dx,_,KB,KB,z,λz=>nomatch z]
 .obtain⟨p,dx,rfl,_,z⟩:=h;exact#[_,p,dx,_,KB,KB,z,λz=>nomatch z]
 .obtain⟨_,_,⟨p,dx,rfl,_,z⟩,_⟩:=h;exact#[_,p,dx,_,KB,KB,z,λz=>nomatch z]
 .obtain⟨_,⟨p,dx,rfl,_,z⟩,_⟩:=h;exact#[_,p,dx,_,KB,KB,z,λz=>nomatch z]
 .obtain⟨_,⟨p,dx,rfl,_,z⟩,_⟩:=h;exact#[_,p,dx,_,KB,KB,z,λz=>nomatch z]
 .obtain⟨_,_,_,_,_,⟨p,dx,rfl,_,z⟩,_⟩:=h;exact#[_,p,dx,_,KB,KB,z,λ_=>rfl]
 .obtain⟨_,_,_,_,_,⟨p,dx,rfl,_,z⟩,_⟩:=h;exact#[_,p,dx,_,KB,KB,z,λ_=>rfl]
 .obtain⟨_,_,_,_,⟨p,dx,rfl,_,z⟩,_⟩:=h;exact#[_,p,dx,_,KB,KB,z,λ_=>rfl]
 .obtain⟨_,_,_,_,⟨p,dx,rfl,_,z⟩,_⟩:=h;exact#[_,p,dx,_,KB,KB,z,λ_=>rfl]
 .obtain⟨_,_,_,_,⟨p,dx,rfl,_,z⟩,_⟩:=h;exact#[_,p,dx,_,KB,KB,z,λ_=>rfl]
 .obtain⟨_,_,_,⟨p,dx,rfl,_,z⟩,_⟩:=h;exact#[_,p,dx,_,KB,KB,z,λz=>nomatch z]
 .obtain⟨_,_,_,⟨p,dx,rfl,_,z⟩,_⟩:=h;exact#[_,p,dx,_,KB,KB,z,λz=>nomatch z]
inductive Yf (a:bI) (vs:Gr V) (H:Hp) (Q:VK) (_E:XK):Prop
 |mk (e:GD) (v:V) (M:GB->Prop) (_:vs=[v]) (_:ag a M H e v) (_:Q (.int (strength e:GQ)) H):Yf a vs H Q _E
inductive zK (a:bI) (k:GQ) (vs:Gr V) (H:Hp) (Q:VK) (_E:XK):Prop
 |mk (e:GD) (v:V) (M:GB->Prop) (w:GQ) (_:vs=[v, .int (w:GQ)]) (_:ag a M H e v) (_:fr e<=k) (_:(pF w e (xF e)).length<=GZ) (_:Nw H (pF w e (xF e)) Q):zK a k vs H Q _E
inductive vI (a:bI) (ok:GD->Prop) (vs:Gr V) (H:Hp) (Q:VK) (_E:XK):Prop
 |mk (e:GD) (v:V) (M:GB->Prop) (_:vs=[v]) (_:ag a M H e v) (_:ok e) (_:(xF e).length<=GZ) (_:Nw H (xF e) Q):vI a ok vs H Q _E
section
variable {k:GQ}
def ag6 (T:Txt K mg a) (I:jK K a):T.Zb.U P w base 1 (Yf a):=by
 refine T.Zb.F.ok afQ [03] [02];obtain⟨e,v,M,rfl,he,hQ⟩:=h;refine#[_,(ai (bz (bS (aS bX (by rfl) T.HR ID (aa (pv 0) (aa (dn (by rfl) T.PQ) ac)))) (ak (aB [07])) aQ)
   (ai (bz (bS (aS bX (by rfl) T.HR ID (aa (pv 0) (aa (dn (by rfl) T.O0) ac)))) (ak (aB aG)) aQ)
   (ai (bz (bS (aS bX (by rfl) T.HR ID (aa (pv 0) (aa (dn (by rfl) T.OH) ac)))) (ak (aB (bA (by rfl) T.NX))) aQ)
   (ak (aB (bA (by rfl) T.QC)))))),?_]
 obtain⟨C,q,dx,fs,hC,rfl,z,l⟩:=sw he;refine yP I hC (j:=4) KB z KB (λe4=>?_) (λn4=>?_)
 .rw[e4] at hC
  cases hC;exact cN (bE KB) z T.K7 T.Ke (l e4) _ hQ
 refine yP I hC (j:=5) KB z KB (λe4=>?_) (λn5=>?_)
 .have:strength e=0:=by cases e<;>first|rfl|cases e4
  rw[this] at hQ;exact hQ
 refine yP I hC (j:=3) KB z KB (λe4=>?_) (λn3=>?_)
 .have:strength e=5:=by cases e<;>first|rfl|cases e4
  rw[this] at hQ;exact hQ
 have:strength e=6:=by cases e<;>first|rfl|exact G6 KB n4|exact G6 KB n5|exact G6 KB n3
 rw[this] at hQ;exact hQ
def aku (T:Txt K mg a) (I:jK K a) (G_G:T.d_G.U P w base k (vI a λe=>fr e<=k+1)):T.Za.U P w base (k+1) (zK a (k+1)):=by
 have akv:=ag6 (P:=P) (w:=w) (base:=base) T I;refine T.Za.F.ok ajL [03] [02];obtain⟨e,v,M,w',rfl,he,hf,hl,hQ⟩:=h
 have:=eA e;refine#[_,(ai (bz (bg iQ (aq akv [05] (by rfl) T.Zb.c aC (aa (pv 0) ac)) (pv 1) (a0 _)) (ak (aB (aZ bC (aZ bC (bn (aa aK ac)) (aq G_G [05] (by rfl) T.d_G.c aC (aa (pv 0) ac))) (bn (aa aK ac))))) aQ)
   (ak (aB (aq G_G [05] (by rfl) T.d_G.c aC (aa (pv 0) ac))))),?_]
 refine#[e,v,M,KB,he,_,_,KB,KB,_,KB,?_];unfold pF at hl hQ;have lx:(xF e).length<=GZ:=by
  split at hl
  .rw[Gv,Gw] at hl;lia
  .exact hl
 by_cases c:strength e<w'
 .rw[GI c] at hl hQ
  rw[Gv,Gw] at hl;refine eU (HC (by lia)) ?_;refine((bV (bV (jm (ps:=[tx "("]) (ao cq aE) KB [01]) (λH1 s1=>dw (ao (bE KB) aE) λQ1 q1=>#[e,v,M,KB,ag.keep (aI.keeps s1) e he,hf,lx,q1]) ?_) (λH1 s1=>jm (ps:=[tx ")"]) (ao cq aE) KB [01]) ?_).eq ?_) _ hQ
  .show 1+_<=_;lia
  .rw[Gw];show 1+_+1<=_;have:[tx ")"].length=1:=rfl;lia
  .rfl
 .rw[GG c] at hl hQ
  refine e8 (He (by lia)) ?_;exact dw (ps:=xF e) (ao (bE KB) aE) (λQ1 q1=>#[e,v,M,KB,he,hf,lx,q1]) _ hQ
def Cq (T:Txt K mg a) (G_k:T.Za.U P w base k (zK a k)):T.Tz.U P w base (k+1) (vI a λe=>fr e<=k):=by
 refine T.Tz.F.ok ajK [03] [02];obtain⟨e,v,M,rfl,he,hf,hl,hQ⟩:=h;refine#[_,(ak (aB (aq G_k [05] (by rfl) T.Za.c aC (aa (pv 0) (aa aG ac))))),?_];have e0:pF 0 e (xF e)=xF e:=GG (GQ.not_lt_zero _);exact dw (ps:=xF e) (ao (bE KB) (ao cq aE)) (λQ1 q1=>#[e,v,M,0,KB,he,hf,by rw[e0];exact hl,by rw[e0];exact q1]) _ hQ
end
end
def Dc:lQ X (Oa .FloorDiv) (rI (λ_ j=>j≠0/\j.natAbs.log2<9000) λi j=> .int (i.fdiv j)):=opI λ_ _ _ _ _ _ _ hc q=>floordiv_int hc.1 q (.inl (PyProof.noPylong_of_log2 hc.2))
def zG {l:Gr Int} : ∀ {us:Gr GC},bH (l.map V.int) us-> ∃xs:KC (Int×Tok),us.toArray=Ma xs/\xs.toList.map (·.1)=l:=by
 induction l with
 |nil=>intro us h;cases h;exact#[[].toArray,by simp [Ma],KB]
 |cons i l ih=>
  intro us h;cases h with
  |cons h1 h2=>
   obtain⟨t,rfl⟩:=h1;obtain⟨xs,e1,e2⟩:=ih h2;refine#[#[(i,t)::xs.toList],?_,by rw[<-e2];rfl];unfold Ma at e1 ⊢;have e1:=Hv R7 e1;rw[Vl] at e1;apply KC.ext';rw[Vl];simp only[G8];rw[<-e1]
def tR {pins:Gr (GB×Kh)}{σ:L2.St}{H:Hp}{s:GH}{p:GB}{l:Gr Int}(I:aP X pins σ H s) (h:H p=GM (.lst (l.map V.int))): ∃xs:KC (Int×Tok),s.heap.IsList p (Ma xs)/\xs.toList.map (·.1)=l:=by
 obtain⟨z,Jl,n,r,hl,e⟩:=I.UG h;obtain⟨xs,e1,e2⟩:=zG r;exact#[xs,#[_,e,KB,n,by rw[<-e1]],e2]
def Ay (hc:X.calm=IN):gB X (.builtin "min") (λxs H Q=> ∃p i j,xs=[.ref p]/\H p=GM (.lst [.int i, .int j])/\Q (.int (min i j)) H):=by
 intro pins s σ H xs us Q I r h;obtain⟨p,i,j,rfl,hp,q⟩:=h;obtain⟨u,rfl,r1⟩:=lE r;cases r1;obtain⟨as,l,e⟩:=tR (l:=[i,j]) I hp;obtain⟨as⟩:=as;obtain⟨⟨i',t⟩,⟨j',t'⟩,rfl⟩: ∃x y,as=[x,y]:=by
  match as,e with
  |[x,y],_=>exact#[x,y,KB]
 obtain⟨rfl,rfl⟩:i=i'/\j=j':=by simpa [eq_comm] using e
 refine min_intList (I.ok.hd hc) l (by show 0<2;decide) λv h' tk hv k=>#[.int (min i j),H,I.kept k,?_,q];by_cases hij:j<i
 .have e:Ng (λx y=>decide (MY [(i,t),(j,t')].toArray x<MY [(i,t),(j,t')].toArray y)) 1=1:=by simp [Ng,MY,hij]
  have hv:(Ma [(i,t),(j,t')].toArray)[Ng (λx y=>decide (MY [(i,t),(j,t')].toArray x<MY [(i,t),(j,t')].toArray y)) 1]?=GM v:=hv
  rw[e] at hv;have hv:Lk j t'=v:=by simpa [Ma] using hv
  exact#[t',by rw[<-hv,Int.min_def,GG (by lia)]]
 .have e:Ng (λx y=>decide (MY [(i,t),(j,t')].toArray x<MY [(i,t),(j,t')].toArray y)) 1=0:=by simp [Ng,MY,hij]
  have hv:(Ma [(i,t),(j,t')].toArray)[Ng (λx y=>decide (MY [(i,t),(j,t')].toArray x<MY [(i,t),(j,t')].toArray y)) 1]?=GM v:=hv
  rw[e] at hv;have hv:Lk i t=v:=by simpa [Ma] using hv
  exact#[t,by rw[<-hv,Int.min_def,GI (by lia)]]
def zV (hc:X.calm=IN):gB X (.builtin "max") (λxs H Q=> ∃p i j,xs=[.ref p]/\H p=GM (.lst [.int i, .int j])/\Q (.int (max i j)) H):=by
 intro pins s σ H xs us Q I r h;obtain⟨p,i,j,rfl,hp,q⟩:=h;obtain⟨u,rfl,r1⟩:=lE r;cases r1;obtain⟨as,l,e⟩:=tR (l:=[i,j]) I hp;obtain⟨as⟩:=as;obtain⟨⟨i',t⟩,⟨j',t'⟩,rfl⟩: ∃x y,as=[x,y]:=by
  match as,e with
  |[x,y],_=>exact#[x,y,KB]
 obtain⟨rfl,rfl⟩:i=i'/\j=j':=by simpa [eq_comm] using e
 refine max_intList (I.ok.hd hc) l (by show 0<2;decide) λv h' tk hv k=>#[.int (max i j),H,I.kept k,?_,q];by_cases hij:j>i
 .have e:Ng (λx y=>decide (MY [(i,t),(j,t')].toArray x>MY [(i,t),(j,t')].toArray y)) 1=1:=by simp [Ng,MY,hij]
  have hv:(Ma [(i,t),(j,t')].toArray)[Ng (λx y=>decide (MY [(i,t),(j,t')].toArray x>MY [(i,t),(j,t')].toArray y)) 1]?=GM v:=hv
  rw[e] at hv;have hv:Lk j t'=v:=by simpa [Ma] using hv
  exact#[t',by rw[<-hv,Int.max_def,GI (by lia)]]
 .have e:Ng (λx y=>decide (MY [(i,t),(j,t')].toArray x>MY [(i,t),(j,t')].toArray y)) 1=0:=by simp [Ng,MY,hij]
  have hv:(Ma [(i,t),(j,t')].toArray)[Ng (λx y=>decide (MY [(i,t),(j,t')].toArray x>MY [(i,t),(j,t')].toArray y)) 1]?=GM v:=hv
  rw[e] at hv;have hv:Lk i t=v:=by simpa [Ma] using hv
  refine#[t,?_];rw[<-hv,Int.max_def];by_cases z:i<=j
  .rw[GI z,show j=i by lia]
  .rw[GG z]
def Bq (ho:op∈Ih) (h:eV x s):decide (V.str (dI op)=V.str x)=decide (op=s):=by
 obtain⟨rfl,hs⟩:=h;exact decide_eq_decide.mpr #[λz=>yH op ho s hs (V.str.inj z),λz=>by rw[z]]
def jW {X:Cx}{H:Hp}(ho:op∈Ih) (l:eV v s) (yes:op=s->Pe X e (GM (.str (dI op))::σ) H D.rt) (no:op≠s->Bd X ss D (GM (.str (dI op))::σ) H) (n0:X.N[0]?=GM ("sign":Ha):=by rfl) (v0:tu X.env.scope "sign":=by exact HF KB):
  Bd X (.If (.Compare (.Name "sign" p1) [.Eq] [.Constant (.str v) j p2] p3) [.Return (GM e) p4] [] p5::ss) D (GM (.str (dI op))::σ) H:=
 aY (cA cu (bW 0 (vD #[KB,_,KB,by rw[Bq ho l];exact eR (λz=>aD (yes z)) no]) n0 v0))
def ER {α:Type}{Q:α->Prop}{c:Prop} [Decidable c] {x y:α}(q:Q (if c then x else y)):(c->Q x)/\(¬c->Q y):=#[λh=>by rw[GI h] at q;exact q,λh=>by rw[GG h] at q;exact q]
def iI (op:Gz) (b:Int):HK:=b !=0||!(decide (op=Gx "/")||decide (op=Gx "%"))
def fm (op:Gz) (a b:Int):Int:=if op=Gx "+" then a+b else if op=Gx "-" then a-b else if op=Gx "*" then a*b else if op=Gx "/" then a.fdiv b else if op=Gx "%" then a.fmod b else Oo (Nh op a b)
def A6 (a:Int):Prop:= -(2 ^ 64)<a/\a<2 ^ 64
def yw:eV "+" (Gx "+")/\eV "-" (Gx "-")/\eV "*" (Gx "*")/\eV "/" (Gx "/")/\eV "/rest" (Gx "%")/\eV "==" (Gx "==")/\eV "!=" (Gx "!=")/\eV "<=" (Gx "<=")/\eV ">=" (Gx ">=")/\eV "<" (Gx "<"):=#[#[by decide+kernel,by decide+kernel],#[by decide+kernel,by decide+kernel],#[by decide+kernel,by decide+kernel],#[by decide+kernel,by decide+kernel],#[by decide+kernel,by decide+kernel],#[by decide+kernel,by decide+kernel],#[by decide+kernel,by decide+kernel],#[by decide+kernel,by decide+kernel],#[by decide+kernel,by decide+kernel],#[by decide+kernel,by decide+kernel]]
inductive CH (vs:Gr V) (H:Hp) (Q:VK) (_E:XK):Prop
 |mk (op:Gz) (b:Int) (_:vs=[.str (dI op), .int b]) (_:op∈Ih) (_: ∀H',aI H H'->Q (.bl (iI op b)) H'):CH vs H Q _E
def ag7 (T:Txt K mg a):T.YU.U P w base 1 CH:=by
 refine T.YU.F.ok afg [03] [02];obtain⟨op,b,rfl,ho,q⟩:=h;refine#[_,(ak (aB (Bz (cH uK (pv 1) aG (a0 _)) (oV (cH iK (pv 0) (D5 (aa aK (aa aK ac))) KB))))),?_];refine#[KB,_,KB,?_];rw[cU];unfold iI at q;by_cases hb:b=0
 .subst hb
  refine cW ?_;refine#[by show 2<=GZ;decide,λp hp=>#[p,_,KB, .inr (qd.of aj),KB,KB,?_]];have e:uF (.str (dI op)) [.str "/", .str "/rest"]=(decide (op=Gx "/")||decide (op=Gx "%")):=by
   rw[<-Bq ho yw.2.2.2.1,<-Bq ho yw.2.2.2.2.1];show(("/":Ha) == dI op||(("/rest":Ha) == dI op||false))=_
   have b: ∀x:Ha,(x == dI op)=decide (V.str (dI op)=V.str x):=λx=>by
    rw[Iv,beq_iff_eq,Il];exact#[λz=>by rw[z],λz=>(V.str.inj z).symm]
   rw[PJ,b,b]
  show Q (.bl (!uF (.str (dI op)) [.str "/", .str "/rest"])) _
  rw[e];exact q _ (a8 hp)
 .rw[He hb]
  refine dR ?_;have z:=q H λ_ _ e=>e
  rw[show(b !=0)=IN from bne_iff_ne.mpr hb] at z;exact z
inductive BE (vs:Gr V) (H:Hp) (Q:VK) (_E:XK):Prop
 |mk (op:Gz) (x y:Int) (_:vs=[.str (dI op), .int x, .int y]) (_:op∈Ih) (_:Q (.bl (Nh op x y)) H):BE vs H Q _E
def ag8 (T:Txt K mg a):T.YW.U P w base 1 BE:=by
 refine T.YW.F.ok afi [03] [02];obtain⟨op,x,y,rfl,ho,q⟩:=h;obtain⟨_,_,_,_,_,l1,l2,l3,l4,l5⟩:=yw;unfold Nh at q;have q:=ER (Q:=λz=>Q (.bl z) H) q
 refine jW ho l1 (λe=>#[_,cH cu (pv 1) (pv 2) (a0 _),KB,by rw[cU];exact q.1 e]) λe=>?_;have q:=ER (Q:=λz=>Q (.bl z) H) (q.2 e)
 refine jW ho l2 (λe=>#[_,cH uK (pv 1) (pv 2) (a0 _),KB,by rw[cU,<-YA];exact q.1 e]) λe=>?_;have q:=ER (Q:=λz=>Q (.bl z) H) (q.2 e)
 refine jW ho l3 (λe=>#[_,cH ji (pv 1) (pv 2) (a0 _),_,_,KB,KB,q.1 e]) λe=>?_;have q:=ER (Q:=λz=>Q (.bl z) H) (q.2 e)
 refine jW ho l4 (λe=>#[_,cH aev (pv 1) (pv 2) (a0 _),_,_,KB,KB,q.1 e]) λe=>?_;have q:=ER (Q:=λz=>Q (.bl z) H) (q.2 e)
 exact jW ho l5 (λe=>#[_,cH iQ (pv 1) (pv 2) (a0 _),_,_,KB,KB,q.1 e]) λe=>aD #[_,cH qg (pv 1) (pv 2) (a0 _),_,_,KB,KB,q.2 e]
def wt (h:A6 j):j.natAbs.log2<9000:=by
 by_cases z:j.natAbs=0
 .rw[z];decide
 .refine GQ.lt_trans ((GQ.log2_lt z).mpr (show j.natAbs<2 ^ 65 by unfold A6 at h;lia)) [01]
inductive Yg (vs:Gr V) (H:Hp) (Q:VK) (_E:XK):Prop
 |mk (op:Gz) (x y:Int) (_:vs=[.str (dI op), .int x, .int y]) (_:op∈Ih) (_:A6 x) (_:A6 y) (_:iI op y=IN) (_:Q (.int (fm op x y)) H):Yg vs H Q _E
def ag9 (T:Txt K mg a):T.YV.U P w base 2 Yg:=by
 have akw:=ag8 (P:=P) (w:=w) (base:=base) T;refine T.YV.F.ok afh [03] [02];obtain⟨op,x,y,rfl,ho,bx,b_y,hh,q⟩:=h;obtain⟨l1,l2,l3,l4,l5,_⟩:=yw
 have y0:op=Gx "/"\/op=Gx "%"->y≠0:=λo z=>by
  rw[z] at hh;rcases o with o|o
  .rw[o] at hh;exact G6 hh [00]
  .rw[o] at hh;exact G6 hh [00]
 unfold fm at q;have q:=ER (Q:=λz=>Q (.int z) H) q
 refine jW ho l1 (λe=>#[_,aZ eu (pv 1) (pv 2),_,_,KB,KB,q.1 e]) λe=>?_;have q:=ER (Q:=λz=>Q (.int z) H) (q.2 e)
 refine jW ho l2 (λe=>#[_,aZ eM (pv 1) (pv 2),_,_,KB,KB,q.1 e]) λe=>?_;have q:=ER (Q:=λz=>Q (.int z) H) (q.2 e)
 refine jW ho l3 (λe=>#[_,aZ EE (pv 1) (pv 2),_,_,KB,KB, .inl bx,q.1 e]) λe=>?_;have q:=ER (Q:=λz=>Q (.int z) H) (q.2 e)
 refine jW ho l4 (λe=>#[_,aZ Dc (pv 1) (pv 2),_,_,KB,KB,#[y0 (.inl e),wt b_y],q.1 e]) λe=>?_;have q:=ER (Q:=λz=>Q (.int z) H) (q.2 e)
 refine jW ho l5 (λe=>#[_,aZ Gk (pv 1) (pv 2),_,_,KB,KB,y0 (.inr e),q.1 e]) λe=>?_;refine aD #[_,dJ (bS (aq akw hr (by rfl) T.YW.c aC (aa (pv 0) (aa (pv 1) (aa (pv 2) ac))))) aG aG,op,x,y,KB,ho,_,KB,?_];have q:=q.2 e;unfold Oo at q;cases hc:Nh op x y with
 |true=>rw[hc] at q;exact dR q
 |false=>rw[hc] at q;exact cW q
inductive aa3 (vs:Gr V) (H:Hp) (Q:VK) (_E:XK):Prop
 |mk (x:Int) (_:(vs=[.str "-", .int x]/\Q (.int (-x)) H)\/(vs=[.str "!", .int x]/\Q (.int (Oo (x == 0))) H)):aa3 vs H Q _E
def aha (T:Txt K mg a):T.YX.U P w base 1 aa3:=by
 refine T.YX.F.ok afj (λvs H Q E h=>?_) [02]
 .obtain⟨x,⟨rfl,_⟩|⟨rfl,_⟩⟩:=h
  .rfl
  .rfl
 .obtain⟨x,⟨rfl,q⟩|⟨rfl,q⟩⟩:=h
  .refine#[_,(ai (bz (bg cu (pv 0) aK (a0 _)) (ak (aB (aZ eM aG (pv 1)))) aQ)
    (ak (aB (dJ (bg cu (pv 1) aG (a0 _)) aG aG)))),?_]
   refine#[KB,_,KB,bi (λ_=>?_) λe=>G6 e [00]];exact#[_,_,KB,KB,by show Q (.int (0-x)) H;rw[Tr];exact q]
  .refine#[_,(ai (bz (bg cu (pv 0) aK (a0 _)) (ak (aB (aZ eM aG (pv 1)))) aQ)
    (ak (aB (dJ (bg cu (pv 1) aG (a0 _)) aG aG)))),?_]
   refine#[KB,_,KB,bi (λe=>G6 e [00]) λ_=>?_];refine#[KB,_,KB,?_];rw[cU];unfold Oo at q;by_cases hx:x=0
   .rw[show(x == 0)=IN from beq_iff_eq.mpr hx] at q
    rw[HC hx];exact dR q
   .rw[show(x == 0)=IR from beq_eq_false_iff_ne.mpr hx] at q
    rw[He hx];exact cW q
inductive lZ (vs:Gr V) (H:Hp) (Q:VK) (_E:XK):Prop
 |mk (s:GQ) (x:Int) (_:vs=[.int s, .int x]) (_:Q (.bl (oy s x)) H):lZ vs H Q _E
def Yh (T:Txt K mg a):T.Wi.U P w base 1 lZ:=by
 refine T.Wi.F.ok afl [03] [02];obtain⟨st,x,rfl,q⟩:=h;refine#[_,(ai (bz (bg cu (pv 0) (bA (by rfl) T.TF) (a0 _)) (ak (aB (cH cu (pv 1) aG (a0 _)))) aQ)
   (ak (aB (cH uK (pv 1) aG (a0 _))))),?_]
 refine#[KB,_,KB,?_];rw[cU];unfold oy at q;refine bi (λe=>?_) λe=>?_
 .rw[GI (by have:=Hs e;lia)] at q
  exact#[KB,by rw[cU];exact q]
 .rw[GG (by have:=Hu e;lia)] at q
  exact#[KB,by rw[cU];exact q]
inductive Ck (vs:Gr V) (H:Hp) (Q:VK) (_E:XK):Prop
 |mk (s:GQ) (_:vs=[.int s]) (_:Q (.int (ka s)) H):Ck vs H Q _E
def ahb (T:Txt K mg a):T.YZ.U P w base 1 Ck:=by
 refine T.YZ.F.ok afm [03] [02];obtain⟨st,rfl,q⟩:=h;refine#[_,(ak (aB (dJ (bg cu (pv 0) (bA (by rfl) T.TF) (a0 _)) aG aG))),?_];refine#[KB,_,KB,?_];rw[cU];unfold ka at q;refine bi (λe=>?_) λe=>?_
 .rw[GI (by have:=Hs e;lia)] at q
  exact q
 .rw[GG (by have:=Hu e;lia)] at q
  exact q
inductive Dm (vs:Gr V) (H:Hp) (Q:VK) (_E:XK):Prop
 |mk (f:Gz) (p:GB) (l:Gr Int) (k:Gz×GQ) (_:vs=[.str (sb f), .ref p]) (_:H p=GM (.lst (l.map V.int))) (_:(LD.find? λg=>g.1 == f)=GM k) (_:l.length=k.2) (_:Q (.int (VS f l)) H):Dm vs H Q _E
def Yi (h:x=sb s):decide (V.str (sb f)=V.str x)=decide (f=s):=by
 rw[h];exact decide_eq_decide.mpr #[λz=>fY (V.str.inj z),λz=>by rw[z]]
def ahc (T:Txt K mg a):T.YY.U P w base 1 Dm:=by
 refine T.YY.F.ok afk [03] [02];obtain⟨f,p,l,k,rfl,hp,hk,hl,q⟩:=h;refine#[_,(ai (bz (bg cu (pv 0) aK (a0 _)) (ak (aB (aS (Ay KB) (by rfl) T.aei boot_min (aa (pv 1) ac)))) aQ)
   (ai (bz (bg cu (pv 0) aK (a0 _)) (ak (aB (aS (zV KB) (by rfl) T.aeh boot_max (aa (pv 1) ac)))) aQ)
   (ak (aB (aS vh (by rfl) T.Xe boot_abs (aa (eS cX (pv 1) aG (λ_ _=>rfl)) ac)))))),?_]
 unfold VS at q;dsimp only at q;have kf:k.1=f:=by have:=V8 hk;exact beq_iff_eq.mp this
 have km:=Rq hk
 have kk:k=(Gx "min",2)\/k=(Gx "max",2)\/k=(Gx "abs",1):=by
  unfold LD at km
  simpa using km
 refine#[KB,_,KB,?_];rw[Yi (s:=Gx "min") [00]];refine bi (λe=>?_) λe=>?_
 .have e:=Hs e
  rw[GI e] at q;have:l.length=2:=by
   rcases kk with z|z|z
   .rw[hl,z]
   .rw[hl,z]
   .rw[z] at kf;rw[e] at kf;exact G6 kf [00]
  match l,this with
  |[i,j],_=>exact#[p,i,j,KB,hp,q]
 have e1:=Hu e;rw[GG e1] at q;refine#[KB,_,KB,?_];rw[Yi (s:=Gx "max") [00]];refine bi (λe=>?_) λe=>?_
 .have e:=Hs e
  rw[GI e] at q;have:l.length=2:=by
   rcases kk with z|z|z
   .rw[hl,z]
   .rw[hl,z]
   .rw[z] at kf;rw[e] at kf;exact G6 kf [00]
  match l,this with
  |[i,j],_=>exact#[p,i,j,KB,hp,q]
 have e2:=Hu e;rw[GG e2] at q
 have:l.length=1:=by
  rcases kk with z|z|z
  .rw[z] at kf;exact G6 kf.symm e1
  .rw[z] at kf;exact G6 kf.symm e2
  .rw[hl,z]
 match l,this with
 |[i],_=>exact#[p,_,_,V.int i,KB,KB,cJ.of hp,ci (j:=0) KB,i,KB,q]
end OS
namespace OS
open Vbemac
def ko:Exp->GJ (GQ×Gr Exp×Gr HD)
 | .sums e r=>GM (3,e::tw r,vS r)
 | .prods e r=>GM (4,e::tw r,vS r)
 | .cmp op x y=>GM (2,[x,y],[op])
 | .both e l=>GM (1,e::ku l,(ku l).map λ_=>text "&&")
 | .either e l=>GM (0,e::ku l,(ku l).map λ_=>text "||")
 |_=>Ix
def vN (op:HD) (e f:Exp):GJ Int:=match lit e,lit f with
 |some x,some y=>if iI op y=IN then(if Wr (fm op x y) then GM (fm op x y) else Ix) else Ix
 |_,_=>Ix
def Bf:Exp->Gr (HD×Exp)->Exp×Gr (HD×Exp)
 |e,[]=>(e,[])
 |e,(op,f)::r=>match vN op e f with
  |some v=>Bf (mk v) r
  |none=>(e,(op,f)::r)
def DQ:Gr (HD×Exp)->Rest
 |[]=> .nil
 | (op,e)::r=> .cons op e (DQ r)
def Gc:Gr Exp->Exps
 |[]=> .nil
 |e::r=> .cons e (Gc r)
theorem rX: ∀l:Exps,Gc (ku l)=l
 | .nil=>rfl
 | .cons e l=>Hv (Exps.cons e) (rX l)
theorem ya: ∀r:Rest,DQ ((vS r).zip (tw r))=r
 | .nil=>rfl
 | .cons op e r=>Hv (Rest.cons op e) (ya r)
theorem wq: ∀l:Exps,ku (foldAll l)=(ku l).map fold
 | .nil=>by rw[foldAll];rfl
 | .cons e l=>by rw[foldAll];exact Hv (fold e:: ·) (wq l)
theorem AF: ∀r:Rest,tw (Oc r)=(tw r).map fold/\vS (Oc r)=vS r
 | .nil=>by rw[Oc];exact#[KB,KB]
 | .cons op e r=>by rw[Oc];exact#[Hv (fold e:: ·) (AF r).1,Hv (op:: ·) (AF r).2]
def AG:text "-"≠text "+"/\text "*"≠text "+"/\text "*"≠text "-"/\text "/"≠text "+"/\text "/"≠text "-"/\text "/"≠text "*"/\text "%"≠text "+"/\text "%"≠text "-"/\text "%"≠text "*"/\text "%"≠text "/"/\text "+"≠text "/"/\text "+"≠text "%"/\text "-"≠text "/"/\text "-"≠text "%"/\text "*"≠text "/"/\text "*"≠text "%":=by decide+kernel
def CQ {op:HD}(ho:op∈AR) (x y:Int):(match arith op x y 0 with
  | .ok (v,_)=>if writable v=IN then GM v else Ix
  | .error _=>Ix)=if iI op y=IN then(if Wr (fm op x y) then GM (fm op x y) else Ix) else Ix:=by
 have ck: ∀v:Int,(match checked v 0 with
  | .ok (v,_)=>if writable v=IN then GM v else Ix
  | .error _=>Ix)=if Wr v then GM v else Ix:=λv=>by
  have e:writable v=decide (Wr v):=by
   unfold writable BIG;rw[Iv];simp [Wr]
  unfold checked BIG;by_cases w:Wr v
  .rw[GI w]
   split
   .rename_i h
    split at h
    .cases h;rw[e,HC w];rfl
    .cases h
   .rename_i h
    split at h
    .cases h
    .rename_i c
     exact(c (by show _/\_;lia)).elim
  .rw[GG w]
   split
   .rename_i h
    split at h
    .cases h;rw[e,He w];rfl
    .cases h
   .rfl
 have a5:op=text "+"\/op=text "-"\/op=text "*"\/op=text "/"\/op=text "%":=by
  unfold AR at ho
  simpa using ho
 have ok: ∀ {o:HD}{v:Int},arith o x y 0=checked v 0->fm o x y=v->iI o y=IN->(match arith o x y 0 with
  | .ok (v,_)=>if writable v=IN then GM v else Ix
  | .error _=>Ix)=if iI o y=IN then(if Wr (fm o x y) then GM (fm o x y) else Ix) else Ix:=λh1 h2 h3=>by
  rw[h1,h2,GI h3];exact ck _
 have no: ∀ {o:HD},y=0->arith o x y 0= .error (-11)->iI o y=IR->(match arith o x y 0 with
  | .ok (v,_)=>if writable v=IN then GM v else Ix
  | .error _=>Ix)=if iI o y=IN then(if Wr (fm o x y) then GM (fm o x y) else Ix) else Ix:=λ_ h1 h3=>by
  rw[h1,GG (by rw[h3];exact Gu)]
 rcases a5 with rfl|rfl|rfl|rfl|rfl
 .exact ok (v:=x+y) (by simp [arith]) (by simp [fm]) (by simp [iI,AG])
 .exact ok (v:=x-y) (by simp [arith,AG]) (by simp [fm,AG]) (by simp [iI,AG])
 .exact ok (v:=x*y) (by simp [arith,AG]) (by simp [fm,AG]) (by simp [iI,AG])
 .by_cases h:y=0
  .exact no h (by simp [arith,AG,h]) (by simp [iI,h])
  .exact ok (v:=x.fdiv y) (by simp [arith,AG,h]) (by simp [fm,AG]) (by simp [iI,h])
 .by_cases h:y=0
  .exact no h (by simp [arith,AG,h]) (by simp [iI,h])
  .exact ok (v:=x.fmod y) (by simp [arith,AG,h]) (by simp [fm,AG]) (by simp [iI,h])
theorem yn: ∀(r:Rest) (e:Exp),GR r->Bf e ((vS r).zip (tw r))=((lead e r).1,(vS (lead e r).2).zip (tw (lead e r).2))
 | .nil,e,_=>by rw[lead];rfl
 | .cons op f r,e,h=>by
  rw[GR] at h;show Bf e ((op,f)::(vS r).zip (tw r))=_;rw[Bf,lead];unfold vN;cases e1:lit e with
  |none=>rfl
  |some x=>
   cases e2:lit f with
   |none=>rfl
   |some y=>
    dsimp only;rw[<-CQ h.1 x y];cases e3:arith op x y 0 with
    |error c=>rfl
    |ok v=>
     dsimp only;cases e4:writable v.1 with
     |true=>rw[GI KB,GI KB];exact yn r (mk v.1) h.2.2
     |false=>rw[GG Gu,GG Gu];rfl
def CC {op:HD}(h:op∈CM):op≠text "+"/\op≠text "-"/\op≠text "*"/\op≠text "/"/\op≠text "%":=by
 have n:=(ze op h).2;unfold AR at n
 simpa using n
def BL {op:HD}(h:op∈CM) (y:Int):iI op y=IN:=by
 obtain⟨_,_,_,h4,h5⟩:=CC h;simp [iI,h4,h5]
def AZ {op:HD}{x y:Int}(h:op∈CM):fm op x y=truth (Nh op x y):=by
 obtain⟨h1,h2,h3,h4,h5⟩:=CC h;simp [fm,h1,h2,h3,h4,h5]
def chB (s:GQ) (e:Exp) (ps:Gr (HD×Exp)):Exp:=if s=3 then .sums e (DQ ps) else if s=4 then .prods e (DQ ps) else match ps with
 | (op,f)::_=> .cmp op e f
 |[]=>e
def BW {e o:Exp}{s:GQ}{os:Gr Exp}{Qg:Gr HD}(g:GE e) (hc:ko e=GM (s,o::os,Qg)) (h2: ¬s<=1):fold e=(match Bf (fold o) (Qg.zip (os.map fold)) with
  | (x,[])=>x
  | (x,ps)=>chB s x ps):=by
 have rk: ∀(e:Exp) (r:Rest) (c:Exp->Rest->Exp),GR r->(match lead e r with
   | (a, .nil)=>a
   | (a,s)=>c a s)=(match Bf e ((vS r).zip (tw r)) with
   | (x,[])=>x
   | (x,ps)=>c x (DQ ps)):=λe r c h=>by
  rw[yn r e h];rcases lead e r with⟨x,_|⟨op,f,r'⟩⟩
  .rfl
  .show c x _=c x (DQ ((op,f)::(vS r').zip (tw r')))
   rw[show(op,f)::(vS r').zip (tw r')=(vS (.cons op f r')).zip (tw (.cons op f r')) from KB,ya]
 cases e with
 |sums e r=>
  cases hc;rw[GE] at g;have z:=rk (fold o) (Oc r) Exp.sums (Du r g.2).ok;rw[(AF r).1,(AF r).2] at z;rw[fold];exact z
 |prods e r=>
  cases hc;rw[GE] at g;have z:=rk (fold o) (Oc r) Exp.prods (Du r g.2).ok;rw[(AF r).1,(AF r).2] at z;rw[fold];exact z
 |cmp op x y=>
  cases hc;rw[GE] at g;rw[fold];show _=(match Bf (fold o) [(op,fold y)] with
   | (x,[])=>x
   | (x,ps)=>chB 2 x ps)
  rw[Bf];unfold vN;cases e1:lit (fold o) with
  |none=>rfl
  |some u=>
   cases e2:lit (fold y) with
   |none=>rfl
   |some v=>
    dsimp only;rw[GI (BL g.1 _),AZ g.1,GI (vP _)]
    rfl
 |both e l=>cases hc;exact G6 (GY 1) h2
 |either e l=>cases hc;exact G6 (HG 1) h2
 |_=>cases hc
def chD (s:GQ):Gr Exp->Exp
 |[]=> .num 0
 |o::os=>if s=1 then .both o (Gc os) else .either o (Gc os)
def FT (s:GQ) (ops:Gr Exp):Exp:=
 if(ops.head?.bind lit).any (oy s)=IN then .num (ka s).toNat
 else if Ix∈ops.map lit then chD s ops
 else if(ops.filterMap lit).any (oy s)=IN then .num (ka s).toNat else .num (1-ka s).toNat
theorem nH: ∀l:Exps,lits l=if Ix∈(ku l).map lit then Ix else GM ((ku l).filterMap lit)
 | .nil=>rfl
 | .cons e l=>by
  rw[lits,nH l];show _=if Ix∈lit e::(ku l).map lit then Ix else GM ((e::ku l).filterMap lit)
  cases h:lit e with
  |none=>rw[GI (c:=Ix∈Ix::(ku l).map lit) (.head _)]
  |some v=>
   rw[N0 h];by_cases c:Ix∈(ku l).map lit
   .rw[GI c,GI (.tail _ c)]
   .rw[GG c,GG (λz=>by cases z with|tail _ z=>exact c z)]
def yf {s:GQ}{p:Int->HK}{o:Exp}{os:Gr Exp}(hp: ∀v,oy s v=p v):FT s (o::os)=(match lit o,(if Ix∈os.map lit then Ix else GM (os.filterMap lit)) with
  |some v,w=>if p v=IN then .num (ka s).toNat else(match w with
   |some w=>if w.any p=IN then .num (ka s).toNat else .num (1-ka s).toNat
   |none=>chD s (o::os))
  |none,_=>chD s (o::os)):=by
 have e:oy s=p:=funext hp;unfold FT;rw[e,Wa,G8,Qm];cases h:lit o with
 |none=>rw[GG (by rw[GJ.any_none];exact Gu),GI (.head _)]
 |some v=>
  rw[N0 h,GJ.any_some];dsimp only;cases hv:p v with
  |true=>rfl
  |false=>
   rw[GG Gu,GG Gu];by_cases c:Ix∈os.map lit
   .rw[GI (.tail _ c),GI c]
   .rw[GG (λz=>by cases z with|tail _ z=>exact c z),GG c,Ka,hv,PL]
def Er {e:Exp}{s:GQ}{ops:Gr Exp}{Qg:Gr HD}(hc:ko e=GM (s,ops,Qg)) (h1:s<=1):fold e=FT s (ops.map fold):=by
 have tr: ∀b:HK,mk (truth b)= .num (if b=IN then 1 else 0):=by intro b;cases b<;>rfl
 cases e with
 |both e l=>
  cases hc;have e2:chD 1 (fold e::(ku l).map fold)= .both (fold e) (foldAll l):=by rw[<-wq];show Exp.both _ _=_;rw[rX]
  rw[fold,nH,wq,G8,yf (p:=λv=>v == 0) (λv=>rfl),e2];split
  .rename_i h;rw[h];rfl
  .rename_i v w h1 h2 h3
   rw[h2,h3,tr];dsimp only;rw[GG (c:=(v == 0)=IN) (by rw[beq_iff_eq];exact h1)];cases ha:w.any λv=>v == 0 with
   |true=>
    rw[GI (c:=IN=IN) KB,GG (c:=(w.all λx=>x !=0)=IN)]
    .rfl
    .intro z
     obtain⟨y,hy,hz⟩:=KY.mp ha;have:=LG.mp z y hy;rw[beq_iff_eq.mp hz] at this;cases this
   |false=>
    rw[GG (c:=IR=IN) Gu,GI (c:=(w.all λx=>x !=0)=IN)]
    .rfl
    .refine LG.mpr λy hy=>?_
     have:=Qi.mp ha y hy;exact bne_iff_ne.mpr λz=>this (beq_iff_eq.mpr z)
  .rename_i h1 h2
   cases h3:lit (fold e) with
   |none=>rfl
   |some v=>
    dsimp only;cases h4:(if Ix∈((ku l).map fold).map lit then Ix else GM (((ku l).map fold).filterMap lit)) with
    |none=>
     rw[GG];intro z;exact h1 (by rw[h3,beq_iff_eq.mp z])
    |some w=>exact(h2 v w h3 h4).elim
 |either e l=>
  cases hc;have e2:chD 0 (fold e::(ku l).map fold)= .either (fold e) (foldAll l):=by rw[<-wq];show Exp.either _ _=_;rw[rX]
  rw[fold,nH,wq,G8,yf (p:=λv=>v !=0) (λv=>rfl),e2];split
  .rename_i w h1 h2
   rw[h1,h2,tr];dsimp only;rw[GG (c:=(0 !=(0:Int))=IN) [01]];cases w.any λv=>v !=0<;>rfl
  .rename_i h1 h2
   rw[h1,h2]
   rfl
  .rename_i v h0 h1 h2
   rw[h0];dsimp only;rw[GI]
   .rfl
   .refine bne_iff_ne.mpr λz=>?_
    cases h4:(if Ix∈((ku l).map fold).map lit then Ix else GM (((ku l).map fold).filterMap lit)) with
    |none=>exact h2 h4 z
    |some w=>exact h1 w h4 z
  .rename_i h1
   rw[h1]
 |sums e r=>cases hc;exact G6 h1 (by decide)
 |prods e r=>cases hc;exact G6 h1 (by decide)
 |cmp op x y=>cases hc;exact G6 h1 (by decide)
 |_=>cases hc
end OS
namespace OS
open PySem PySem.Spec L2
open PyProof.Rows hiding St
variable {P:Hr}{w:HW}{K:Gy}{mg:Ha->GJ GC}{base:Im}{a:bI}
section
variable {M:GB->Prop}{H:Hp}
theorem nP: ∀ {l:Je}{us:Gr V},bj a M H l us->Paired (λu e=>ag a M H e u) us (ku l)
 | .nil,us,h=>by unfold bj at h;rw[h];exact .nil
 | .cons e l,us,h=>by
  unfold bj at h;obtain⟨u,vs,rfl,h1,h2⟩:=h;exact .cons h1 (nP h2)
theorem rQ: ∀ {l:ND}{us ss:Gr V},cR a M H l us ss->Paired (λu e=>ag a M H e u) us (tw l)/\ss=(vS l).map λo=>V.str (dI o)
 | .nil,us,ss,h=>by unfold cR at h;rw[h.1,h.2];exact#[.nil,KB]
 | .cons op e l,us,ss,h=>by
  unfold cR at h;obtain⟨u,vs,ts,rfl,rfl,h1,h2⟩:=h;obtain⟨g1,g2⟩:=rQ h2;exact#[.cons h1 g1,by rw[g2];rfl]
inductive Ge (a:bI) (M:GB->Prop) (H:Hp) (s:GQ) (ops:Gr GD) (Qg:Gr Gz) (v:V):Prop
 |mk (oq gq:V) (us:Gr V) (_:bP M H a.Ky [("strength", .int s),("operands",oq),("signs",gq)] v) (_:bM M H us oq) (_:Paired (λu e=>ag a M H e u) us ops) (_:bM M H (Qg.map λo=>V.str (dI o)) gq):Ge a M H s ops Qg v
def o3 {e:GD}{v:V}{s:GQ}{ops:Gr GD}{Qg:Gr Gz}(h:ag a M H e v) (hc:ko e=GM (s,ops,Qg)):Ge a M H s ops Qg v:=by
 have sg: ∀(t:Gz) (x:Ha) (l:Je) (us:Gr V),dI t=x->us.length=(ku l).length->us.map (λ_=>V.str x)=((ku l).map λ_=>t).map λo=>V.str (dI o):=λt x l us e hl=>by
  rw[JX,<-e,OC,hl];exact(OC ..).symm
 cases e with
 |sums e r=>
  unfold ag at h;cases hc;obtain⟨_,_,u,us,ss,h1,h2,h3,h4,h5⟩:=h;obtain⟨g1,g2⟩:=rQ h5;exact#[_,_,_,h1,h2, .cons h4 g1,by rw[<-g2];exact h3]
 |prods e r=>
  unfold ag at h;cases hc;obtain⟨_,_,u,us,ss,h1,h2,h3,h4,h5⟩:=h;obtain⟨g1,g2⟩:=rQ h5;exact#[_,_,_,h1,h2, .cons h4 g1,by rw[<-g2];exact h3]
 |cmp op x y=>
  unfold ag at h;cases hc;obtain⟨_,_,u1,u2,h1,h2,h3,h4,h5⟩:=h;exact#[_,_,_,h1,h2, .cons h4 (.cons h5 .nil),h3]
 |both e l=>
  unfold ag at h;cases hc;obtain⟨_,_,u,us,h1,h2,h3,h4,h5⟩:=h;have g1:=nP h5;exact#[_,_,_,h1,h2, .cons h4 g1,by rw[<-sg (Gx "&&") "&&" l us [00] (cr g1)];exact h3]
 |either e l=>
  unfold ag at h;cases hc;obtain⟨_,_,u,us,h1,h2,h3,h4,h5⟩:=h;have g1:=nP h5;exact#[_,_,_,h1,h2, .cons h4 g1,by rw[<-sg (Gx "||") "||" l us [00] (cr g1)];exact h3]
 |_=>cases hc
theorem lz: ∀ {l:Gr GD}{us:Gr V},Paired (λu e=>ag a M H e u) us l->bj a M H (Gc l) us
 |_,_, .nil=>by unfold Gc bj;rfl
 |_,_, .cons h t=>by unfold Gc bj;exact#[_,_,KB,h,lz t]
theorem sW: ∀ {ps:Gr (Gz×GD)}{us:Gr V},Paired (λu e=>ag a M H e u) us (ps.map λp=>p.2)->cR a M H (DQ ps) us ((ps.map λp=>p.1).map λo=>V.str (dI o))
 |[],_, .nil=>by unfold DQ cR;exact#[KB,KB]
 |p::ps,_, .cons h t=>by unfold DQ cR;exact#[_,_,_,KB,KB,h,sW t]
def aa4 {x:GD}{ps:Gr (Gz×GD)}(h:Ge a M H s (x::ps.map λp=>p.2) (ps.map λp=>p.1) v) (hs:s=3\/s=4\/(s=2/\ps.length=1)):ag a M H (chB s x ps) v:=by
 obtain⟨oq,gq,us,i,l1,pr,l2⟩:=h;cases pr with
 |cons h1 pr=>
  rcases hs with rfl|rfl|⟨rfl,hl⟩
  .show ag a M H (.sums x (DQ ps)) v
   unfold ag;exact#[_,_,_,_,_,i,l1,l2,h1,sW pr]
  .show ag a M H (.prods x (DQ ps)) v
   unfold ag;exact#[_,_,_,_,_,i,l1,l2,h1,sW pr]
  .match ps,hl with
   |[(op,f)],_=>
    show ag a M H (.cmp op x f) v
    unfold ag;cases pr with
    |cons h2 pr=>
     cases pr;exact#[_,_,_,_,i,l1,l2,h1,h2]
def aa5 {o:GD}{os:Gr GD}{t:Gz}(h:Ge a M H s (o::os) (os.map λ_=>t) v) (hs:(s=1/\t=Gx "&&")\/(s=0/\t=Gx "||")):ag a M H (chD s (o::os)) v:=by
 obtain⟨oq,gq,us,i,l1,pr,l2⟩:=h;cases pr with
 | @cons u _ us _ h1 pr=>
  have e:((os.map λ_=>t).map λo=>V.str (dI o))=us.map λ_=>V.str (dI t):=by
   rw[JX,OC,cr pr];exact OC ..
  rw[e] at l2;rcases hs with⟨rfl,rfl⟩|⟨rfl,rfl⟩
  .show ag a M H (.both o (Gc os)) v
   unfold ag;exact#[_,_,_,_,i,l1,l2,h1,lz pr]
  .show ag a M H (.either o (Gc os)) v
   unfold ag;exact#[_,_,_,_,i,l1,l2,h1,lz pr]
end
inductive Nd1 (a:bI) (M:GB->Prop) (H:Hp) (i:GQ) (v:V):Prop
 |mk {C:GB}{fs:Gr (Ha×V)}(_:bP M H C fs v) (_:(tq a)[i]?=GM C):Nd1 a M H i v
def rA {a:bI}{M:GB->Prop}{H:Hp}{e:GD}{v:V}(h:ag a M H e v):Nd1 a M H (tJ e) v:=by
 cases e<;>unfold ag at h
 .exact#[h,KB]
 .exact#[h,KB]
 .obtain⟨_,_,h,_⟩:=h;exact#[h,KB]
 .obtain⟨_,h,_⟩:=h;exact#[h,KB]
 .obtain⟨_,h,_⟩:=h;exact#[h,KB]
 .obtain⟨_,_,_,_,_,h,_⟩:=h;exact#[h,KB]
 .obtain⟨_,_,_,_,_,h,_⟩:=h;exact#[h,KB]
 .obtain⟨_,_,_,_,h,_⟩:=h;exact#[h,KB]
 .obtain⟨_,_,_,_,h,_⟩:=h;exact#[h,KB]
 .obtain⟨_,_,_,_,h,_⟩:=h;exact#[h,KB]
 .obtain⟨_,_,_,h,_⟩:=h;exact#[h,KB]
 .obtain⟨_,_,_,h,_⟩:=h;exact#[h,KB]
section
variable {M:GB->Prop}{B H:Hp}{te:TE}{R:HK->Hp->Prop}
def Pa.mono {X:Cx}{σ:L2.St}{Q Q':Gr V->Hp->Prop}(h:Pa X es σ H Q) (im: ∀b H,Q b H->Q' b H):Pa X es σ H Q':=by
 obtain⟨t,ht,q⟩:=h;refine#[λσ H Q'=> ∃Q:Gr V->Hp->Prop,(∀b H,Q b H->Q' b H)/\t σ H Q,λpos pins s σ H Q' I h=>?_,Q,im,q];obtain⟨Q,im,q⟩:=h;exact cG (ht pos pins s σ H Q I q) λc s' ⟨v,H',I',r,q⟩=>#[v,H',I',r,im _ _ q]
def gT {X:Cx}{σ:L2.St}(N:jK X.K a) (n:X.mg "isinstance"=Ix) (h:Nd1 a M B i v) (sm:aI B H) (hj:(tq a)[j]?=GM C) (hm:X.mg c=GM (.ref C)) (he:PE X e te) (hv: ∀Q:VK,Q v H->te σ H Q) (q:R (decide (i=j)) H) (hg:Gl X "isinstance":=by rfl) (hc:Gl X c:=by rfl) (hx:(c == ("__debug__":Ha))=IR:=by decide) (Mu:Hf [e, .Name c p2] X.env=(IR,eval e X.env)::Hf [.Name c p2] X.env:=by rfl):
  Pt X (.Call (.Name "isinstance" p1) [e, .Name c p2] [] p3) σ H R:=by
 obtain @⟨C',fs,⟨p,dx,rfl,_,z⟩,hC⟩:=h;have i7:i<15:=(Ho.mp hC).1;have j7:j<15:=(Ho.mp hj).1;have k:=Hv (λl:Gr (Gr (GJ HK))=>(l[i]?.bind λr=>r[j]?)) N.Zv
 have k:Jk X.K (.ref C') (.ref C)=GM (decide (i=j)):=by simpa [hC,hj,KS i7,KS j7] using k
 exact dq #[_,aS bX hg n ID (aa he (aa (dn hc hm hx) ac) Mu) [01] [01] Mu KB,hv _ #[_,C,_,_,KB,(N.ty _ (Iz hC)).of (sm _ _ z),k,_,KB,q]]
def gZ {X:Cx}{σ:L2.St}{Q:VK}{C:GB}{fs:Gr Ha}(nb:NB X c C fs) (hr:cx 2 X.A) (q:Pa X (e::es) σ H λws H1=>ws.length=fs.length/\ ∀x dx H2,H1 x=Ix->aI H1 H2->H2 x=GM (.ins C dx (fs.zip ws))->Q (.ref x) H2)
  (hg:Gl X c:=by rfl) (hx:(c == ("__debug__":Ha))=IR:=by decide) (he:Hf (e::es) X.env=(IR,eval e X.env)::Hf es X.env:=by rfl) (MU:(J9 p4 (Hf es X.env)).any (·.1)=IR:=by rfl):Pe X (.Call (.Name c p1) (e::es) [] p4) σ H Q:=by
 obtain⟨M,G,b,hm⟩:=nb;refine#[_,kX M G hr hg hm b .nil aC uZ hx he MU,q.mono λws H1 ⟨hl,q⟩ x dx h1 h2 ne=>?_];rw[G7];exact#[x,dx,ws,KB,hl,aj,λH2 e k=>#[KB,q x dx H2 h1 (λb o e=>k b o (by rw[af (aw e h1),af (aw e h2)];exact e) (aw e h1)) e]]
end
abbrev i8 (M:GB->Prop) (H:Hp):Prop:= ∀p,M p->H p≠Ix
def i8.up {M:GB->Prop}{H H':Hp}(h:i8 M H) (s:aI H H'):i8 M H':=λp m z=>by
 cases e:H p with
 |none=>exact h p m e
 |some o=>rw[s _ _ e] at z;cases z
def bP.Lo {M:GB->Prop}{B H:Hp}{X:Cx}{Q:VK}(h:bP M B C fs v) (s:aI B H) (cl:iZ X.K C) (no:aH X.K C f) (l:fs.lookup f=GM u) (q:Q u H):pd X.K f Q v H:=by
 obtain⟨p,dx,rfl,_,z⟩:=h;exact#[p,C,dx,fs,u,KB,s _ _ z,cl,no,l,q]
def aJ {H:Hp} :aI H H:=λ_ _ e=>e
def vG {K:Gy}{A B:Type}{F:(GB->Prop)->Hp->B->V->Prop}{M:GB->Prop}{L:GB}{xs:Gr V}{l:Gr A}{g:A->B}{te ti:TE}{σ:L2.St}{H:Hp}{Q:VK}{i:GQ}
  (kp: ∀ {M M':GB->Prop}{H H':Hp}{b:B}{v:V},d7 M M' H H'->F M H b v->F M' H' b v)
  (hL:H L=GM (.lst xs)) (hl:xs.length=l.length) (hn:l.length<=6000000) (hM:i8 M H) (hv: ∀Q:VK,Q (.ref L) H->ti σ H Q)
  (step: ∀(j:GQ) (x:V) (o:A) (H':Hp) (M1:GB->Prop),xs[j]?=GM x->l[j]?=GM o->aI H H'->d7 M M1 H H'->i8 M1 H'-> ∀Q:VK,(∀H2 u,aI H' H2->F M1 H2 (g o) u->Q u H2)->te ((dO σ [i]).set i (GM x)) H' Q)
  (q: ∀H' D us,aI H H'-> ¬M D->H' D=GM (.lst us)->Paired (λu b=>F M H' b u) us (l.map g)->Q (.ref D) H')
  (hw: ∀x,dO ((dO σ [i]).set i (GM x)) [i]=dO σ [i]):EZ (qK K ti) (gI i) qc te [i] σ H Q:=by
 refine hv _ #[L,KB,#[_,cJ.of hL],λD hD=>?_];refine rp (K:=K) (a:=L) (xs:=xs) (λj H'=>aI H H'/\ ∃us,H' D=GM (.lst us)/\Paired (λu b=>F (λp=>M p\/p=D) H' b u) us ((l.map g).take j)) #[a8 hD,[],aj,by rw[Gr.take_zero];exact .nil] (λj H' _ z=>cJ.of (z.1 _ _ hL)) ?_ ?_
 .rintro j x H' hj ⟨s1,us,SD,pr⟩
  have lt:j<l.length:=by rw[<-hl];exact(Ho.mp hj).1
  refine#[hw x,?_];unfold qc;dsimp only;rw[GI KB];refine step j x l[j] H' (λp=>M p\/p=D) hj (Jb lt) s1 (λb o e m=>#[λz=>z.elim m (λz=>by rw[z,hD] at e;cases e),s1 _ _ e]) (λp m=>m.elim (hM.up s1 p) λz=>by rw[z,SD];exact GJ.some_ne_none _) _ λH2 u s2 hu=>#[us,s2 _ _ SD,?_,λb o e=>by rw[af (aw e hD)];exact s2 _ _ (s1 b o e),us++[u],aj,?_]
  .rw[cr pr,Mx]
   exact HH (G0 (GQ.min_le_right _ _) (by rw[GK];exact hn)) [01]
  .rw[NP,HI,Jb lt]
   refine gG (Paired.Nt pr λv b h=>kp (λb o e m=>#[m,by rw[af λz=>m (.inr z)];exact s2 _ _ e]) h) (kp (λb o e m=>#[m,by rw[af λz=>m (.inr z)];exact e]) hu)
 .rintro H' ⟨s1,us,SD,pr⟩
  rw[hl,Kl (by rw[GK];exact GY _)] at pr;exact q H' D us s1 (λm=>hM D m hD) SD (Paired.Nt pr λv b h=>kp (λb o e m=>#[λz=>m (.inl z),e]) h)
section
variable {X:Cx}{y:Ha}{elt it:Jc}{scope:Scope}{te ti:TE}{σ:L2.St}{H:Hp}{Q:VK}{i:GQ}{p1 p2 p5 py:Pos}{D:dB}{ss:Gr Stmt}
def Eb (nd:X.N.Nodup) (hi:PE X it ti) (ok:pA X.N X.env.scope scope [(y,i)])
  (he: ∀(s:GH) (H:Hp) (C:GB) (cl:Gr (Ha×GB)) (fp:Gr GB),PE (X.Q0 s H scope (KA scope cl C X.env) fp) elt te)
  (q:EZ (qK X.K ti) (gI i) qc te [i] σ H Q) (hg: ∀(s:GH) (H:Hp) (C:GB) (cl:Gr (Ha×GB)) (fp:Gr GB),PG (X.Q0 s H scope (KA scope cl C X.env) fp) (.Name y p1) (gI i))
  (hc:X.calm=IN:=by rfl) (hs: ∀x,KQ it X.env x=pure x:=by intro _;rfl):
  Pe X (.ListComp elt [#[.Name y p1,it,[],0]] scope p2) σ H Q:=#[_,yL hc nd (fN hi) ok hg (λ_ _ _ _ _=>lc) he hs,q]
def sh (j:GQ) {x:Ha}(nd:X.N.Nodup) (hi:PE X it ti) (ok:pA X.N X.env.scope scope [(y,i)])
  (he: ∀(s:GH) (H:Hp) (C:GB) (cl:Gr (Ha×GB)) (fp:Gr GB),PE (X.Q0 s H scope (KA scope cl C X.env) fp) elt te)
  (q:EZ (qK X.K ti) (gI i) qc te [i] σ H λv H'=>Bd X ss D (σ.set j (GM v)) H') (hg: ∀(s:GH) (H:Hp) (C:GB) (cl:Gr (Ha×GB)) (fp:Gr GB),PG (X.Q0 s H scope (KA scope cl C X.env) fp) (.Name y p1) (gI i))
  (hsw:Lf (.ListComp elt [#[.Name y p1,it,[],0]] scope p2) (GM (.Name x py)) p5.line X.env=pure IN)
  (hy:X.N[j]?=GM x:=by rfl) (hyl:X.env.scope.names.lookup x=GM .local:=by rfl) (hc:X.calm=IN:=by rfl) (hs: ∀x,KQ it X.env x=pure x:=by intro _;rfl):
  Bd X (.Assign [.Name x py] (.ListComp elt [#[.Name y p1,it,[],0]] scope p2) p5::ss) D σ H:=dA (BF hc nd hy hyl hsw (fN hi) ok hg (λ_ _ _ _ _=>lc) he hs) q
end
def ahd (P:Hr) (w:HW) (K:Gy) (ty td:TE):TE:=λσ H Q=>ty σ H λy H1=>td σ H1 λx H2=> ∃a k IB,x= .ref a/\vT P w K a IB/\y=kV k/\Q (.bl (cT IB k).isSome) H2
def Fl {X:Cx}(hi:PE X i ty) (ho:PE X o td):PC X .In i o (ahd X.prog X.w X.K ty td):=by
 intro pins s σ H Q I h;refine bin hi ho I h λv u s2 x y H2 I2 rx ry q=>?_;obtain⟨a,k,IB,ey,kd,ex,q⟩:=q;subst ex;subst ey;cases ry;obtain⟨vs,dd,rel⟩:=kd.at_;refine wpAny_in_of (pk rx) kd.no (dd _ I2.NY).mapOf ?_;rw[<-(rel.val k).Mo];exact#[.bl _,H2,I2.tok _,KB,q]
def pW {x Ja:Ha}{st:Stmt}{f:GB}{fd:Ia}{N ps:Gr Ha}{k:GQ}{sp:Sp}(F:sd K x Ja st f fd)
  (S:ax N ps (ah st)) (len: ∀vs H Q E,sp vs H Q E->vs.length=ps.length)
  (K9: ∀(IF:GC) (A:IE) (outer:Gr Env) (s:GH) (H:Hp) (vs:Gr V) (Q:VK) (E:XK),cx k (A.deeper (Lg Ja (ah st) s.heap.objs.size f IF))->sp vs H Q E->
   let X:=(gU nJ P w K mg base N Ja (ah st) f IF A outer s H E).nox
   let D:dB:= { nx:=λ_ H'=>Q .Ko H',rt:=Q }
   Bd X (bq st) D (start N vs) H):b6 P w K mg base nJ (k+1) f fd ps sp:=F.ok S len K9
def lP:GJ Int->V
 |none=> .Ko
 |some z=> .int z
inductive aa6 (a:bI) (vs:Gr V) (H:Hp) (Q:VK) (_E:XK):Prop
 |mk {e:GD}{v:V}{M:GB->Prop}(_:vs=[v]) (_:ag a M H e v) (_:Q (lP (IZ e)) H):aa6 a vs H Q _E
def ro {X:Cx}{σ:L2.St}{H:Hp}{R:HK->Hp->Prop}{e f g:Jc}(q:Pt X e σ H λb H'=>if b=IN then(Pt X f σ H' λb H'=>if b=IN then Pt X g σ H' R else R IR H') else R IR H'):Pt X (.BoolOp .And [e,f,g] p1) σ H R:=
 #[_,(lX gO (lX gO (lG gO))).pt,q.mono λb H' q=>by
  cases b with
  |false=>exact q
  |true=>exact Pt.mono q λb H' q=>by cases b<;>exact q]
def Ed {X:Cx}{σ:L2.St}{H:Hp}{R:HK->Hp->Prop}{e f g:Jc}(q:Pt X e σ H λb H'=>if b=IN then R IN H' else(Pt X f σ H' λb H'=>if b=IN then R IN H' else Pt X g σ H' R)):Pt X (.BoolOp .Or [e,f,g] p1) σ H R:=
 #[_,(qS gO (qS gO (pH gO))).pt,q.mono λb H' q=>by
  cases b with
  |true=>exact q
  |false=>exact Pt.mono q λb H' q=>by cases b<;>exact q]
def vb (T:Txt K mg a) (I:jK K a):T.VY.U P w base 1 (aa6 a):=by
 refine pW T.VY.F ajN [03] [02];intro X D;obtain @⟨e,v,M,rfl,ev,q⟩:=h;have nd:=rA ev;refine aY (gT I T.HR nd aJ (j:=0) KB T.OZ (pv 0) [08] (eR (λz=>?_) λz=>?_))
 .obtain⟨n,rfl⟩: ∃x,e= .num x:=by cases e<;>first|exact#[_,KB]|cases z
  unfold ag at ev;exact aD (cB (bW 0 (ev.Lo aJ T.NV T.LN KB q)) KB)
 refine aY (ro (gT I T.HR nd aJ (j:=3) KB T.OH (pv 0) [08] (eR (λz3=>?_) λz3=>cW (aD (cg ?_)))))
 .have un:(∃x,e= .neg x)\/ ∃x,e= .not x:=by cases e<;>first|exact .inl #[_,KB]|exact .inr #[_,KB]|cases z3
  rcases un with⟨x,rfl⟩|⟨x,rfl⟩
  .unfold ag at ev
   obtain⟨u,i,ex⟩:=ev;refine cA cu (cB (bW 0 (i.Lo aJ T.Lw T.Lb KB (vD #[KB,_,KB,eU (HC KB) (gT I T.HR (rA ex) aJ (j:=0) KB T.OZ [07] (λ_ q=>i.Lo aJ T.Lw T.KJ KB q) (eR (λz=>?_) λz=>aD (cg ?_)))]))) KB)
   .obtain⟨n,rfl⟩: ∃y,x= .num y:=by cases x<;>first|exact#[_,KB]|cases z
    unfold ag at ex;exact aD (By eM (gS (cB (cB (bW 0 (i.Lo aJ T.Lw T.KJ KB (ex.Lo aJ T.NV T.LN KB #[_,_,KB,KB,by rw[Tr];exact q]))) KB) KB)))
   .have:IZ (.neg x)=Ix:=by cases x<;>first|rfl|exact G6 KB z
    rw[this] at q;exact q
  .unfold ag at ev
   obtain⟨u,i,ex⟩:=ev;exact cA cu (cB (bW 0 (i.Lo aJ T.Lw T.Lb KB (vD #[KB,_,KB,e8 [00] (cW (aD (cg q)))]))) KB)
 .have:IZ e=Ix:=by cases e<;>first|rfl|exact G6 KB z|exact G6 KB z3
  rw[this] at q;exact q
inductive ahe (a:bI) (vs:Gr V) (H:Hp) (Q:VK) (_E:XK):Prop
 |mk {z:Int}(_:vs=[.int z]) (_: ∀H' u,aI H H'->(∀M,i8 M H->ag a M H' (RA z) u)->Q u H'):ahe a vs H Q _E
def nB {a:bI}{M:GB->Prop}{H H2:Hp}{n:GQ}(hM:i8 M H) (h:H x=Ix) (e:H2 x=GM (.ins a.L0 dx [("worth", .int (n:GQ))])):ag a M H2 (.num n) (.ref x):=by
 unfold ag;exact#[x,dx,KB,λm=>hM x m h,e]
def aa7 (T:Txt K mg a):T.d_P.U P w base 3 (ahe a):=by
 refine pW T.d_P.F ajO [03] [02];intro X D;obtain @⟨z,rfl,q⟩:=h;unfold RA at q;refine aY (cA iQ (bW 0 (gS #[_,_,KB,KB,_,KB,eR (λhz=>?_) λhz=>?_])))
 .rw[GI hz] at q
  refine aD (gZ (oS T) hr (aX (vD (aX (gZ (gY T) hr (aX (By eM (gS (bW 0 #[_,_,KB,KB,ca #[KB,λx dx H2 hx s2 e2=>ca #[KB,λy dy H3 hy s3 e3=>q H3 _ (s2.trans s3) λM hM=>?_]]])))))))));unfold ag;refine#[_,#[y,dy,KB,λm=>hM.up s2 y m hy,e3],nB (x:=x) (dx:=dx) hM hx (s3 _ _ ?_)];rw[e2];show GM (HO.ins _ _ [(_,V.int (0-z))])=_;rw[Tr,UO (by lia)]
 .rw[GG hz] at q
  refine aD (gZ (gY T) hr (aX (bW 0 (ca #[KB,λx dx H2 hx s2 e2=>q H2 _ s2 λM hM=>nB (dx:=dx) hM hx ?_]))));rw[e2,UO (by lia)]
  rfl
inductive ahf (a:bI) (vs:Gr V) (H:Hp) (Q:VK) (_E:XK):Prop
 |mk {op:Gz}{e f:GD}{u v:V}{M:GB->Prop}(_:vs=[.str (dI op),u,v]) (_:op∈Ih) (_:ag a M H e u) (_:ag a M H f v) (_:GE e) (_:GE f) (_: ∀H',aI H H'->Q (lP (vN op e f)) H'):ahf a vs H Q _E
def ahg (T:Txt K mg a) (I:jK K a):T.Ze.U P w base 3 (ahf a):=by
 refine pW T.Ze.F zw [03] [02];intro X D;obtain @⟨op,e,f,u,v,M,rfl,ho,he,hf,ge,gf,q⟩:=h;unfold vN at q;refine aW 3 zw.nd (cj (aX (bW 1 (ca (.mk KB he ?_)))) (vb T I) (hr.mono [01]) T.VY.c aC);refine aW 4 zw.nd (cj (aX (bW 2 (ca (.mk KB hf ?_)))) (vb T I) (hr.mono [01]) T.VY.c aC);cases h1:IZ e with
 |none=>rw[h1] at q;exact aY (Ed (cA fW (bW 3 (cg #[KB,_,KB,eU (HC KB) (dR (aD (cg (q H aJ))))]))))
 |some x=>
  cases h2:IZ f with
  |none=>rw[h1,h2] at q;exact aY (Ed (cA fW (bW 3 (cg #[KB,_,KB,e8 (He nofun) (cA fW (bW 4 (cg #[KB,_,KB,eU (HC KB) (dR (aD (cg (q H aJ))))])))]))))
  |some y=>
   rw[h1,h2] at q;dsimp only at q;refine aY (Ed (cA fW (bW 3 (cg #[KB,_,KB,e8 (He nofun) (cA fW (bW 4 (cg #[KB,_,KB,e8 (He nofun) (kT (dq (cj (aX (bW 0 (aX (bW 4 (ca (.mk op y KB ho λH1 s1=>#[_,KB,?_])))))) (ag7 T) (hr.mono [01]) T.YU.c aC)))])))]))));cases hh:iI op y with
   |false=>
    rw[hh,GG Gu] at q;exact dR (aD (cg (q H1 s1)))
   |true=>
    rw[hh,GI KB] at q;have b1:=sv ge h1;have b2:=sv gf h2;refine cW (aW 5 zw.nd (cj (aX (bW 0 (aX (bW 3 (aX (bW 4 (ca (.mk op x y KB ho (by unfold A6;lia) (by unfold A6;lia) hh ?_)))))))) (ag9 T) (hr.mono [01]) T.YV.c aC));refine aD #[_,dJ (bg iQ (aS vh (by rfl) T.Xe boot_abs (aa (pv 5) ac)) (bA (by rfl) T.TH) (a0 _)) (pv 5) mh,_,KB,_,_,KB,KB,_,KB,eR (λz=>?_) λz=>?_]
    .rw[GI (by show _/\_;split at z<;>lia)] at q
     exact q H1 s1
    .rw[GG (by intro y;have y:_/\_:=y;split at z<;>lia)] at q
     exact q H1 s1
structure qX (a:bI) (k:GQ) (M:GB->Prop) (H:Hp) (e:GD) (v:V):Prop where
 at_:ag a M H e v
 ok:GE e
 ms:mS (xF e)<=300000
 fr:fr e+2<=k
def qX.up {a:bI}{M:GB->Prop}{H H':Hp}{e:GD}{v:V}(r:qX a k M H e v) (s:aI H H'):qX a k M H' e v:=#[ag.keep (aI.keeps s) e r.at_,r.ok,r.ms,r.fr]
inductive rV (a:bI) (k:GQ) (ok:GD->Prop) (vs:Gr V) (H:Hp) (Q:VK) (_E:XK):Prop
 |mk {e:GD}{v:V}{M:GB->Prop}(_:vs=[v]) (_:i8 M H) (_:qX a k M H e v) (_:ok e) (_: ∀H' u,aI H H'->ag a M H' (HL e) u->Q u H'):rV a k ok vs H Q _E
abbrev f9 (P:Hr) (w:HW) (K:Gy) (mg:Ha->GJ GC) (base:Im) (a:bI) (k:GQ):Prop:=b6 P w K mg base nJ k a.f_u a.adI ["exp"] (rV a k λ_=>True)
def eB {X:Cx}{a:bI}{σ:L2.St}{M:GB->Prop}{B H:Hp}{Q:VK}{x:GD}{u:V}(T:Txt X.K X.mg a) (S:f9 X.prog X.w X.K X.mg X.base a k) (hr:cx k X.A) (i:bP M B C fs v) (s:aI B H) (cl:iZ X.K C) (no:aH X.K C f) (hl:fs.lookup f=GM u) (hM:i8 M B) (r:qX a k M B x u) (hv:σ[0]?=GM (GM v)) (q: ∀H' u',aI B H'->aI H H'->ag a M H' (HL x) u'->Q u' H')
  (n0:X.N[0]?=GM y:=by rfl) (v0:tu X.env.scope y:=by exact HF KB) (hd:(y == ("__debug__":Ha))=IR:=by decide) (RB:(y == ("__classdict__":Ha))=IR:=by decide) (hg:Gl X "simpler":=by rfl) (hb:JN (.Name y p2) f X.env (eval (.Name y p2) X.env)=eval (.Name y p2) X.env:=by rfl) (he:Hf [.Attribute (.Name y p2) f p3] X.env=[(IR,eval (.Attribute (.Name y p2) f p3) X.env)]:=by rfl) (MU:(J9 p4 (Hf [] X.env)).any (·.1)=IR:=by rfl):
  Pe X (.Call (.Name "simpler" p1) [.Attribute (.Name y p2) f p3] [] p4) σ H Q:=
 cj (aX (cB (bW 0 (g0 (i.Lo s cl no hl (ca (.mk KB (hM.up s) (r.up s) trivial λH' u' s' e'=>q H' u' (s.trans s') s' e'))) hv) n0 v0 hd RB) hb) he) S hr T.Zd.c aC hg [01] he MU
def akx (T:Txt K mg a) (I:jK K a) (S:f9 P w K mg base a k):T.d_8.U P w base (k+1) (rV a (k+2) λe=>(∃x,e= .neg x)\/ ∃x,e= .not x):=by
 refine pW T.d_8.F aam [03] [02];intro X D;obtain @⟨e,v,M,rfl,hM,r,un,q⟩:=h;have go: ∀ {sg:Ha}{x:GD}{u:V},bP M H a.Ll [("sign", .str sg),("operand",u)] v->qX a k M H x u->(∀z,IZ (HL x)=GM z-> ∃n,HL e=RA n/\ ∀(H:Hp) (Q:VK) (E:XK),Q (.int n) H->aa3 [.str sg, .int z] H Q E)->(IZ (HL x)=Ix-> ∀H' u y,bP M H' a.Ll [("sign", .str sg),("operand",u)] y->ag a M H' (HL x) u->ag a M H' (HL e) y)->Bd X (bq s_8) D (start ["unary","operand","value"] [v]) H:=λ{sg x u} i rx h1 h2=>by
  have:=rx.fr
  have:=eA x;refine aW 1 aam.nd (eB T S hr i aJ T.Lw T.KJ KB hM rx KB λH1 u1 s1 _ e1=>?_)
  refine aW 2 aam.nd (cj (aX (bW 1 (ca (.mk KB e1 ?_)))) (vb T I) [05] T.VY.c aC);cases hz:IZ (HL x) with
  |none=>
   refine aY (cA fW (bW 2 (cg #[KB,_,KB,eU (HC KB) (aD (gZ (oS T) [05] (aX (cB (bW 0 (i.Lo s1 T.Lw T.Lb KB (aX (bW 1 (ca #[KB,λy dy H2 hy s2 e2=>q H2 _ (s1.trans s2) ?_]))))) KB))))])));exact h2 hz H2 u1 _ #[y,dy,KB,λm=>hM.up s1 y m hy,e2] (ag.keep (aI.keeps s2) _ e1)
  |some z=>
   obtain⟨n,en,hn⟩:=h1 z hz;rw[en] at q;exact aY (cA fW (bW 2 (cg #[KB,_,KB,e8 (He nofun) (aD (cj (aX (cj (aX (cB (bW 0 (i.Lo s1 T.Lw T.Lb KB (aX (bW 2 (ca (hn _ _ _ (ca (.mk KB λH2 u2 s2 e2=>q H2 u2 (s1.trans s2) (e2 M (hM.up s1)))))))))) KB)) (aha T) [05] T.YX.c aC)) (aa7 T) [05] T.d_P.c aC))])))
 have rf:=r.fr
 have rm:=r.ms
 have rg:=r.ok
 have ra:=r.at_;rcases un with⟨x,rfl⟩|⟨x,rfl⟩
 .unfold ag at ra
  obtain⟨u,i,ex⟩:=ra;rw[GE] at rg;rw[OS.fr] at rf;have:=fw 5 x (xF x);rw[xF,ae] at rm;refine go i #[ex,rg,by lia,by lia] (λz hz=>#[-z,?_,λH Q E q=>#[z, .inl #[KB,q]]]) λhz H' u' y i' e'=>?_
  .rw[HL,hz]
  .rw[HL,hz];unfold ag;exact#[u',i',e']
 .unfold ag at ra
  obtain⟨u,i,ex⟩:=ra;rw[GE] at rg;rw[OS.fr] at rf;have:=fw 5 x (xF x);rw[xF,ae] at rm;refine go i #[ex,rg,by lia,by lia] (λz hz=>#[Oo (z == 0),?_,λH Q E q=>#[z, .inr #[KB,q]]]) λhz H' u' y i' e'=>?_
  .rw[HL,hz]
  .rw[HL,hz];unfold ag;exact#[u',i',e']
def ahh (T:Txt K mg a) (I:jK K a) (S:f9 P w K mg base a k):T.Zg.U P w base (k+1) (rV a (k+2) λe=> ∃x y z,e= .pick x y z):=by
 refine pW T.Zg.F Cz [03] [02];intro X D;obtain @⟨_,v,M,rfl,hM,r,⟨x,y,z,rfl⟩,q⟩:=h;obtain⟨ra,rg,rm,rf⟩:=r;unfold ag at ra;obtain⟨u1,u2,u3,i,e1,e2,e3⟩:=ra;rw[GE] at rg;rw[OS.fr] at rf;rw[xF,ae,au,ae,au,ae] at rm;have:=eA x;have r1:qX a k M H x u1:=#[e1,rg.1,by lia,by lia];have r2:qX a k M H y u2:=#[e2,rg.2.1,by lia,by lia];have r3:qX a k M H z u3:=#[e3,rg.2.2,by lia,by lia];rw[HL] at q;refine aW 1 Cz.nd (eB T S hr i aJ T.Lc T.LF KB hM r1 KB λH1 v1 s1 _ f1=>?_);refine aW 2 Cz.nd (cj (aX (bW 1 (ca (.mk KB f1 ?_)))) (vb T I) [05] T.VY.c aC);cases hz:IZ (HL x) with
 |none=>
  rw[hz] at q;refine aY (cA fW (bW 2 (cg #[KB,_,KB,eU (HC KB) (aD (gZ (qJ T) [05] (aX (bW 1 (aX (eB T S hr i s1 T.Lc T.Lz KB hM r2 KB λH2 v2 s2 t2 f2=>aX (eB T S hr i s2 T.Lc T.KI KB hM r3 KB λH3 v3 s3 t3 f3=>ca #[KB,λp dx H4 hp s4 e4=>q H4 _ (s3.trans s4) ?_])))))))])));unfold ag;exact#[v1,v2,v3,#[p,dx,KB,λm=>hM.up s3 p m hp,e4],ag.keep (aI.keeps ((t2.trans t3).trans s4)) _ f1,ag.keep (aI.keeps (t3.trans s4)) _ f2,ag.keep (aI.keeps s4) _ f3]
 |some n=>
  rw[hz] at q;dsimp only at q;refine aY (cA fW (bW 2 (cg #[KB,_,KB,e8 (He nofun) (aD #[_,dJ (bg uK (pv 2) aG (a0 _)) eD eD,KB,_,KB,?_])])));rw[show decide (lP (GM n)=V.int 0)=decide (n=0) from cU,<-YA];refine eR (λh=>?_) λh=>?_
  .rw[GI h] at q
   exact eB T S hr i s1 T.Lc T.Lz KB hM r2 KB λH2 v2 s2 _ f2=>q H2 v2 s2 f2
  .rw[GG h] at q
   exact eB T S hr i s1 T.Lc T.KI KB hM r3 KB λH2 v2 s2 _ f2=>q H2 v2 s2 f2
def aky (T:Txt K mg a) (I:jK K a) (S:f9 P w K mg base a k):T.d_J.U P w base (k+1) (rV a (k+2) λe=> ∃y lo hi x,e= .sum y lo hi x):=by
 refine pW T.d_J.F EC [03] [02];intro X D;obtain @⟨_,v,M,rfl,hM,r,⟨y,lo,hi,x,rfl⟩,q⟩:=h;obtain⟨ra,rg,rm,rf⟩:=r;unfold ag at ra;obtain⟨u1,u2,u3,i,e1,e2,e3⟩:=ra;rw[GE] at rg;rw[OS.fr] at rf;rw[xF,ae,ae,ae,au,ae,au,ae,au] at rm;have:=eA x;have r1:qX a k M H lo u1:=#[e1,rg.2.1,by lia,by lia];have r2:qX a k M H hi u2:=#[e2,rg.2.2.1,by lia,by lia];have r3:qX a k M H x u3:=#[e3,rg.2.2.2,by lia,by lia];rw[HL] at q;refine aW 1 EC.nd (eB T S hr i aJ T.OI T.Of KB hM r1 KB λH1 v1 s1 _ f1=>?_);refine aW 2 EC.nd (eB T S hr i s1 T.OI T.OK KB hM r2 KB λH2 v2 s2 t2 f2=>?_);have f1:=ag.keep (aI.keeps t2) _ f1;refine aW 3 EC.nd (cj (aX (bW 1 (ca (.mk KB f1 ?_)))) (vb T I) [05] T.VY.c aC);refine aW 4 EC.nd (cj (aX (bW 2 (ca (.mk KB f2 ?_)))) (vb T I) [05] T.VY.c aC);have rest:(∀H' u,aI H H'->ag a M H' (.sum y (HL lo) (HL hi) (HL x)) u->Q u H')-> ∀ {b c:GJ V},Bd X ((bq s_J).drop 5) D [GM v,GM v1,GM v2,b,c] H2:=λq {b c} =>by
  refine aD (gZ (Dn T) [05] (aX (cB (bW 0 (i.Lo s2 T.OI T.OJ KB (aX (bW 1 (aX (bW 2 (aX (eB T S hr i s2 T.OI T.OL KB hM r3 KB λH3 v3 s3 t3 f3=>ca #[KB,λp dx H4 hp s4 e4=>q H4 _ (s3.trans s4) ?_])))))))) KB)));unfold ag;exact#[v1,v2,v3,#[p,dx,KB,λm=>hM.up s3 p m hp,e4],ag.keep (aI.keeps (t3.trans s4)) _ f1,ag.keep (aI.keeps (t3.trans s4)) _ f2,ag.keep (aI.keeps s4) _ f3]
 cases h1:IZ (HL lo) with
 |none=>
  rw[h1] at q;exact aY (ro (cA iD (bW 3 (cg #[KB,_,KB,e8 (by rfl) (cW (rest q))]))))
 |some n1=>
  cases h2:IZ (HL hi) with
  |none=>
   rw[h1,h2] at q;exact aY (ro (cA iD (bW 3 (cg #[KB,_,KB,eU (by rfl) (cA iD (bW 4 (cg #[KB,_,KB,e8 (by rfl) (cW (rest q))])))]))))
  |some n2=>
   rw[h1,h2] at q;dsimp only at q;refine aY (ro (cA iD (bW 3 (cg #[KB,_,KB,eU (by rfl) (cA iD (bW 4 (cg #[KB,_,KB,eU (by rfl) (cA iQ (bW 4 (bW 3 #[_,_,KB,KB,_,KB,eR (λh=>?_) λh=>?_])))])))]))))
   .rw[GI h] at q
    exact aD (gZ (gY T) [05] (aX (gS (ca #[KB,λp dx H3 hp s3 e3=>q H3 _ (s2.trans s3) (nB (dx:=dx) (hM.up s2) hp e3)]))))
   .rw[GG h] at q
    exact rest q
section
open Vbemac (text)
theorem yI: ∀ {l:Je},GL l->(ku l).length<=mS (aF l)/\(ku l).length=Be l/\ ∀o∈ku l,GE o/\fr o<=kl l/\mS (xF o)<=mS (aF l)
 | .nil,_=>#[HG _,KB,λ_ z=>nomatch z]
 | .cons e l,h=>by
  rw[GL] at h;obtain⟨h1,h2,h3⟩:=yI h.2;have m:mS (xF e)+mS (aF l)<=mS (aF (.cons e l)):=by
   cases l with
   |nil=>rw[aF,aF,cy];exact GY _
   |cons y s=>rw[xc e KB];lia
  have:=lm e;refine#[by show(ku l).length+1<=_;lia,Hv (· +1) h2,IA.mpr #[#[h.1,by rw[kl];lia,by lia],λo ho=>?_]]
  obtain⟨g1,g2,g3⟩:=h3 o ho;exact#[g1,by rw[kl];lia,by lia]
theorem rE (w:GQ) (g:Ha): ∀ {l:Je},GL l->(ku l).length<=mS (mF w g l)/\ ∀o∈ku l,GE o/\fr o<=kl l/\mS (xF o)<=mS (mF w g l)
 | .nil,_=>#[HG _,λ_ z=>nomatch z]
 | .cons e l,h=>by
  rw[GL] at h;obtain⟨h1,h3⟩:=rE w g h.2;have m:mS (xF e)+mS (mF w g l)+1<=mS (mF w g (.cons e l)):=by
   have:=fw w e (xF e);rw[mF,ae,ae,ae,au];lia
  refine#[by show(ku l).length+1<=_;lia,IA.mpr #[#[h.1,by rw[kl];lia,by lia],λo ho=>?_]];obtain⟨g1,g2,g3⟩:=h3 o ho;exact#[g1,by rw[kl];lia,by lia]
theorem rO (w:GQ): ∀ {l:ND},GR l->(tw l).length<=mS (rF w l)/\ ∀o∈tw l,GE o/\fr o<=oE l/\mS (xF o)<=mS (rF w l)
 | .nil,_=>#[HG _,λ_ z=>nomatch z]
 | .cons op e l,h=>by
  rw[GR] at h;obtain⟨h1,h3⟩:=rO w h.2.2;have m:mS (xF e)+mS (rF w l)+1<=mS (rF w (.cons op e l)):=by
   have:=fw w e (xF e);rw[rF,ae,ae,ae,au];lia
  refine#[by show(tw l).length+1<=_;lia,IA.mpr #[#[h.2.1,by rw[oE];lia,by lia],λo ho=>?_]];obtain⟨g1,g2,g3⟩:=h3 o ho;exact#[g1,by rw[oE];lia,by lia]
def pP {e:GD}{s:GQ}{ops:Gr GD}{Qg:Gr Gz}(hc:ko e=GM (s,ops,Qg)) (g:GE e):ops.length<=mS (xF e)/\ ∀o∈ops,GE o/\fr o+3<=fr e/\mS (xF o)<=mS (xF e):=by
 have all: ∀ {w:GQ}{x:GD}{ps:Gr Ha}{f:GQ}{os:Gr GD},GE x->(os.length<=mS ps/\ ∀o∈os,GE o/\fr o<=f/\mS (xF o)<=mS ps)->xF e=pF w x (xF x)++ps->fr e=3+max (fr x) f->(x::os).length<=mS (xF e)/\ ∀o∈x::os,GE o/\fr o+3<=fr e/\mS (xF o)<=mS (xF e):=λ{w x ps f os} gx ⟨h1,h2⟩ e1 e2=>by
  have:=fw w x (xF x)
  have:=lm x;rw[e1,e2,au];refine#[by rw[Gv];lia,IA.mpr #[#[gx,by lia,by lia],λo ho=>?_]]
  obtain⟨g1,g2,g3⟩:=h2 o ho;exact#[g1,by lia,by lia]
 cases e with
 |sums e r=>cases hc;rw[GE] at g;exact all (w:=4) g.1 (rO 4 g.2) (by rw[xF]) (by rw[fr])
 |prods e r=>cases hc;rw[GE] at g;exact all (w:=5) g.1 (rO 5 g.2) (by rw[xF]) (by rw[fr])
 |cmp op x y=>
  cases hc;rw[GE] at g;refine all (w:=3) (f:=fr y) (os:=[y]) g.2.1 ?_ (by rw[xF]) (by rw[fr]);have:=fw 3 y (xF y);rw[ae,ae,ae];exact#[by show 1<=_;lia,λo ho=>by rw[Hx.mp ho];exact#[g.2.2,GY _,by lia]]
 |both e l=>cases hc;rw[GE] at g;exact all (w:=2) g.1 (rE 2 _ g.2.1) (by rw[xF]) (by rw[fr])
 |either e l=>cases hc;rw[GE] at g;exact all (w:=1) g.1 (rE 1 _ g.2.1) (by rw[xF]) (by rw[fr])
 |_=>cases hc
theorem yb: ∀ {us:Gr V}{l:Gr (GJ Int)},Paired (λu b=>u=lP b) us l->us=l.map lP
 |_,_, .nil=>rfl
 |_,_, .cons h t=>by rw[h,yb t];rfl
theorem jH: ∀l:Gr (GJ Int),(l.map lP).all ja=IN
 |[]=>rfl
 |none::l=>jH l
 |some _::l=>jH l
theorem ow: ∀l:Gr (GJ Int),uF .Ko (l.map lP)=decide (Ix∈l)
 |[]=>rfl
 |none::l=>(HC (p:=Ix∈Ix::l) (.head _)).symm
 |some x::l=>by
  show uF .Ko (l.map lP)=_
  rw[ow l];exact decide_eq_decide.mpr #[.tail _,λz=>by cases z with|tail _ z=>exact z]
theorem oH: ∀l:Gr GD,Ix∉l.map IZ->(l.map IZ).map lP=(l.filterMap IZ).map V.int/\(l.filterMap IZ).length=l.length
 |[],_=>#[KB,KB]
 |e::l,h=>by
  obtain⟨h1,h2⟩:=oH l λz=>h (.tail _ z);cases e1:IZ e with
  |none=>exact(h (by rw[G8,e1];exact .head _)).elim
  |some v=>rw[N0 e1,G8,G8,e1,h1];exact#[KB,Hv (· +1) h2]
def BI (f:Gz):(cT cv (.inr (sb f))).isSome=LD.any λg=>g.1 == f:=by
 have e: ∀(x:Ha) (s:Gz),x=sb s->decide ((Jw x:cf)= .inr (sb f))=(s == f):=λx s h=>by
  rw[h,Iv,Il,beq_iff_eq];exact#[λz=>fY (Ms z),λz=>by rw[z]]
 unfold cT cv LD;rw[IC,IC,IC,e "min" (text "min") [00],e "max" (text "max") [00],e "abs" (text "abs") [00],Ka,Ka,Ka];cases text "min" == f<;>cases text "max" == f<;>cases text "abs" == f<;>rfl
section
variable {M:GB->Prop}{H:Hp}{Q:VK}{ti:TE}{σ:L2.St}{l:Gr GD}{E:XK}
def Yj (hL:H L=GM (.lst us)) (pr:Paired (λu e=>ag a M H e u) us l) (ok: ∀o∈l,GE o/\fr o+2<=k/\mS (xF o)<=300000) (hn:l.length<=300000) (hM:i8 M H) (hv: ∀Q:VK,Q (.ref L) H->ti σ H Q) (q: ∀H' D Qu,aI H H'-> ¬M D->H' D=GM (.lst Qu)->Paired (λu e=>ag a M H' e u) Qu (l.map HL)->Q (.ref D) H')
  (hw: ∀x,dO ((dO σ [i]).set i (GM x)) [i]=dO σ [i]:=by intro _;rfl) (hx: ∀x,((dO σ [i]).set i (GM x))[i]?=GM (GM x):=by intro _;rfl):EZ (qK K ti) (gI i) qc (iV (rV a k λ_=>True) [] E (fz (ei i) j9)) [i] σ H Q:=
 vG (F:=λM H b v=>ag a M H b v) (g:=HL) (λk h=>ag.Ie k _ h) hL (cr pr) (G0 hn [01]) hM hv (λj x o H' M1 hx' ho s1 k2 m1 Q q=>by
  obtain⟨o',QH,h⟩:=L2.iE pr hx';rw[ho] at QH;cases QH;obtain⟨g,f,m⟩:=ok o (Iz ho);exact g0 (.mk KB m1 #[ag.Ie k2 _ h,g,m,f] trivial q) (hx x)) q hw
def Yk (hL:H L=GM (.lst us)) (pr:Paired (λu e=>ag a M H e u) us l) (hn:l.length<=300000) (hM:i8 M H) (hv: ∀Q:VK,Q (.ref L) H->ti σ H Q) (q: ∀H' D,aI H H'->H' D=GM (.lst ((l.map IZ).map lP))->Q (.ref D) H')
  (hw: ∀x,dO ((dO σ [i]).set i (GM x)) [i]=dO σ [i]:=by intro _;rfl) (hx: ∀x,((dO σ [i]).set i (GM x))[i]?=GM (GM x):=by intro _;rfl):EZ (qK K ti) (gI i) qc (iV (aa6 a) [] E (fz (ei i) j9)) [i] σ H Q:=
 vG (F:=λ_ _ b v=>v=lP b) (g:=IZ) (λ_ h=>h) hL (cr pr) (G0 hn [01]) hM hv (λj x o H' M1 hx' ho s1 k2 m1 Q q=>by
  obtain⟨o',QH,h⟩:=L2.iE pr hx';rw[ho] at QH;cases QH;exact g0 (.mk KB (ag.Ie k2 _ h) (q H' _ aJ KB)) (hx x)) (λH' D Qu s1 nD hD pr'=>q H' D s1 (by rw[hD,yb pr'])) hw
def iu {us:Gr V}{H H':Hp}(s:aI H H') (h:Paired (λu e=>ag a M H e u) us l):Paired (λu e=>ag a M H' e u) us l:=Paired.Nt h λ_ _ h=>ag.keep (aI.keeps s) _ h
end
def akz (T:Txt K mg a) (I:jK K a) (kF:vT P w K a.HQ cv) (S:f9 P w K mg base a k):T.d_w.U P w base (k+1) (rV a (k+2) λe=> ∃f l,e= .call f l):=by
 refine pW T.d_w.F EK [03] [02];intro X D;obtain @⟨_,v,M,rfl,hM,r,⟨f,l,rfl⟩,q⟩:=h;obtain⟨ra,rg,rm,rf⟩:=r;unfold ag at ra;obtain⟨_,us,i,⟨L,rfl,mL,hL⟩,ex⟩:=ra;have pr:=nP ex;rw[GE] at rg;rw[OS.fr] at rf;rw[xF,ae,ae,au] at rm;obtain⟨n1,n2,al⟩:=yI rg.2.1;rw[HL] at q;refine sh (y:="argument") (i:=3) 1 EK.nd [07] (eE (by show m6 ["call","arguments","values","argument"] (ah s_w) _ [("argument",3)]=IN;decide+kernel)) (λ_ _ _ _ _=>aq S hr (by rfl) T.Zd.c aC (aa (pv 3) ac)) (Yj hL pr (λo ho=>#[(al o ho).1,by have:=(al o ho).2.1;lia,by have:=(al o ho).2.2;lia]) (by lia) hM (λ_ q=>i.Lo aJ T.Ny T.L3 KB q) λH1 D1 Vc s1 nD1 SG WS=>?_) (λ_ _ _ _ _=>cY (i:=3) EK.nd KB (HF KB)) (nF KB KB KB KB);refine sh (y:="argument") (i:=3) 2 EK.nd (pv 1) (eE (by show m6 ["call","arguments","values","argument"] (ah s_w) _ [("argument",3)]=IN;decide+kernel)) (λ_ _ _ _ _=>aq (vb T I) [05] (by rfl) T.VY.c aC (aa (pv 3) ac)) (Yk SG WS (by rw[GK];lia) (hM.up s1) [08] λH2 D2 s2 hD2=>?_) (λ_ _ _ _ _=>cY (i:=3) EK.nd KB (HF KB)) (nF KB KB KB KB);rw[nH,wq] at q;have mkc:(∀H' u,aI H H'->ag a M H' (.call f (Vbemac.foldAll l)) u->Q u H')->Bd X ((bq s_w).drop 3) D [GM v,GM (.ref D1),GM (.ref D2),Ix] H2:=λq=>by
  refine aD (gZ (yW T) [05] (aX (cB (bW 0 (i.Lo (s1.trans s2) T.Ny T.L1 KB (aX (bW 1 (ca #[KB,λy dy H3 hy s3 e3=>q H3 _ ((s1.trans s2).trans s3) ?_]))))) KB)));unfold ag;have e:=lz (iu (s2.trans s3) WS);rw[<-wq,rX] at e;exact#[_,Vc,#[y,dy,KB,λm=>hM.up (s1.trans s2) y m hy,e3],#[D1,KB,nD1,s3 _ _ (s2 _ _ SG)],e]
 refine aY (uv #[_,fE (Fl [07] (dn (by rfl) T.L9)),i.Lo (s1.trans s2) T.Ny T.L1 KB #[_, .inr (sb f),_,KB,kF,KB,_,KB,?_]]);rw[BI];cases hb:LD.any λg=>g.1 == f with
 |false=>rw[hb] at q;exact cW (cW (mkc q))
 |true=>
  rw[hb] at q;refine dR (cA iK (cg (bW 2 #[D2,_,KB, .inl (cJ.of hD2),KB,jH _,_,KB,?_])) KB);rw[GI KB,ow,<-YA];refine eR (λh=>?_) λh=>?_
  .rw[GG h] at q
   obtain⟨v1,v2⟩:=oH _ h;rw[v1] at hD2;obtain⟨g,hg,eg⟩:=KY.mp hb;have: ∃k,(LD.find? λg=>g.1 == f)=GM k:=by
    cases z:LD.find? λg=>g.1 == f with
    |some k=>exact#[k,KB]
    |none=>exact(UT.mp z g hg eg).elim
   obtain⟨k',WI⟩:=this;exact aD (cj (aX (cj (aX (cB (bW 0 (i.Lo (s1.trans s2) T.Ny T.L1 KB (aX (bW 2 (ca (.mk f D2 _ k' KB hD2 WI (by rw[v2,GK,n2];exact rg.2.2 k' WI) (ca (.mk KB λH3 u s3 e3=>q H3 u ((s1.trans s2).trans s3) (e3 M (hM.up (s1.trans s2))))))))))) KB)) (ahc T) [05] T.YY.c aC)) (aa7 T) [05] T.d_P.c aC)
  .rw[GI (Classical.not_not.mp h)] at q
   exact mkc q
end
section
open Vbemac (fold)
inductive aa8 (a:bI) (k:GQ) (ok:GQ->Prop) (vs:Gr V) (H:Hp) (Q:VK) (_E:XK):Prop
 |mk {e:GD}{v:V}{M:GB->Prop}{L:GB}{us:Gr V}{s:GQ}{ops:Gr GD}{Qg:Gr Gz}(_:vs=[v, .ref L]) (_:i8 M H) (_:qX a k M H e v) (_:ko e=GM (s,ops,Qg)) (_:ok s) (_: ¬M L) (_:H L=GM (.lst us)) (_:Paired (λu e=>ag a M H e u) us (ops.map fold)) (_: ∀H' u,aI H H'->ag a M H' (fold e) u->Q u H'):aa8 a k ok vs H Q _E
def akA (T:Txt K mg a) (I:jK K a):T.d_p.U P w base 3 (aa8 a k (· <=1)):=by
 refine pW T.d_p.F zW [03] [02];intro X D;obtain @⟨e,v,M,L,us,st,ops,Qg,rfl,hM,⟨ra,rg,rm,rf⟩,hc,h1,nL,hL,pr,q⟩:=h;obtain⟨oq,gq,us0,i,lo,po,lg⟩:=o3 ra hc;obtain⟨c1,c2⟩:=pP hc rg;rw[Er hc h1] at q;have fs: ∀ {H':Hp}{Q:VK},aI H H'->Q (.int st) H'->pd X.K "strength" Q v H':=λs q=>i.Lo s T.K7 T.Ke KB q
 refine sh (y:="operand") (i:=4) 2 zW.nd (pv 1) (eE (by show m6 ["chain","operands","values","decided","operand","value"] (ah s_p) _ [("operand",4)]=IN;decide+kernel)) (λ_ _ _ _ _=>aq (vb T I) (hr.mono [01]) (by rfl) T.VY.c aC (aa (pv 4) ac)) (Yk hL pr (by rw[GK];lia) hM [08] λH1 D1 s1 SG=>?_) (λ_ _ _ _ _=>cY (i:=4) zW.nd KB (HF KB)) (nF KB KB KB KB);refine aW 3 zW.nd (cj (aX (cB (bW 0 (fs s1 (ca (.mk st KB ?_))) KB (RU (HF KB))) KB)) (ahb T) (hr.mono [01]) T.YZ.c aC);have num: ∀ {σ:L2.St}{H2:Hp}{x:Jc}{n:GQ}{p1 p4:Pos},aI H H2->(∀H' u,aI H H'->ag a M H' (.num n) u->Q u H')->(∀Q:VK,Q (.int (n:GQ)) H2->Pe X x σ H2 Q)->Hf [x] X.env=[(IR,eval x X.env)]->(J9 p4 (Hf [] X.env)).any (·.1)=IR->Pe X (.Call (.Name "Number" p1) [x] [] p4) σ H2 Q:=λs2 q hx he hb=>gZ (gY T) hr (aX (hx _ (ca #[KB,λy dy H3 hy s3 e3=>q H3 _ (s2.trans s3) (nB (dx:=dy) (hM.up s2) hy e3)])) he) KB [01] he hb
 obtain⟨o,os,t,rfl,rfl,ht⟩: ∃o os t,ops=o::os/\Qg=os.map (λ_=>t)/\((st=1/\t=Gx "&&")\/(st=0/\t=Gx "||")):=by
  cases e with
  |both e l=>cases hc;exact#[_,_,_,KB,KB, .inl #[KB,KB]]
  |either e l=>cases hc;exact#[_,_,_,KB,KB, .inr #[KB,KB]]
  |sums e r=>cases hc;exact G6 h1 (by decide)
  |prods e r=>cases hc;exact G6 h1 (by decide)
  |cmp op x y=>cases hc;exact G6 h1 (by decide)
  |_=>cases hc
 have dv:ka st=((ka st).toNat:Int)/\(1-ka st)=((1-ka st).toNat:Int):=by
  rcases ht with⟨rfl,_⟩|⟨rfl,_⟩<;>exact#[KB,KB]
 unfold FT at q;rw[G8,Wa,Qm] at q;rw[G8] at SG pr;have rest:(∀H' u,aI H H'->ag a M H' (if Ix∈((fold o::os.map fold).map IZ) then chD st (fold o::os.map fold) else if((fold o::os.map fold).filterMap IZ).any (oy st)=IN then .num (ka st).toNat else .num (1-ka st).toNat) u->Q u H')->Bd X ((bq s_p).drop 3) D [GM v,GM (.ref L),GM (.ref D1),GM (.int (ka st)),Ix,Ix] H1:=λq=>by
  refine aY (cA jG (cg (bW 2 #[D1,_,KB, .inl (cJ.of SG),KB,jH _,_,KB,?_])) KB);rw[GG (c:=(IR:HK)=IN) Gu,ow];refine eR (λh=>?_) λh=>?_
  .rw[GI h] at q
   refine aD (gZ (oR T) hr (aX (cB (bW 0 (fs s1 (aX (bW 1 (aX (cB (bW 0 (i.Lo s1 T.K7 T.L5 KB (ca #[KB,λy dy H3 hy s3 e3=>q H3 _ (s1.trans s3) ?_])) KB (RU (HF KB))) KB))))) KB (RU (HF KB))) KB)));refine aa5 (t:=t) #[_,_,us,#[y,dy,KB,λm=>hM.up s1 y m hy,e3],#[L,KB,nL,s3 _ _ (s1 _ _ hL)],iu (s1.trans s3) pr,?_] ht;rw[JX (l:=os)];exact lg.keep (aI.keeps (s1.trans s3)).two
  .rw[GG h] at q
   obtain⟨v1,v2⟩:=oH _ h;rw[v1] at SG;refine aY (dq #[_,aS (Z1 KB) (by rfl) T.aeg boot_any (aa eD ac),?_]);show Pe X _ _ _ _;refine Eb (X:=X) (y:="value") (i:=5) (te:=iV lZ [] E (fz (m8 K (ei 0) "strength") (fz (ei 5) j9))) zW.nd (pv 2) (eE (by show m6 ["chain","operands","values","decided","operand","value"] (ah s_p) _ [("value",5)]=IN;decide+kernel)) (λ_ _ _ _ _=>by exact aq (Yh T) (hr.mono [01]) (by rfl) T.Wi.c aC (aa (az (pv 0) (by rfl)) (aa (pv 5) ac))) (vG (F:=λ_ _ b v=>v=V.bl b) (g:=oy st) (λ_ h=>h) SG (GK ..) (by rw[v2,Gv,GK];rw[Gv] at c1;lia) (hM.up s1) [08] (λj x z H' M1 hx hz s2 k2 m1 Q q=>?_) (λH2 D2 us2 s2 nD2 hD2 pr2=>?_) λ_=>rfl) (λ_ _ _ _ _=>cY (i:=5) zW.nd KB (HF KB))
   .rw[HI,hz] at hx
    cases hx;exact fs (s1.trans s2) (.mk st z KB (q H' _ aJ KB))
   .have e2: ∀ {us:Gr V}{l:Gr HK},Paired (λu b=>u=V.bl b) us l->us=l.map V.bl:=λh=>by
     induction h with
     |nil=>rfl
     |cons h t ih=>rw[h,ih];rfl
    rw[e2 pr2] at hD2;refine#[D2,_,KB,cJ.of hD2,_,KB,?_];rw[Oz,show(id ∘ oy st)=oy st from KB];refine bi (λh=>?_) λh=>?_
    .rw[GI h] at q
     exact aD (num (s1.trans s2) q (λQ q=>bW 3 (by rw[<-dv.1] at q;exact q)) KB KB)
    .rw[GG (by rw[h];exact Gu)] at q
     exact aD (num (s1.trans s2) q (λQ q=>By eM (gS (bW 3 #[_,_,KB,KB,by rw[<-dv.2] at q;exact q]))) KB KB)
 have ix:Dg (((fold o::os.map fold).map IZ).map lP) 0=GM (lP (IZ (fold o))):=ci (j:=0) KB;cases h0:IZ (fold o) with
 |none=>
  rw[h0] at ix q;refine aY (uv (cA iD (A4 (bW 2 (gS #[D1,_,_,_,KB,KB,cJ.of SG,ix,cg #[KB,_,KB,e8 (by rfl) (cW (rest ?_))]])) (λ_ _=>rfl))));rw[GG (by exact Gu)] at q;exact q
 |some z=>
  rw[h0] at ix q;refine aY (uv (cA iD (A4 (bW 2 (gS #[D1,_,_,_,KB,KB,cJ.of SG,ix,cg #[KB,_,KB,eU (by rfl) (dq (cj (aX (cB (bW 0 (fs s1 (aX (A4 (bW 2 (gS #[D1,_,_,_,KB,KB,cJ.of SG,ix,ca (.mk st z KB #[_,KB,bi (λh=>?_) λh=>rest ?_])])) (λ_ _=>rfl)))) KB (RU (HF KB))) KB)) (Yh T) (hr.mono [01]) T.Wi.c aC))]])) (λ_ _=>rfl))))
  .rw[GI (by exact h)] at q
   exact aD (num s1 q (λQ q=>bW 3 (by rw[<-dv.1] at q;exact q)) KB KB)
  .rw[GG (by show¬oy st z=IN;rw[h];exact Gu)] at q
   exact q
end
theorem tI: ∀ {r:ND},GR r->(vS r).length=(tw r).length/\ ∀op∈vS r,op∈Ih
 | .nil,_=>#[KB,λ_ z=>nomatch z]
 | .cons op e r,h=>by
  rw[GR] at h;obtain⟨h1,h2⟩:=tI h.2.2;exact#[Hv (· +1) h1,IA.mpr #[El _ h.1,h2]]
def aa9 {e o:GD}{s:GQ}{os:Gr GD}{Qg:Gr Gz}(hc:ko e=GM (s,o::os,Qg)) (g:GE e) (h2: ¬s<=1):Qg.length=os.length/\(∀op∈Qg,op∈Ih)/\(s=3\/s=4\/(s=2/\os.length=1)):=by
 cases e with
 |sums e r=>cases hc;rw[GE] at g;exact#[(tI g.2).1,(tI g.2).2, .inl KB]
 |prods e r=>cases hc;rw[GE] at g;exact#[(tI g.2).1,(tI g.2).2, .inr (.inl KB)]
 |cmp op x y=>cases hc;rw[GE] at g;exact#[KB,λo ho=>by rw[Hx.mp ho];exact(ze _ g.1).1, .inr (.inr #[KB,KB])]
 |both e l=>cases hc;exact G6 (GY 1) h2
 |either e l=>cases hc;exact G6 (HG 1) h2
 |_=>cases hc
def pJ {xs:Gr V}{n:GQ}(h:n<=xs.length):lq xs (GM (n:GQ)) Ix=xs.drop n:=by
 unfold lq;rw[HT.Sv,HT.QJ,OY h];exact Kl (by rw[J7];exact GY _)
def EW {op:Gz}{e f:GD}{z:Int}(h:vN op e f=GM z):Wr z:=by
 unfold vN at h;split at h
 .split at h
  .split at h
   .rename_i w
    cases h;exact w
   .cases h
  .cases h
 .cases h
theorem mI {α β:Type}{F:α->β->Prop} : ∀(n:GQ) {l:Gr α}{m:Gr β},Paired F l m->Paired F (l.drop n) (m.drop n)
 |0,_,_,h=>h
 |_+1,_,_, .nil=> .nil
 |n+1,_,_, .cons _ t=>mI n t
def akB (T:Txt K mg a) (I:jK K a):T.d_y.U P w base 4 (aa8 a k λs=> ¬s<=1):=by
 refine pW T.d_y.F zU [03] [02];intro X D;obtain @⟨e,v,M,L,us,st,ops,Qg,rfl,hM,⟨ra,rg,rm,rf⟩,hc,h1,nL,hL,pr,q⟩:=h;obtain⟨oq,_,us0,i,lo,po,⟨G,rfl,nG,hG⟩⟩:=o3 ra hc;obtain⟨c1,c2⟩:=pP hc rg;obtain⟨o,os,rfl⟩: ∃o os,ops=o::os:=by cases e<;>cases hc<;>exact#[_,_,KB]
 obtain⟨k1,k2,k3⟩:=aa9 hc rg h1;rw[BW rg hc h1] at q;have gf: ∀x∈(o::os).map HL,GE x:=λx hx=>by
  obtain⟨y,hy,rfl⟩:=Nf.mp hx;exact(eF y (c2 y hy).1).ok
 have ul:us.length=os.length+1:=by rw[cr pr,GK];rfl
 rw[Gv] at c1;generalize hps:Qg.zip (os.map HL)=ps at q;have pl:ps.length=os.length:=by rw[<-hps,Gr.length_zip,k1,GK,GQ.min_self]
 have p1:ps.map (λp=>p.1)=Qg:=by rw[<-hps];exact Gr.map_fst_zip (by rw[GK,k1];exact GY _)
 have p2:ps.map (λp=>p.2)=os.map HL:=by rw[<-hps];exact Gr.map_snd_zip (by rw[GK,k1];exact GY _)
 obtain⟨u0,Qu,rfl⟩: ∃x y,us=x::y:=by cases pr;exact#[_,_,KB]
 obtain⟨e0,pr'⟩:ag a M H (HL o) u0/\Paired (λu e=>ag a M H e u) Qu (os.map HL):=by cases pr with|cons h t=>exact#[h,t]
 have ul':Qu.length=os.length:=by rw[Gv] at ul;lia
 have sg: ∀ {H':Hp}{Q:VK},aI H H'->Q (.ref G) H'->pd X.K "signs" Q v H':=λs q=>i.Lo s T.K7 T.L5 KB q
 have fin: ∀ {f:GD}{uf:V}{n:GQ}{y:GJ V}{H':Hp},aI H H'->ag a M H' f uf->n<=os.length->Bf (HL o) ps=(f,ps.drop n)->Bd X ((bq s_y).drop 3) D [GM v,GM (.ref L),GM uf,GM (.int ((n+1:GQ):Int)),y] H':=λ{f uf n y H'} s1 ef hn hl=>by
  rw[hl] at q;refine aY (aeX (bW 3 (qP T.LV (s1 _ _ hL) (pv 1) [08] #[_,_,KB,KB,?_])));rw[Gv,ul'];refine eR (λz=>?_) λz=>?_
  .have:ps.drop n=[]:=Mc (by lia)
   rw[this] at q;exact aD (bW 2 (q H' uf s1 ef))
  .have lt:n<ps.length:=by lia
   have q: ∀H' u,aI H H'->ag a M H' (chB st f (ps.drop n)) u->Q u H':=by
    cases hd:ps.drop n with
    |nil=>have:=Hv MR hd;rw[J7] at this;simp only[GU] at this;lia
    |cons p r=>rw[hd] at q;exact q
   refine aD (gZ (oR T) (hr.mono [01]) (aX (cB (bW 0 (i.Lo s1 T.K7 T.Ke KB (aX (By bC (so (aX (bW 2 (ca #[by show 1<=GZ;decide,λx1 hx1=>#[_,ig jP (pv 1) (gk (pv 3)) rL,_,KB,L,_,KB,cJ.of (a8 hx1 _ _ (s1 _ _ hL)),λx2 hx2=>#[x1,x2,_,_,KB,KB,a8 hx2 _ _ aj,aj,?_,λx3 hx3=>aX ?_]]])))))))) KB)))
   .rw[pJ (by rw[Gv];lia),J7,Gv]
    exact G0 (show 1+_<=300001 by lia) [01]
   .have sB:=(a8 (o:=HO.lst [uf]) hx1).trans (a8 (o:=HO.lst (lq (u0::Qu) (GM ((n+1:GQ):Int)) Ix)) hx2)
    have sC:=sB.trans (a8 (o:=HO.lst ([uf]++lq (u0::Qu) (GM ((n+1:GQ):Int)) Ix)) hx3)
    have sD:=s1.trans sC
    show Pe X _ _ _ _
    refine#[_,ig jP [07] (gk (aZ eM (pv 3) aG)) rL,sg sD #[_,_,KB,KB,_,KB,G,_,KB,cJ.of (sD _ _ hG),λx4 hx4=>ca #[KB,λy dy H5 hy s5 e5=>?_]]];have s4:=(a8 (o:=HO.lst (lq (Qg.map λo=>V.str (dI o)) (GM (((n+1:GQ):Int)-1)) Ix)) hx4).trans s5
    have sE:=sC.trans s4;refine q H5 _ (s1.trans sE) (aa4 #[.ref x3, .ref x4,uf::Qu.drop n,#[y,dy,KB,λm=>(hM.up sD).up (a8 hx4) y m hy,e5],#[x3,KB,λm=>hM.up (s1.trans sB) x3 m hx3,?_], .cons (ag.keep (aI.keeps sE) _ ef) ?_,#[x4,KB,λm=>hM.up sD x4 m hx4,?_]] ?_)
    .rw[s4 _ _ aj,pJ (by rw[Gv];lia)]
     rfl
    .rw[PM,p2]
     exact mI n (iu (s1.trans sE) pr')
    .rw[s5 _ _ aj,show(((n+1:GQ):Int)-1)=((n:GQ):Int) by lia,pJ (by rw[GK];lia),PM,p1,PM]
    .rw[J7,pl]
     rcases k3 with z|z|⟨z,z'⟩
     .exact .inl z
     .exact .inr (.inl z)
     .exact .inr (.inr #[z,by lia])
 refine aW 2 zU.nd (A4 (bW 1 (gS #[L,_,_,u0,KB,KB,cJ.of hL,ci (j:=0) KB,?_])) (λ_ _=>rfl));refine aW 3 zU.nd (gS ?_);refine hJ JA (λm σ H'=> ∃(f:GD) (uf:V) (n:GQ) (y:GJ V),σ=[GM v,GM (.ref L),GM uf,GM (.int ((n+1:GQ):Int)),y]/\aI H H'/\ag a M H' f uf/\GE f/\n<=os.length/\m=os.length-n/\Bf f (ps.drop n)=Bf (HL o) ps) os.length #[HL o,u0,0,Ix,KB,aJ,e0,gf _ (.head _),HG _,KB,KB] ?_;rintro m σ H' ⟨f,uf,n,y,rfl,s1,ef,gf',hn,rfl,hl⟩;refine cA iQ (bW 3 (qP T.LV (s1 _ _ hL) (pv 1) [08] #[_,_,KB,KB,_,KB,?_]));rw[Gv,ul'];refine eR (λz=>?_) λz=>?_
 .have lt:n<os.length:=by lia
  obtain⟨op,Xr⟩: ∃x,Qg[n]?=GM x:=#[_,Jb (show n<Qg.length by lia)];obtain⟨g,hg⟩: ∃x,(os.map HL)[n]?=GM x:=#[_,Jb (show n<(os.map HL).length by rw[GK];exact lt)];obtain⟨uo,huo,euo⟩:=ia pr' hg;have hd:ps.drop n=(op,g)::ps.drop (n+1):=by
   rw[Kz (by lia)]
   congr 1
   have:ps[n]?=GM (op,g):=by rw[<-hps,Gr.getElem?_zip_eq_some];exact#[Xr,hg]
   exact(Ho.mp this).2
  rw[hd,Bf] at hl;refine aW 4 zU.nd (cj (aX (A4 (cB (bW 0 (sg s1 (By eM (bW 3 (gS #[_,_,KB,KB,G,_,_,V.str (dI op),KB,KB,cJ.of (s1 _ _ hG),?_,aX (bW 2 (aX (A4 (bW 1 (bW 3 #[L,_,_,uo,KB,KB,cJ.of (s1 _ _ hL),ci huo,ca (.mk KB (k2 op (Iz Xr)) ef (ag.keep (aI.keeps s1) _ euo) gf' (gf g (.tail _ (Iz hg))) λH2 s2=>?_)])) (λ_ _=>rfl))))]))))) KB) (λ_ _=>rfl))) (ahg T I) (hr.mono [01]) T.Ze.c aC)
  .rw[show(((n+1:GQ):Int)-1)=((n:GQ):Int) by lia]
   exact ci (by rw[HI,Xr];rfl)
  .refine aY (cA fW (bW 4 (cg #[KB,_,KB,?_])))
   cases hz:vN op f g with
   |none=>
    rw[hz] at hl;exact eU (HC KB) (uc (fin (s1.trans s2) (ag.keep (aI.keeps s2) _ ef) hn (by rw[<-hl,hd])))
   |some z=>
    rw[hz] at hl;refine e8 (He nofun) (aW 2 zU.nd (cj (aX (bW 4 (ca (.mk KB λH3 u3 s3 e3=>?_)))) (aa7 T) (hr.mono [01]) T.d_P.c aC));have s13:=(s1.trans s2).trans s3;exact dA (lY (i:=3) zU.nd KB (HF KB) aG l0) #[_,KB,_,_,KB,KB,fi #[os.length-(n+1),by lia,RA z,u3,n+1,_,KB,s13,e3 M (hM.up (s1.trans s2)),(rl (EW hz)).ok,lt,KB,hl]]
 .refine fin s1 ef hn ?_
  rw[<-hl,show ps.drop n=[] from Mc (by lia)]
  rfl
section
open Vbemac (fold)
def akC (T:Txt K mg a) (I:jK K a) (S:f9 P w K mg base a k):T.d_9.U P w base (k+1) (rV a (k+2) λe=> ∃x,ko e=GM x):=by
 refine pW T.d_9.F aan [03] [02];intro X D;obtain @⟨e,v,M,rfl,hM,r,⟨⟨st,ops,Qg⟩,hc⟩,q⟩:=h;have rm:=r.ms;have rf:=r.fr;obtain⟨_,gq,us,i,⟨L,rfl,nL,hL⟩,po,lg⟩:=o3 r.at_ hc;obtain⟨c1,c2⟩:=pP hc r.ok;obtain⟨o,ho⟩: ∃o,o∈ops:=by cases e<;>cases hc<;>exact#[_, .head _]
 have:=(c2 o ho).2.1
 have:=eA o;refine sh (y:="operand") (i:=2) 1 aan.nd [07] (eE (by show m6 ["chain","operands","operand"] (ah s_9) _ [("operand",2)]=IN;decide+kernel)) (λ_ _ _ _ _=>aq S hr (by rfl) T.Zd.c aC (aa (pv 2) ac)) (Yj hL po (λo ho=>#[(c2 o ho).1,by have:=(c2 o ho).2.1;lia,by have:=(c2 o ho).2.2;lia]) (by lia) hM (λ_ q=>i.Lo aJ T.K7 T.L4 KB q) λH1 D1 Vc s1 nD1 SG WS=>?_) (λ_ _ _ _ _=>cY (i:=2) aan.nd KB (HF KB)) (nF KB KB KB KB)
 refine aY #[_,bg jG [07] (D5 (aa (bA (by rfl) T.VD) (aa (bA (by rfl) T.TF) ac))) KB,i.Lo s1 T.K7 T.Ke KB #[by show 2<=GZ;decide,λx2 hx2=>#[x2,_,KB, .inr (qd.of aj),KB,KB,_,KB,?_]]];have s2:=a8 (o:=HO.tup [V.int 0,V.int 1]) hx2;have Yl:=s1.trans s2;have e1:uF (.int (st:GQ)) [.int 0, .int 1]=decide (st<=1):=by
  show((0:Int) == (st:GQ)||((1:Int) == (st:GQ)||false))=_
  rw[Iv];simp only[OB,beq_iff_eq,Il,PJ];lia
 rw[GG (c:=(IR:HK)=IN) Gu,e1];refine eR (λz=>?_) λz=>?_
 .exact aD (cj (aX (bW 0 (aX (bW 1 (ca (.mk (k:=k+2) KB (hM.up Yl) (r.up Yl) hc z nD1 (s2 _ _ SG) (iu s2 WS) λH' u s' e'=>q H' u (Yl.trans s') e')))))) (akA T I) [05] T.d_p.c aC)
 .exact aD (cj (aX (bW 0 (aX (bW 1 (ca (.mk (k:=k+2) KB (hM.up Yl) (r.up Yl) hc z nD1 (s2 _ _ SG) (iu s2 WS) λH' u s' e'=>q H' u (Yl.trans s') e')))))) (akB T I) [05] T.d_y.c aC)
def akD (T:Txt K mg a) (I:jK K a) (kF:vT P w K a.HQ cv) (S:f9 P w K mg base a k):f9 P w K mg base a (k+2):=by
 refine pW T.Zd.F afU [03] [02];intro X D;obtain @⟨e,v,M,rfl,hM,r,_,q⟩:=h;have nd:=rA r.at_;have is: ∀ {cl x:Ha}{C f:GB}{fd:Ia}{y:Ha}{ok:GD->Prop}{ss:Gr Stmt}{p1 p2 p3 p4 p5 p6 p7 p8 p9:Pos}(j:GQ),mg cl=GM (.ref C)->(tq a)[j]?=GM C->b6 P w K mg base nJ (k+1) f fd [y] (rV a (k+2) ok)->CD K mg x f fd [y]->(tJ e=j->ok e)->(tJ e≠j->Bd X ss D [GM v] H)->Gl X cl->Gl X x->(cl == ("__debug__":Ha))=IR->(x == ("__debug__":Ha))=IR->Bd X (.If (.Call (.Name "isinstance" p1) [.Name "exp" p2, .Name cl p3] [] p4) [.Return (GM (.Call (.Name x p5) [.Name "exp" p6] [] p7)) p8] [] p9::ss) D [GM v] H:=λj hm hj G d ho no g1 g2 b1 b2=>
  aY (gT I T.HR nd aJ hj hm (pv 0) [08] (eR (λz=>aD (cj (aX (bW 0 (ca (.mk KB hM r (ho z) q)))) G hr d aC g2 b2)) no) KB g1 b1)
 refine is 2 T.RC KB (akz T I kF S) T.d_w.c (λz=>?_) (λz2=>?_) KB KB [01] [01]
 .cases e<;>first|exact#[_,_,KB]|cases z
 refine is 3 T.OH KB (akx T I S) T.d_8.c (λz=>?_) (λz3=>?_) KB KB [01] [01]
 .cases e<;>first|exact .inl #[_,KB]|exact .inr #[_,KB]|cases z
 refine is 4 T.PQ KB (akC T I S) T.d_9.c (λz=>?_) (λz4=>?_) KB KB [01] [01]
 .cases e<;>first|exact#[_,KB]|cases z
 refine is 5 T.O0 KB (ahh T I S) T.Zg.c (λz=>?_) (λz5=>?_) KB KB [01] [01]
 .cases e<;>first|exact#[_,_,_,KB]|cases z
 refine is 6 T.Vt KB (aky T I S) T.d_J.c (λz=>?_) (λz6=>?_) KB KB [01] [01]
 .cases e<;>first|exact#[_,_,_,_,KB]|cases z
 have e1:fold e=e:=by cases e<;>first|(rw[fold];done)|exact G6 KB z2|exact G6 KB z3|exact G6 KB z4|exact G6 KB z5|exact G6 KB z6
 rw[e1] at q;exact aD (bW 0 (q H v aJ r.at_))
def xS (T:Txt K mg a) (hk:k<=1):f9 P w K mg base a (k+1):=by
 refine pW T.Zd.F afU [03] [02];intro X D;obtain @⟨e,v,M,rfl,hM,r,_,q⟩:=h;have:=r.fr;have:=eA e;exact G6 hk (by lia)
theorem nz (T:Txt K mg a) (I:jK K a) (kF:vT P w K a.HQ cv): ∀k,f9 P w K mg base a (k+1)
 |0=>xS T (by decide)
 |1=>xS T (by decide)
 |k+2=>akD T I kF (nz T I kF k)
end
abbrev EQ (x:Gz) (lo hi:GD):Gr Ha:=sb x::tx " in "::(xF lo++(tx " .. "::xF hi))
inductive ahi (K:Gy) (a:bI) (k:GQ) (vs:Gr V) (H:Hp) (Q:VK) (_E:XK):Prop
 |mk (x:Gz) (lo hi:GD) (p C dx:GB) (fs:Gr (Ha×V)) (u1 u2:V) (M:GB->Prop) (_:vs=[.ref p]) (_:H p=GM (.ins C dx fs)) (_:iZ K C) (_:aH K C "name") (_:aH K C "first") (_:aH K C "last") (_:fs.lookup ("name":Ha)=GM (.str (sb x))) (_:fs.lookup ("first":Ha)=GM u1) (_:fs.lookup ("last":Ha)=GM u2) (_:ag a M H lo u1) (_:ag a M H hi u2) (_:fr lo<=k) (_:fr hi<=k) (_:(EQ x lo hi).length<=GZ) (_:Nw H (EQ x lo hi) Q):ahi K a k vs H Q _E
inductive ahj (a:bI) (k:GQ) (vs:Gr V) (H:Hp) (Q:VK) (_E:XK):Prop
 |mk (l:Je) (v:V) (us:Gr V) (M:GB->Prop) (_:vs=[v]) (_:bM M H us v) (_:bj a M H l us) (_:kl l<=k) (_:(aF l).length<=GZ) (_:Nw H (aF l) Q):ahj a k vs H Q _E
section
variable {k:GQ}
abbrev pi (P:Hr) (w:HW) (K:Gy) (mg:Ha->GJ GC) (base:Im) (a:bI) (k:GQ):Prop:=b6 P w K mg base nJ (k+1) a.f_a a.adC ["exp"] (vI a λe=>fr e<=k)
def eO {M:GB->Prop}{H H':Hp}{E:XK}{ta:TA}{σ:L2.St}{e:GD}{v:V}{ok:GD->Prop}(he:ag a M H e v) (s:aI H H') (hf:ok e) (hl:(xF e).length<=GZ) (h:Bj ta σ H' [v]):Fr (iV (vI a ok) [] E ta) σ H' (xF e):=dw h λQ q=>#[e,v,M,KB,ag.keep (aI.keeps s) e he,hf,hl,q]
def gE {ta:TA}{σ:L2.St}{H:Hp}{p:Ha}(h:Bj ta σ H [.str p]):Fr (ZS ta) σ H [p]:=jm h KB (by show 1<=GZ;decide)
def aI.rfl {H:Hp} :aI H H:=λ_ _ e=>e
def ahk (T:Txt K mg a) (QL:pi P w K mg base a k):T.d_x.U P w base (k+2) (ahi K a k):=by
 refine T.d_x.F.ok ajJ [03] [02];obtain⟨x,lo,hi,p,C,dx,fs,u1,u2,M,rfl,z,c,n1,n2,n3,l1,l2,l3,h1,h2,f1,f2,hl,hQ⟩:=h;refine#[_,(ak (aB (aZ bC (aZ bC (aZ bC (bn (aa [07] (aa aK ac))) (aq QL [05] (by rfl) T.Tz.c aC (aa [07] ac))) (bn (aa aK ac))) (aq QL [05] (by rfl) T.Tz.c aC (aa [07] ac))))),?_];have hl':2+((xF lo).length+(1+(xF hi).length))<=GZ:=by
  simp only[Gv,Gw] at hl;lia
 refine(Fr.eq (bV (bV (bV (jm (ps:=[sb x,tx " in "]) (ao (cN (bE KB) z c n1 l1) (ao cq aE)) KB (by show 2<=GZ;decide))
  (λH1 s1=>eO h1 s1 f1 (by lia) (ao (cN (bE KB) (s1 _ _ z) c n2 l2) aE)) ?_) (λH1 s1=>gE (ao cq aE)) ?_)
  (λH1 s1=>eO h2 s1 f2 (by lia) (ao (cN (bE KB) (s1 _ _ z) c n3 l3) aE)) ?_) (by simp)) _ hQ
 .show 2+_<=_;lia
 .simp only[Gv,Gw,GU];lia
 .simp only[Gv,Gw,GU];lia
def akE (T:Txt K mg a) (QL:pi P w K mg base a k):T.d_4.U P w base (k+2) (vI a λe=>tJ e=5/\fr e<=k+4):=by
 refine T.d_4.F.ok afR [03] [02];obtain⟨e,v,M,rfl,he,⟨hc,hf⟩,hl,hQ⟩:=h;obtain⟨c,x,y,rfl⟩: ∃c x y,e= .pick c x y:=by cases e<;>first|exact#[_,_,_,KB]|cases hc
 unfold ag at he;obtain⟨u1,u2,u3,⟨p,dx,rfl,m,z⟩,h1,h2,h3⟩:=he;rw[fr] at hf;have f1:=Iw (fr c) (max (fr x) (fr y));have f2:=IH (fr c) (max (fr x) (fr y));have f3:=Iw (fr x) (fr y);have f4:=IH (fr x) (fr y);have hl':1+((xF c).length+(1+((xF x).length+(1+(xF y).length))))<=GZ:=by
  rw[xF] at hl;simp only[Gv,Gw] at hl;lia
 refine#[_,(ai (b4 (i:=1) afR.nd KB (HF KB) (aZ bC (aZ bC (aZ bC (bn (aa aK ac)) (aq QL [05] (by rfl) T.Tz.c aC (aa [07] ac))) (bn (aa aK ac))) (aq QL [05] (by rfl) T.Tz.c aC (aa [07] ac))))
   (ak (aB (aZ bC (aZ bC (pv 1) (bn (aa aK ac))) (aq QL [05] (by rfl) T.Tz.c aC (aa [07] ac)))))),?_]
 refine bV (bV (bV (gE (p:=tx "if ") (ao cq aE)) (λH1 s1=>eO h1 s1 (by lia) (by lia) (ao (cN (bE KB) (s1 _ _ z) T.Lc T.LF KB) aE)) ?_) (λH1 s1=>gE (p:=tx " then ") (ao cq aE)) ?_)
  (λH1 s1=>eO h2 s1 (by lia) (by lia) (ao (cN (bE KB) (s1 _ _ z) T.Lc T.Lz KB) aE)) ?_ _ λH1 L s1 n1 e1=>?_
 .show 1+_<=_;lia
 .simp only[Gv,Gw,GU];lia
 .simp only[Gv,Gw,GU];lia
 have z1:=s1 _ _ z;refine(Fr.eq (bV (sR (qs:=[tx " else "]) (bE KB) e1 (gE (ao cq aE)) ?_) (λH2 s2=>eO h3 (s1.trans s2) (by lia) (by lia) (ao (cN (bE KB) (s2 _ _ z1) T.Lc T.KI KB) aE)) ?_) (by rw[xF];simp)) _ (hQ.up s1)
 .simp only[Gv,Gw,GU];lia
 .simp only[Gv,Gw,GU];lia
end
section
open Vbemac (strength)
def xl:Je->Gr GD
 | .nil=>[]
 | .cons e l=>e::xl l
def aN (d:Gr GD):Gr Ha:=d.flatMap λe=>tx ", "::xF e
def aL:Gr GD->Gr Ha
 |[]=>[]
 |e::d=>xF e++aN d
def Dp (x y:Gr GD):aN (x++y)=aN x++aN y:=KR
theorem Ym: ∀l:Je,aN (xl l)=if xl l=[] then [] else tx ", "::aF l
 | .nil=>rfl
 | .cons e .nil=>by
  rw[xl,xl,GG (IV _ _),aF];show(tx ", "::xF e)++[]=_;rw[G7]
 | .cons e (.cons e2 l)=>by
  rw[xl,GG (IV _ _),aF]
  .show(tx ", "::xF e)++aN (xl (.cons e2 l))=_
   rw[Ym (.cons e2 l),xl,GG (IV _ _)]
   rfl
  .intro z;cases z
def ahl: ∀l:Je,aF l=aL (xl l)
 | .nil=>by rw[aF,xl,aL]
 | .cons e .nil=>by rw[aF,xl,xl,aL,aN];simp
 | .cons e (.cons e2 l)=>by
  rw[aF,xl,aL,Ym,xl,GG (IV _ _)];intro z;cases z
def uY {w:GQ}{e:GD}{ps:Gr Ha}(h:ps≠[]):pF w e ps≠[]:=by
 unfold pF;split
 .exact IV _ _
 .exact h
theorem qB: ∀e:GD,xF e≠[]
 | .num n=>by rw[xF];exact IV _ _
 | .name _=>by rw[xF];exact IV _ _
 | .call _ l=>by rw[xF];exact IV _ _
 | .neg e=>by rw[xF];exact IV _ _
 | .not e=>by rw[xF];exact IV _ _
 | .sums e r=>by rw[xF];exact JP (uY (qB e)) _
 | .prods e r=>by rw[xF];exact JP (uY (qB e)) _
 | .cmp _ e b=>by rw[xF];exact JP (uY (qB e)) _
 | .both e r=>by rw[xF];exact JP (uY (qB e)) _
 | .either e r=>by rw[xF];exact JP (uY (qB e)) _
 | .pick c _ _=>by rw[xF];exact IV _ _
 | .sum _ _ _ _=>by rw[xF];exact IV _ _
def cL (w:GQ) (l:Gr (Ha×GD)):Gr Ha:=l.flatMap λx=>tx " "::x.1::tx " "::pF w x.2 (xF x.2)
def ChV (a:bI) (M:GB->Prop) (H:Hp):Gr (Ha×GD)->Gr V->Gr V->Prop
 |[],us,ss=>us=[]/\ss=[]
 |x::l,us,ss=> ∃u vs ts,us=u::vs/\ss= .str x.1::ts/\ag a M H x.2 u/\ChV a M H l vs ts
section
variable {M:GB->Prop}{H:Hp}
theorem bj.get: ∀ {l:Je}{us:Gr V},bj a M H l us->us.length=(xl l).length/\ ∀(i:GQ) (u:V),us[i]?=GM u-> ∃e,(xl l)[i]?=GM e/\ag a M H e u/\fr e<=kl l
 | .nil,us,h=>by
  unfold bj at h;subst h;exact#[KB,λi u e=>by simp at e]
 | .cons e l,us,h=>by
  unfold bj at h;obtain⟨u,vs,rfl,h1,h2⟩:=h;obtain⟨n,g⟩:=bj.get h2;rw[xl,kl];refine#[Hv (· +1) n,λi v hi=>?_];cases i with
  |zero=>cases hi;exact#[e,KB,h1,Iw _ _]
  |succ i=>
   obtain⟨x,q1,q2,q3⟩:=g i v hi;exact#[x,q1,q2,G0 q3 (IH _ _)]
theorem ChV.get: ∀ {l:Gr (Ha×GD)}{us ss:Gr V},ChV a M H l us ss->us.length=l.length/\ss.length=l.length/\ ∀(i:GQ) (u s:V),us[i]?=GM u->ss[i]?=GM s-> ∃x,l[i]?=GM x/\s= .str x.1/\ag a M H x.2 u
 |[],us,ss,h=>by
  obtain⟨rfl,rfl⟩:=h;exact#[KB,KB,λi u s e=>by simp at e]
 |x::l,us,ss,h=>by
  obtain⟨u,vs,ts,rfl,rfl,h1,h2⟩:=h;obtain⟨n,m,g⟩:=ChV.get h2;refine#[Hv (· +1) n,Hv (· +1) m,λi v s hi hs=>?_];cases i with
  |zero=>cases hi;cases hs;exact#[x,KB,KB,h1]
  |succ i=>exact g i v s hi hs
theorem oJ: ∀ {r:ND}{us ss:Gr V},cR a M H r us ss-> ∃l,ChV a M H l us ss/\(∀w,rF w r=cL w l)/\ ∀x∈l,fr x.2<=oE r
 | .nil,us,ss,h=>by
  unfold cR at h;exact#[[],h,(λw=>by rw[rF];rfl),λ_ z=>nomatch z]
 | .cons op e r,us,ss,h=>by
  unfold cR at h;obtain⟨u,vs,ts,rfl,rfl,h1,h2⟩:=h;obtain⟨l,q1,q2,q3⟩:=oJ h2;refine#[(dI op,e)::l,#[u,vs,ts,KB,KB,h1,q1],(λw=>by rw[rF,q2];rfl),λx hx=>?_];rw[oE];rcases Hg.mp hx with z|z
  .rw[z];exact Iw _ _
  .exact G0 (q3 x z) (IH _ _)
theorem pq {g:Ha} : ∀ {r:Je}{us:Gr V},bj a M H r us-> ∃l,ChV a M H l us (us.map λ_=> .str g)/\(∀w,mF w g r=cL w l)/\ ∀x∈l,fr x.2<=kl r
 | .nil,us,h=>by
  unfold bj at h;subst h;exact#[[],#[KB,KB],(λw=>by rw[mF];rfl),λ_ z=>nomatch z]
 | .cons e r,us,h=>by
  unfold bj at h;obtain⟨u,vs,rfl,h1,h2⟩:=h;obtain⟨l,q1,q2,q3⟩:=pq (g:=g) h2;refine#[(g,e)::l,#[u,vs,_,KB,KB,h1,q1],(λw=>by rw[mF,q2];rfl),λx hx=>?_];rw[kl];rcases Hg.mp hx with z|z
  .rw[z];exact Iw _ _
  .exact G0 (q3 x z) (IH _ _)
structure akF (a:bI) (M:GB->Prop) (H:Hp) (e:GD) (p dx:GB) (q g u:V) (us ss:Gr V) (e0:GD) (l:Gr (Ha×GD)):Prop where
 at_:H p=GM (.ins a.Ky dx [("strength", .int (strength e:GQ)),("operands",q),("signs",g)])
 hq:bM M H (u::us) q
 hg:bM M H ss g
 h0:ag a M H e0 u
 hl:ChV a M H l us ss
 hx:xF e=pF (strength e+1) e0 (xF e0)++cL (strength e+1) l
 hf: ∀n,fr e<=n+3->fr e0<=n/\ ∀x∈l,fr x.2<=n
def qf {x y n:GQ}(h:3+max x y<=n+3):x<=n/\y<=n:=by
 have:=Iw x y
 have:=IH x y;lia
def ahm {e:GD}{v:V}(h4:tJ e=4) (h:ag a M H e v): ∃p dx q g u us ss e0 l,v= .ref p/\akF a M H e p dx q g u us ss e0 l:=by
 cases e<;>first|(cases h4;done)|skip
 .unfold ag at h
  obtain⟨q,g,u,us,ss,⟨p,dx,rfl,_,z⟩,h1,h2,h3,h5⟩:=h;obtain⟨l,q1,q2,q3⟩:=oJ h5;exact#[p,dx,q,g,u,us,ss,_,l,KB,z,h1,h2,h3,q1,by rw[xF,q2];rfl,λn f=>by rw[fr] at f;exact#[(qf f).1,λx hx=>G0 (q3 x hx) (qf f).2]]
 .unfold ag at h
  obtain⟨q,g,u,us,ss,⟨p,dx,rfl,_,z⟩,h1,h2,h3,h5⟩:=h;obtain⟨l,q1,q2,q3⟩:=oJ h5;exact#[p,dx,q,g,u,us,ss,_,l,KB,z,h1,h2,h3,q1,by rw[xF,q2];rfl,λn f=>by rw[fr] at f;exact#[(qf f).1,λx hx=>G0 (q3 x hx) (qf f).2]]
 .rename_i op x y
  unfold ag at h;obtain⟨q,g,u,u2,⟨p,dx,rfl,_,z⟩,h1,h2,h3,h5⟩:=h;refine#[p,dx,q,g,u,[u2],_,_,[(dI op,y)],KB,z,h1,h2,h3,#[u2,[],[],KB,KB,h5,KB,KB],?_,λn f=>by rw[fr] at f;exact#[(qf f).1,λx hx=>by rw[Hx.mp hx];exact(qf f).2]];rw[xF];show _=_++((tx " "::dI op::tx " "::pF 3 y (xF y))++[]);rw[G7]
  rfl
 .unfold ag at h
  obtain⟨q,g,u,us,⟨p,dx,rfl,_,z⟩,h1,h2,h3,h5⟩:=h;obtain⟨l,q1,q2,q3⟩:=pq (g:=tx "&&") h5;exact#[p,dx,q,g,u,us,_,_,l,KB,z,h1,h2,h3,q1,by rw[xF,q2];rfl,λn f=>by rw[fr] at f;exact#[(qf f).1,λx hx=>G0 (q3 x hx) (qf f).2]]
 .unfold ag at h
  obtain⟨q,g,u,us,⟨p,dx,rfl,_,z⟩,h1,h2,h3,h5⟩:=h;obtain⟨l,q1,q2,q3⟩:=pq (g:=tx "||") h5;exact#[p,dx,q,g,u,us,_,_,l,KB,z,h1,h2,h3,q1,by rw[xF,q2];rfl,λn f=>by rw[fr] at f;exact#[(qf f).1,λx hx=>G0 (q3 x hx) (qf f).2]]
end
def FW {K:Gy}{a b:GB}{xs ys:Gr V}{g:TG}{tb:TS}{D:dB}{σ:L2.St}{H:Hp}(Pv:GQ->L2.St->Hp->Prop) (h0:Pv 0 σ H) (hn:xs.length=ys.length) (hl: ∀i σ H,Pv i σ H->cJ K H a xs/\cJ K H b ys)
  (hs: ∀i x y σ H T,xs[i]?=GM x->ys[i]?=GM y->H T=Ix->Pv i σ H->g (.ref T) σ (bf H T (.tup [x,y])) λσ2 H2=>tb { D with nx:=Pv (i+1),ct:=Pv (i+1),bk:=D.nx } σ2 H2) (hd: ∀σ H,Pv xs.length σ H->D.nx σ H):
  ∃W:GQ->GQ->L2.St->Hp->Prop,(∃m,W 0 m σ H)/\ ∀i m σ H,W i m σ H->
   ((Xx K a b).stop i H/\D.nx σ H)\/((Xx K a b).go i H/\ ∃N:L2.St->Hp->Prop,(∀σ' H',N σ' H'-> ∃m',m'<m/\W (i+1) m' σ' H')/\ ∀x H',(Xx K a b).Xl i H x H'->g x σ H' λσ2 H2=>tb { D with nx:=N,ct:=N,bk:=D.nx } σ2 H2):=by
 refine#[λi m σ H=>m=xs.length-i/\i<=xs.length/\Pv i σ H,#[xs.length,by simp,HG _,h0],?_];rintro i m σ H ⟨rfl,hi,p⟩;obtain⟨q,q'⟩:=hl i σ H p;by_cases RW:i<xs.length
 .refine .inr #[#[xs,ys,xs[i],ys[i]'(by lia),q,q',by simp [RW],by simp [show i<ys.length by lia]],Pv (i+1),λσ' H' p'=>#[xs.length-(i+1),by lia,KB,RW,p'],λx H' y=>?_]
  obtain⟨T,x1,y1,rfl,nT,rfl,e1,e2⟩:=y;exact hs i x1 y1 σ H T (e1 xs q) (e2 ys q') nT p
 .have e:i=xs.length:=by lia
  subst e;exact .inl #[#[xs,ys,q,q', .inl (GY _)],hd σ H p]
section
variable {k:GQ}
def akG (T:Txt K mg a) (QL:pi P w K mg base a k):T.d_O.U P w base (k+2) (ahj a k):=by
 refine T.d_O.F.ok aak [03] [02];obtain⟨l,v,us,M,rfl,⟨q,rfl,_,z⟩,hx,hf,hl,hQ⟩:=h;refine#[_,(ai (b4 (i:=1) aak.nd KB (HF KB) (bn ac))
   (ai (j6 JA KB (fN (pv 0)) (cY (i:=2) aak.nd KB (HF KB)) (ai (kU (bz (bg qg (aS bL (by rfl) T.LV Jg (aa (pv 1) ac)) aG (a0 _)) (ak (a6 (df G9 Io Ip dh (pv 1) (aa aK ac)))) aQ))
   (ak (a6 (df G9 HA HB bZ (pv 1) (aa (aq QL [05] (by rfl) T.Tz.c aC (aa (pv 2) ac)) ac))))))
   (ak (aB (pv 1))))),?_]
 rw[ahl] at hl hQ;obtain⟨n,gt⟩:=hx.get;refine iG (ps:=[]) (jm aE KB (by show 0<=GZ;decide)) λH1 L g1=>?_;refine#[q,KB,#[_,cJ.of (g1.sm _ _ z)],iq (xs:=us) (λi σ' H'=> ∃x d r,σ'=[GM (.ref q),GM (.ref L),x]/\xl l=d++r/\d.length=i/\eY H L H' (aL d)) #[_,[],xl l,KB,KB,KB,g1] ?_ ?_ ?_]
 .rintro i σ' H' hi ⟨x,d,r,rfl,_,_,g⟩
  exact cJ.of (g.sm _ _ z)
 .rintro i u σ' H' hu ⟨x,d,r,rfl,ed,dl,g⟩
  obtain⟨e,h1,h2,h3⟩:=gt i u hu;obtain⟨r',rfl⟩: ∃r',r=e::r':=by
   rw[ed,<-dl,LC (GY _),Me] at h1;cases r with
   |nil=>cases h1
   |cons y r'=>cases h1;exact#[r',KB]
  have V1:(aL (d++e::r')).length<=GZ:=by rw[<-ed];exact hl
  refine#[λσ2 H2=>σ2=[GM (.ref q),GM (.ref L),GM u]/\ ∃ps,eY H L H2 ps/\ps++xF e=aL (d++[e])/\ps.length+(xF e).length<=GZ,?_,?_]
  .refine#[L,_,KB, .inl (cJ.of g.at_),_,_,KB,KB,_,KB,?_]
   cases d with
   |nil=>
    refine e8 (He (by simp [aL])) ?_;refine#[KB,[],g,by show xF e=xF e++[];simp,?_];have:(xF e++aN r').length<=GZ:=V1;rw[Gw] at this;show 0+_<=_;lia
   |cons y d=>
    have ne:0<(aL (y::d)).length:=by
     show 0<(xF y++aN d).length
     rw[Gw];have:=Gr.length_pos_iff.mpr (qB y);lia
    have:(xF y++aN (d++e::r')).length<=GZ:=V1;rw[Dp,Gw,Gw] at this
    have:(xF y).length+((aN d).length+((tx ", "::xF e)++aN r').length)<=GZ:=this;rw[Gw,Gv] at this
    have ly:(aL (y::d)).length=(xF y).length+(aN d).length:=Gw;refine eU (HC (by rw[GK];lia)) ?_;refine wM g KB cq (by lia) λH2 g2=>#[KB,_,g2,?_,by rw[Gw];show _+1+_<=_;lia]
    show(xF y++aN d)++[tx ", "]++xF e=xF y++aN (d++[e])
    rw[Dp];show _=xF y++(aN d++((tx ", "::xF e)++[]));simp
  .rintro σ2 H2 ⟨rfl,ps,g2,ee,ll⟩
   exact j0 g2 KB (eO h2 g2.sm (by lia) (by lia) (ao (bE KB) aE)) ll λH3 g3=>#[_,d++[e],r',KB,by rw[ed];simp,by simp [dl],ee▸g3]
 .rintro σ' H' ⟨x,d,r,rfl,ed,dl,g⟩
  have:r=[]:=by
   have:=Hv MR ed;rw[Gw] at this;exact MO (by lia)
  subst this;rw[G7] at ed;rw[ed] at hQ;exact(g.end_ hQ)
end
end
section
open Vbemac (strength)
section
variable {k:GQ}
abbrev AO (P:Hr) (w:HW) (K:Gy) (mg:Ha->GJ GC) (base:Im) (a:bI) (k:GQ):Prop:=b6 P w K mg base nJ k a.f_k a.adD ["exp","weakest"] (zK a k)
def CA {M:GB->Prop}{H H':Hp}{E:XK}{ta:TA}{σ:L2.St}{e:GD}{v:V}{n:GQ}(he:ag a M H e v) (s:aI H H') (hf:fr e<=k) (hl:(pF n e (xF e)).length<=GZ) (h:Bj ta σ H' [v, .int (n:GQ)]):Fr (iV (zK a k) [] E ta) σ H' (pF n e (xF e)):=dw h λQ q=>#[e,v,M,n,KB,ag.keep (aI.keeps s) e he,hf,hl,q]
def BT (n:GQ) (x y:Gr (Ha×GD)):cL n (x++y)=cL n x++cL n y:=KR
def Yn {te tf:TE}{σ:L2.St}{H:Hp}{i j:Int}(h1:Ev te σ H (.int i)) (h2:Ev tf σ H (.int j)):Ev (Bg (vW λi j=> .int (i+j)) te tf) σ H (.int (i+j)):=λQ q=>h1 _ (h2 _ #[_,_,KB,KB,q])
def E2 {t1 t2:TE}{gg:TG}{tb:TS}{Z:dB}{σ:L2.St}{H:Hp}{xs ys:Gr V}{g:GB}(h1:Ev t1 σ H (.ref g)) (h2: ∀Q:VK,(∀t,H t=Ix->Q (.ref t) (bf H t (.lst ys)))->t2 σ H Q) (zx:H g=GM (.lst xs))
  (h: ∀t,H t=Ix-> ∃W:GQ->GQ->L2.St->Hp->Prop,(∃m,W 0 m σ (bf H t (.lst ys)))/\ ∀i m σ H,W i m σ H->
   ((Xx K g t).stop i H/\Z.nx σ H)\/((Xx K g t).go i H/\ ∃N:L2.St->Hp->Prop,(∀σ' H',N σ' H'-> ∃m',m'<m/\W (i+1) m' σ' H')/\ ∀x H',(Xx K g t).Xl i H x H'->gg x σ H' λσ2 H2=>tb { Z with nx:=N,ct:=N,bk:=Z.nx } σ2 H2)):aet (aeO K (fz t1 (fz t2 j9))) gg tb Z σ H:=
 h1 _ (h2 _ λt ht=>#[g,t,xs,ys,KB,cJ.of ((a8 ht) _ _ zx),cJ.of aj,h t ht])
def akH (T:Txt K mg a) (G_k:AO P w K mg base a k):T.d_H.U P w base (k+1) (vI a λe=>tJ e=4/\fr e<=k+3):=by
 refine T.d_H.F.ok Gj [03] [02];obtain⟨e,v,M,rfl,he,⟨hc,hf⟩,hl,hQ⟩:=h;obtain⟨p,dx,q,g,u,us,ss,e0,l,rfl,C⟩:=ahm hc he;obtain⟨f0,f1⟩:=C.hf k hf;obtain⟨q,rfl,_,zq⟩:=C.hq;obtain⟨g,rfl,_,zg⟩:=C.hg;have zp:=C.at_;obtain⟨n1,n2,gt⟩:=C.hl.get;rw[C.hx] at hl hQ;rw[Gw] at hl;refine#[_,(ai (b4 (i:=1) Gj.nd KB (HF KB) (aq G_k [05] (by rfl) T.Za.c aC (aa (eS cX [07] aG (λ_ _=>rfl)) (aa (aZ eu [07] aG) ac))))
   (ai (j6 JA KB (aaa (by rfl) T.ael (aa [07] (aa (ig jP [07] (gk aG) rL) ac))) (ZN KB (uQ (cY (i:=2) Gj.nd KB (HF KB)) (uQ (cY (i:=3) Gj.nd KB (HF KB)) Fd))) (ai (a6 (df G9 HA HB bZ (pv 1) (aa (bn (aa aK (aa (pv 2) (aa aK ac)))) ac)))
   (ak (a6 (df G9 HA HB bZ (pv 1) (aa (aq G_k [05] (by rfl) T.Za.c aC (aa (pv 3) (aa (aZ eu [07] aG) ac))) ac))))))
   (ak (aB (pv 1))))),?_]
 have fst: ∀ {σ:L2.St}{H':Hp},aI H H'->σ[0]?=GM (GM (.ref p))->Ev (Bg (vW λi j=> .int (i+j)) (m8 K (ei 0) "strength") (tC (.int 1))) σ H' (.int ((strength e+1:GQ):Int)):=λs h=>Yn (cN (bE h) (s _ _ zp) T.K7 T.Ke KB) cq
 have opn: ∀ {σ:L2.St}{H':Hp},aI H H'->σ[0]?=GM (GM (.ref p))->Ev (m8 K (ei 0) "operands") σ H' (.ref q):=λs h=>cN (bE h) (s _ _ zp) T.K7 T.L4 KB
 refine iG (CA C.h0 aI.rfl f0 (by lia) (ao (v:=u) (λQ1 q1=>opn aI.rfl KB _ #[q,_,_,_,KB,KB,cJ.of zq,ci (j:=0) KB,q1]) (ao (fst aI.rfl KB) aE))) λH1 L g1=>?_;have sg:Ev (m8 K (ei 0) "signs") [GM (.ref p),GM (.ref L),Ix,Ix] H1 (.ref g):=cN (bE KB) (g1.sm _ _ zp) T.K7 T.L5 KB;have e1:lq (u::us) (GM 1) Ix=us:=by
  unfold lq;rw[HT.Sv,show HT.RY (u::us).length 0 (GM 1)=min 1 (u::us).length from HT.QJ _ _ 1,OY (by simp)];exact Kl (by simp)
 refine seq (E2 sg (ys:=us) (λQ1 q1=>opn g1.sm KB _ #[_,KB,q,_,KB,cJ.of (g1.sm _ _ zq),λt ht=>by rw[e1];exact q1 t ht]) (g1.sm _ _ zg) λt ht=>?_);have gL:L≠t:=aw g1.at_ ht;have t0:H t=Ix:=gm g1.sm ht;let B:Hp:=bf H t (.lst us);have sB:aI H B:=a8 t0;have g2:eY B L (bf H1 t (.lst us)) (pF (strength e+1) e0 (xF e0)):=#[by show bf H t _ L=Ix;rw[af gL];exact g1.nw,λb o hb=>by
  have hb:bf H t (.lst us) b=GM o:=hb;by_cases z:b=t
  .rw[z,aj] at hb ⊢; exact hb
  .rw[af z] at hb ⊢; exact g1.sm _ _ hb,by rw[af gL];exact g1.at_]
 refine FW (xs:=ss) (ys:=us) (λi σ' H'=> ∃x y d r,σ'=[GM (.ref p),GM (.ref L),x,y]/\l=d++r/\d.length=i/\eY B L H' (pF (strength e+1) e0 (xF e0)++cL (strength e+1) d)) #[_,_,[],l,KB,KB,KB,by simpa [cL] using g2] (by lia) ?_ ?_ ?_
 .rintro i σ' H' ⟨x,y,d,r,rfl,_,_,g'⟩
  exact#[cJ.of ((sB.trans g'.sm) _ _ zg),cJ.of (g'.sm _ _ aj)]
 .rintro i s1 u1 σ' H' T' hs hu nT ⟨x,y,d,r,rfl,ed,dl,g'⟩
  obtain⟨o,h1,rfl,h3⟩:=gt i u1 s1 hu hs;obtain⟨r',rfl⟩: ∃r',r=o::r':=by
   rw[ed,<-dl,LC (GY _),Me] at h1;cases r with
   |nil=>cases h1
   |cons y r'=>cases h1;exact#[r',KB]
  have fo:=f1 o (by rw[ed];simp);refine#[T',_,KB,qd.of aj,KB,_,_,KB,_,_,KB,KB,?_]
  have V1:=hl;rw[ed,BT,Gw] at V1
  have V1:(pF (strength e+1) e0 (xF e0)).length+((cL (strength e+1) d).length+((tx " "::o.1::tx " "::pF (strength e+1) o.2 (xF o.2))++cL (strength e+1) r').length)<=GZ:=V1;rw[Gw,Gv,Gv,Gv] at V1
  have g3:eY B L (bf H' T' (.tup [.str o.1,u1])) (pF (strength e+1) e0 (xF e0)++cL (strength e+1) d):=#[g'.nw,g'.sm.trans (a8 nT),by rw[af (aw g'.at_ nT)];exact g'.at_];refine fQ g3 KB (jm (ps:=[tx " ",o.1,tx " "]) (ao cq (ao (bE KB) (ao cq aE))) KB (by show 3<=GZ;decide)) (by rw[Gw];show _+3<=_;lia) λH4 g4=>?_
  refine j0 g4 KB (CA h3 (sB.trans g4.sm) fo (by lia) (ao (bE KB) (ao (fst (sB.trans g4.sm) KB) aE))) (by rw[Gw,Gw];show _+3+_<=_;lia) λH5 g5=>#[_,_,d++[o],r',KB,by rw[ed];simp,by simp [dl],?_];rw[BT];have:cL (strength e+1) [o]=tx " "::o.1::tx " "::pF (strength e+1) o.2 (xF o.2):=G7 _;rw[this]
  simpa using g5
 .rintro σ' H' ⟨x,y,d,r,rfl,ed,dl,g'⟩
  have:r=[]:=by
   have:=Hv MR ed;rw[Gw] at this;exact MO (by lia)
  subst this;rw[G7] at ed;rw[ed] at hQ;exact(g'.end_ (hQ.up sB))
def aba {n:GQ}(h:n<1000000000000000000):(n:Int).natAbs.log2<1920:=by
 rw[Int.natAbs_natCast];by_cases n0:n=0
 .rw[n0];decide
 .exact Hl ((GQ.log2_lt n0).mpr (show n<2 ^ 64 by lia)) [01]
def akI (T:Txt K mg a) (I:jK K a) (hk:k<=900) (G_k:AO P w K mg base a (k+2)) (G2:AO P w K mg base a (k+1)) (G3:AO P w K mg base a k):T.d_G.U P w base (k+3) (vI a λe=>fr e<=k+4):=by
 have G_H:=akH T G2
 have QL:=Cq T G3
 have G_O:=akG T QL
 have G_x:=ahk T QL
 have G_4:=akE T QL;refine T.d_G.F.ok ajM [03] [02];obtain⟨e,v,M,rfl,he,hf,hl,hQ⟩:=h;refine#[_,(ai (bz (bS (aS bX (by rfl) T.HR ID (aa (pv 0) (aa (dn (by rfl) T.OZ) ac)))) (ak (aB (bn (aa (io sk (by rfl) T.aek boot_str (aa [07] ac)) ac)))) aQ)
   (ai (bz (bS (aS bX (by rfl) T.HR ID (aa (pv 0) (aa (dn (by rfl) T.Ua) ac)))) (ak (aB (bn (aa [07] ac)))) aQ)
   (ai (bz (bS (aS bX (by rfl) T.HR ID (aa (pv 0) (aa (dn (by rfl) T.RC) ac)))) (ak (aB (aZ bC (aZ bC (bn (aa [07] (aa aK ac))) (aq G_O [05] (by rfl) T.d_O.c aC (aa [07] ac))) (bn (aa aK ac))))) aQ)
   (ai (bz (bS (aS bX (by rfl) T.HR ID (aa (pv 0) (aa (dn (by rfl) T.OH) ac)))) (ak (aB (aZ bC (bn (aa [07] ac)) (aq G_k [05] (by rfl) T.Za.c aC (aa [07] (aa (bA (by rfl) T.NX) ac)))))) aQ)
   (ai (bz (bS (aS bX (by rfl) T.HR ID (aa (pv 0) (aa (dn (by rfl) T.PQ) ac)))) (ak (aB (aq G_H [05] (by rfl) T.d_H.c aC (aa (pv 0) ac)))) aQ)
   (ai (bz (bS (aS bX (by rfl) T.HR ID (aa (pv 0) (aa (dn (by rfl) T.O0) ac)))) (ak (aB (aq G_4 [05] (by rfl) T.d_4.c aC (aa (pv 0) ac)))) aQ)
   (ak (aB (aZ bC (aZ bC (aZ bC (aZ bC (bn (aa aK ac)) (aq G_x [05] (by rfl) T.d_x.c aC (aa (pv 0) ac))) (bn (aa aK ac))) (aq QL [05] (by rfl) T.Tz.c aC (aa [07] ac))) (bn (aa aK ac))))))))))),?_]
 obtain⟨C,q,dx,fs,hC,rfl,z,l⟩:=sw he;refine cD I hC (j:=0) KB z KB (λe4=>?_) (λn0=>?_)
 .cases e<;>first|(cases e4;done)|skip
  rename_i n;unfold ag at he;obtain⟨p,dx,e1,_,z⟩:=he;cases e1;rw[fr] at hf;have hn:n<1000000000000000000:=by
   split at hf
   .assumption
   .lia
  rw[xF] at hQ;refine dH (ps:=[ki n]) (gE (ao (v:= .str (ki n)) (λQ1 q1=>?_) aE)) hQ;exact(cN (bE KB) z T.NV T.LN rfl:Ev (m8 K (ei 0) "worth") _ H (.int (n:GQ))) _ #[_,KB,aba hn,q1]
 refine cD I hC (j:=1) KB z KB (λe4=>?_) (λn1=>?_)
 .cases e<;>first|(cases e4;done)|skip
  unfold ag at he;obtain⟨p,dx,e1,_,z⟩:=he;cases e1;rw[xF] at hQ;exact dH (gE (ao (cN (bE KB) z T.RF T.PU KB) aE)) hQ
 refine cD I hC (j:=2) KB z KB (λe4=>?_) (λn2=>?_)
 .cases e<;>first|(cases e4;done)|skip
  unfold ag at he;obtain⟨g,us,⟨p,dx,e1,_,z⟩,h2,h3⟩:=he;cases e1;rw[fr] at hf;rw[xF] at hQ hl;simp only[Gv,Gw,GU] at hl;refine dH (Fr.eq (bV (bV (jm (ps:=[_,tx "("]) (ao (cN (bE KB) z T.Ny T.L1 KB) (ao cq aE)) KB (by show 2<=GZ;decide))
   (λH1 s1=>dw (ao (cN (bE KB) (s1 _ _ z) T.Ny T.L3 KB) aE) λQ1 q1=>#[_,g,us,M,KB,bM.keep (aI.keeps s1).two h2,bj.keep (aI.keeps s1) _ h3,by lia,by lia,q1]) ?_) (λH1 s1=>gE (p:=tx ")") (ao cq aE)) ?_) (by simp)) hQ
  .show 2+_<=_;lia
  .simp only[Gv,Gw,GU];lia
 refine cD I hC (j:=3) KB z KB (λe4=>?_) (λn3=>?_)
 .obtain⟨c,y,u,⟨p,dx,e1,_,z⟩,h2,ex,ef⟩: ∃c y u,bP M H a.Ll [("sign", .str c),("operand",u)] (.ref q)/\ag a M H y u/\xF e=c::pF 5 y (xF y)/\fr e=2+fr y:=by
   cases e<;>first|(cases e4;done)|skip
   .unfold ag at he
    obtain⟨u,h1,h2⟩:=he;exact#[_,_,u,h1,h2,by rw[xF],by rw[fr]]
   .unfold ag at he
    obtain⟨u,h1,h2⟩:=he;exact#[_,_,u,h1,h2,by rw[xF],by rw[fr]]
  cases e1;rw[ef] at hf;rw[ex] at hQ hl;rw[Gv] at hl;refine dH (bV (gE (ao (cN (bE KB) z T.Lw T.Lb KB) aE)) (λH1 s1=>CA (n:=5) h2 s1 (by lia) (by lia) (ao (cN (bE KB) (s1 _ _ z) T.Lw T.KJ KB) (ao cq aE))) ?_) hQ;show 1+_<=_;lia
 refine cD I hC (j:=4) KB z KB (λe4=>?_) (λn4=>?_)
 .exact dH (eO he aI.rfl #[e4,hf] hl (ao (bE KB) aE)) hQ
 refine cD I hC (j:=5) KB z KB (λe4=>?_) (λn5=>?_)
 .exact dH (eO he aI.rfl #[e4,hf] hl (ao (bE KB) aE)) hQ
 cases e<;>first|exact G6 KB n0|exact G6 KB n1|exact G6 KB n2|exact G6 KB n3|exact G6 KB n4|exact G6 KB n5|skip
 rename_i x lo hi y;unfold ag at he;obtain⟨u1,u2,u3,⟨p,dx,e1,_,z⟩,h1,h2,h3⟩:=he;cases e1;rw[fr] at hf;have f1:=Iw (fr lo) (max (fr hi) (fr y));have f2:=IH (fr lo) (max (fr hi) (fr y));have f3:=Iw (fr hi) (fr y);have f4:=IH (fr hi) (fr y);rw[xF] at hQ hl;simp only[Gv,Gw,GU] at hl;have lr:(EQ x lo hi).length=3+(xF lo).length+(xF hi).length:=by
  simp only[EQ,Gv,Gw];lia
 refine dH (Fr.eq (bV (bV (bV (bV (gE (p:=tx "sum(") (ao cq aE)) (λH1 s1=>dw (ps:=EQ x lo hi) (ao (bE KB) aE) λQ1 q1=>#[x,lo,hi,q,_,_,_,u1,u2,M,KB,s1 _ _ z,T.OI,T.OJ,T.Of,T.OK,KB,KB,KB,ag.keep (aI.keeps s1) _ h1,ag.keep (aI.keeps s1) _ h2,by lia,by lia,by lia,q1]) ?_)
  (λH1 s1=>gE (p:=tx ": ") (ao cq aE)) ?_) (λH1 s1=>eO h3 s1 (by lia) (by lia) (ao (cN (bE KB) (s1 _ _ z) T.OI T.OL KB) aE)) ?_) (λH1 s1=>gE (p:=tx ")") (ao cq aE)) ?_) (by simp)) hQ
 all_goals simp only[Gv,Gw,GU];lia
def ahn {vs:Gr V}{H:Hp}{Q:VK}{E:XK}(hk:k<4) (h:zK a k vs H Q E):False:=by
 obtain⟨e,v,M,w',rfl,he,hf,hl,hQ⟩:=h;have:=eA e;lia
def tW (hk:k<4):AO P w K mg base a k:=by
 constructor<;>intros<;>exact(ahn hk (by assumption)).elim
theorem oF (T:Txt K mg a) (I:jK K a): ∀n,n<=900-> ∀k,k<=n->AO P w K mg base a k
 |0,_,k,hk=>tW (by lia)
 |n+1,h,k,hk=>by
  by_cases h4:k<4
  .exact tW h4
  .obtain⟨m,rfl⟩: ∃m,k=m+3+1:=#[k-4,by lia]
   exact aku T I (akI T I (by lia) (oF T I n (by lia) (m+2) (by lia)) (oF T I n (by lia) (m+1) (by lia)) (oF T I n (by lia) m (by lia)))
end
end
abbrev xy:=Js
theorem q0: ∀(n:GQ) (acc:KC GQ),((Jv n ([32,32].toArray:KC GQ)).foldl (· ++ ·) acc).toList=acc.toList++Jv (2*n) 32
 |0,acc=>by simp
 |n+1,acc=>by
  rw[Gr.replicate_succ,V9,q0 n,TZ,Hj]
  congr 1
def FS {n:GQ}(hn:n<301):Txt.mul (tx "  ") (n:GQ)=gF n/\MulOk (tx "  ") (n:GQ):=by
 have ex:tx "  "=⟨[32,32].toArray⟩:=by decide+kernel
 rw[ex];constructor
 .unfold Txt.mul
  by_cases h0:n=0
  .subst h0
   rw[GI [01]]
   rfl
  rw[GG (by lia)];by_cases h1:n=1
  .subst h1
   rw[GI [01]]
   rfl
  rw[GG]
  .show YG _=YG _
   congr 1
   apply Vk.mp;rw[Qw,q0,Ot]
   rfl
  .rw[OB,not_or]
   refine#[λz=>h1 ?_,by decide];have:=eq_of_beq z;lia
 .refine#[?_,λh _=>?_,λ_ _=>?_]
  .rw[He (by lia),He (by lia)]
   rfl
  .show¬((2:Int)>(2 ^ 63-1) / (n:Int))
   have:(2:Int)<=(2 ^ 63-1) / (n:Int):=Int.le_ediv_of_mul_le (by lia) (by lia);lia
  .show decide (2*(n:Int).toNat>GZ)=IR
   rw[Qw];exact He (by unfold GZ;lia)
def zr {X:Cx} :lQ X (Oa .Mult) (λx y H Q=> ∃n:GQ,x= .str (tx "  ")/\y= .int (n:GQ)/\n<=300/\Q (.str (gF n)) H):=by
 intro pins s σ H x y v u Q I rx ry h;obtain⟨n,rfl,rfl,hn,q⟩:=h;obtain⟨t,rfl⟩:=rx;obtain⟨t',rfl⟩:=ry;obtain⟨e,m⟩:=FS (n:=n) (by lia);refine SB.mul m λt'' tk=>?_;rw[e];exact#[.str (gF n),H,I.tok _,#[_,KB],q]
inductive DP (a:bI) (k:GQ) (vs:Gr V) (H:Hp) (Q:VK) (_E:XK):Prop
 |mk (word:String) (o:GJ GD) (v:V) (M:GB->Prop) (_:vs=[.str (tx word),v]) (_:fk a M H o v) (_:Ai o<=k) (_:(vV word o).length<=GZ) (_:Nw H (vV word o) Q):DP a k vs H Q _E
inductive abb (a:bI) (ok:xy->Prop) (vs:Gr V) (H:Hp) (Q:VK) (_E:XK):Prop
 |mk (s:xy) (n:GQ) (v:V) (M:GB->Prop) (_:vs=[v]) (_:aO a M H s v) (_:ok s) (_:(fj n s).length<=GZ) (_:Nw H (fj n s) Q):abb a ok vs H Q _E
inductive v9 (a:bI) (k:GQ) (ok:xy->Prop) (vs:Gr V) (H:Hp) (Q:VK) (_E:XK):Prop
 |mk (s:xy) (n:GQ) (v:V) (M:GB->Prop) (_:vs=[v, .int (n:GQ)]) (_:aO a M H s v) (_:ok s) (_:gX s<=k) (_:n+gX s<=300) (_:(fj n s).length<=GZ) (_:Nw H (fj n s) Q):v9 a k ok vs H Q _E
inductive ET (a:bI) (k:GQ) (vs:Gr V) (H:Hp) (Q:VK) (_E:XK):Prop
 |mk (l:Ir) (n:GQ) (v:V) (us:Gr V) (M:GB->Prop) (_:vs=[v, .int (n:GQ)]) (_:bM M H us v) (_:aT a M H l us) (_:iy l<=k) (_:n+iy l<=300) (_:(ql n (iY (n+1) l)).length<=GZ) (_:Nw H (ql n (iY (n+1) l)) Q):ET a k vs H Q _E
def sl:Ir->Gr xy
 | .nil=>[]
 | .cons s l=>s::sl l
def EO (n:GQ) (d:Gr xy):Gr Ha:=d.flatMap λs=>gF n::(fj n s++[tx "\n"])
theorem Dk (n:GQ): ∀l:Ir,iY n l=EO n (sl l)
 | .nil=>by rw[iY];rfl
 | .cons s l=>by
  rw[iY,Dk n l,sl];show _=(gF n::(fj n s++[tx "\n"]))++EO n (sl l);simp
theorem aT.get {a:bI}{M:GB->Prop}{H:Hp} : ∀ {l:Ir}{us:Gr V},aT a M H l us->us.length=(sl l).length/\ ∀(i:GQ) (u:V),us[i]?=GM u-> ∃s,(sl l)[i]?=GM s/\aO a M H s u/\1+gX s<=iy l
 | .nil,us,h=>by
  unfold aT at h;subst h;exact#[KB,λi u e=>by simp at e]
 | .cons e l,us,h=>by
  unfold aT at h;obtain⟨u,vs,rfl,h1,h2⟩:=h;obtain⟨n,g⟩:=aT.get h2;rw[sl,iy];refine#[Hv (· +1) n,λi v hi=>?_];cases i with
  |zero=>cases hi;exact#[e,KB,h1,Iw _ _]
  |succ i=>
   obtain⟨x,q1,q2,q3⟩:=g i v hi;exact#[x,q1,q2,G0 q3 (IH _ _)]
theorem si: ∀l:Ir,1<=iy l
 | .nil=>by rw[iy];exact GY _
 | .cons s l=>by rw[iy];exact G0 (si l) (IH _ _)
def vX (s:xy):4<=gX s:=by
 cases s<;>rw[gX]
 .rename_i e;have:=eA e;lia
 .rename_i x lo hi l;have:=eA lo;have:=Iw (3+fr lo) (max (3+fr hi) (1+iy l));lia
 .rename_i c x y;have:=eA c;have:=Iw (3+fr c) (max (2+iy x) (2+iy y));lia
 .lia
 .lia
def zm (b:HK):V.str (mG b)=pI b:=by cases b<;>rfl
section
variable {k:GQ}
def akJ (T:Txt K mg a) (QL:pi P w K mg base a k):T.Vy.U P w base (k+2) (DP a k):=by
 refine T.Vy.F.ok ajI [03] [02];obtain⟨word,o,v,M,rfl,ho,hf,hl,hQ⟩:=h;refine#[_,(ai (bz (fE (ZI (pv 1))) (ak (aB (bn ac))) aQ)
   (ak (aB (aZ bC (bn (aa aK (aa (pv 0) (aa aK ac)))) (aq QL [05] (by rfl) T.Tz.c aC (aa (pv 1) ac)))))),?_]
 cases o with
 |none=>
  cases ho;refine#[_,KB,eU (HC KB) ?_];exact dH (ps:=[]) (jm aE KB (by show 0<=GZ;decide)) hQ
 |some e=>
  obtain⟨C,q,dx,fs,hC,rfl,z,_⟩:=sw ho;refine#[_,KB,e8 (He (by intro z;cases z)) ?_];have hl:(tx " "::tx word::tx " "::xF e).length<=GZ:=hl;rw[Gv,Gv,Gv] at hl;exact dH (bV (jm (ps:=[tx " ",tx word,tx " "]) (ao cq (ao (bE KB) (ao cq aE))) KB (by show 3<=GZ;decide)) (λH1 s1=>eO ho s1 hf (by lia) (ao (bE KB) aE)) (by show 3+_<=_;lia)) hQ
def mP {M:GB->Prop}{H H':Hp}{E:XK}{ta:TA}{σ:L2.St}{o:GJ GD}{v:V}{word:String}(ho:fk a M H o v) (s:aI H H') (hf:Ai o<=k) (hl:(vV word o).length<=GZ) (h:Bj ta σ H' [.str (tx word),v]):Fr (iV (DP a k) [] E ta) σ H' (vV word o):=dw h λQ q=>#[word,o,v,M,KB,fk.Ie (aI.keeps s).two o ho,hf,hl,q]
def cQ (w:String) (e:GD):(tm w e).length=3+(xF e).length:=by
 unfold tm;rw[Gv,Gv,Gv];lia
def gD (w:String) (e:GD):vV w (GM e)=tm w e:=rfl
def BA {x y n:GQ}(h:max x y<=n):x<=n/\y<=n:=#[G0 (Iw x y) h,G0 (IH x y) h]
def akK (T:Txt K mg a) (WT:T.Vy.U P w base (k+2) (DP a k)):T.d_2.U P w base (k+3) (abb a λs=>gX s<=k+4/\ ∃b z q p t m,s=Js.step b z q p t m):=by
 refine T.d_2.F.ok afO [03] [02];obtain⟨s,n,v,M,rfl,hs,⟨hf,Yb,z,q,p,t,m,rfl⟩,hl,hQ⟩:=h;unfold aO at hs;obtain⟨u1,u2,u3,u4,u5,⟨x,dx,rfl,_,zx⟩,h1,h2,h3,h4,h5⟩:=hs;rw[gX] at hf;obtain⟨f1,f'⟩:=BA (n:=k) (show max (fr z) (max (fr q) (max (fr p) (max (Ai t) (fr m))))<=k by lia);obtain⟨f2,f'⟩:=BA f';obtain⟨f3,f'⟩:=BA f';obtain⟨f4,f5⟩:=BA f';rw[fj] at hl hQ;simp only[Gv,Gw,GU,cQ] at hl;refine#[_,(ai (b4 (i:=1) afO.nd KB (HF KB) (aZ bC (aZ bC (bn (aa [07] ac)) (aq WT [05] (by rfl) T.Vy.c aC (aa aK (aa [07] ac)))) (aq WT [05] (by rfl) T.Vy.c aC (aa aK (aa [07] ac)))))
   (ai (a6 (df G9 HA HB bZ (pv 1) (aa (aq WT [05] (by rfl) T.Vy.c aC (aa aK (aa [07] ac))) ac)))
   (ai (a6 (df G9 HA HB bZ (pv 1) (aa (aq WT [05] (by rfl) T.Vy.c aC (aa aK (aa [07] ac))) ac)))
   (ai (a6 (df G9 HA HB bZ (pv 1) (aa (aq WT [05] (by rfl) T.Vy.c aC (aa aK (aa [07] ac))) ac)))
   (ak (aB (aZ bC (pv 1) (bn (aa aK ac))))))))),?_]
 refine iG (bV (bV (gE (p:=mG Yb) (ao (cN (bE KB) zx T.Lm T.Oh (by rw[zm];rfl)) aE)) (λH1 s1=>mP (word:="zone") (o:=GM z) h1 s1 f1 (by simp only[gD,Gw,Gv,GU,cQ];lia) (ao cq (ao (cN (bE KB) (s1 _ _ zx) T.Lm T.Oi KB) aE))) (by simp only[gD,Gw,Gv,GU,cQ];lia))
  (λH1 s1=>mP (word:="quarter") (o:=GM q) h2 s1 f2 (by simp only[gD,Gw,Gv,GU,cQ];lia) (ao cq (ao (cN (bE KB) (s1 _ _ zx) T.Lm T.MI KB) aE))) (by simp only[gD,Gw,Gv,GU,cQ];lia)) λH1 L g1=>?_
 refine fQ g1 KB (mP (word:="price") (o:=GM p) h3 g1.sm f3 (by simp only[gD,Gw,Gv,GU,cQ];lia) (ao cq (ao (cN (bE KB) (g1.sm _ _ zx) T.Lm T.NG KB) aE))) (by simp only[gD,Gw,Gv,GU,cQ];lia) λH2 g2=>?_;refine fQ g2 KB (mP (word:="to") (o:=t) h4 g2.sm f4 (by lia) (ao cq (ao (cN (bE KB) (g2.sm _ _ zx) T.Lm T.Ml KB) aE))) (by simp only[gD,Gw,Gv,GU,cQ];lia) λH3 g3=>?_;refine fQ g3 KB (mP (word:="amount") (o:=GM m) h5 g3.sm f5 (by simp only[gD,Gw,Gv,GU,cQ];lia) (ao cq (ao (cN (bE KB) (g3.sm _ _ zx) T.Lm T.M4 KB) aE))) (by simp only[gD,Gw,Gv,GU,cQ];lia) λH4 g4=>?_;exact dH (Fr.eq (sR (qs:=[tx ";"]) (bE KB) g4.at_ (gE (ao cq aE)) (by simp only[gD,Gw,Gv,GU,cQ];lia)) (by simp only[gD,Hj,Jo,J2])) (hQ.up g4.sm)
end
def _root_.L2.aI.k2 {M:GB->Prop}{H H':Hp}(s:aI H H'):d7 M M H H':=(aI.keeps s).two
inductive aho (a:bI) (k:GQ) (vs:Gr V) (H:Hp) (Q:VK) (_E:XK):Prop
 |mk {o:GJ GD}{v:V}{M:GB->Prop}(_:vs=[v]) (_:i8 M H) (_:fk a M H o v) (_: ∀e,o=GM e->GE e/\mS (xF e)<=300000/\fr e+2<=k) (_: ∀H' u,aI H H'->fk a M H' (o.map HL) u->Q u H'):aho a k vs H Q _E
def Yo (T:Txt K mg a) (S:f9 P w K mg base a k):T.Ws.U P w base (k+1) (aho a k):=by
 refine pW T.Ws.F afT [03] [02];intro X D;obtain @⟨o,v,M,rfl,hM,ho,ok,q⟩:=h;cases o with
 |none=>
  cases ho;exact aD #[_,dJ (bg fW (pv 0) mh (a0 _)) mh eD,KB,_,KB,eU (HC KB) (q H .Ko aJ KB)]
 |some e=>
  have ho:ag a M H e v:=ho;obtain⟨g,m,f⟩:=ok e KB
  have nn:v≠ .Ko:=λz=>by obtain⟨⟨_,_,y,_⟩,_⟩:=rA ho;rw[z] at y;cases y
  refine aD #[_,dJ (bg fW (pv 0) mh (a0 _)) mh eD,KB,_,KB,e8 (He nn) ?_];exact cj (aX (bW 0 (ca (.mk KB hM #[ho,g,m,f] trivial λH' u s e=>q H' u s e)))) S hr T.Zd.c aC
def Ec {k n:GQ}(h:4+n+2<=k+3): ∃k',k'+3=k/\n<=k':=#[k-3,by lia,by lia]
def kW {k k' n:GQ}(h:k'+3=k) (g:n<=k'):n+2<=k:=by lia
structure RdS (a:bI) (k:GQ) (M:GB->Prop) (H:Hp) (s:xy) (v:V):Prop where
 at_:aO a M H s v
 ok:GS s
 ms: ∃n,mS (fj n s)<=300000
 fr:gX s+2<=k
inductive E7 (a:bI) (k:GQ) (ok:xy->Prop) (vs:Gr V) (H:Hp) (Q:VK) (_E:XK):Prop
 |mk {s:xy}{v:V}{M:GB->Prop}(_:vs=[v]) (_:i8 M H) (_:RdS a k M H s v) (_:ok s) (_: ∀H' u,aI H H'->aO a M H' (Kx s) u->Q u H'):E7 a k ok vs H Q _E
def akL (T:Txt K mg a) (S:f9 P w K mg base a k):T.d_6.U P w base (k+2) (E7 a (k+3) λs=> ∃b z q p t m,s= .step b z q p t m):=by
 refine pW T.d_6.F Gg [03] [02];intro X D;obtain @⟨_,v,M,rfl,hM,⟨ra,rg,⟨n,rm⟩,rf⟩,⟨b,z,qu,p,top,am,rfl⟩,q⟩:=h;unfold aO at ra;obtain⟨u1,u2,u3,u4,u5,i,e1,e2,e3,e4,e5⟩:=ra;rw[GS] at rg;rw[gX] at rf;rw[fj,ae,au,au,au,au,au,dS KB,dS KB,dS KB,dS KB] at rm;obtain⟨k',k5,rf⟩:=Ec rf;obtain⟨f1,rf⟩:=Iq.mp rf;obtain⟨f2,rf⟩:=Iq.mp rf;obtain⟨f3,rf⟩:=Iq.mp rf;obtain⟨f4,f5⟩:=Iq.mp rf;have:=G0 (eA z) f1;have hk:cx k X.A:=hr.mono (N7 _);have r1:qX a k M H z u1:=#[e1,rg.1,by clear f1 f2 f3 f4 f5;lia,kW k5 f1];have r2:qX a k M H qu u2:=#[e2,rg.2.1,by clear f1 f2 f3 f4 f5;lia,kW k5 f2];have r3:qX a k M H p u3:=#[e3,rg.2.2.1,by clear f1 f2 f3 f4 f5;lia,kW k5 f3];have r5:qX a k M H am u5:=#[e5,rg.2.2.2.2,by clear f1 f2 f3 f4 f5;lia,kW k5 f5];have rm:mS (vV "to" top)<=300000:=by clear f1 f2 f3 f4 f5;lia
 have r4: ∀e,top=GM e->GE e/\mS (xF e)<=300000/\fr e+2<=k:=λe h=>by
  rw[h] at rg rm f4;have rm':mS (tm "to" e)<=300000:=rm;rw[dS KB] at rm';exact#[rg.2.2.2.1,G0 (WV _ _) rm',kW k5 f4]
 rw[Kx] at q;refine aW 1 Gg.nd (eB T S hk i aJ T.Lm T.Oi KB hM r1 KB λH1 v1 s1 _ f1=>?_);refine aW 2 Gg.nd (eB T S hk i s1 T.Lm T.MI KB hM r2 KB λH2 v2 s2 t2 f2=>?_);refine aW 3 Gg.nd (eB T S hk i s2 T.Lm T.NG KB hM r3 KB λH3 v3 s3 t3 f3=>?_);refine aD (gZ (yV T) [05] (aX (cB (bW 0 (i.Lo s3 T.Lm T.Oh KB ?_)) KB)));refine aX (bW 1 (aX (bW 2 (aX (bW 3 ?_)))));refine aX (cj (aX (cB (bW 0 (i.Lo s3 T.Lm T.Ml KB (ca (.mk KB (hM.up s3) (fk.Ie s3.k2 _ e4) r4 λH4 v4 s4 f4=>?_)))) KB)) (Yo T S) [05] T.Ws.c aC);refine aX (eB T S hk i (s3.trans s4) T.Lm T.M4 KB hM r5 KB λH5 v5 s5 t5 f5=>ca #[KB,λy dy H6 hy s6 e6=>q H6 _ (s5.trans s6) ?_]);have s36:=(s4.trans t5).trans s6;unfold aO;exact#[v1,v2,v3,v4,v5,#[y,dy,KB,λm=>hM.up s5 y m hy,e6],ag.Ie ((t2.trans t3).trans s36).k2 _ f1,ag.Ie (t3.trans s36).k2 _ f2,ag.Ie s36.k2 _ f3,fk.Ie (t5.trans s6).k2 _ f4,ag.Ie s6.k2 _ f5]
def akM (T:Txt K mg a) (S:f9 P w K mg base a k):T.d_7.U P w base (k+2) (E7 a (k+3) λs=> ∃m b z p x q u g,s= .block m b z p x q u g):=by
 refine pW T.d_7.F FO [03] [02];intro X D;obtain @⟨_,v,M,rfl,hM,⟨ra,rg,⟨n,rm⟩,rf⟩,⟨nm,b,z,p,x,am,un,gr,rfl⟩,q⟩:=h;unfold aO at ra;obtain⟨u1,u2,u3,u4,i,e1,e2,⟨u5,i3,e3⟩,e4⟩:=ra;rw[GS] at rg;rw[gX] at rf;rw[fj,ae,au,ae,au,au,dS KB,dS KB,ae,ae,ae,au,au,au] at rm;obtain⟨k',k5,rf⟩:=Ec rf;obtain⟨f1,rf⟩:=Iq.mp rf;obtain⟨f2,rf⟩:=Iq.mp rf;obtain⟨f3,f4⟩:=Iq.mp rf;have:=G0 (eA z) f1;have hk:cx k X.A:=hr.mono (N7 _);have r1:qX a k M H z u1:=#[e1,rg.2.1,by clear f1 f2 f3 f4;lia,kW k5 f1];have r2:qX a k M H p u2:=#[e2,rg.2.2.1,by clear f1 f2 f3 f4;lia,kW k5 f2];have r3:qX a k M H am u5:=#[e3,rg.2.2.2.2.1,by clear f1 f2 f3 f4;lia,kW k5 f3];have rm:mS (vV "group" gr)<=300000:=by clear f1 f2 f3 f4;lia
 have r4: ∀e,gr=GM e->GE e/\mS (xF e)<=300000/\fr e+2<=k:=λe h=>by
  rw[h] at rg rm f4;have rm':mS (tm "group" e)<=300000:=rm;rw[dS KB] at rm';exact#[rg.2.2.2.2.2.2,G0 (WV _ _) rm',kW k5 f4]
 rw[Kx] at q;refine aW 1 FO.nd (eB T S hk i aJ T.J3 T.NI KB hM r1 KB λH1 v1 s1 _ f1=>?_);refine aW 2 FO.nd (eB T S hk i s1 T.J3 T.M7 KB hM r2 KB λH2 v2 s2 t2 f2=>?_);have fa: ∀ {H':Hp}{Q:VK},aI H H'->Q u3 H'->pd X.K "amounts" Q v H':=λs q=>i.Lo s T.J3 T.Mm KB q
 refine aW 3 FO.nd (gZ (oG T) [05] (aX (cB (cB (bW 0 (fa s2 (i3.Lo s2 T.M5 T.MJ KB ?_))) KB) KB)));refine aX (cj (aX (cB (cB (bW 0 (fa s2 (i3.Lo s2 T.M5 T.M6 KB (ca (.mk KB (hM.up s2) (r3.up s2) trivial λH3 v3 s3 f3=>ca #[KB,λy dy H4 hy s4 e4'=>?_]))))) KB) KB)) S hk T.Zd.c aC);have Yp:=s2.trans (s3.trans s4);refine aD (gZ (ut T) [05] (aX (cB (bW 0 (i.Lo Yp T.J3 T.Mr KB (aX (cB (bW 0 (i.Lo Yp T.J3 T.NH KB ?_)) KB)))) KB)));refine aX (bW 1 (aX (bW 2 (aX (bW 3 (aX (cB (bW 0 (i.Lo Yp T.J3 T.L7 KB ?_)) KB)))))));refine aX (cj (aX (cB (bW 0 (i.Lo Yp T.J3 T.M8 KB (ca (.mk KB (hM.up Yp) (fk.Ie Yp.k2 _ e4) r4 λH5 v5 s5 f5=>ca #[KB,λx dx H6 hx s6 e6=>q H6 _ ((Yp.trans s5).trans s6) ?_])))) KB)) (Yo T S) [05] T.Ws.c aC);have s46:=s5.trans s6;have s26:=(s3.trans s4).trans s46;unfold aO;exact#[v1,v2, .ref y,v5,#[x,dx,KB,λm=>hM.up (Yp.trans s5) x m hx,e6],ag.Ie (t2.trans s26).k2 _ f1,ag.Ie s26.k2 _ f2,#[v3,#[y,dy,KB,λm=>hM.up (s2.trans s3) y m hy,s46 _ _ e4'],ag.Ie (s4.trans s46).k2 _ f3],fk.Ie s6.k2 _ f5]
section
variable {M:GB->Prop}{H H':Hp}
theorem uP: ∀ {l:Ir}{us:Gr V},aT a M H l us->Paired (λu s=>aO a M H s u) us (sl l)
 | .nil,us,h=>by unfold aT at h;rw[h];exact .nil
 | .cons e l,us,h=>by
  unfold aT at h;obtain⟨u,vs,rfl,h1,h2⟩:=h;exact .cons h1 (uP h2)
theorem rh: ∀ {l:Ir}{us:Gr V},Paired (λu s=>aO a M H s u) us ((sl l).map Kx)->aT a M H (Mq l) us
 | .nil,_, .nil=>by rw[Mq];unfold aT;rfl
 | .cons e l,_, .cons h t=>by rw[Mq];unfold aT;exact#[_,_,KB,h,rh t]
theorem Yq (n:GQ): ∀ {l:Ir},qm l->(sl l).length<=mS (iY n l)/\ ∀s∈sl l,GS s/\1+gX s<=iy l/\mS (fj n s)<=mS (iY n l)
 | .nil,_=>#[HG _,λ_ z=>nomatch z]
 | .cons s l,h=>by
  rw[qm] at h;obtain⟨h1,h2⟩:=Yq n h.2;rw[iY,ae,au,ae,iy];refine#[by show(sl l).length+1<=_;lia,IA.mpr #[#[h.1,by lia,by lia],λx hx=>?_]];obtain⟨g1,g2,g3⟩:=h2 x hx;exact#[g1,by lia,by lia]
structure RdL (a:bI) (k:GQ) (M:GB->Prop) (H:Hp) (l:Ir) (us:Gr V) (v:V):Prop where
 at_:bM M H us v
 all:aT a M H l us
 ok:qm l
 ms: ∃n,mS (iY n l)<=300000
 fr:iy l+2<=k
def RdL.up {l:Ir}{us:Gr V}{v:V}(r:RdL a k M H l us v) (h:aI H H'):RdL a k M H' l us v:=#[r.at_.keep h.k2,aT.Ie h.k2 l r.all,r.ok,r.ms,r.fr]
end
inductive ahp (a:bI) (k:GQ) (vs:Gr V) (H:Hp) (Q:VK) (_E:XK):Prop
 |mk {l:Ir}{us:Gr V}{v:V}{M:GB->Prop}(_:vs=[v]) (_:i8 M H) (_:RdL a k M H l us v) (_: ∀H' Qu u,aI H H'->bM M H' Qu u->aT a M H' (Mq l) Qu->Q u H'):ahp a k vs H Q _E
abbrev FJ (P:Hr) (w:HW) (K:Gy) (mg:Ha->GJ GC) (base:Im) (a:bI) (k:GQ):Prop:=b6 P w K mg base nJ k a.f_I a.adG ["statement"] (E7 a k λ_=>True)
abbrev zP (P:Hr) (w:HW) (K:Gy) (mg:Ha->GJ GC) (base:Im) (a:bI) (k:GQ):Prop:=b6 P w K mg base nJ k a.f_o a.adF ["statements"] (ahp a k)
def rT {X:Cx}{a:bI}{σ:L2.St}{M:GB->Prop}{B H:Hp}{Q:VK}{l:Ir}{us:Gr V}{u:V}(T:Txt X.K X.mg a) (S:zP X.prog X.w X.K X.mg X.base a k) (hr:cx k X.A) (i:bP M B C fs v) (s:aI B H) (cl:iZ X.K C) (no:aH X.K C f) (hl:fs.lookup f=GM u) (hM:i8 M B) (r:RdL a k M B l us u) (hv:σ[0]?=GM (GM v)) (q: ∀H' Qu u',aI B H'->aI H H'->bM M H' Qu u'->aT a M H' (Mq l) Qu->Q u' H')
  (n0:X.N[0]?=GM y:=by rfl) (v0:tu X.env.scope y:=by exact HF KB) (hd:(y == ("__debug__":Ha))=IR:=by decide) (RB:(y == ("__classdict__":Ha))=IR:=by decide) (hg:Gl X "simpler_statements":=by rfl) (hb:JN (.Name y p2) f X.env (eval (.Name y p2) X.env)=eval (.Name y p2) X.env:=by rfl) (he:Hf [.Attribute (.Name y p2) f p3] X.env=[(IR,eval (.Attribute (.Name y p2) f p3) X.env)]:=by rfl) (MU:(J9 p4 (Hf [] X.env)).any (·.1)=IR:=by rfl):
  Pe X (.Call (.Name "simpler_statements" p1) [.Attribute (.Name y p2) f p3] [] p4) σ H Q:=
 cj (aX (cB (bW 0 (g0 (i.Lo s cl no hl (ca (.mk KB (hM.up s) (r.up s) λH' Qu u' s' l' e'=>q H' Qu u' (s.trans s') s' l' e'))) hv) n0 v0 hd RB) hb) he) S hr T.d_o.c aC hg [01] he MU
def akN:xy->GQ
 | .bind _ _=>7
 | .loop _ _ _ _=>8
 | .cond _ _ _=>9
 | .step _ _ _ _ _ _=>10
 | .block _ _ _ _ _ _ _ _=>11
def abc {a:bI}{M:GB->Prop}{H:Hp}{s:xy}{v:V}(h:aO a M H s v):Nd1 a M H (akN s) v:=by
 cases s<;>unfold aO at h
 .obtain⟨_,h,_⟩:=h;exact#[h,KB]
 .obtain⟨_,_,_,_,h,_⟩:=h;exact#[h,KB]
 .obtain⟨_,_,_,_,_,h,_⟩:=h;exact#[h,KB]
 .obtain⟨_,_,_,_,_,h,_⟩:=h;exact#[h,KB]
 .obtain⟨_,_,_,_,h,_⟩:=h;exact#[h,KB]
def abd (T:Txt K mg a) (S:FJ P w K mg base a k):zP P w K mg base a (k+1):=by
 refine pW T.d_o.F Gm [03] [02];intro X D;obtain @⟨l,us,v,M,rfl,hM,⟨⟨L,rfl,nL,hL⟩,ra,rg,⟨n,rm⟩,rf⟩,q⟩:=h;have pr:=uP ra;obtain⟨c1,c2⟩:=Yq n rg;refine aD (Eb (y:="statement") (i:=1) Gm.nd (pv 0) (eE (by show m6 ["statements","statement"] (ah s_o) _ [("statement",1)]=IN;decide+kernel)) (λ_ _ _ _ _=>aq S hr (by rfl) T.d_I.c aC (aa (pv 1) ac)) (vG (F:=λM H b v=>aO a M H b v) (g:=Kx) (l:=sl l) (λk h=>aO.Ie k _ h) hL (cr pr) (by lia) hM [08] (λj x o H' M1 hx ho s1 k2 m1 Q q=>?_) (λH1 D1 Vc s1 nD1 SG WS=>q H1 Vc _ s1 #[D1,KB,nD1,SG] (rh WS)) λ_=>rfl) (λ_ _ _ _ _=>cY (i:=1) Gm.nd KB (HF KB)));obtain⟨o',QH,h⟩:=L2.iE pr hx;rw[ho] at QH;cases QH;obtain⟨g,f,m⟩:=c2 o (Iz ho);exact .mk KB m1 #[aO.Ie k2 _ h,g,#[n,by lia],by lia] trivial q
def akO (T:Txt K mg a) (I:jK K a) (S:f9 P w K mg base a (k+2)) (S2:f9 P w K mg base a k) (L:zP P w K mg base a (k+2)):FJ P w K mg base a (k+3):=by
 refine pW T.d_I.F Fj [03] [02];intro X D;obtain @⟨s,v,M,rfl,hM,r,_,q⟩:=h;have nd:=abc r.at_;have rf:=r.fr;have:=vX s;have h2:cx 2 X.A:=hr.mono (by lia);refine aY (gT I T.HR nd aJ (j:=7) KB T.RD (pv 0) [08] (eR (λz=>?_) λz7=>?_))
 .obtain⟨x,e,rfl⟩: ∃x e,s= .bind x e:=by cases s<;>first|exact#[_,_,KB]|cases z
  obtain⟨ra,rg,⟨n,rm⟩,rf⟩:=r;unfold aO at ra;obtain⟨u,i,ex⟩:=ra;rw[GS] at rg;rw[gX] at rf;rw[fj,ae,ae,ae,au] at rm;rw[Kx] at q;refine aD (gZ (DN T) h2 (aX (cB (bW 0 (i.Lo aJ T.Pj T.Nz KB (aX (eB T S hr i aJ T.Pj T.Pk KB hM #[ex,rg.2,by lia,by lia] KB λH1 v1 s1 _ f1=>ca #[KB,λy dy H2 hy s2 e2=>q H2 _ (s1.trans s2) ?_])))) KB)));unfold aO;exact#[v1,#[y,dy,KB,λm=>hM.up s1 y m hy,e2],ag.Ie s2.k2 _ f1]
 refine aY (gT I T.HR nd aJ (j:=8) KB T.Tv (pv 0) [08] (eR (λz=>?_) λz8=>?_))
 .obtain⟨x,lo,hi,l,rfl⟩: ∃x lo hi l,s= .loop x lo hi l:=by cases s<;>first|exact#[_,_,_,_,KB]|cases z
  obtain⟨ra,rg,⟨n,rm⟩,rf⟩:=r;unfold aO at ra;obtain⟨u1,u2,q',us,i,e1,e2,e3,e4⟩:=ra;rw[GS] at rg;rw[gX] at rf;rw[fj,ae,ae,ae,au,ae,au,gQ] at rm;rw[Kx] at q;refine aW 1 Fj.nd (rT T L hr i aJ T.OM T.L6 KB hM #[e3,e4,rg.2.2.2,#[n+1,by lia],by lia] KB λH1 Vc v1 s1 _ l1 f1=>?_);refine aD (gZ (Cj T) h2 (aX (cB (bW 0 (i.Lo s1 T.OM T.ON KB (aX (eB T S hr i s1 T.OM T.Og KB hM #[e1,rg.2.1,by lia,by lia] KB λH2 v2 s2 t2 f2=>aX (eB T S hr i s2 T.OM T.OO KB hM #[e2,rg.2.2.1,by lia,by lia] KB λH3 v3 s3 t3 f3=>aX (bW 1 (ca #[KB,λy dy H4 hy s4 e4=>q H4 _ (s3.trans s4) ?_]))))))) KB)));unfold aO;have k:=((t2.trans t3).trans s4).k2 (M:=M);exact#[v2,v3,v1,Vc,#[y,dy,KB,λm=>hM.up s3 y m hy,e4],ag.Ie (t3.trans s4).k2 _ f2,ag.Ie s4.k2 _ f3,l1.keep k,aT.Ie k _ f1]
 refine aY (gT I T.HR nd aJ (j:=9) KB T.Vu (pv 0) [08] (eR (λz=>?_) λz9=>?_))
 .obtain⟨c,x,y,rfl⟩: ∃c x y,s= .cond c x y:=by cases s<;>first|exact#[_,_,_,KB]|cases z
  obtain⟨ra,rg,⟨n,rm⟩,rf⟩:=r;unfold aO at ra;obtain⟨u,q',us,g',ws,i,e1,e2,e3,e4,e5⟩:=ra;rw[GS] at rg;rw[gX] at rf;have rm':mS (xF c)+mS (iY (n+1) x)+mS (iY (n+1) y)<=300000:=by
   cases y with
   |nil=>rw[fj,ae,au,gQ] at rm;rw[iY,cy];lia
   |cons s l=>
    rw[fj,ae,au,au,gQ,ae,gQ] at rm
    .lia
    .intro z;cases z
  rw[Kx] at q;refine aW 2 Fj.nd (rT T L hr i aJ T.PV T.Mj KB hM #[e2,e3,rg.2.1,#[n+1,by lia],by lia] KB λH1 Vc v1 s1 _ l1 f1=>?_);refine aD (gZ (XM T) h2 (aX (eB T S hr i s1 T.PV T.MH KB hM #[e1,rg.1,by lia,by lia] KB λH2 v2 s2 t2 f2=>aX (bW 2 (aX (rT T L hr i s2 T.PV T.Kq KB hM #[e4,e5,rg.2.2,#[n+1,by lia],by lia] KB λH3 us3 v3 s3 t3 l3 f3=>ca #[KB,λy dy H4 hy s4 e4=>q H4 _ (s3.trans s4) ?_]))))));unfold aO;have k:=((t2.trans t3).trans s4).k2 (M:=M);exact#[v2,v1,Vc,v3,us3,#[y,dy,KB,λm=>hM.up s3 y m hy,e4],ag.Ie (t3.trans s4).k2 _ f2,l1.keep k,aT.Ie k _ f1,l3.keep s4.k2,aT.Ie s4.k2 _ f3]
 refine aY (gT I T.HR nd aJ (j:=10) KB T.RE (pv 0) [08] (eR (λz=>?_) λz10=>?_))
 .exact aD (cj (aX (bW 0 (ca (.mk KB hM r (by cases s<;>first|exact#[_,_,_,_,_,_,KB]|cases z) q)))) (akL T S2) hr T.d_6.c aC)
 .exact aD (cj (aX (bW 0 (ca (.mk KB hM r (by cases s<;>first|exact#[_,_,_,_,_,_,_,_,KB]|exact G6 KB z7|exact G6 KB z8|exact G6 KB z9|exact G6 KB z10) q)))) (akM T S2) hr T.d_7.c aC)
def wQ (T:Txt K mg a) (hk:k<=4):FJ P w K mg base a (k+1):=by
 refine pW T.d_I.F Fj [03] [02];intro X D;obtain @⟨s,v,M,rfl,hM,r,_,q⟩:=h;have:=r.fr;have:=vX s;exact G6 hk (by lia)
def abe (T:Txt K mg a):zP P w K mg base a 1:=by
 refine pW T.d_o.F Gm [03] [02];intro X D;obtain @⟨l,us,v,M,rfl,hM,r,q⟩:=h;have:=r.fr;have:=si l;lia
theorem oQ (T:Txt K mg a) (I:jK K a) (kF:vT P w K a.HQ cv): ∀k,FJ P w K mg base a (k+1)/\zP P w K mg base a (k+1)
 |0=>#[wQ T (by decide),abe T]
 |1=>#[wQ T (by decide),abd T (oQ T I kF 0).1]
 |2=>#[wQ T (by decide),abd T (oQ T I kF 1).1]
 |k+3=>#[akO T I (nz T I kF (k+2)) (nz T I kF k) (oQ T I kF (k+2)).2,abd T (oQ T I kF (k+2)).1]
section
variable {k:GQ}
abbrev akP (P:Hr) (w:HW) (K:Gy) (mg:Ha->GJ GC) (base:Im) (a:bI) (k:GQ):Prop:=b6 P w K mg base nJ (k+2) a.f_e a.adB ["word","exp"] (DP a k)
abbrev xz (P:Hr) (w:HW) (K:Gy) (mg:Ha->GJ GC) (base:Im) (a:bI) (k:GQ):Prop:=b6 P w K mg base nJ k a.f_j a.adz ["statements","depth"] (ET a k)
def wW:2<=GZ:=by decide
def pG:3<=GZ:=by decide
def akQ (T:Txt K mg a) (QL:pi P w K mg base a k) (WT:akP P w K mg base a k):T.d_3.U P w base (k+3) (abb a λs=>gX s<=k+4/\ ∃m b z p x q u g,s=Js.block m b z p x q u g):=by
 refine T.d_3.F.ok afP [03] [02];obtain⟨s,n,v,M,rfl,hs,⟨hf,m,Yb,z,p,x,q,u,g,rfl⟩,hl,hQ⟩:=h;unfold aO at hs;obtain⟨u1,u2,u3,u4,⟨x1,dx,rfl,_,zx⟩,h1,h2,⟨u5,⟨y1,dy,rfl,_,zy⟩,h3⟩,h4⟩:=hs;rw[gX] at hf;obtain⟨f1,f'⟩:=BA (n:=k) (show max (fr z) (max (fr p) (max (fr q) (Ai g)))<=k by lia);obtain⟨f2,f'⟩:=BA f';obtain⟨f3,f4⟩:=BA f';rw[fj] at hl hQ;simp only[Gv,Gw,GU,cQ] at hl;refine#[_,(ai (b4 (i:=1) afP.nd KB (HF KB) (bn (aa aK ac)))
   (ai (kU (bz (fE (sS [07])) (ak (a6 (df G9 HA HB bZ (pv 1) (aa (bn (aa [07] (aa aK ac))) ac)))) aQ))
   (ai (a6 (df G9 Io Ip dh (pv 1) (aa [07] ac)))
   (ai (a6 (df G9 HA HB bZ (pv 1) (aa (aq WT [05] (by rfl) T.Vy.c aC (aa aK (aa [07] ac))) ac)))
   (ai (a6 (df G9 HA HB bZ (pv 1) (aa (aq WT [05] (by rfl) T.Vy.c aC (aa aK (aa [07] ac))) ac)))
   (ai (a6 (df G9 HA HB bZ (pv 1) (aa (bn (aa aK (aa (az [07] KB) (aa aK ac)))) ac)))
   (ai (a6 (df G9 HA HB bZ (pv 1) (aa (aq QL [05] (by rfl) T.Tz.c aC (aa (az [07] KB) ac)) ac)))
   (ai (kU (bz (fE (sS [07])) (ak (a6 (df G9 HA HB bZ (pv 1) (aa (bn (aa aK (aa [07] ac))) ac)))) aQ))
   (ai (a6 (df G9 HA HB bZ (pv 1) (aa (aq WT [05] (by rfl) T.Vy.c aC (aa aK (aa [07] ac))) ac)))
   (ak (aB (aZ bC (pv 1) (bn (aa aK ac)))))))))))))),?_]
 refine iG (gE (p:=tx "block ") (ao cq aE)) λH1 L g1=>?_;refine pb (λσ' H'=>σ'=[GM (.ref x1),GM (.ref L)]/\eY H L H' (tx "block "::nmF m)) ?_ ?_
 .refine(cN (bE KB) (g1.sm _ _ zx) T.J3 T.Mr rfl:Ev (m8 K (ei 0) "name") _ H1 (jd m)) _ #[_,KB,?_]
  cases m with
  |none=>exact e8 KB #[KB,g1]
  |some y=>exact eU KB (j0 g1 KB (jm (ps:=[sb y,tx " "]) (ao (cN (bE KB) (g1.sm _ _ zx) T.J3 T.Mr KB) (ao cq aE)) KB (wW)) (by simp only[gD,Gw,Gv,GU,cQ];unfold GZ;lia) λH2 g2=>#[KB,g2])
 rintro σ' H2 ⟨rfl,g2⟩;refine lB (p:=mG Yb) g2 KB (cN (bE KB) (g2.sm _ _ zx) T.J3 T.NH (by rw[zm];rfl)) (by simp only[gD,Gw,Gv,GU,cQ];lia) λH3 g3=>?_;refine fQ g3 KB (mP (word:="zone") (o:=GM z) h1 g3.sm f1 (by simp only[gD,Gw,Gv,GU,cQ];lia) (ao cq (ao (cN (bE KB) (g3.sm _ _ zx) T.J3 T.NI KB) aE))) (by simp only[gD,Gw,Gv,GU,cQ];lia) λH4 g4=>?_;refine fQ g4 KB (mP (word:="price") (o:=GM p) h2 g4.sm f2 (by simp only[gD,Gw,Gv,GU,cQ];lia) (ao cq (ao (cN (bE KB) (g4.sm _ _ zx) T.J3 T.M7 KB) aE))) (by simp only[gD,Gw,Gv,GU,cQ];lia) λH5 g5=>?_;have am: ∀ {σ:L2.St}{H':Hp},aI H H'->σ[0]?=GM (GM (.ref x1))->Ev (m8 K (ei 0) "amounts") σ H' (.ref y1):=λs h=>cN (bE h) (s _ _ zx) T.J3 T.Mm KB
 refine fQ g5 KB (jm (ps:=[tx " amount ",sb x,tx ": "]) (ao cq (ao (cN (am g5.sm KB) (g5.sm _ _ zy) T.M5 T.MJ KB) (ao cq aE))) KB pG) (by simp only[gD,Gw,Gv,GU,cQ];lia) λH6 g6=>?_;refine fQ g6 KB (eO (e:=q) h3 g6.sm f3 (by lia) (ao (cN (am g6.sm KB) (g6.sm _ _ zy) T.M5 T.M6 KB) aE)) (by simp only[gD,Gw,Gv,GU,cQ];lia) λH7 g7=>?_;generalize hp:(tx "block "::nmF m)++[mG Yb]++vV "zone" (GM z)++vV "price" (GM p)++[tx " amount ",sb x,tx ": "]++xF q=ps at g7;have l7:ps.length=1+(nmF m).length+1+(3+(xF z).length)+(3+(xF p).length)+3+(xF q).length:=by
  rw[<-hp];simp only[gD,Gw,Gv,GU,cQ];lia
 refine pb (λσ' H'=>σ'=[GM (.ref x1),GM (.ref L)]/\eY H L H' (ps++unF u)) ?_ ?_
 .refine(cN (bE KB) (g7.sm _ _ zx) T.J3 T.L7 rfl:Ev (m8 K (ei 0) "under") _ H7 (jd u)) _ #[_,KB,?_]
  cases u with
  |none=>exact e8 KB #[KB,by show eY H L H7 (_++[]);rw[G7];exact g7]
  |some y=>
   have:(unF (GM y)).length=2:=rfl;exact eU KB (j0 g7 KB (jm (ps:=[tx " under ",sb y]) (ao cq (ao (cN (bE KB) (g7.sm _ _ zx) T.J3 T.L7 KB) aE)) KB wW) (by rw[l7];simp only[gD,Gw,Gv,GU,cQ];lia) λH2 g2=>#[KB,g2])
 rintro σ' H8 ⟨rfl,g8⟩;refine fQ g8 KB (mP (word:="group") (o:=g) h4 g8.sm f4 (by lia) (ao cq (ao (cN (bE KB) (g8.sm _ _ zx) T.J3 T.M8 KB) aE))) (by rw[Gw,l7];lia) λH9 g9=>?_;refine dH (Fr.eq (sR (qs:=[tx ";"]) (bE KB) g9.at_ (gE (ao cq aE)) (by rw[Gw,Gw,l7];simp only[gD,Gw,Gv,GU,cQ];lia)) ?_) (hQ.up g9.sm);rw[<-hp];simp only[gD,Hj,Jo,J2]
end
section
variable {k:GQ}
def xI {M:GB->Prop}{H H':Hp}{E:XK}{ta:TA}{σ:L2.St}{l:Ir}{n:GQ}{v:V}{us:Gr V}(h1:bM M H us v) (h2:aT a M H l us) (s:aI H H') (hf:iy l<=k) (hn:n+iy l<=300) (hl:(ql n (iY (n+1) l)).length<=GZ) (h:Bj ta σ H' [v, .int (n:GQ)]):Fr (iV (ET a k) [] E ta) σ H' (ql n (iY (n+1) l)):=dw h λQ q=>#[l,n,v,us,M,KB,bM.keep (aI.keeps s).two h1,aT.Ie (aI.keeps s).two l h2,hf,hn,hl,q]
def akR (T:Txt K mg a) (QL:pi P w K mg base a (k+1)) (G_j:xz P w K mg base a (k+2)):T.d_1.U P w base (k+3) (v9 a (k+4) λs=> ∃c x y,s=Js.cond c x y):=by
 refine T.d_1.F.ok afN [03] [02];obtain⟨s,n,v,M,rfl,hs,⟨c,x,y,rfl⟩,hf,hn,hl,hQ⟩:=h;unfold aO at hs;obtain⟨u,q,us,g,ws,⟨p,dx,rfl,_,z⟩,h1,⟨q',rfl,mq,zq⟩,h2,⟨g',rfl,mg',zg⟩,h3⟩:=hs;rw[gX] at hf hn;obtain⟨f1,f'⟩:=BA hf;obtain⟨f2,f3⟩:=BA f';have k1:=Iw (3+fr c) (max (2+iy x) (2+iy y));have k2:=IH (3+fr c) (max (2+iy x) (2+iy y));have k3:=Iw (2+iy x) (2+iy y);have k4:=IH (2+iy x) (2+iy y);have hl':1+(xF c).length+(ql n (iY (n+1) x)).length<=GZ/\(y≠ .nil->1+(xF c).length+(ql n (iY (n+1) x)).length+1+(ql n (iY (n+1) y)).length<=GZ):=by
  cases y with
  |nil=>
   rw[fj] at hl;simp only[Gv,Gw] at hl;exact#[by lia,λz=>G6 KB z]
  |cons s l=>
   rw[fj] at hl
   .simp only[Gv,Gw] at hl
    exact#[by lia,λ_=>by lia]
   .intro z;cases z
 refine#[_,(ai (b4 (i:=2) afN.nd KB (HF KB) (aZ bC (aZ bC (bn (aa aK ac)) (aq QL [05] (by rfl) T.Tz.c aC (aa [07] ac))) (aq G_j [05] (by rfl) T.d_j.c aC (aa [07] (aa (pv 1) ac)))))
   (ai (kU (bz (bg qg (aS bL (by rfl) T.LV Jg (aa [07] ac)) aG (a0 _)) (ai (a6 (df G9 Io Ip dh (pv 2) (aa aK ac)))
   (ak (a6 (df G9 HA HB bZ (pv 2) (aa (aq G_j [05] (by rfl) T.d_j.c aC (aa [07] (aa (pv 1) ac))) ac))))) aQ))
   (ak (aB (pv 2))))),?_]
 refine iG (bV (bV (gE (p:=tx "if ") (ao cq aE)) (λH1 s1=>eO h1 s1 (by lia) (by lia) (ao (cN (bE KB) (s1 _ _ z) T.PV T.MH KB) aE)) ?_)
  (λH1 s1=>xI #[q',KB,mq,zq] h2 s1 (by lia) (by lia) (by lia) (ao (cN (bE KB) (s1 _ _ z) T.PV T.Mj KB) (ao (bE KB) aE))) ?_) λH1 L g1=>?_
 .simp only[Gw,Gv,GU];lia
 .simp only[Gw,Gv,GU];lia
 refine pb (λσ' H'=>σ'=[GM (.ref p),GM (.int n),GM (.ref L)]/\eY H L H' (fj n (.cond c x y))) ?_ ?_
 .refine(cN (bE KB) (g1.sm _ _ z) T.PV T.Kq rfl:Ev (m8 K (ei 0) "else_statements") _ H1 (.ref g')) _ #[g',ws,KB, .inl (cJ.of (g1.sm _ _ zg)),_,_,KB,KB,_,KB,?_]
  cases y with
  |nil=>
   unfold aT at h3;subst h3;exact e8 KB #[KB,by rw[fj];exact g1]
  |cons s l=>
   have wn:0<ws.length:=by
    unfold aT at h3;obtain⟨_,_,rfl,_⟩:=h3;exact GQ.succ_pos _
   have V1:=hl'.2 (by intro z;cases z)
   have l1:([tx "if "]++xF c++ql n (iY (n+1) x)).length=1+(xF c).length+(ql n (iY (n+1) x)).length:=by rw[Gw,Gw];rfl
   refine eU (HC (by lia)) (lB g1 KB cq (by rw[l1];lia) λH2 g2=>?_);refine j0 g2 KB (xI #[g',KB,mg',zg] h3 g2.sm (by lia) (by lia) (by lia) (ao (cN (bE KB) (g2.sm _ _ z) T.PV T.Kq KB) (ao (bE KB) aE))) (by rw[Gw,l1];have:[tx " else"].length=1:=rfl;lia) λH3 g3=>#[KB,?_];rw[fj]
   .have g3:=g3
    simp only[Hj,Jo,J2] at g3;exact g3
   .intro z;cases z
 .rintro σ' H2 ⟨rfl,g2⟩
  exact(g2.end_ hQ)
def akS (T:Txt K mg a) (I:jK K a) (hk:k<=890) (G_j:xz P w K mg base a (k+3)) (G2:xz P w K mg base a (k+2)):T.d_F.U P w base (k+4) (v9 a (k+4) λ_=>True):=by
 have pl:=λn (h:n<=900)=>oF (P:=P) (w:=w) (base:=base) T I n h n (GY _)
 have QL:=Cq T (pl (k+2) (by lia))
 have A1:=Cq T (pl (k+1) (by lia))
 have A0:=Cq T (pl k (by lia))
 have G_x:=ahk T A1
 have G_1:=akR T A1 G2
 have pt:=akJ T A0
 have G_2:=akK T pt
 have G_3:=akQ T A0 pt;refine T.d_F.F.ok ajH [03] [02];obtain⟨s,n,v,M,rfl,hs,_,hf,hn,hl,hQ⟩:=h;refine#[_,(ai (bz (bS (aS bX (by rfl) T.HR ID (aa (pv 0) (aa (dn (by rfl) T.RD) ac)))) (ak (aB (aZ bC (aZ bC (bn (aa aK (aa [07] (aa aK ac)))) (aq QL [05] (by rfl) T.Tz.c aC (aa [07] ac))) (bn (aa aK ac))))) aQ)
   (ai (bz (bS (aS bX (by rfl) T.HR ID (aa (pv 0) (aa (dn (by rfl) T.Tv) ac)))) (ak (aB (aZ bC (aZ bC (bn (aa aK ac)) (aq G_x [05] (by rfl) T.d_x.c aC (aa (pv 0) ac))) (aq G_j [05] (by rfl) T.d_j.c aC (aa [07] (aa (pv 1) ac)))))) aQ)
   (ai (bz (bS (aS bX (by rfl) T.HR ID (aa (pv 0) (aa (dn (by rfl) T.Vu) ac)))) (ak (aB (aq G_1 [05] (by rfl) T.d_1.c aC (aa (pv 0) (aa (pv 1) ac))))) aQ)
   (ai (bz (bS (aS bX (by rfl) T.HR ID (aa (pv 0) (aa (dn (by rfl) T.RE) ac)))) (ak (aB (aq G_2 [05] (by rfl) T.d_2.c aC (aa (pv 0) ac)))) aQ)
   (ak (aB (aq G_3 [05] (by rfl) T.d_3.c aC (aa (pv 0) ac)))))))),?_]
 cases s with
 |bind x e=>
  unfold aO at hs;obtain⟨u,⟨p,dx,rfl,_,z⟩,h1⟩:=hs;rw[gX] at hf;rw[fj] at hl hQ;simp only[Gv,Gw,GU] at hl;refine cD I (i:=7) (j:=7) KB KB z KB (λ_=>?_) (λh=>G6 KB h);refine dH (Fr.eq (bV (bV (jm (ps:=[tx "let ",sb x,tx " = "]) (ao cq (ao (cN (bE KB) z T.Pj T.Nz KB) (ao cq aE))) KB pG) (λH1 s1=>eO h1 s1 (by lia) (by lia) (ao (cN (bE KB) (s1 _ _ z) T.Pj T.Pk KB) aE)) ?_) (λH1 s1=>gE (p:=tx ";") (ao cq aE)) ?_) (by simp only[EQ,Hj,Jo,J2])) hQ
  .simp only[Gw,Gv,GU];lia
  .simp only[Gw,Gv,GU];lia
 |loop x lo hi l=>
  unfold aO at hs;obtain⟨u1,u2,q,us,⟨p,dx,rfl,_,z⟩,h1,h2,h3,h4⟩:=hs;rw[gX] at hf hn;obtain⟨f1,f'⟩:=BA hf;obtain⟨f2,f3⟩:=BA f';have k2:=IH (3+fr lo) (max (3+fr hi) (1+iy l));have k3:=IH (3+fr hi) (1+iy l);rw[fj] at hl hQ;have lr:(EQ x lo hi).length=3+(xF lo).length+(xF hi).length:=by
   simp only[EQ,Gv,Gw];lia
  simp only[Gv,Gw,GU] at hl;refine cD I (i:=8) (j:=7) KB KB z KB (λh=>by cases h) (λ_=>?_);refine cD I (i:=8) (j:=8) KB KB z KB (λ_=>?_) (λh=>G6 KB h);refine dH (Fr.eq (bV (bV (gE (p:=tx "for ") (ao cq aE)) (λH1 s1=>dw (ps:=EQ x lo hi) (ao (bE KB) aE) λQ1 q1=>#[x,lo,hi,p,_,_,_,u1,u2,M,KB,s1 _ _ z,T.OM,T.ON,T.Og,T.OO,KB,KB,KB,ag.keep (aI.keeps s1) _ h1,ag.keep (aI.keeps s1) _ h2,by lia,by lia,by lia,q1]) ?_)
   (λH1 s1=>xI h3 h4 s1 (by lia) (by lia) (by lia) (ao (cN (bE KB) (s1 _ _ z) T.OM T.L6 KB) (ao (bE KB) aE))) ?_) (by simp only[EQ,Hj,Jo,J2])) hQ
  .simp only[Gw,Gv,GU];lia
  .simp only[Gw,Gv,GU];lia
 |cond c x y=>
  have Yr:=hs;unfold aO at Yr;obtain⟨u,q,us,g,ws,⟨p,dx,rfl,_,z⟩,_⟩:=Yr;refine cD I (i:=9) (j:=7) KB KB z KB (λh=>by cases h) (λ_=>?_)
  refine cD I (i:=9) (j:=8) KB KB z KB (λh=>by cases h) (λ_=>?_);refine cD I (i:=9) (j:=9) KB KB z KB (λ_=>?_) (λh=>G6 KB h);exact dH (dw (ao (bE KB) (ao (bE KB) aE)) λQ1 q1=>#[_,n,_,M,KB,hs,#[c,x,y,KB],hf,hn,hl,q1]) hQ
 |step b z' q p' t m=>
  have Yr:=hs;unfold aO at Yr;obtain⟨u1,u2,u3,u4,u5,⟨p,dx,rfl,_,z⟩,_⟩:=Yr;refine cD I (i:=10) (j:=7) KB KB z KB (λh=>by cases h) (λ_=>?_)
  refine cD I (i:=10) (j:=8) KB KB z KB (λh=>by cases h) (λ_=>?_);refine cD I (i:=10) (j:=9) KB KB z KB (λh=>by cases h) (λ_=>?_);refine cD I (i:=10) (j:=10) KB KB z KB (λ_=>?_) (λh=>G6 KB h);exact dH (dw (ao (bE KB) aE) λQ1 q1=>#[_,n,_,M,KB,hs,#[hf,_,_,_,_,_,_,KB],hl,q1]) hQ
 |block nm b z' p' x q u g=>
  have Yr:=hs;unfold aO at Yr;obtain⟨u1,u2,u3,u4,⟨p,dx,rfl,_,z⟩,_⟩:=Yr;refine cD I (i:=11) (j:=7) KB KB z KB (λh=>by cases h) (λ_=>?_)
  refine cD I (i:=11) (j:=8) KB KB z KB (λh=>by cases h) (λ_=>?_);refine cD I (i:=11) (j:=9) KB KB z KB (λh=>by cases h) (λ_=>?_);refine cD I (i:=11) (j:=10) KB KB z KB (λh=>by cases h) (λ_=>?_);exact dH (dw (ao (bE KB) aE) λQ1 q1=>#[_,n,_,M,KB,hs,#[hf,_,_,_,_,_,_,_,_,KB],hl,q1]) hQ
end
def ym (n:GQ) (x y:Gr xy):EO n (x++y)=EO n x++EO n y:=KR
section
variable {k:GQ}
def fr_st {M:GB->Prop}{H H':Hp}{E:XK}{ta:TA}{σ:L2.St}{s:xy}{n:GQ}{v:V}(hs:aO a M H s v) (sm:aI H H') (hf:gX s<=k) (hn:n+gX s<=300) (hl:(fj n s).length<=GZ) (h:Bj ta σ H' [v, .int (n:GQ)]):Fr (iV (v9 a k λ_=>True) [] E ta) σ H' (fj n s):=dw h λQ q=>#[s,n,v,M,KB,aO.Ie (aI.keeps sm).two s hs,trivial,hf,hn,hl,q]
def CT {te:TE}{σ:L2.St}{H:Hp}{n:GQ}(h:Ev te σ H (.int (n:GQ))) (hn:n<=300):Ev (Bg (λx y H Q=> ∃n:GQ,x= .str (tx "  ")/\y= .int (n:GQ)/\n<=300/\Q (.str (gF n)) H) (tC (.str (tx "  "))) te) σ H (.str (gF n)):=λQ q=>h _ #[n,KB,KB,hn,q]
def Et {te:TE}{σ:L2.St}{H:Hp}{n:GQ}(h:Ev te σ H (.int (n:GQ))):Ev (Bg (vW λi j=> .int (i+j)) te (tC (.int 1))) σ H (.int ((n+1:GQ):Int)):=Yn h cq
def akT (T:Txt K mg a) (G_F:T.d_F.U P w base k (v9 a k λ_=>True)):xz P w K mg base a (k+1):=by
 refine T.d_j.F.ok aaj [03] [02];obtain⟨l,n,v,us,M,rfl,⟨q,rfl,_,z⟩,hs,hf,hn,hl,hQ⟩:=h;refine#[_,(ai (b4 (i:=2) aaj.nd KB (HF KB) (bn (aa aK ac)))
   (ai (j6 JA KB (fN (pv 0)) (cY (i:=3) aaj.nd KB (HF KB)) (ai (a6 (df G9 Io Ip dh (pv 2) (aa (aZ zr aK (aZ eu (pv 1) aG)) ac)))
   (ai (a6 (df G9 HA HB bZ (pv 2) (aa (aq G_F [05] (by rfl) T.d_F.c aC (aa (pv 3) (aa (aZ eu (pv 1) aG) ac))) ac)))
   (ak (a6 (df G9 Io Ip dh (pv 2) (aa aK ac)))))))
   (ai (a6 (df G9 Io Ip dh (pv 2) (aa (aZ zr aK (pv 1)) ac)))
   (ai (a6 (df G9 Io Ip dh (pv 2) (aa aK ac)))
   (ak (aB (pv 2))))))),?_]
 unfold ql at hl hQ;rw[Dk] at hl hQ;simp only[Gv,Gw,GU] at hl;obtain⟨nn,gt⟩:=hs.get;have fb:=si l;refine iG (gE (p:=tx " {\n") (ao cq aE)) λH1 L g1=>?_;refine#[q,KB,#[_,cJ.of (g1.sm _ _ z)],iq (xs:=us) (λi σ' H'=> ∃x d r,σ'=[GM (.ref q),GM (.int n),GM (.ref L),x]/\sl l=d++r/\d.length=i/\eY H L H' (tx " {\n"::EO (n+1) d)) #[_,[],sl l,KB,KB,KB,g1] ?_ ?_ ?_]
 .rintro i σ' H' hi ⟨x,d,r,rfl,_,_,g⟩
  exact cJ.of (g.sm _ _ z)
 .rintro i u σ' H' hu ⟨x,d,r,rfl,ed,dl,g⟩
  obtain⟨s,h1,h2,h3⟩:=gt i u hu;obtain⟨r',rfl⟩: ∃r',r=s::r':=by
   rw[ed,<-dl,LC (GY _),Me] at h1;cases r with
   |nil=>cases h1
   |cons y r'=>cases h1;exact#[r',KB]
  rw[ed,ym,Gw,show EO (n+1) (s::r')=(gF (n+1)::(fj (n+1) s++[tx "\n"]))++EO (n+1) r' from KB] at hl;simp only[Gv,Gw,GU] at hl;refine lB (p:=gF (n+1)) g KB (CT (n:=n+1) (Et (bE KB)) (by lia)) (by simp only[Gv];lia) λH2 g2=>?_;refine fQ g2 KB (fr_st (n:=n+1) h2 g2.sm (by lia) (by lia) (by lia) (ao (bE KB) (ao (Et (bE KB)) aE))) (by simp only[Gv,Gw,GU];lia) λH3 g3=>?_;refine wM (p:=tx "\n") g3 KB cq (by simp only[Gv,Gw,GU];lia) λH4 g4=>#[_,d++[s],r',KB,by rw[ed];simp,by simp [dl],?_];have:EO (n+1) (d++[s])=EO (n+1) d++(gF (n+1)::(fj (n+1) s++[tx "\n"])):=by
   rw[ym];show _++((gF (n+1)::(fj (n+1) s++[tx "\n"]))++[])=_;rw[G7]
  rw[this];simp only[Hj,Jo,J2] at g4 ⊢;exact g4
 .rintro σ' H' ⟨x,d,r,rfl,ed,dl,g⟩
  have:r=[]:=by
   have:=Hv MR ed;rw[Gw] at this;exact MO (by lia)
  subst this;rw[G7] at ed;rw[ed] at hQ hl;refine lB (p:=gF n) g KB (CT (bE KB) (by lia)) (by simp only[Gv];lia) λH2 g2=>?_;refine lB (p:=tx "}") g2 KB cq (by simp only[Gv,Gw,GU];lia) λH3 g3=>?_;simp only[Hj,Jo,J2] at g3;exact(g3.end_ hQ)
def ahq {vs:Gr V}{H:Hp}{Q:VK}{E:XK}{ok:xy->Prop}(hk:k<4) (h:v9 a k ok vs H Q E):False:=by
 obtain⟨s,n,v,M,rfl,_,_,hf,_⟩:=h;have:=vX s;lia
def B7 (hk:k<4):b6 P w K mg base nJ k a.f_F a.adA ["statement","depth"] (v9 a k λ_=>True):=by
 constructor<;>intros<;>exact(ahq hk (by assumption)).elim
def ahr {vs:Gr V}{H:Hp}{Q:VK}{E:XK}(h:ET a 0 vs H Q E):False:=by
 obtain⟨l,n,v,us,M,rfl,_,_,hf,_⟩:=h;have:=si l;lia
def ux:xz P w K mg base a 0:=by
 constructor<;>intros<;>exact(ahr (by assumption)).elim
theorem xD (T:Txt K mg a) (I:jK K a): ∀n,n<=890-> ∀k,k<=n->xz P w K mg base a k
 |0,_,k,hk=>by
  obtain rfl:k=0:=by lia
  exact ux
 |n+1,h,0,hk=>ux
 |n+1,h,m+1,hk=>by
  refine akT T ?_;by_cases h4:m<4
  .exact B7 h4
  .obtain⟨j,rfl⟩: ∃j,m=j+4:=#[m-4,by lia]
   exact akS T I (by lia) (xD T I n (by lia) (j+3) (by lia)) (xD T I n (by lia) (j+2) (by lia))
end
def DY (x y:Gz):sb (x++y)=sb x++sb y:=by
 show YG _=YG _
 rw[IJ,<-Gr.append_toArray]
 rfl
theorem vB: ∀ps:Gr Gz,QA (tx ", ") (ps.map sb)=sb (NM ps)
 |[]=>rfl
 |[x]=>by
  show sb x=sb (x++[])
  rw[G7]
 |x::y::l=>by
  rw[js,DY,DY,<-vB (y::l),show sb (Gx ", ")=tx ", " by decide+kernel];show sb x++tx ", "++QA (tx ", ") ((y::l).map sb)=_;apply TL.VJ;rw[TL.MZ,TL.MZ,TL.MZ,TL.MZ,Hj]
theorem zd: ∀ps:Gr Gz,((ps.map sb).map (·.length)).sum+ps.length*2<=(sb (NM ps)).cps.size+2
 |[]=>HG _
 |[x]=>by
  show(sb x).length+0+1*2<=(sb (x++[])).cps.size+2
  rw[G7];exact GY _
 |x::y::l=>by
  have i:=zd (y::l);rw[js];rw[G8,G8,RO,Gv]
  have e: ∀b:Gz,(sb b).cps.size=b.length:=λb=>by
   show(b.map KD).toArray.size=_
   rw[Hz,GK]
  have e':(sb x).length=x.length:=e x;rw[e] at i ⊢
  have:(Gx ", ").length=2:=by decide+kernel
  rw[e',Gw,Gw];lia
inductive ahs (a:bI) (vs:Gr V) (H:Hp) (Q:VK) (_E:XK):Prop
 |mk (s:Iy) (v:V) (M:GB->Prop) (_:vs=[v]) (_:f8 a M H s v) (_:pV s<=275) (_:mS (i6 s)<=6000000) (_:Nw H (i6 s) Q):ahs a vs H Q _E
section
variable {k:GQ}
def abf {te:TE}{σ:L2.St}{H:Hp}{v:V}{i:GQ}{u:TS}{Z:dB}(h:Ev te σ H v) (q:u Z (σ.set i (GM v)) H):uD (BV te (gI i)) u Z σ H:=h _ q
def gj {n:GQ}(h:n<=6000000):n<=GZ:=G0 h [01]
def akU (T:Txt K mg a) (I:jK K a):T.d_Z.U P w base 276 (ahs a):=by
 have QL:pi P w K mg base a 274:=Cq T (oF T I 274 [01] 274 [01])
 have G_j:xz P w K mg base a 275:=xD T I 275 [01] 275 [01];refine T.d_Z.F.ok afM [03] [02];obtain⟨s,v,M,rfl,hs,hf,hm,hQ⟩:=h;refine#[_,(ai (bz (bS (aS bX (by rfl) T.HR ID (aa (pv 0) (aa (dn (by rfl) T.QR) ac)))) (ak (aB (aZ bC (aZ bC (bn (aa aK (aa [07] (aa aK ac)))) (aq QL [05] (by rfl) T.Tz.c aC (aa [07] ac))) (bn (aa aK ac))))) aQ)
   (ai (bz (bS (aS bX (by rfl) T.HR ID (aa (pv 0) (aa (dn (by rfl) T.Tx) ac)))) (ai (b4 (i:=1) afM.nd KB (HF KB) (yU aK [07]))
   (ak (aB (aZ bC (aZ bC (bn (aa aK (aa [07] (aa aK (aa (pv 1) (aa aK ac)))))) (aq QL [05] (by rfl) T.Tz.c aC (aa [07] ac))) (bn (aa aK ac)))))) aQ)
   (ak (aB (aZ bC (aZ bC (bn (aa aK (aa [07] ac))) (aq G_j [05] (by rfl) T.d_j.c aC (aa [07] (aa aG ac)))) (bn (aa aK ac))))))),?_]
 have hl:=G0 (xh (i6 s)) hm;cases s with
 |const x e=>
  obtain⟨u,⟨p,dx,rfl,_,z⟩,h1⟩:=hs;rw[pV] at hf;rw[i6] at hl hQ;simp only[Gv,Gw,GU] at hl;refine cD I (i:=12) (j:=12) KB KB z KB (λ_=>?_) (λh=>G6 KB h);refine dH (Fr.eq (bV (bV (jm (ps:=[tx "const ",sb x,tx " = "]) (ao cq (ao (cN (bE KB) z T.NW T.NJ KB) (ao cq aE))) KB pG) (λH1 s1=>eO h1 s1 (by lia) (gj (by lia)) (ao (cN (bE KB) (s1 _ _ z) T.NW T.Oj KB) aE)) ?_) (λH1 s1=>gE (p:=tx ";\n") (ao cq aE)) ?_) (by simp only[Hj,Jo,J2])) hQ
  all_goals simp only[Gw,Gv,GU];exact gj (by lia)
 |func x ps e=>
  obtain⟨q,u,⟨p,dx,rfl,_,z⟩,⟨q',rfl,_,zq⟩,h1⟩:=hs;rw[pV] at hf;have hc:(sb (NM ps)).cps.size<=6000000:=by
   rw[i6,ae,ae,ae,ae] at hm;lia
  rw[i6] at hl hQ;simp only[Gv,Gw,GU] at hl;refine cD I (i:=13) (j:=12) KB KB z KB (λh=>by cases h) (λ_=>?_);refine cD I (i:=13) (j:=13) KB KB z KB (λ_=>?_) (λh=>G6 KB h);refine abf (v:= .str (sb (NM ps))) (λQ1 q1=>#[#[_,KB],(cN (bE KB) z T.OP T.L8 rfl:Ev (m8 K (ei 0) "parameters") _ H (.ref q')) _ #[_,q',ps.map sb,KB,KB, .inl ?_,?_,?_]]) ?_
  .rw[JX]
   exact cJ.of zq
  .have:=zd ps
   rw[GK];show _+_*2<=_;lia
  .unfold PySem.Txt.join
   rw[StrLaws.glued_eq_join];have:=vB ps;rw[show QA _ (ps.map sb)=_ from this];exact q1
  refine dH (Fr.eq (bV (bV (jm (ps:=[tx "fun ",sb x,tx "(",sb (NM ps),tx ") = "]) (ao cq (ao (cN (bE KB) z T.OP T.OQ KB) (ao cq (ao (bE KB) (ao cq aE))))) KB (by show 5<=GZ;decide)) (λH1 s1=>eO h1 s1 (by lia) (gj (by lia)) (ao (cN (bE KB) (s1 _ _ z) T.OP T.Pl KB) aE)) ?_) (λH1 s1=>gE (p:=tx ";\n") (ao cq aE)) ?_) (by simp only[Hj,Jo,J2])) hQ
  all_goals simp only[Gw,Gv,GU];exact gj (by lia)
 |desk x l=>
  obtain⟨q,us,⟨p,dx,rfl,_,z⟩,h1,h2⟩:=hs;rw[pV] at hf;rw[i6] at hl hQ;have hl:(tx "desk "::sb x::(ql 0 (iY (0+1) l)++[tx "\n"])).length<=6000000:=hl;simp only[Gv,Gw,GU] at hl;refine cD I (i:=14) (j:=12) KB KB z KB (λh=>by cases h) (λ_=>?_);refine cD I (i:=14) (j:=13) KB KB z KB (λh=>by cases h) (λ_=>?_);refine dH (Fr.eq (bV (bV (jm (ps:=[tx "desk ",sb x]) (ao cq (ao (cN (bE KB) z T.O1 T.Ol KB) aE)) KB wW) (λH1 s1=>xI (n:=0) h1 h2 s1 (by lia) (by lia) (gj (by lia)) (ao (cN (bE KB) (s1 _ _ z) T.O1 T.LR KB) (ao cq aE))) ?_) (λH1 s1=>gE (p:=tx "\n") (ao cq aE)) ?_) (by simp only[Hj,Jo,J2])) hQ
  all_goals simp only[Gw,Gv,GU];exact gj (by lia)
end
def jr (z:Int):HK:=decide (0<=z)&&decide (z<=255)
def mB (zs:Gr Int):HK:=decide (zs.length<=3000)&&zs.all jr
inductive vk (K:Gy) (vs:Gr V) (H:Hp) (Q:VK) (_E:XK):Prop
 |mk (l:GB) (zs:Gr Int) (_:vs=[.ref l]) (_:cJ K H l (dX zs)) (_:zs.length<=4000) (_: ∀H',aI H H'->Q (.bl (mB zs)) H'):vk K vs H Q _E
def vz (h:mB zs=IR):KO zs=Ix:=by
 unfold KO;rw[GG];intro z;have:mB zs=IN:=z;rw[h] at this;cases this
def xx (h:mB zs=IN): ∃bs:Gz,KO zs=GM bs/\lJ bs=dX zs/\bs.length<=3000:=by
 have h0:=h;unfold mB at h;rw[Jx,Il] at h;refine#[zs.map λc=>MF c.toNat,?_,?_,by rw[GK];exact h.1]
 .unfold KO
  exact GI h0
 .unfold lJ dX
  rw[JX];refine Pu λz hz=>?_;have b:=LG.mp h.2 z hz;unfold jr at b;rw[Jx,Il,Il] at b;show V.int (nb (MF z.toNat))=V.int z;unfold nb
  congr 1
  rw[JZ.toNat_ofNat'];lia
def akV (T:Txt K mg a):T.d_K.U P w base 1 (vk K):=by
 refine T.d_K.F.ok aap [03] [02];obtain⟨l,zs,rfl,hS,hl,hQ⟩:=h;refine#[_,(ak (aB (wR (cH ji (aS bL (by rfl) T.LV Jg (aa (pv 0) ac)) (bA (by rfl) T.QW) (a0 _)) (oV (aS (Z2 KB) (by rfl) T.aef boot_all (aa (yL KB aap.nd (fN (pv 0)) (own:=[("byte",1)]) (eE (by show m6 ["text","byte"] (ah s_K) _ [("byte",1)]=IN;decide+kernel)) (λ_ _ _ _ _=>cY (i:=1) aap.nd KB (HF KB)) (λ_ _ _ _ _=>lc) (λ_ _ _ _ _=>(lD ji ji aG (pv 1) aG))) ac)))))),?_];have il:(dX zs).length=zs.length:=GK ..;refine#[_,_,KB, .inl hS,_,_,KB,KB,_,KB,?_];rw[il];unfold mB at hQ;refine bi (λe=>?_) λe=>?_
 .have le:zs.length<=3000:=by have:=Hs e;lia
  rw[HC le] at hQ;refine#[l,KB,#[_,hS],λD hD=>?_];refine rp (K:=K) (a:=l) (xs:=dX zs) (λi H'=>aI H H'/\H' D=GM (.lst (((zs.take i).map jr).map V.bl))) #[a8 hD,aj] (λi H' _ z=>z.1.seq hS) ?_ ?_
  .rintro i y H' hi ⟨s1,SD⟩
   obtain⟨z,hz,rfl⟩: ∃z,zs[i]?=GM z/\y=V.int z:=by
    unfold dX at hi;rw[HI] at hi;cases e:zs[i]? with
    |none=>rw[e] at hi;cases hi
    |some c=>rw[e] at hi;exact#[c,KB,(Hb hi).symm]
   have fin: ∀b:HK,b=jr z-> ∃acc,H' D=GM (.lst acc)/\acc.length<GZ/\(aI H (bf H' D (.lst (acc++[V.bl b])))/\bf H' D (.lst (acc++[V.bl b])) D=GM (.lst (((zs.take (i+1)).map jr).map V.bl))):=λb hb=>by
    refine#[_,SD,?_,λb' o e=>by rw[af (aw e hD)];exact s1 b' o e,?_]
    .rw[GK,GK]
     exact HH (G0 (TY i zs) hl) [01]
    .rw[aj,NP,hz,hb]
     show GM (HO.lst (((zs.take i).map jr).map V.bl++[V.bl (jr z)]))=GM (HO.lst (((zs.take i++[z]).map jr).map V.bl))
     rw[IJ,IJ]
     rfl
   refine#[KB,?_];unfold qc;dsimp only;rw[GI KB];refine#[_,_,KB,KB,_,KB,?_];refine bi (λe0=>?_) λe0=>?_
   .refine#[_,_,KB,KB,fin _ ?_]
    unfold jr;rw[e0]
    rfl
   .refine fin _ ?_
    unfold jr;rw[e0]
    rfl
  .rintro H' ⟨s1,SD⟩
   rw[il,My] at SD;refine#[D,zs.map jr,KB,cJ.of SD,?_];have:=hQ H' s1;rw[YB] at this;rw[S8];exact this
 .have le: ¬zs.length<=3000:=by have:=Hu e;lia
  rw[He le] at hQ;exact hQ H λ_ _ e=>e
def Rfs (C:GB) (E:XK) (H:Hp) (c:Int):Prop:= ∀d,H d=Ix->E (.ref C) (GM d) (bf H d (c4 d (Dd c)))
def gC (c:Int):Gr V->Gr (Ha×V)->Prop:=λus fs=>us=[]/\fs=Dd c
def ma (zs:Gr Int):(dX zs).length=zs.length:=GK _
def sJ (x y:Gr Int):dX (x++y)=dX x++dX y:=IJ
def NwI (H:Hp) (zs:Gr Int) (Q:VK):Prop:= ∀(H':Hp) (p:GB),aI H H'->H p=Ix->H' p=GM (.lst (dX zs))->Q (.ref p) H'
inductive aht (vs:Gr V) (H:Hp) (Q:VK) (_E:XK):Prop
 |mk (l:GB) (ps:Gr Ha) (_:vs=[.ref l]) (_:H l=GM (.lst (gM ps))) (_:mS ps<=6000000) (_:NwI H (bF ps) Q):aht vs H Q _E
inductive Ys (vs:Gr V) (H:Hp) (Q:VK) (_E:XK):Prop
 |mk (l:GB) (zs:Gr Int) (_:vs=[.ref l]) (_:H l=GM (.lst (dX zs))) (_:zs.length<=6000000) (_:NwI H (T8 zs) Q):Ys vs H Q _E
inductive Yt (a:bI) (vs:Gr V) (H:Hp) (Q:VK) (_E:XK):Prop
 |mk (l:GB) (us:Gr V) (ss:Gr Iy) (M:GB->Prop) (_:vs=[.ref l]) (_:H l=GM (.lst us)) (_:wa a M H ss us) (_: ∀s∈ss,pV s<=275) (_:mS (kt ss)<=6000000) (_:NwI H (bF (kt ss)) Q):Yt a vs H Q _E
def abg {x:Ha}{g:TG}{tt:TT}{te:TE}{vs:Gr GQ}{σ:L2.St}{H1:Hp}{D:GB}{Qd:Hp->Prop}(Pv:GQ->Hp->Prop) (h0:Pv 0 (bf H1 D (.lst [])))
  (hs: ∀i c H,x.cps[i]?=GM c->Pv i H->g (.str #[[c].toArray]) (dO σ vs) H λσ2 H2=>dO σ2 vs=dO σ vs/\tt σ2 H2 λb H3=>
   if b=IN then te σ2 H3 λy H4=> ∃acc,H4 D=GM (.lst acc)/\acc.length<GZ/\Pv (i+1) (bf H4 D (.lst (acc++[y]))) else Pv (i+1) H3) (hd: ∀H,Pv x.cps.size H->Qd H):
  ∃W:GQ->GQ->Hp->Prop,(∃m,W 0 m (bf H1 D (.lst [])))/\ ∀i m H,W i m H->
   ((Its x).stop i H/\Qd H)\/((Its x).go i H/\ ∃Nx:Hp->Prop,(∀H',Nx H'-> ∃m',m'<m/\W (i+1) m' H')/\ ∀v H',(Its x).Xl i H v H'->g v (dO σ vs) H' λσ2 H2=>dO σ2 vs=dO σ vs/\tt σ2 H2 λb H3=>
    if b=IN then te σ2 H3 λy H4=> ∃acc,H4 D=GM (.lst acc)/\acc.length<GZ/\Nx (bf H4 D (.lst (acc++[y]))) else Nx H3):=by
 refine#[λi m H=>m=x.cps.size-i/\i<=x.cps.size/\Pv i H,#[_,KB,HG _,h0],?_];rintro i m H ⟨rfl,hi,p⟩;by_cases RW:i<x.cps.size
 .refine .inr #[RW,Pv (i+1),λH' p'=>#[x.cps.size-(i+1),by lia,KB,RW,p'],λv H' y=>?_]
  obtain⟨rfl,c,hc,rfl⟩:=y;exact hs i c _ hc p
 .have e:i=x.cps.size:=by lia
  subst e;exact .inl #[GY _,hd H p]
def Gp {ps:Gr Ha}{i:GQ}{p:Ha}(h:ps[i]?=GM p):bF (ps.take (i+1))=bF (ps.take i)++bO p:=by
 rw[Rl,h,bw];show _++(bO p++[])=_;rw[G7]
def ahu (ps:Gr Ha) (i:GQ):(bF (ps.take i)).length<=mS ps:=by
 refine G0 (DT _) ?_;have:=au (ps.take i) (ps.drop i);rw[OX] at this;lia
section
variable {k:GQ}
def kC (T:Txt K mg a) (XC:XS K a):T.YT.U P w mg base 2 (j2 a.LU (gC (-1))):=by
 have G_S:=iP (P:=P) (w:=w) (base:=base) T XC.OR;refine T.YT.F.ok afe (λvs H Q E h=>?_) [02]
 .obtain⟨p,us,fs,rfl,⟨rfl,rfl⟩,_⟩:=h
  rfl
 .obtain⟨p,us,fs,rfl,⟨rfl,rfl⟩,hp,q⟩:=h
  exact#[_,(ak (a6 (vi (by rfl) T.M3 XC.rm G_S [05] T.d_S.c.b .nil aC (aa (pv 0) (aa (Xp B3 aG) ac))))),_,KB,p,_,Dd (-1),KB,#[-1,KB,KB],hp,q]
inductive zf (a:bI) (vs:Gr V) (H:Hp) (Q:VK) (E:XK):Prop
 |mk (x:HK) (_:vs=[.bl x]) (_:(x=IN->Q .Ko H)) (_:(x=IR->Rfs a.LU E H (-1))):zf a vs H Q E
def akW (T:Txt K mg a) (XC:XS K a):T.d_L.O P w base 4 (zf a):=by
 have akX:=kC (P:=P) (w:=w) (base:=base) T XC;refine kr T.d_L.F ajS [03] [02];obtain⟨x,rfl,h1,h2⟩:=h;refine#[_,(ak (bz (lT (bS (pv 0))) (ak (Ae nX XC.OR akX [05] (by rfl) T.PR T.YT.c.b)) aQ)),?_];refine#[_,KB,?_];cases x with
 |true=>exact cW (h1 KB)
 |false=>exact dR #[by show 0<=9;decide,_,#[KB,KB],h2 KB]
def akY (T:Txt K mg a):T.d_R.U P w base 1 Ys:=by
 refine T.d_R.F.ok ajT [03] [02];obtain⟨l,zs,rfl,z,hm,hQ⟩:=h;refine#[_,(ak (aB (aZ bC (bn (aa (aS bL (by rfl) T.LV Jg (aa (pv 0) ac)) ac)) (pv 0)))),?_];refine#[l,_,KB, .inl (cJ.of z),by show 1<=GZ;decide,λp hp=>#[p,l,_,_,KB,KB,aj,by rw[af (aw z hp)];exact z,?_,λp' hp'=>hQ _ p' ((a8 hp).trans (a8 hp')) (gm (a8 hp) hp') ?_]]
 .show 1+(dX zs).length<=_
  rw[ma];exact G0 (Na hm 1) [01]
 .rw[aj,ma]
  rfl
def akZ (T:Txt K mg a):T.d_t.U P w base 1 aht:=by
 refine T.d_t.F.ok Cu [03] [02];obtain⟨l,ps,rfl,z,hm,hQ⟩:=h;refine#[_,(ai (b4 (i:=1) Cu.nd KB (HF KB) (bn ac))
   (ai (j6 JA KB (fN (pv 0)) (cY (i:=2) Cu.nd KB (HF KB)) (ak (bz (bg cu (pv 2) aK (a0 _)) (ak (a6 (df G9 Io Ip dh (pv 1) (aa (bA (by rfl) T.Si) ac)))) (ak (a6 (df G9 HA HB bZ (pv 1) (aa (yL KB Cu.nd (Z9 (pv 2)) (own:=[("letter",3)]) (eE (by show m6 ["pieces","found","piece","letter"] (ah s_t) _ [("letter",3)]=IN;decide+kernel)) (λ_ _ _ _ _=>cY (i:=3) Cu.nd KB (HF KB)) (λ_ _ _ _ _=>lc) (λ_ _ _ _ _=>(aS Cd (by rfl) T.aej boot_ord (aa (pv 3) ac)))) ac)))))))
   (ak (aB (pv 1))))),?_]
 refine#[by show 0<=GZ;decide,λL hL=>?_];have hn: ∀i,(dX (bF (ps.take i))).length<=6000000:=λi=>by rw[ma];exact G0 (ahu ps i) hm
 refine#[l,KB,#[_,cJ.of (a8 hL _ _ z)],iq (xs:=gM ps) (λi σ' H'=> ∃x,σ'=[GM (.ref l),GM (.ref L),x,Ix]/\aI H H'/\H' L=GM (.lst (dX (bF (ps.take i))))) #[_,KB,a8 hL,aj] ?_ ?_ ?_]
 .rintro i σ' H' hi ⟨x,rfl,s1,_⟩
  exact cJ.of (s1 _ _ z)
 .rintro i u σ' H' hu ⟨x,rfl,s1,zL⟩
  rw[HI] at hu;obtain⟨p,hp,rfl⟩:=IT.mp hu;have tk:=Gp hp;have s2: ∀ {H2:Hp}{o:HO},aI H' H2->aI H (bf H2 L o):=λs b o' e=>by
   rw[af (aw e hL)];exact s _ _ (s1 _ _ e)
  have hi:=hn (i+1);rw[tk,sJ,Gw] at hi;refine#[KB,_,KB,?_];by_cases e:p=ml
  .have b1:bO p=[37]:=GI e
   rw[b1] at tk hi;refine eU (HC (by rw[e];rfl)) ?_;refine#[.inl #[KB,_,cJ.of zL],L,_,_,KB,KB,zL,?_,#[_,KB,s2 aI.rfl,?_]]
   .exact Hl (show(dX (bF (ps.take i))).length<6000000 by have:(dX [37]).length=1:=rfl;lia) [01]
   .rw[aj,tk,sJ]
    rfl
  .have b1:bO p=p.cps.toList.map MG:=GG e
   rw[b1] at tk hi;have le:(dX (p.cps.toList.map MG)).length=p.cps.size:=by rw[ma,GK];rfl
   refine e8 (He (λz=>e (by injection z))) ?_;refine#[.inl #[KB,_,cJ.of zL],p,KB,λD hD=>abg (λj H2=>aI H' H2/\H2 D=GM (.lst (dX ((p.cps.toList.take j).map MG)))) #[a8 hD,aj] ?_ ?_]
   .rintro j c H2 hc ⟨s3,zD⟩
    have hj:j<p.cps.size:=(Kr.mp hc).1;refine#[KB,?_];unfold qc;dsimp only;rw[GI KB];refine#[_,KB,KB,_,zD,?_,λb o e=>?_,?_]
    .rw[ma,GK,Mx]
     exact Hl (show min j p.cps.toList.length<6000000 by have:min j p.cps.toList.length<=j:=GQ.min_le_left _ _;lia) [01]
    .rw[af (aw e hD)]
     exact s3 _ _ e
    .rw[aj,Rl,SK,hc,IJ,sJ]
     rfl
   .rintro H2 ⟨s3,zD⟩
    rw[Kl (by show p.cps.toList.length<=_;exact GY _)] at zD;refine#[L,D,_,_,KB,KB,s3 _ _ zL,zD,gj (by lia),#[_,KB,s2 s3,?_]];rw[aj,tk,sJ]
 .rintro σ' H' ⟨x,rfl,s1,zL⟩
  rw[GK,My] at zL;exact(hQ _ L s1 hL zL)
def Eo {ss:Gr Iy}{i:GQ}{s:Iy}(h:ss[i]?=GM s):kt (ss.take (i+1))=kt (ss.take i)++i6 s:=by
 unfold kt;rw[Rl,h,KR];show _++(i6 s++[])=_;rw[G7]
def Gf (ss:Gr Iy) (i:GQ):mS (kt (ss.take i))<=mS (kt ss):=by
 have:kt ss=kt (ss.take i)++kt (ss.drop i):=by
  unfold kt;rw[<-KR,OX]
 rw[this,au];lia
def ak0 (T:Txt K mg a) (I:jK K a):T.d_N.U P w base 277 (Yt a):=by
 have G_Z:=akU (P:=P) (w:=w) (base:=base) T I
 have G_t:=akZ (P:=P) (w:=w) (base:=base) T;refine T.d_N.F.ok aai [03] [02];obtain⟨l,us,ss,M,rfl,z,tl,hf,hm,hQ⟩:=h;refine#[_,(ai (b4 (i:=1) aai.nd KB (HF KB) (bn ac))
   (ai (j6 JA KB (fN (pv 0)) (cY (i:=2) aai.nd KB (HF KB)) (ak (a6 (df G9 HA HB bZ (pv 1) (aa (aq G_Z [05] (by rfl) T.d_Z.c aC (aa (pv 2) ac)) ac)))))
   (ak (aB (aq G_t [05] (by rfl) T.d_t.c aC (aa (pv 1) ac)))))),?_]
 refine iG (ps:=[]) (jm aE KB (by show 0<=GZ;decide)) λH1 L g1=>?_;refine#[l,KB,#[_,cJ.of (g1.sm _ _ z)],iq (xs:=us) (λi σ' H'=> ∃x,σ'=[GM (.ref l),GM (.ref L),x]/\eY H L H' (kt (ss.take i))) #[_,KB,g1] ?_ ?_ ?_]
 .rintro i σ' H' hi ⟨x,rfl,g⟩
  exact cJ.of (g.sm _ _ z)
 .rintro i u σ' H' hu ⟨x,rfl,g⟩
  obtain⟨s,hs,ht⟩:=ia tl hu;have tk:=Eo hs;have m1:=Gf ss (i+1);rw[tk,au] at m1;have l1:=xh (kt (ss.take i));have l2:=xh (i6 s);refine j0 g KB (dw (ps:=i6 s) (ao (bE KB) aE) λQ1 q1=>#[s,u,M,KB,f8.Ie (aI.keeps g.sm).two s ht,hf s (Iz hs),by lia,q1]) (gj (by lia)) λH2 g2=>#[_,KB,?_];rw[tk];exact g2
 .rintro σ' H' ⟨x,rfl,g⟩
  have:ss.take us.length=ss:=by rw[<-cr tl,My]
  rw[this] at g;exact#[L,kt ss,KB,g.at_,hm,λH2 p s2 n2 e2=>hQ H2 p (g.sm.trans s2) (gm g.sm n2) e2]
end
def ak1:Iy->GQ
 | .const _ _=>12
 | .func _ _ _=>13
 | .desk _ _=>14
def abh {a:bI}{M:GB->Prop}{H:Hp} : ∀ {t:Iy}{v:V},f8 a M H t v->Nd1 a M H (ak1 t) v
 | .const ..,_,⟨_,h,_⟩=>#[h,KB]
 | .func ..,_,⟨_,_,h,_⟩=>#[h,KB]
 | .desk ..,_,⟨_,_,h,_⟩=>#[h,KB]
inductive abi (a:bI) (k:GQ) (vs:Gr V) (H:Hp) (Q:VK) (_E:XK):Prop
 |mk {t:Iy}{v:V}{M:GB->Prop}(_:vs=[v]) (_:i8 M H) (_:f8 a M H t v) (_:GT t) (_:mS (i6 t)<=300000) (_:pV t+1<=k) (_: ∀H' u,aI H H'->f8 a M H' (cC t) u->Q u H'):abi a k vs H Q _E
inductive ahv (a:bI) (k:GQ) (vs:Gr V) (H:Hp) (Q:VK) (_E:XK):Prop
 |mk {ss:Gr Iy}{us:Gr V}{L:GB}{M:GB->Prop}(_:vs=[.ref L]) (_:i8 M H) (_:H L=GM (.lst us)) (_:wa a M H ss us) (_: ∀s∈ss,GT s/\pV s+1<=k) (_:mS (kt ss)<=300000) (_: ∀H' D Qu,aI H H'->H' D=GM (.lst Qu)->wa a M H' (ss.map cC) Qu->Q (.ref D) H'):ahv a k vs H Q _E
theorem jo {α β:Type}{F:α->β->Prop} : ∀ {l:Gr α}{m:Gr β},Paired F l m->Paired (λy x=>F x y) m l
 |_,_, .nil=> .nil
 |_,_, .cons h t=> .cons h (jo t)
theorem Bx: ∀(ss:Gr Iy),ss.length<=mS (kt ss)/\ ∀s∈ss,mS (i6 s)<=mS (kt ss)
 |[]=>#[HG _,λ_ z=>nomatch z]
 |s::l=>by
  obtain⟨h1,h2⟩:=Bx l;have e:kt (s::l)=i6 s++kt l:=rfl;have:1<=mS (i6 s):=by cases s<;>rw[i6,ae]<;>lia
  rw[e,au];exact#[by rw[Gv];lia,IA.mpr #[by lia,λx hx=>by have:=h2 x hx;lia]]
def ahw (T:Txt K mg a) (I:jK K a) (hk:2<=k) (S:f9 P w K mg base a k) (L:zP P w K mg base a k):T.Zc.U P w base (k+1) (abi a k):=by
 refine pW T.Zc.F afS [03] [02];intro X D;obtain @⟨t,v,M,rfl,hM,ra,rg,rm,rf,q⟩:=h;have nd:=abh ra;have h2:cx 2 X.A:=hr.mono hk;refine aY (gT I T.HR nd aJ (j:=12) KB T.QR (pv 0) [08] (eR (λz=>?_) λz12=>?_))
 .obtain⟨x,e,rfl⟩: ∃x e,t= .const x e:=by cases t<;>first|exact#[_,_,KB]|cases z
  obtain⟨u,i,ex⟩:=ra;rw[pV] at rf;rw[i6,ae,ae,ae,au] at rm;exact aD (gZ (tZ T) h2 (aX (cB (bW 0 (i.Lo aJ T.NW T.NJ KB (aX (eB T S hr i aJ T.NW T.Oj KB hM #[ex,rg.2,by lia,by lia] KB λH1 v1 s1 _ f1=>ca #[KB,λy dy H2 hy s2 e2=>q H2 _ (s1.trans s2) #[v1,#[y,dy,KB,λm=>hM.up s1 y m hy,e2],ag.Ie s2.k2 _ f1]])))) KB)))
 refine aY (gT I T.HR nd aJ (j:=13) KB T.Tx (pv 0) [08] (eR (λz=>?_) λz13=>?_))
 .obtain⟨x,ps,e,rfl⟩: ∃x ps e,t= .func x ps e:=by cases t<;>first|exact#[_,_,_,KB]|cases z
  obtain⟨g,u,i,lg,ex⟩:=ra;rw[pV] at rf;rw[i6,ae,ae,ae,ae,ae,au] at rm;exact aD (gZ (BZ T) h2 (aX (cB (bW 0 (i.Lo aJ T.OP T.OQ KB (aX (cB (bW 0 (i.Lo aJ T.OP T.L8 KB (aX (eB T S hr i aJ T.OP T.Pl KB hM #[ex,rg.2.2,by lia,by lia] KB λH1 v1 s1 _ f1=>ca #[KB,λy dy H2 hy s2 e2=>q H2 _ (s1.trans s2) #[g,v1,#[y,dy,KB,λm=>hM.up s1 y m hy,e2],lg.keep (s1.trans s2).k2,ag.Ie s2.k2 _ f1]])))) KB)))) KB)))
 .obtain⟨x,l,rfl⟩: ∃x l,t= .desk x l:=by cases t<;>first|exact#[_,_,KB]|exact G6 KB z12|exact G6 KB z13
  obtain⟨g,us,i,lg,ex⟩:=ra;rw[pV] at rf;rw[i6,ae,ae,au,gQ] at rm;exact aD (gZ (yg T) h2 (aX (cB (bW 0 (i.Lo aJ T.O1 T.Ol KB (aX (rT T L hr i aJ T.O1 T.LR KB hM #[lg,ex,rg.2,#[1,by lia],by lia] KB λH1 Vc v1 s1 _ l1 f1=>ca #[KB,λy dy H2 hy s2 e2=>q H2 _ (s1.trans s2) #[v1,Vc,#[y,dy,KB,λm=>hM.up s1 y m hy,e2],l1.keep s2.k2,aT.Ie s2.k2 _ f1]])))) KB)))
def ak2 (T:Txt K mg a) (G:b6 P w K mg base nJ k' a.acL a.W7 ["top"] (abi a k)):T.d_5.U P w base (k'+1) (ahv a k):=by
 refine pW T.d_5.F aal [03] [02];intro X D;obtain @⟨ss,us,L,M,rfl,hM,hL,tl,ok,rm,q⟩:=h;have pr:=jo tl;obtain⟨c1,c2⟩:=Bx ss;refine aD (Eb (y:="top") (i:=1) aal.nd (pv 0) (eE (by show m6 ["tops","top"] (ah s_5) _ [("top",1)]=IN;decide+kernel)) (λ_ _ _ _ _=>aq G hr (by rfl) T.Zc.c aC (aa (pv 1) ac)) (vG (F:=λM H b v=>f8 a M H b v) (g:=cC) (l:=ss) (λk h=>f8.Ie k _ h) hL (cr pr) (by lia) hM [08] (λj x o H' M1 hx ho s1 k2 m1 Q q=>?_) (λH1 D1 Vc s1 nD1 SG WS=>q H1 D1 Vc s1 SG (jo WS)) λ_=>rfl) (λ_ _ _ _ _=>cY (i:=1) aal.nd KB (HF KB)));obtain⟨o',QH,h⟩:=L2.iE pr hx;rw[ho] at QH;cases QH;have m:=Iz ho;exact .mk KB m1 (f8.Ie k2 _ h) (ok o m).1 (G0 (c2 o m) rm) (ok o m).2 q
def Db {zs:Gr Int}(h:KO zs=Ix):O6 zs=[-1]:=by
 show Ph [[4],zs]=_
 unfold Ph;rw[show Wf [[4],zs]=(KO zs).map R9 from KB,h]
 rfl
def E5 {zs:Gr Int}{bs:Gz}(h:KO zs=GM bs):O6 zs=(match MA bs with
  | .error _=>[-3]
  | .ok s=>0::T8 (Vbemac.ints (Vbemac.print (Vbemac.folded s)))):=by
 show Ph [[4],zs]=_
 unfold Ph;rw[show Wf [[4],zs]=(KO zs).map R9 from KB,h]
 rfl
def Az {bs:Gz}(h:bs.length<=3000):(Ib bs).length<=4000:=by
 have:=dW (bs.length+1) (1,1) bs;unfold Ib;lia
section
variable {k:GQ}
def abj {bs:Gz}{Qo:MX->GA->Prop}{Qe:GQ->HM->Prop}(ho: ∀ss t,MA bs= .ok ss->Qo ss t) (he: ∀e,MA bs= .error e->Qe e.1 e.2):W (K5 (Mz (Ib bs)) Kk NF []) (Ib bs) Qo Qe:=by
 unfold W;have r:MA bs=(match K5 (Mz (Ib bs)) Kk NF [] (Ib bs) with
  | .error e=> .error e
  | .ok (a,_)=> .ok a):=rfl
 cases e:K5 (Mz (Ib bs)) Kk NF [] (Ib bs) with
 |error x=>rw[e] at r;exact he x r
 |ok z=>rw[e] at r;exact ho z.1 z.2 r
def ak3 (T:Txt K mg a) (XC:XS K a) (I:jK K a) (kF:vT P w K a.HQ cv) (G_z:T.d_z.O P w base 178 (nQ K a)):
  T.d_b.U P w base 278 (pQ K):=by
 have G_K:=akV (P:=P) (w:=w) (base:=base) T
 have G_L:=akW (P:=P) (w:=w) (base:=base) T XC
 have G_R:=akY (P:=P) (w:=w) (base:=base) T
 have G_N:=ak0 (P:=P) (w:=w) (base:=base) T I
 have abk:=ak2 T (ahw (P:=P) (w:=w) (base:=base) T I (k:=274) [01] (nz T I kF 273) (oQ T I kF 273).2);refine T.d_b.F.ok aaq [03] [02];obtain⟨l,zs,rfl,hS,hl,hQ⟩:=h;refine#[_,(ai (B8 (R:=a.Kv) (G:=a.Kv) (i:=2) (λv od Td=> ∃(C d fI:GB) (c:Int) (fs:Gr (Ha×V)),v= .ref C/\od=GM d/\hU K a.Kv C fI/\O6 zs=[c]/\Td d=GM (c4 d fs)/\fs.lookup ("number":Ha)=GM (V.int c)) KB KB (λC d H h=>by obtain⟨_,_,fI,_,_,e,_,x,_⟩:=h;cases e;exact#[fI,x, .inr KB]) (by rfl) T.M3 aaq.nd KB KB
    (λpins Ew PE_=>ai (a6 (aq G_L (hr.mono [01]) (by rfl) T.d_L.c PE_ (aa (aq G_K (hr.mono [01]) (by rfl) T.d_K.c aC (aa (pv 0) ac)) ac)))
     (ak (b4 (i:=1) aaq.nd KB (HF KB) (aq abk (hr.mono [01]) (by rfl) T.d_5.c aC (aa (aq G_z (hr.mono [01]) (by rfl) T.d_z.c PE_ (aa (pv 0) ac)) ac)))))
    (λa'=>(ak (aB (bn (aa (FE (K:=K) KB [00] oo (pv 2) (by rfl)) ac))))))
   (ak (aB (aZ bC (bn (aa aG ac)) (aq G_R (hr.mono [01]) (by rfl) T.d_R.c aC (aa (aq G_N hr (by rfl) T.d_N.c aC (aa (pv 1) ac)) ac)))))),?_]
 refine#[?_,?_]
 .refine#[l,zs,KB,hS,hl,λH1 s1=>#[_,KB,λht=>?_,λht=>?_]]
  .obtain⟨bs,eb,ev',hb⟩:=xx ht
   have ec:=E5 eb;refine#[l,bs,KB,by rw[ev'];exact s1.seq hS,hb,abj (λss t hr'=>?_) λe he=>?_]
   .rw[hr'] at ec
    have gt:=re hr';obtain⟨f1,f2,f3⟩:=Ac hr'
    have tn:(Ib bs).length<=4000:=Az hb
    have m1:=gt.ms;intro H2 L us M Yl H1L nM hL tl;refine .mk (M:=λ_=>False) KB (λ_ z=>z.elim) hL (Paired.Nt tl λs v h=>f8.Ie (λb o e _=>#[λz=>z,e]) s h) (λs hs=>#[gt.ok s hs,by have:=gt.fr s hs;lia]) (by lia) λH3 D3 us3 s3 hD3 tl3=>?_
    refine#[by show 1<=GZ;decide,λp hp=>?_];have s4:=a8 (o:= .lst [.int 0]) hp;refine#[D3,us3,_,_,KB,s4 _ _ hD3,Paired.Nt tl3 λs v h=>f8.Ie s4.k2 s h,f1,by lia,λH4 q s34 nq hq=>?_];have bl:=DT (kt (ss.map cC));rw[f3] at hq bl;refine#[q,_,KB,hq,by lia,λH5 q' s45 nq' Tc=>?_];refine#[p,q',_,_,KB,KB,s45 _ _ (s34 _ _ aj),Tc,?_,λr hr0=>hQ _ r ?_]
    .show 1+(dX _).length<=_
     rw[ma,T8,Gv];exact gj (by lia)
    .rw[ec]
     exact aj
   .intro H2 Yl d hd
    rw[he] at ec;exact#[_,d,_,_,_,KB,KB,XC.fc,ec,aj,KB]
  .have hn:=Db (vz ht)
   exact λd hd=>#[_,d,_,_,_,KB,KB,XC.OR,hn,aj,KB]
 .rintro C d H2 a' ⟨C',d',fI,c,fs,eC,ed,X1,ec',hd,lk⟩ ha'
  cases ed;cases eC;have nd:d≠a':=λz=>by rw[z,ha'] at hd;cases hd
  have h1:bf H2 a' (kD C d a') d=GM (c4 d fs):=by rw[af nd];exact hd
  refine#[_,_,_,a',d,_,_,X1,KB,aj,h1,lk,?_];refine#[by show 1<=GZ;decide,λp hp=>?_];refine hQ _ p ?_;rw[ec'];exact aj
def jK.at_ (I:jK K a) (hi:(tq a)[i]?=GM C) (hj:(tq a)[j]?=GM D) (h:i<15) (h':j<15):Jk K (.ref C) (.ref D)=GM (decide (i=j)):=by
 have:=Hv (λl=>(l[i]?.bind λr:Gr (GJ HK)=>r[j]?)) I.Zv
 rw[HI,hi,HI,KS h] at this;simp only[MQ,Qm,HI,hj,KS h'] at this;exact Hb this
def abl {a:bI}(I:jK K a):qz K a:=#[I.ty _ (.tail _ (.tail _ (.tail _ (.tail _ (.tail _ (.tail _ (.tail _ (.head _)))))))),I.ty _ (.tail _ (.tail _ (.tail _ (.tail _ (.tail _ (.tail _ (.tail _ (.tail _ (.head _))))))))),I.ty _ (.tail _ (.tail _ (.tail _ (.tail _ (.tail _ (.tail _ (.tail _ (.tail _ (.tail _ (.head _)))))))))),I.ty _ (.tail _ (.tail _ (.tail _ (.tail _ (.tail _ (.tail _ (.tail _ (.tail _ (.tail _ (.tail _ (.head _))))))))))),I.ty _ (.tail _ (.tail _ (.tail _ (.tail _ (.tail _ (.tail _ (.tail _ (.tail _ (.tail _ (.tail _ (.tail _ (.head _)))))))))))),I.at_ (i:=7) (j:=7) KB KB [01] [01],I.at_ (i:=8) (j:=7) KB KB [01] [01],I.at_ (i:=9) (j:=7) KB KB [01] [01],I.at_ (i:=10) (j:=7) KB KB [01] [01],I.at_ (i:=11) (j:=7) KB KB [01] [01]]
def BH {mg:Ha->GJ GC}{base:Im}{a:bI}(T:Txt K mg a) (XC:XS K a) (kS:Bi P w K a.K6 eQ) (kF:vT P w K a.HQ cv) (KT:Bc K a.JB dN) (I:jK K a):
  T.d_b.U P w base 278 (pQ K):=
 ak3 T XC I kF (Cl T XC.toXT (abl I) KT kS kF)
end
end OS
open PySem PySem.W PyProof.Rows
theorem PySem.Challenge.cw_ordersheets_s05_fold_holds : PySem.Challenge.rw_ordersheets_s05_fold.Holds :=
 OS.hd OS.BH

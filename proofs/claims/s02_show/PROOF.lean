import PyProof.Rows.All
import Wide.All
import OpenK.AllK
import Wide.FinOn
import PyProof.EqAt
import PyProof.EqKinds
import PyProof.TupleCall
import KE.BitLaws
import Open.SpecLaws
import KE.OsHead
import KE.OsGo
import VbemacSpec
import PySem.Str
import PyProof.StationsW
import PyProof.PassesOwn
import PyProof.ExcClass
import PyProof.ExcClass2
import PyProof.ExcArgs
import PyProof.ExcBaseAll.Exception
import PyProof.InstLoad
import PyProof.InstStoreFacts
import PyProof.RulesAs
import PySem.Challenge.RW_ordersheets_s02_show
import PyVbemac
set_option hygiene false
local macro_rules
|`([00])=>`((by exact rfl))
|`([01])=>`((hr.mono (by lia)))
|`([02])=>`((by decide+kernel))
|`([03])=>`((fun cdv A outer s H vs Q E hr h=>?_))
|`([04])=>`((fun vs H Q E h=>?_))
|`([05])=>`((Or.inl rfl))
|`([06])=>`((by decide))
|`([07])=>`((aI (pv 0) rfl))
|`([08])=>`((fun _ _ _ _ _ _ us hl=>OS.u1 hl fun _=>rfl))
|`([09])=>`((fun _ _ _ _ _ _ us hl=>OS.u2 hl fun _ _=>rfl))
|`([000])=>`((au (aA (pv 0) T.cl_Reader T.d_a.c G_a [01] aj (aa ax af))))
|`([001])=>`((Addr×Obj))
|`([002])=>`((aa (pv 1) af))
|`([003])=>`((fun z=>nomatch z))
|`([004])=>`((hr.mono [06]))
|`([005])=>`(⟨by decide+kernel,by decide+kernel,by decide+kernel⟩)
|`([006])=>`(⟨r,dr,_,rfl,er,rfl,?_⟩)
|`([007])=>`((Nat.le_refl _))
|`([008])=>`((by simp only[fj,List.length_append,List.length_cons,List.length_nil,cN];lia))
|`([009])=>`((aa (pv 0) af))
|`([010])=>`((bd (aA (pv 0) T.cl_Reader T.d_c.c G_c [01] aj (aa ax af))))
|`([011])=>`(⟨(by kernel_rfl),[00],[00],[00]⟩)
|`([012])=>`((aa (pv 0) [002]))
|`([013])=>`((.inr (.inl z)))
|`([014])=>`((fun z=>z.elim [003] fun z=>nomatch z))
|`([015])=>`((by show 0<1000;decide))
|`([016])=>`(⟨_,rfl,?_⟩)
|`([017])=>`((aX (pv 0) (pv 1) rfl))
|`([018])=>`((x == ("__debug__":Str)))
|`([019])=>`((aa [07] af))
|`([020])=>`((fun _ _=>rfl))
|`([021])=>`(⟨fuel-1,by lia⟩)
|`([022])=>`((by simp))
|`([023])=>`((by show 1<1000;decide))
|`([024])=>`((fun e=>?_))
|`([025])=>`((be (aa ax af)))
|`([026])=>`((aX (pv 0) (pv 2) rfl))
|`([027])=>`((aa (pv 2) af))
|`([028])=>`((ps.zip us))
|`([029])=>`(⟨by decide+kernel,by decide+kernel⟩)
local macro_rules
|`([030])=>`((c::bs.drop (i+1)))
|`([031])=>`((Heap.lt_size e))
|`([032])=>`((false,eval e X.env))
|`([033])=>`((ha pins s σ H _ I h))
|`([034])=>`((.ins C dx fs))
|`([035])=>`((by rw[h1];exact Bool.false_ne_true))
|`([036])=>`((al G_d [01] (by rfl) T.d_d.c aQ [019]))
|`([037])=>`((x.1= .bad->fw a.c_Fault E H 1 x.2))
|`([038])=>`((aa (pv 0) (aa ax af)))
|`([039])=>`((excClassObj nm q C N bs bm hdct sn sub ab col dd k0 k1 k2 k3 k5 newId))
|`([040])=>`((aq (bG rfl) aM))
|`([041])=>`((fun h=>by cases h))
|`([042])=>`((.type "Exception"))
|`([043])=>`((al G_b [01] (by rfl) T.d_b.c aj (aa (pv 0) [027])))
|`([044])=>`((EP X pins σ Q))
|`([045])=>`((fun _ _ _ _ _ _ us hl=>OS.u3 hl fun _ _ _=>rfl))
|`([046])=>`((al G_m [01] (by rfl) T.d_m.c aQ (aa ax [019])))
|`([047])=>`((Str×Addr))
|`([048])=>`((Nat.lt_irrefl _))
|`([049])=>`((a0 (pv 0) T.cl_Reader T.d_g.c G_g [004] aj))
|`([050])=>`((a0 (pv 0) T.cl_Reader T.d_h.c G_h [01] aj))
|`([051])=>`((PySem.W.mg_none_of KX G [00]))
|`([052])=>`((by rw[List.length_cons];lia))
|`([053])=>`((by intro z;cases z))
|`([054])=>`((Nat.lt_of_lt_of_le [031] I.ok.above))
|`([055])=>`((fun q'=>hb (by simp [q'])))
|`([056])=>`((he pins s σ H _ I h))
|`([057])=>`((starEach es X.env))
|`([058])=>`((fun _=>?_))
|`([059])=>`(⟨⟨dr,by rw[ag nr];exact er⟩,as,all,by rw[ag nq];exact h1,Paired.mapP h2 fun b x ⟨dx,ex⟩=>⟨dx,?_⟩,h3⟩)
|`([060])=>`(⟨rfl,_,rfl,?_⟩)
|`([061])=>`((cp X.env.cells scope.names []))
|`([062])=>`((aY bj (by rfl) T.n_len PySem.boot_len [009]))
|`([063])=>`((a0 (pv 0) T.cl_Reader T.d_n.c G_n [01] aj))
|`([064])=>`((by show 2<1000;decide))
|`([065])=>`(⟨_,p,dx,_,rfl,rfl,z,fun z=>nomatch z⟩)
|`([066])=>`((S.past (fun z=>z.elim (fun z=>by rw[ex] at z;cases z) fun z=>nb z) hp))
|`([067])=>`((aX (pv 0) (pv 3) rfl))
|`([068])=>`((dZ cZ (pv 0) (pv 1) [020]))
|`([069])=>`((ai (ay (pv 1))))
local macro_rules
|`([070])=>`((al G_b [01] (by rfl) T.d_b.c aj (aa (pv 0) (aa aU af))))
|`([071])=>`((notedBy (model prog w) A env fun e s'=>R (.error e) s'))
|`([072])=>`((fun k x z=>z H az.refl))
|`([073])=>`(⟨p,dx,_,_,rfl,ah,fun Hd hd' kd'=>⟨rfl,?_⟩⟩)
|`([074])=>`((a == sysModules))
|`([075])=>`((X.blk s H scope (compEnvC scope cl C X.env) fp))
|`([076])=>`((List.mem_cons_self ..))
|`([077])=>`(⟨r,dr4,_,rfl,er4,rfl,?_⟩)
|`([078])=>`(⟨r,dr2,_,rfl,er2,rfl,?_⟩)
|`([079])=>`(⟨r,dr1,_,rfl,er1,rfl,?_⟩)
|`([080])=>`((by rw[h2];exact Bool.false_ne_true))
|`([081])=>`(⟨r,dr,_,rfl,er,rfl,r,q,kd,fn,ds,bl,n,x,t,rfl,R,hb,fun nb p tp=>?_⟩)
|`([082])=>`((au (cr PySem.F.plainAttrs_list PySem.F.slot_list_extend PySem.F.type_list_extend bX (pv 1) (aa [046] af))))
|`([083])=>`((al G_l [01] (by rfl) T.d_l.c aj [038]))
|`([084])=>`((K w.params))
|`([085])=>`((.lst xs))
|`([086])=>`((K.with x))
|`([087])=>`(⟨p,_,dx,_,_,rfl,et,T.cl_Token,T.no_Token_value,rfl,?_⟩)
|`([088])=>`(⟨_,(ae [017] (ai [026])),?_⟩)
|`([089])=>`(⟨f-1,by lia⟩)
|`([090])=>`((cellsFrom (s3.heap.objs.size+1) scope.names [061]))
|`([091])=>`((fun _ _ _ _ _ _ us hl=>OS.u4 hl fun _ _ _ _=>rfl))
|`([092])=>`((.int ((d+1:Nat):Int)))
|`([093])=>`((show kk.length<=4000 by lia))
|`([094])=>`((hs.2 b (Nat.ne_of_lt [054])))
|`([095])=>`((.builtin "object.__class__"))
|`([096])=>`((Sum.inl i:bW))
|`([097])=>`((.ins C dx []))
|`([098])=>`((show u=Value.ref a from rx))
|`([099])=>`(⟨_,_,rfl, .inl hS,_,_,rfl,rfl,_,rfl,?_⟩)
|`([0000])=>`((Str×NameKind))
|`([0001])=>`((envOfC qual scope s.heap.objs.size f cd))
|`([0002])=>`((OS.aW.keeps scd))
|`([0003])=>`(⟨[],trivial,fun a m=>absurd m [022]⟩)
|`([0004])=>`((s1 _ _ z))
|`([0005])=>`((al G_f [01] (by rfl) T.d_f.c aj [012]))
|`([0006])=>`((by rw[hkw];exact Bool.false_ne_true))
|`([0007])=>`((aa (al G_i [01] (by rfl) T.d_i.c aj (aa (pv 0) (aa (pv 1) (aa (bh dq (pv 2) aU) af)))) af))
|`([0008])=>`((hpk.trans b))
|`([0009])=>`((fun e4=>?_))
local macro_rules
|`([0010])=>`((.inr [013]))
|`([0011])=>`((bU a W2 expr 12 (Lv j)))
|`([0012])=>`(⟨_,p,dx,_,rfl,rfl,z,fun _=>rfl⟩)
|`([0013])=>`(⟨_,List.getElem?_eq_getElem lt⟩)
|`([0014])=>`((by rw[h];exact Bool.false_ne_true))
|`([0015])=>`((excClassObj nm q C N bs (.ref R::bm) true sn sub ab col dd k0 k1 k2 k3 k5 newId))
|`([0016])=>`((bl.more l xs))
|`([0017])=>`(⟨_,_,_,_,rfl,rfl,hS,cY (fg hc),c,rfl,_,rfl,bB (fun e2=>?_) fun e2=>?_⟩)
|`([0018])=>`((tupleKind_room_in1 hu))
|`([0019])=>`((bl.at_ c'))
|`([0020])=>`((backTo pos [057]))
|`([0021])=>`(⟨Nat.zero_le _,fun L hL=>?_⟩)
|`([0022])=>`((keywordEach [] X.env))
|`([0023])=>`((.dK kvs))
|`([0024])=>`(⟨r,dr3,_,rfl,er3,rfl,r,dr3,q,kd,fn,ds,bl,_,u,kk,rfl,er3,kk1,Nat.lt_of_le_of_lt [093] [06],?_⟩)
local macro_rules
|`(tactic|rw[00])=>`(tactic|(obtain⟨⟨x,xp⟩,t',rfl,tok,hpk,hpl,_⟩:=S.wh.first))
|`(tactic|rw[01])=>`(tactic|(obtain⟨dr,er⟩:=S.rd.ins))
|`(tactic|rw[02])=>`(tactic|(intro pins s σ H Q I h))
|`(tactic|rw[03])=>`(tactic|(have G_a:=cf (P:=P) (w:=w) (base:=base) T XC))
|`(tactic|rw[04])=>`(tactic|(refine q _ ah fun b o e hb=>?_))
|`(tactic|rw[05])=>`(tactic|(have G_c:=dF (P:=P) (w:=w) (base:=base) T XC))
|`(tactic|rw[06])=>`(tactic|(have G_e:=dG (P:=P) (w:=w) (base:=base) T XC))
|`(tactic|rw[07])=>`(tactic|(obtain⟨kk,k1,k2,k3⟩:=S.kn.vals;obtain⟨ff,f1,f2⟩:=S.kn.funs))
|`(tactic|rw[08])=>`(tactic|(obtain⟨ff,f1,f2⟩:=S.kn.funs))
|`(tactic|rw[09])=>`(tactic|(intro pins s σ H D I h))
|`(tactic|rw[000])=>`(tactic|(obtain⟨f,rfl⟩: ∃f,fuel=f+1:=[021]))
|`(tactic|rw[001])=>`(tactic|(have G_g:=cy (P:=P) (w:=w) (base:=base) T XC))
|`(tactic|rw[002])=>`(tactic|(obtain⟨dr,er⟩:=R.ins))
|`(tactic|rw[003])=>`(tactic|(refine bB [024] fun e=>?_))
|`(tactic|rw[004])=>`(tactic|(rw[01];refine [006]))
|`(tactic|rw[005])=>`(tactic|(simp only[List.length_cons,List.length_append,List.length_nil] at hl))
|`(tactic|rw[006])=>`(tactic|(intro p dx hp hdx ne))
|`(tactic|rw[007])=>`(tactic|(have scd:=cg hp hdx kd'))
|`(tactic|rw[008])=>`(tactic|(refine cR ?_))
|`(tactic|rw[009])=>`(tactic|(have G_h:=fT (P:=P) (w:=w) (base:=base) T XC))
|`(tactic|rw[010])=>`(tactic|(subst ex;obtain rfl:u=Value.ref a:=rx))
|`(tactic|rw[011])=>`(tactic|(obtain⟨f,rfl⟩: ∃f',f=f'+1:=[089]))
|`(tactic|rw[012])=>`(tactic|(obtain⟨as,all,h1,h2,h3⟩:=S.rd.toks))
|`(tactic|rw[013])=>`(tactic|(intro pins s σ H x y v u Q I rx ry h))
|`(tactic|rw[014])=>`(tactic|(obtain⟨t,rfl⟩:=rx))
|`(tactic|rw[015])=>`(tactic|(have room:=S.kn.len))
|`(tactic|rw[016])=>`(tactic|(have G_n:=ca (P:=P) (w:=w) (base:=base) T XC;have G_q:=gk (P:=P) (w:=w) (base:=base) T))
|`(tactic|rw[017])=>`(tactic|(obtain⟨dr2,er2⟩:=S2.rd.ins))
|`(tactic|rw[018])=>`(tactic|(obtain⟨dr1,er1⟩:=S1.rd.ins;refine [079]))
|`(tactic|rw[019])=>`(tactic|(intro X hP hw hK hc i pins s σ H E I hf st hg;subst hP hw hK))
local macro_rules
|`(tactic|rw[020])=>`(tactic|((refine(w_f h d).then fun d' r ⟨hr,hd⟩=>?_);subst hr;rw[aK,eL]))
|`(tactic|rw[021])=>`(tactic|(rw[List.length_cons] at hf))
|`(tactic|rw[022])=>`(tactic|(obtain⟨dr4,er4⟩:=S4.rd.ins))
|`(tactic|rw[023])=>`(tactic|(rw[006];refine [073];rw[007]))
|`(tactic|rw[024])=>`(tactic|(simp only[bi,List.append_nil]))
|`(tactic|rw[025])=>`(tactic|(obtain⟨d1,d2,d3,d4,d5,d6⟩:=S.dif))
|`(tactic|rw[026])=>`(tactic|(have hW:=uf_ hW;rw[004]))
|`(tactic|rw[027])=>`(tactic|(refine dQ ?_))
|`(tactic|rw[028])=>`(tactic|(have hy:=S.ds_;have hz:=S.bl_))
|`(tactic|rw[029])=>`(tactic|(intro pins s σ H xs us Q I r h))
|`(tactic|rw[030])=>`(tactic|(unfold StateT.bind))
|`(tactic|rw[031])=>`(tactic|(subst hr;rw[aK,eL]))
|`(tactic|rw[032])=>`(tactic|(rw[04];rw[ag hb,ag hb];exact e))
|`(tactic|rw[033])=>`(tactic|(obtain⟨dr3,er3⟩:=S3.rd.ins))
|`(tactic|rw[034])=>`(tactic|(rw[ag fun w=>by rw[w,e] at e2;cases e2]))
|`(tactic|rw[035])=>`(tactic|(rw[006];(refine⟨p,dx,_,_,_,rfl,ah,fun Hd hd' kd'=>⟨rfl,?_⟩⟩);rw[007]))
|`(tactic|rw[036])=>`(tactic|(obtain⟨f,hf,w⟩:=g))
|`(tactic|rw[037])=>`(tactic|(have k02:=k1.trans k2))
|`(tactic|rw[038])=>`(tactic|(simp only[cat,List.flatten_cons,List.flatten_nil,List.append_assoc,List.append_nil];rfl))
|`(tactic|rw[039])=>`(tactic|(rw[bM] at e;have hkw:KEYS.contains u=false:=by cases h:KEYS.contains u;rfl;rw[h] at e;cases e))
|`(tactic|rw[040])=>`(tactic|(unfold ao at h ⊢))
|`(tactic|rw[041])=>`(tactic|(have G_f:=ok_f (P:=P) (w:=w) (base:=base) T XC))
|`(tactic|rw[042])=>`(tactic|((rw[show its.toArray.any (eqU x)=its.any (eqU x) by simp,ve_ r fs]);exact q))
|`(tactic|rw[043])=>`(tactic|(have hkw:KEYS.contains u=false:=by cases h:KEYS.contains u;rfl;rw[h] at en;cases en))
|`(tactic|rw[044])=>`(tactic|(have hkw:KEYS.contains u=true:=by cases h:KEYS.contains u;rw[h] at en;cases en;rfl))
|`(tactic|rw[045])=>`(tactic|(unfold Vbemac.Known.taken at ft))
|`(tactic|rw[046])=>`(tactic|(have G_E:=fV (P:=P) (w:=w) (base:=base) T XC;rw[001];rw[06];rw[009]))
set_option hygiene true
set_option Elab.async false
set_option linter.all false
set_option maxRecDepth 100000
namespace L2
open PySem PySem.Spec PyProof.Rows
abbrev bW:=Sum Int Str
def keyIs:bW->Value->Bool
 | .inl k,v=>Value.isInt k v
 | .inr x,v=>Value.isStrOf x v
def keyH (w:World):bW->Int
 | .inl k=>hashInt k
 | .inr x=>hashStr w x
theorem cV: ∀ {k:bW}{v:Value},keyIs k v=true->(∃i t,k=Sum.inl i/\v=Value.int i t)\/(∃x t,k=Sum.inr x/\v=Value.str x t)
 | .inl i,v,h=>by
  obtain⟨t,e⟩:=Value.isInt_shape (k:=i) (v:=v) h
  exact .inl ⟨i,t,rfl,e⟩
 | .inr x,v,h=>by
  obtain⟨t,e⟩:=Value.isStrOf_shape (x:=x) (v:=v) h
  exact .inr ⟨x,t,rfl,e⟩
theorem j6c_ (i:Int) (t:Tok):keyIs (.inl i) (.int i t)=true:=by simp [keyIs,Value.isInt]
theorem j7h_ (x:Str) (t:Tok):keyIs (.inr x) (.str x t)=true:=by simp [keyIs,Value.isStrOf]
theorem key_ll (a b:Int):decide ((Sum.inl a:bW)=Sum.inl b)=(a == b):=by
 by_cases e:a=b
 ·subst e;simp
 ·have h: ¬(Sum.inl a:bW)=Sum.inl b:=fun q=>e (Sum.inl.inj q)
  rw[decide_eq_false h]
  exact(beq_eq_false_iff_ne.mpr e).symm
theorem key_rr (a b:Str):decide ((Sum.inr a:bW)=Sum.inr b)=decide (a=b):=by
 by_cases e:a=b
 ·subst e;simp
 ·have h: ¬(Sum.inr a:bW)=Sum.inr b:=fun q=>e (Sum.inr.inj q)
  rw[decide_eq_false h,decide_eq_false e]
theorem key_lr (a:Int) (b:Str):decide ((Sum.inl a:bW)=Sum.inr b)=false:=decide_eq_false (fun q=>nomatch q)
theorem key_rl (a:Str) (b:Int):decide ((Sum.inr a:bW)=Sum.inl b)=false:=decide_eq_false (fun q=>nomatch q)
def bJ (prog:Program) (w:World):PySem.KeyKind prog w bW where
 is:=keyIs
 hash:=keyH w
 inj:=fun v a b ha hb=>by
  rcases cV ha with⟨i,t,rfl,rfl⟩|⟨x,t,rfl,rfl⟩
  ·rcases cV hb with⟨j,u,rfl,e⟩|⟨y,u,rfl,e⟩
   ·injection e with e1 _;rw[e1]
   ·exact nomatch e
  ·rcases cV hb with⟨j,u,rfl,e⟩|⟨y,u,rfl,e⟩
   ·exact nomatch e
   ·injection e with e1 _;rw[e1]
 byValue:=fun k v h=>by
  rcases cV h with⟨i,t,rfl,rfl⟩|⟨x,t,rfl,rfl⟩<;>rfl
 pyHash:=fun hv h=>by
  rcases cV hv with⟨i,t,rfl,rfl⟩|⟨x,t,rfl,rfl⟩
  ·exact wpAny_pyHash_int h
  ·exact wpAny_pyHash_str h
 eqBool:=fun hu hv h=>by
  rcases cV hu with⟨i,t,rfl,rfl⟩|⟨x,t,rfl,rfl⟩
  ·rcases cV hv with⟨j,u,rfl,rfl⟩|⟨y,u,rfl,rfl⟩
   ·rw[key_ll] at h;exact wpAny_eqBool_int h
   ·rw[key_lr] at h;exact SeqAt.EqAt.int_str i t y u _ _ _ _ h
  ·rcases cV hv with⟨j,u,rfl,rfl⟩|⟨y,u,rfl,rfl⟩
   ·rw[key_rl] at h;exact SeqAt.EqAt.str_int x t j u _ _ _ _ h
   ·rw[key_rr] at h;exact wpAny_eqBool_str h
 «strs»:=fun k x t v h=>by
  rcases cV h with⟨i,u,rfl,e⟩|⟨y,u,rfl,e⟩
  ·exact nomatch e
  ·injection e with e1 _
   subst e1
   cases v<;>rfl
theorem j42_ (prog:Program) (w:World) (i:Int) (t:Tok):(bJ prog w).is (.inl i) (.int i t)=true:=j6c_ i t
theorem j3u_ (prog:Program) (w:World) (x:Str) (t:Tok):(bJ prog w).is (.inr x) (.str x t)=true:=j7h_ x t
end L2
namespace L2
open PySem PySem.Spec PyProof.Rows
inductive V where
 |non|bl (b:Bool)|int (i:Int)|str (x:Str)|byt (b:Array UInt8)|flt (b:UInt64)|ref (a:Addr)|ty (n:String)
 deriving DecidableEq
def bE:V->Value->Prop
 | .non,u=>u=Value.none
 | .bl b,u=>u=Value.bool b
 | .int i,u=> ∃t,u=Value.int i t
 | .str x,u=> ∃t,u=Value.str x t
 | .byt b,u=> ∃t,u=Value.bytes b t
 | .flt b,u=> ∃t,u=Value.float b t
 | .ref a,u=>u=Value.ref a
 | .ty n,u=>u=Value.type n
abbrev bL:List V->List Value->Prop:=Paired bE
theorem bL.length {xs:List V}{us:List Value}(r:bL xs us):xs.length=us.length:=Paired.length r
theorem bL.get: ∀ {xs:List V}{us:List Value}{i:Nat}{x:V},bL xs us->xs[i]?=some x-> ∃u,us[i]?=some u/\bE x u
 |_,_,_,_, .nil,e=>by simp at e
 |_,_,0,_, .cons r _,e=>by simp at e;subst e;exact⟨_,rfl,r⟩
 |_,_,i+1,x, .cons _ t,e=>by
  obtain⟨u,h1,h2⟩:=bL.get (i:=i) (x:=x) t (by simpa using e)
  exact⟨u,by simpa using h1,h2⟩
theorem bL.append: ∀ {xs ys:List V}{us ws:List Value},bL xs us->bL ys ws->bL (xs++ys) (us++ws)
 |_,_,_,_, .nil,s=>s
 |_,_,_,_, .cons r t,s=> .cons r (bL.append t s)
theorem bL.take: ∀ {xs:List V}{us:List Value}(n:Nat),bL xs us->bL (xs.take n) (us.take n)
 |_,_,0,_=> .nil
 |_,_,_+1, .nil=> .nil
 |_,_,n+1, .cons r t=> .cons r (bL.take n t)
theorem bL.drop: ∀ {xs:List V}{us:List Value}(n:Nat),bL xs us->bL (xs.drop n) (us.drop n)
 |_,_,0,r=>r
 |_,_,_+1, .nil=> .nil
 |_,_,n+1, .cons _ t=>bL.drop n t
def gi:Option V->Option Value->Prop
 |some v,some u=>bE v u
 |none,none=>True
 |_,_=>False
def KV {κ:Type} :List (κ×V)->List (κ×Value)->Prop:=Paired fun(p:κ×V) (q:κ×Value)=>p.1=q.1/\bE p.2 q.2
def kV:bW->V
 | .inl i=> .int i
 | .inr x=> .str x
inductive HO where
  |lst (xs:List V)
  |tup (xs:List V)
  |dK (kvs:List (bW×V))|dT (kvs:List (List bW×V))
  |set (S:Int->Bool) (n:Nat)
  |ins (C dx:Addr) (fs:List (Str×V))
  |own (x:Addr)
  |xd (fs:List (Str×V))
  |met (f x:Addr)
  |rng (lo hi:Int)
  |frz (o:Obj) (u:HO)
  |tbl (ps:Array Value)
  |ext (φ:Heap->Prop)
abbrev Hp:=Addr->Option HO
def bg (H:Hp) (a:Addr) (o:HO):Hp:=fun b=>if b=a then some o else H b
theorem ah {H:Hp}{a:Addr}{o:HO} :bg H a o a=some o:=by unfold bg;rw[if_pos rfl]
theorem ag {H:Hp}{a b:Addr}{o:HO}(h:b≠a):bg H a o b=H b:=by unfold bg;rw[if_neg h]
theorem ne_of {H:Hp}{a b:Addr}{o u:HO}(h:H a=some o) (h':H b=some u) (d:o≠u):a≠b:=by
 intro e;subst e;rw[h] at h';exact d (Option.some.inj h')
theorem aD {H:Hp}{a b:Addr}{o:HO}(h:H a=some o) (h':H b=none):a≠b:=by
 intro e;subst e;rw[h] at h';cases h'
section
variable (P:Program) (w:World)
def cE (H:Hp) (h:Heap) (a:Addr):HO->Prop
 | .lst xs=>xs.length<=sizeLine/\ ∃(its:List Value) (n:Nat),bL xs its/\h.get? a=some { cls:= .type "list",data:= .seq its.toArray n }
 | .tup xs=>xs.length<=sizeLine/\ ∃its:List Value,bL xs its/\IsTup h a its.toArray
 | .dK kvs=>kvs.length<=sizeLine/\(a == sysModules)=false/\ ∃vs,KV kvs vs/\h.DictOf (bJ P w) a vs
 | .dT kvs=>kvs.length<=sizeLine/\(a == sysModules)=false/\ ∃xs:List (List bW×Addr×Value),
   Paired (fun(p:List bW×V) (q:List bW×Addr×Value)=>p.1=q.1/\H q.2.1=some (.tup (p.1.map kV))/\bE p.2 q.2.2) kvs xs/\
   ∃o es ep,h.get? a=some o/\o.ExactDict/\o.data= .dict es ep/\es.toList=xs.map (entryOfKey (tupleKind (bJ P w)))/\(xs.map (·.1)).Nodup
 | .set S n=>h.SetOf (intKind P w) a S n
 | .ins C dx fs=>H dx=some (.own a)/\fs.length<=1000/\dx≠a/\h.get? a=some (PySem.W.instObj C dx)/\
   ∃mA,h.Ns1 dx mA/\(∀f,gi (fs.lookup f) (mA f))/\PySem.Within mA (fs.map (·.1))
 | .own _=> ∃o,h.get? a=some o
 | .xd fs=> ∃mA,h.Ns1 a mA/\ ∀f,gi (fs.lookup f) (mA f)
 | .rng lo hi=> ∃t u v,h.get? a=some { cls:= .type "range",data:= .fields #[.int lo t, .int hi u, .int 1 v] }
 | .frz o u=>h.get? a=some o/\cE H h a u
 | .tbl ps=>h.get? a=some { cls:= .none,data:= .fields ps }
 | .met f x=>h.get? a=some (PySem.W.methodObj (.ref f) (.ref x))
 | .ext φ=>φ h/\(∃o,h.get? a=some o)/\ ∀h1 h2:Heap,φ h1->(∀o,h1.get? a=some o->h2.get? a=some o)->φ h2
def gP (H:Hp) (h:Heap):Prop:= ∀a o,H a=some o->cE P w H h a o
end
section
variable {P:Program}{w:World}{H H':Hp}{h h':Heap}{a:Addr}{o:HO}
theorem cE.lt (x:cE P w H h a o):a<h.objs.size:=by
 cases o with
 |lst xs=>obtain⟨_,_,_,_,e⟩:=x;exact Heap.lt_size e
 |tup xs=>obtain⟨_,_,_,p⟩:=x;exact p.lt
 |dK kvs=>obtain⟨_,_,_,_,o,_,_,e,_⟩:=x;exact Heap.lt_size e
 |dT kvs=>obtain⟨_,_,_,_,o,_,_,e,_⟩:=x;exact Heap.lt_size e
 |set S n=>obtain⟨o,_,_,_,e,_⟩:=x;exact Heap.lt_size e
 |ins C dx fs=>obtain⟨_,_,_,e,_⟩:=x;exact Heap.lt_size e
 |own y=>obtain⟨_,e⟩:=x;exact Heap.lt_size e
 |xd fs=>obtain⟨_,⟨_,_,_,e,_⟩,_⟩:=x;exact Heap.lt_size e
 |rng lo hi=>obtain⟨_,_,_,e⟩:=x;exact Heap.lt_size e
 |frz ob u=>obtain⟨e,_⟩:=x;exact Heap.lt_size e
 |tbl ps=>exact Heap.lt_size (show h.get? a=some _ from x)
 |met f y=>exact Heap.lt_size (show h.get? a=some _ from x)
 |ext φ=>obtain⟨_,⟨_,e⟩,_⟩:=x;exact Heap.lt_size e
theorem Paired.mapP {α β:Type}{F G:α->β->Prop} : ∀ {l₁:List α}{l₂:List β},Paired F l₁ l₂->(∀a b,F a b->G a b)->Paired G l₁ l₂
 |_,_, .nil,_=> .nil
 |_,_, .cons r t,f=> .cons (f _ _ r) (Paired.mapP t f)
theorem cE.stay (x:cE P w H h a o) (k: ∀b u,(b=a\/H b=some (.own a))->h.get? b=some u->h'.get? b=some u)
  (ho: ∀b,H b=some (.own a)->H' b=some (.own a)) (ht: ∀b xs,H b=some (.tup xs)->H' b=some (.tup xs)):cE P w H' h' a o:=by
 induction o with
 |lst xs=>obtain⟨z,its,n,r,e⟩:=x;exact⟨z,its,n,r,k _ _ (.inl rfl) e⟩
 |tup xs=>obtain⟨z,its,r,ob,e,c⟩:=x;exact⟨z,its,r,ob,k _ _ (.inl rfl) e,c⟩
 |dK kvs=>obtain⟨z,y,vs,r,ob,es,ep,e,c⟩:=x;exact⟨z,y,vs,r,ob,es,ep,k _ _ (.inl rfl) e,c⟩
 |dT kvs=>
  obtain⟨z,y,xs,r,ob,es,ep,e,c⟩:=x
  exact⟨z,y,xs,Paired.mapP r fun p q z=>⟨z.1,ht _ _ z.2.1,z.2.2⟩,ob,es,ep,k _ _ (.inl rfl) e,c⟩
 |set S n=>obtain⟨ob,es,ep,t,e,c⟩:=x;exact⟨ob,es,ep,t,k _ _ (.inl rfl) e,c⟩
 |ins C dx fs=>
  obtain⟨d,z,ne,e,mA,⟨od,es,ep,e2,c⟩,r⟩:=x
  exact⟨ho _ d,z,ne,k _ _ (.inl rfl) e,mA,⟨od,es,ep,k _ _ (.inr d) e2,c⟩,r⟩
 |own y=>obtain⟨ob,e⟩:=x;exact⟨ob,k _ _ (.inl rfl) e⟩
 |xd fs=>obtain⟨mA,⟨od,es,ep,e,c⟩,r⟩:=x;exact⟨mA,⟨od,es,ep,k _ _ (.inl rfl) e,c⟩,r⟩
 |rng lo hi=>obtain⟨t,u,v,e⟩:=x;exact⟨t,u,v,k _ _ (.inl rfl) e⟩
 |frz ob u ih=>obtain⟨e,q⟩:=x;exact⟨k _ _ (.inl rfl) e,ih q⟩
 |tbl ps=>
  have e:h.get? a=some { cls:= .none,data:= .fields ps } :=x
  show h'.get? a=some { cls:= .none,data:= .fields ps }
  exact k a _ (.inl rfl) e
 |met f y=>
  have e:h.get? a=some (PySem.W.methodObj (.ref f) (.ref y)):=x
  show h'.get? a=some (PySem.W.methodObj (.ref f) (.ref y))
  exact k a _ (.inl rfl) e
 |ext φ=>obtain⟨p,⟨o,e⟩,st⟩:=x;exact⟨st _ _ p fun o q=>k _ _ (.inl rfl) q,⟨o,k _ _ (.inl rfl) e⟩,st⟩
theorem gP.lt (x:gP P w H h) (e:H a=some o):a<h.objs.size:=(x a o e).lt
theorem gP.fresh (x:gP P w H h) (e:h.objs.size<=a):H a=none:=by
 cases q:H a with
 |none=>rfl
 |some u=>exact absurd (Nat.lt_of_lt_of_le (x.lt q) e) (Nat.lt_irrefl _)
theorem gP.kept (x:gP P w H h) (k: ∀b u,h.get? b=some u->h'.get? b=some u):gP P w H h':=fun a o e=>
 (x a o e).stay (fun b u _ q=>k b u q) (fun _ q=>q) fun _ _ q=>q
theorem gP.laid (x:gP P w H h) (k: ∀b u,h.get? b=some u->h'.get? b=some u) (hp:h.objs.size<=a) (new:cE P w (bg H a o) h' a o):gP P w (bg H a o) h':=fun b u e=>by
 have hn:=x.fresh hp
 by_cases hb:b=a
 ·subst hb;rw[ah] at e;cases e;exact new
 ·rw[ag hb] at e
  exact(x b u e).stay (fun c v _ q=>k c v q) (fun c q=>by rw[ag (aD q hn)];exact q) fun c xs q=>by rw[ag (aD q hn)];exact q
end
def Rd (H:Hp) (a:Addr) (u:HO):Prop:=H a=some u\/ ∃o,H a=some (.frz o u)
theorem Rd.ok {P:Program}{w:World}{H:Hp}{h:Heap}{a:Addr}{u:HO}(r:Rd H a u) (x:gP P w H h):cE P w H h a u:=by
 rcases r with r|⟨o,r⟩
 ·exact x a u r
 ·obtain⟨_,q⟩:=x a _ r
  exact q
def br:Option HO->Prop
 |some (.lst _)=>True
 |some (.dK _)=>True
 |some (.dT _)=>True
 |some (.set _ _)=>True
 |some (.ins _ _ _)=>True
 |some (.ext _)=>True
 |_=>False
section
variable {P:Program}{w:World}{H:Hp}{h h':Heap}{x e:Addr}{o':HO}
theorem gP.write (ok:gP P w H h) (mu:br (H x)) (he:e=x\/H e=some (.own x)) (k: ∀b u,b≠e->h.get? b=some u->h'.get? b=some u) (heo: ∃u,h'.get? e=some u)
  (new:cE P w (bg H x o') h' x o'):gP P w (bg H x o') h':=fun b u q=>by
 have nown: ∀c y,H c=some (.own y)->c≠x:=fun c y r z=>by subst z;rw[r] at mu;exact mu
 have ntup: ∀c xs,H c=some (.tup xs)->c≠x:=fun c xs r z=>by subst z;rw[r] at mu;exact mu
 by_cases hb:b=x
 ·subst hb;rw[ah] at q;cases q;exact new
 ·rw[ag hb] at q
  by_cases hbe:b=e
  ·have q':H b=some (.own x):=by
    rcases he with z|z
    ·exact absurd (hbe.trans z) hb
    ·rw[hbe];exact z
   rw[q] at q';cases q'
   obtain⟨v,hv⟩:=heo
   exact⟨v,by rw[hbe];exact hv⟩
  ·refine(ok b u q).stay (fun c v hc r=>k c v ?_ r) (fun c r=>by rw[ag (nown c b r)];exact r) fun c xs r=>by rw[ag (ntup c xs r)];exact r
   rcases hc with rfl|hc
   ·exact hbe
   ·rintro rfl
    rcases he with z|z
    ·exact nown c b hc z
    ·rw[hc] at z;cases z;exact hb rfl
end
structure Un (fs ex:List Addr) (H H':Hp) (h h':Heap):Prop where
 keep: ∀b o,h.get? b=some o->H b=none->b∉fs->b∉ex->h'.get? b=some o
 slot: ∀b o,h.get? b=some o->H b=none->b∈fs->b∉ex-> ∃sl,h'.get? b=some { o with slots:=sl }
 free: ∀b o,h.get? b=some o->H b=none->b∉ex->H' b=none
 there: ∀b o,h.get? b=some o->b∉ex-> ∃o',h'.get? b=some o'
 tups: ∀b xs,H b=some (.tup xs)->H' b=some (.tup xs)
 frzs: ∀b o u,H b=some (.frz o u)->H' b=some (.frz o u)
 tbls: ∀b ps,H b=some (.tbl ps)-> ∃more,H' b=some (.tbl (ps++more))
section
variable {fs fs' ex ex':List Addr}{H H1 H2:Hp}{h h1 h2 h':Heap}{a x e:Addr}{o:HO}
theorem Un.any (u:Un fs ex H H1 h h1) {b:Addr}{ob:Obj}(q:h.get? b=some ob) (n:H b=none) (hx:b∉ex): ∃sl,h1.get? b=some { ob with slots:=sl } :=by
 by_cases hb:b∈fs
 ·exact u.slot b ob q n hb hx
 ·exact⟨ob.slots,u.keep b ob q n hb hx⟩
theorem Un.kept (k: ∀b u,h.get? b=some u->h'.get? b=some u):Un fs ex H H h h':=
 ⟨fun b ob q _ _ _=>k b ob q,fun b ob q _ _ _=>⟨ob.slots,k b ob q⟩,fun _ _ _ n _=>n,fun b ob q _=>⟨ob,k b ob q⟩,fun _ _ q=>q,fun _ _ _ q=>q,fun _ ps q=>⟨#[],by rw[q];simp⟩⟩
theorem Un.refl:Un fs ex H H h h:=Un.kept fun _ _ q=>q
theorem Un.laid (k: ∀b u,h.get? b=some u->h'.get? b=some u) (hp:h.objs.size<=a) (hn:H a=none):Un fs ex H (bg H a o) h h' where
 keep:=fun b u q _ _ _=>k b u q
 slot:=fun b u q _ _ _=>⟨u.slots,k b u q⟩
 free:=fun b u q n _=>by rw[ag (Nat.ne_of_lt (Nat.lt_of_lt_of_le (Heap.lt_size q) hp))];exact n
 there:=fun b u q _=>⟨u,k b u q⟩
 tups:=fun b xs q=>by rw[ag (aD q hn)];exact q
 frzs:=fun b u xs q=>by rw[ag (aD q hn)];exact q
 tbls:=fun b ps q=>⟨#[],by rw[ag (aD q hn),q];simp⟩
theorem Un.write (mu:br (H x)) (he:e=x\/H e=some (.own x)) (k: ∀b u,b≠e->h.get? b=some u->h'.get? b=some u) (heo: ∃u,h'.get? e=some u):Un fs ex H (bg H x o) h h':=by
 have hx: ∀b,H b=none->b≠x:=fun b n z=>by subst z;rw[n] at mu;exact mu
 have hb: ∀b,H b=none->b≠e:=fun b n z=>by
  subst z
  rcases he with r|r
  ·exact hx b n r
  ·rw[n] at r;cases r
 have hm: ∀b u,H b=some u-> ¬br (some u)->b≠x:=fun b u q nm z=>by subst z;rw[q] at mu;exact nm mu
 refine⟨fun b u q n _ _=>k b u (hb b n) q,fun b u q n _ _=>⟨u.slots,k b u (hb b n) q⟩,fun b u q n _=>by rw[ag (hx b n)];exact n,fun b u q _=>?_,
  fun b xs q=>by rw[ag (hm b _ q fun z=>z)];exact q,fun b u xs q=>by rw[ag (hm b _ q fun z=>z)];exact q,fun b ps q=>⟨#[],by rw[ag (hm b _ q fun z=>z),q];simp⟩⟩
 by_cases hbe:b=e
 ·subst hbe;exact heo
 ·exact⟨u,k b u hbe q⟩
end
def trk (h:Heap) (H:Hp):List Addr:=(List.range h.objs.size).filter fun a=>(H a).isSome
def hidT (h:Heap) (H:Hp):Heap:=PySem.W.hideAll h (trk h H)
theorem j6r_ (h:Heap) (H:Hp):(hidT h H).objs.size=h.objs.size:=PySem.W.hideAll_size _ _
theorem hidT_get {h:Heap}{H:Hp}{b:Addr}{o:Obj}(e:h.get? b=some o) (n:H b=none):(hidT h H).get? b=some o:=
 PySem.W.hideAll_get _ e fun hm=>by
  have q:(H b).isSome=true:=(List.mem_filter.mp hm).2
  rw[n] at q;simp at q
theorem of_hidT {h:Heap}{H:Hp}{b:Addr}{o:Obj}(e:(hidT h H).get? b=some o):h.get? b=some o/\H b=none:=by
 have e':h.get? b=some o:=PySem.W.of_hideAll (trk h H) e
 refine⟨e',?_⟩
 cases q:H b with
 |none=>rfl
 |some x=>
  have hm:b∈trk h H:=List.mem_filter.mpr ⟨List.mem_range.mpr (Heap.lt_size e'),by simp [q]⟩
  have z:(hidT h H).get? b=none:=PySem.W.hideAll_none (trk h H) hm
  rw[z] at e;cases e
end L2
namespace L2
open PySem PySem.Spec PyProof.Rows
structure Mod (K:PySem.W.Frag) (mg:Str->Option Value) (base:Heap):Prop where
 kin:K.In base
 glob:base.Ns mainGlobals mg
 blt: ∃mb,base.Ns builtinsNs mb/\ ∀x:Str,x≠"__name__"->mb x=bootBuiltins x
 nolimit:base.NoLimit
structure Cx where
 prog:Program
 w:World
 K:PySem.W.Frag
 mg:Str->Option Value
 base:Heap
 A:Around
 N:List Str
 s_0:Shared
 H_0:Hp
 env:Env
 outer:List Env
 stack:List Env
 ex:List Addr
 fn:Str->Bool
 calm:Bool
 pn:List [001]
 xe:Value->Shared->Prop
def frs (l:List Env):List Addr:=l.filterMap (·.frame)
abbrev Cx.fs (X:Cx):List Addr:=frs X.outer
def Vis (sc:Scope) (x:Str):Prop:=sc.names.lookup x=some .local\/sc.names.lookup x=some .cell\/sc.names.lookup x=some .free
def Loc (sc:Scope) (x:Str):Prop:=sc.names.lookup x=some .local\/sc.names.lookup x=some .cell
def Look (env:Env) (h:Heap) (m:Str->Option Value) (x:Str) (u:Value):Prop:=
 (env.kindOf x=some .local/\m x=some u)\/((env.kindOf x=some .cell\/env.kindOf x=some .free)/\ ∃c,env.cells.lookup x=some c/\h.IsCell c (some u))
structure Cx.Ok (X:Cx):Prop where
 mod:Mod X.K X.mg X.base
 kind:X.env.scope.kind= .function
 glob:X.env.globals=mainGlobals
 blt:X.env.builtins=builtinsNs
 above:X.s_0.heap.objs.size<=X.env.locals
 inj: ∀x y c,X.env.cells.lookup x=some c->X.env.cells.lookup y=some c->x=y
 has: ∀x,(X.env.kindOf x=some .cell\/X.env.kindOf x=some .free)-> ∃c,X.env.cells.lookup x=some c
 cab: ∀x c,X.fn x=true->X.env.cells.lookup x=some c->X.s_0.heap.objs.size<=c
 hd:X.calm=true->X.A.handled=none
 frames:X.A.frames=some X.stack
 stk:X.stack=X.outer\/(X.stack=X.env::X.outer/\X.env.frame=some X.env.locals)
 exf: ∀b∈X.ex,b≠X.env.locals/\ ∀x c,X.env.cells.lookup x=some c->c≠b
 bs: ∀b o,X.base.get? b=some o->X.s_0.heap.get? b=some o/\X.H_0 b=none
 bsz:X.base.objs.size<=X.s_0.heap.objs.size
 noex: ∀b o,X.base.get? b=some o->b∉X.ex
 exfs: ∀b∈X.ex,b∉X.fs
 funs:X.s_0.heap.FunFrames X.base X.outer
 frf: ∀b∈X.fs,X.H_0 b=none
structure aV (X:Cx) (pins:List [001]) (σ:List (Option V)) (H:Hp) (s:Shared):Prop where
 ok:X.Ok
 os:s.os=X.s_0.os
 bare:AllBare s.gens
 base:Un X.fs X.ex X.H_0 H X.s_0.heap s.heap
 loc: ∃m,s.heap.Ns X.env.locals m/\ ∀(i:Nat) (x:Str) (v:V),X.N[i]?=some x->σ[i]?=some (some v)->Vis X.env.scope x-> ∃u,bE v u/\Look X.env s.heap m x u
 cell: ∀x c,X.env.cells.lookup x=some c-> ∃v,s.heap.IsCell c v
 free:H X.env.locals=none
 freeC: ∀x c,X.env.cells.lookup x=some c->H c=none
 pin: ∀p∈X.pn++pins,s.heap.get? p.1=some p.2/\H p.1=none/\p.1≠X.env.locals/\p.1∉X.fs/\ ∀v,p.2.data≠ .cell v
 hok:gP X.prog X.w H s.heap
 len:σ.length=X.N.length
section
variable {X:Cx}{pins:List (Addr×Obj)}{σ:List (Option V)}{H H':Hp}{s:Shared}{h':Heap}
theorem Cx.Ok.nofr (ok:X.Ok) {b:Addr}{o:Obj}(e:X.base.get? b=some o):b∉X.fs:=fun hb=>by
 have:=(ok.funs.mem hb).1
 rw[e] at this;cases this
theorem aV.bs (I:aV X pins σ H s): ∀b o,X.base.get? b=some o->s.heap.get? b=some o/\H b=none:=fun b o e=>
 ⟨I.base.keep b o (I.ok.bs b o e).1 (I.ok.bs b o e).2 (I.ok.nofr e) (I.ok.noex b o e),I.base.free b o (I.ok.bs b o e).1 (I.ok.bs b o e).2 (I.ok.noex b o e)⟩
theorem aV.bk (I:aV X pins σ H s): ∀b o,X.base.get? b=some o->s.heap.get? b=some o:=fun b o e=>(I.bs b o e).1
theorem aV.mod (I:aV X pins σ H s):Mod X.K X.mg X.base:=I.ok.mod
theorem aV.kIn (I:aV X pins σ H s):X.K.In s.heap:=I.ok.mod.kin.keeps I.bk
theorem aV.fr (I:aV X pins σ H s): ∃m,Fr X.base X.env.locals s.heap m:=
 let ⟨m,hn,_⟩:=I.loc
 ⟨m,hn,I.bk,Nat.le_trans I.ok.bsz I.ok.above⟩
theorem aV.lt (I:aV X pins σ H s):X.env.locals<s.heap.objs.size:=let ⟨_,hn,_⟩:=I.loc;hn.lt
theorem aV.sz (I:aV X pins σ H s):X.s_0.heap.objs.size<=s.heap.objs.size:=Nat.le_trans I.ok.above (Nat.le_of_lt I.lt)
theorem aV.nofs (I:aV X pins σ H s) {a:Addr}(h:s.heap.objs.size<=a):a∉X.fs:=fun hb=>by
 obtain⟨_,o,ho,_⟩:=I.ok.funs.mem hb
 exact absurd (Nat.lt_of_lt_of_le (Heap.lt_size ho) (Nat.le_trans I.sz h)) [048]
theorem aV.cne (I:aV X pins σ H s): ∀x c,X.env.cells.lookup x=some c->c≠X.env.locals:=fun x c e z=>by
 obtain⟨v,o,ho,hd⟩:=I.cell x c e
 obtain⟨m,⟨o',es,ep,ho',hd',_⟩,_⟩:=I.loc
 rw[z,ho'] at ho;cases ho;rw[hd'] at hd;cases hd
theorem aV.funs (I:aV X pins σ H s):s.heap.FunFrames X.base X.outer:=by
 have all: ∀(l:List Env),(∀b∈frs l,b∈X.fs)->X.s_0.heap.FunFrames X.base l->s.heap.FunFrames X.base l:=by
  intro l
  induction l with
  |nil=>intro _ _;trivial
  |cons env r ih=>
   intro hs hl
   obtain⟨hk,⟨L,o,hf,hn,ho,hd⟩,hr⟩:=hl
   have hL:L∈X.fs:=hs L (by unfold frs;rw[List.filterMap_cons,hf];exact List.mem_cons_self)
   obtain⟨sl,e⟩:=I.base.slot L o ho (I.ok.frf L hL) hL fun z=>I.ok.exfs L z hL
   exact⟨hk,⟨L,_,hf,hn,e,hd⟩,ih (fun b hb=>hs b (by unfold frs;rw[List.filterMap_cons,hf];exact List.mem_cons_of_mem _ hb)) hr⟩
 exact all X.outer (fun _ hb=>hb) I.ok.funs
theorem aV.stack (I:aV X pins σ H s):s.heap.FunFrames X.base X.stack:=by
 rcases I.ok.stk with e|⟨e,hf⟩
 ·rw[e];exact I.funs
 ·rw[e]
  obtain⟨m,hn,_⟩:=I.loc
  refine .cons (by rw[I.ok.kind];decide) hf hn ?_ I.funs
  exact Heap.get?_none_of_le (Nat.le_trans I.ok.bsz I.ok.above)
theorem aV.stkSub (I:aV X pins σ H s): ∀b∈frs X.stack,b∈X.env.locals::X.fs:=fun b hb=>by
 rcases I.ok.stk with e|⟨e,hf⟩
 ·rw[e] at hb;exact List.mem_cons_of_mem _ hb
 ·rw[e] at hb
  unfold frs at hb
  rw[List.filterMap_cons,hf] at hb
  exact hb
theorem aV.stkFree (I:aV X pins σ H s): ∀b∈frs X.stack,H b=none:=fun b hb=>by
 rcases List.mem_cons.mp (I.stkSub b hb) with e|hb
 ·rw[e];exact I.free
 ·obtain⟨_,o,ho,_⟩:=I.ok.funs.mem hb
  exact I.base.free b o ho (I.ok.frf b hb) fun z=>I.ok.exfs b z hb
theorem aV.step {g':Array GenState}{t':Nat}{d':Drawn}{ch:List Addr}(I:aV X pins σ H s)
  (hch: ∀b∈ch,(b∈X.ex\/X.s_0.heap.objs.size<=b)/\b≠X.env.locals/\(∀x c,X.env.cells.lookup x=some c->c≠b)/\ ∀p∈X.pn++pins,p.1≠b)
  (keep: ∀b o,b≠X.env.locals->b∉X.fs->b∉ch->s.heap.get? b=some o->H b=none->h'.get? b=some o)
  (slot: ∀b o,b≠X.env.locals->b∈X.fs->b∉ch->s.heap.get? b=some o->H b=none-> ∃sl,h'.get? b=some { o with slots:=sl }) (free: ∀b o,b∉ch->s.heap.get? b=some o->H b=none->H' b=none)
  (there: ∀b o,b∉ch->s.heap.get? b=some o-> ∃o',h'.get? b=some o')
  (tups: ∀b xs,H b=some (.tup xs)->H' b=some (.tup xs)) (frzs: ∀b o u,H b=some (.frz o u)->H' b=some (.frz o u)) (tbls: ∀b ps,H b=some (.tbl ps)-> ∃more,H' b=some (.tbl (ps++more)))
  (ns: ∀m,s.heap.Ns X.env.locals m->h'.Ns X.env.locals m) (hok:gP X.prog X.w H' h') (hg:AllBare g'):
  aV X pins σ H' { s with heap:=h',gens:=g',drawn:=d',toks:=t' } :=by
 have neL: ∀b o,X.s_0.heap.get? b=some o->b≠X.env.locals:=fun b o e=>Nat.ne_of_lt [054]
 have neC: ∀b o,X.s_0.heap.get? b=some o->b∉X.ex->b∉ch:=fun b o e hx hb=>by
  rcases(hch b hb).1 with z|z
  ·exact hx z
  ·exact absurd (Nat.lt_of_lt_of_le [031] z) [048]
 have cellK: ∀x c,X.env.cells.lookup x=some c-> ∀v,s.heap.IsCell c v->h'.IsCell c v:=fun x c e v ⟨o,ho,hd⟩=>by
  have nch:c∉ch:=fun z=>(hch c z).2.2.1 x c e rfl
  by_cases hc:c∈X.fs
  ·obtain⟨sl,q⟩:=slot c o (I.cne x c e) hc nch ho (I.freeC x c e)
   exact⟨_,q,hd⟩
  ·exact⟨o,keep c o (I.cne x c e) hc nch ho (I.freeC x c e),hd⟩
 refine⟨I.ok,I.os,hg,⟨fun b o e n hb hx=>?_,fun b o e n hb hx=>?_,fun b o e n hx=>?_,fun b o e hx=>?_,fun b xs e=>tups b xs (I.base.tups b xs e),fun b o xs e=>frzs b o xs (I.base.frzs b o xs e),fun b ps e=>?_⟩,?_,fun x c e=>?_,?_,fun x c e=>?_,fun p hp=>?_,hok,I.len⟩
 ·exact keep b o (neL b o e) hb (neC b o e hx) (I.base.keep b o e n hb hx) (I.base.free b o e n hx)
 ·obtain⟨sl,e1⟩:=I.base.slot b o e n hb hx
  obtain⟨sl',e2⟩:=slot b _ (neL b o e) hb (neC b o e hx) e1 (I.base.free b o e n hx)
  exact⟨sl',e2⟩
 ·obtain⟨o',e1⟩:=I.base.there b o e hx
  exact free b o' (neC b o e hx) e1 (I.base.free b o e n hx)
 ·obtain⟨o',e1⟩:=I.base.there b o e hx
  exact there b o' (neC b o e hx) e1
 ·obtain⟨m1,e1⟩:=I.base.tbls b ps e
  obtain⟨m2,e2⟩:=tbls b _ e1
  exact⟨m1++m2,by rw[e2,Array.append_assoc]⟩
 ·obtain⟨m,hn,hl⟩:=I.loc
  refine⟨m,ns m hn,fun i x v e1 e2 e3=>?_⟩
  obtain⟨u,r,l⟩:=hl i x v e1 e2 e3
  refine⟨u,r,?_⟩
  rcases l with l|⟨k,c,e,z⟩
  ·exact .inl l
  ·exact .inr ⟨k,c,e,cellK x c e _ z⟩
 ·obtain⟨v,z⟩:=I.cell x c e
  exact⟨v,cellK x c e v z⟩
 ·obtain⟨m,⟨o,_,_,ho,_⟩,_⟩:=I.loc
  exact free _ o (fun z=>(hch _ z).2.1 rfl) ho I.free
 ·obtain⟨v,o,ho,hd⟩:=I.cell x c e
  exact free c o (fun z=>(hch c z).2.2.1 x c e rfl) ho (I.freeC x c e)
 ·obtain⟨e,n,ne,nf,d⟩:=I.pin p hp
  have nch:p.1∉ch:=fun z=>(hch p.1 z).2.2.2 p hp rfl
  exact⟨keep p.1 p.2 ne nf nch e n,free p.1 p.2 nch e n,ne,nf,d⟩
theorem aV.un {t':Nat}(I:aV X pins σ H s) (u:Un X.fs [] H H' s.heap h') (hok:gP X.prog X.w H' h'):aV X pins σ H' { s with heap:=h',toks:=t' } :=by
 obtain⟨m,⟨o,es,ep,ho,r⟩,_⟩:=id I.loc
 obtain⟨sl,hL⟩:=u.any ho I.free [022]
 exact I.step (g':=s.gens) (d':=s.drawn) (ch:=[]) (fun _ z=>nomatch z) (fun b o _ hb _ e n=>u.keep b o e n hb [022]) (fun b o _ hb _ e n=>u.slot b o e n hb [022]) (fun b o _ e n=>u.free b o e n [022]) (fun b o _ e=>u.there b o e [022]) u.tups u.frzs u.tbls (fun m' hm=>by
  obtain⟨o',es',ep',ho',r'⟩:=hm
  rw[ho] at ho';cases ho'
  exact⟨_,es',ep',hL,r'⟩) hok I.bare
theorem aV.call {g':Array GenState}{t':Nat}{d':Drawn}{ch:List Addr}(I:aV X pins σ H s) (u:Un (frs X.stack) ch H H' s.heap h') (hok:gP X.prog X.w H' h') (hg:AllBare g')
  (hch: ∀b∈ch,(b∈X.ex\/X.s_0.heap.objs.size<=b)/\b≠X.env.locals/\(∀x c,X.env.cells.lookup x=some c->c≠b)/\ ∀p∈X.pn++pins,p.1≠b):
  aV X pins σ H' { s with heap:=h',gens:=g',drawn:=d',toks:=t' } :=by
 obtain⟨m,⟨o,es,ep,ho,r⟩,_⟩:=id I.loc
 obtain⟨sl,hL⟩:=u.any ho I.free fun z=>(hch _ z).2.1 rfl
 exact I.step (ch:=ch) hch (fun b o hL hb hc e n=>u.keep b o e n (fun z=>(List.mem_cons.mp (I.stkSub b z)).elim hL hb) hc) (fun b o _ _ hc e n=>u.any e n hc) (fun b o hc e n=>u.free b o e n hc) (fun b o hc e=>u.there b o e hc) u.tups u.frzs u.tbls (fun m' hm=>by
  obtain⟨o',es',ep',ho',r'⟩:=hm
  rw[ho] at ho';cases ho'
  exact⟨_,es',ep',hL,r'⟩) hok hg
theorem aV.turned {t':Nat}{it:Addr}(I:aV X pins σ H s) (k: ∀b o,b≠it->s.heap.get? b=some o->h'.get? b=some o) (hn:H it=none) (hL:it≠X.env.locals)
  (h1:it∈X.ex\/X.s_0.heap.objs.size<=it) (h2: ∀x c,X.env.cells.lookup x=some c->c≠it) (h3: ∀p∈X.pn++pins,p.1≠it):aV X pins σ H { s with heap:=h',toks:=t' } :=by
 have nit: ∀b u,H b=some u->b≠it:=fun b u e z=>by rw[z,hn] at e;cases e
 refine I.step (g':=s.gens) (d':=s.drawn) (ch:=[it]) (fun b hb=>?_) (fun b o _ _ hc e _=>k b o (fun z=>hc (by simp [z])) e) (fun b o _ _ hc e _=>⟨o.slots,k b o (fun z=>hc (by simp [z])) e⟩) (fun _ _ _ _ n=>n)
  (fun b o hc e=>⟨o,k b o (fun z=>hc (by simp [z])) e⟩) (fun _ _ e=>e) (fun _ _ _ e=>e) (fun b ps e=>⟨#[],by rw[e];simp⟩) (fun m hm=>?_) (fun b u e=>?_) I.bare
 ·have e:b=it:=by simpa using hb
  subst e
  exact⟨h1,hL,h2,h3⟩
 ·obtain⟨o,es,ep,ho,r⟩:=hm
  exact⟨o,es,ep,k _ o (Ne.symm hL) ho,r⟩
 ·refine(I.hok b u e).stay (fun c v hc q=>k c v ?_ q) (fun _ q=>q) fun _ _ q=>q
  rcases hc with z|z
  ·rw[z];exact nit b u e
  ·exact nit c _ z
theorem aV.tok (I:aV X pins σ H s) (t:Nat):aV X pins σ H { s with toks:=t } :=I.un (h':=s.heap) (t':=t) Un.refl I.hok
theorem aV.kept {t':Nat}(I:aV X pins σ H s) (k: ∀b u,s.heap.get? b=some u->h'.get? b=some u):aV X pins σ H { s with heap:=h',toks:=t' } :=I.un (Un.kept k) (I.hok.kept k)
theorem aV.laid {a:Addr}{o:HO}{t':Nat}(I:aV X pins σ H s) (k: ∀b u,s.heap.get? b=some u->h'.get? b=some u) (hp:s.heap.objs.size<=a) (new:cE X.prog X.w (bg H a o) h' a o):
  aV X pins σ (bg H a o) { s with heap:=h',toks:=t' } :=I.un (Un.laid k hp (I.hok.fresh hp)) (I.hok.laid k hp new)
theorem aV.write {x e:Addr}{o:HO}{t':Nat}(I:aV X pins σ H s) (mu:br (H x)) (he:e=x\/H e=some (.own x)) (k: ∀b u,b≠e->s.heap.get? b=some u->h'.get? b=some u) (heo: ∃u,h'.get? e=some u)
  (new:cE X.prog X.w (bg H x o) h' x o):aV X pins σ (bg H x o) { s with heap:=h',toks:=t' } :=I.un (Un.write mu he k heo) (I.hok.write mu he k heo new)
theorem aV.weak {σ':List (Option V)}(I:aV X pins σ H s) (hl:σ'.length=σ.length) (w: ∀(i:Nat) v,σ'[i]?=some (some v)->σ[i]?=some (some v)):aV X pins σ' H s:=
 ⟨I.ok,I.os,I.bare,I.base,let ⟨m,hn,hl'⟩:=I.loc;⟨m,hn,fun i x v e1 e2 e3=>hl' i x v e1 (w i v e2) e3⟩,I.cell,I.free,I.freeC,I.pin,I.hok,hl.trans I.len⟩
theorem aV.pins_of {pins':List [001]}(I:aV X pins σ H s) (h: ∀p∈pins',s.heap.get? p.1=some p.2/\H p.1=none/\p.1≠X.env.locals/\p.1∉X.fs/\ ∀v,p.2.data≠ .cell v):aV X pins' σ H s:=
 ⟨I.ok,I.os,I.bare,I.base,I.loc,I.cell,I.free,I.freeC,fun p hp=>(List.mem_append.mp hp).elim (fun z=>I.pin p (List.mem_append_left _ z)) (h p),I.hok,I.len⟩
theorem wk_ {N:List Str}(hN:N.Nodup) {i j:Nat}{x:Str}(a:N[i]?=some x) (b:N[j]?=some x):i=j:=by
 obtain⟨h1,e1⟩:=List.getElem?_eq_some_iff.mp a
 obtain⟨h2,e2⟩:=List.getElem?_eq_some_iff.mp b
 exact(List.getElem_inj hN).mp (e1.trans e2.symm)
theorem j6q_ {M:Model}{A:Around}{E:Value->Shared->Prop}{i:Nat}{x:Str}{v:V}{u:Value}{Q:Unit->Shared->Prop}(I:aV X pins σ H s) (hN:X.N.Nodup) (hi:X.N[i]?=some x) (hx:Loc X.env.scope x) (r:bE v u)
  (h: ∀s',aV X pins (σ.set i (some v)) H s'->(∃a,Heap.SameBut a s.heap s'.heap/\(a=X.env.locals\/X.env.cells.lookup x=some a))->Q () s') (hf:X.fn x=true\/X.env.scope.names.lookup x=some .local:=by first|exact .inl rfl|exact .inr rfl|assumption):wpAny M A (storeName X.env x u) Q E s:=by
 obtain⟨m,hn,hl⟩:=id I.loc
 have hcls:(X.env.scope.kind == .class||(X.env.scope.kind == .module&&X.env.locals !=X.env.globals))=false:=by rw[I.ok.kind];rfl
 have hiσ:i<σ.length:=by rw[I.len];exact(List.getElem?_eq_some_iff.mp hi).1
 have cne:=I.cne
 have tracked: ∀ {a:Addr}{h':Heap},(∃o,s.heap.get? a=some o/\H a=none)->Heap.SameBut a s.heap h'->gP X.prog X.w H h':=fun {a h'} ha hs b ob e=>by
  obtain⟨_,_,hfree⟩:=ha
  refine(I.hok b ob e).stay (fun c w' hc q=>(hs.2 c ?_).trans q) (fun _ q=>q) fun _ _ q=>q
  rintro rfl
  rcases hc with rfl|hc
  ·rw[hfree] at e;cases e
  ·rw[hfree] at hc;cases hc
 rcases hx with hk|hk
 ·refine wpAny_storeName_local hk hn (fun h' hn' hs=>?_) hcls
  obtain⟨oL,_,_,hoL,_⟩:=id hn
  refine h _ ⟨I.ok,I.os,I.bare,⟨fun b o e n hb hx=>?_,fun b o e n hb hx=>?_,I.base.free,fun b o e hx=>?_,I.base.tups,I.base.frzs,I.base.tbls⟩,⟨_,hn',fun j y v' e1 e2 e3=>?_⟩,fun y c e=>?_,I.free,I.freeC,fun p hp=>?_,tracked ⟨oL,hoL,I.free⟩ hs,by simpa using I.len⟩ ⟨_,hs, .inl rfl⟩
  ·exact [094].trans (I.base.keep b o e n hb hx)
  ·obtain⟨sl,e1⟩:=I.base.slot b o e n hb hx
   exact⟨sl,[094].trans e1⟩
  ·obtain⟨o',e1⟩:=I.base.there b o e hx
   exact⟨o',[094].trans e1⟩
  ·by_cases hj:j=i
   ·subst hj
    rw[hi] at e1;cases e1
    rw[List.getElem?_set_self hiσ] at e2
    cases e2
    exact⟨u,r, .inl ⟨hk,by simp⟩⟩
   ·rw[List.getElem?_set_ne (Ne.symm hj)] at e2
    obtain⟨u',r',q⟩:=hl j y v' e1 e2 e3
    refine⟨u',r',?_⟩
    rcases q with⟨k,e⟩|⟨k,c,e,z⟩
    ·refine .inl ⟨k,?_⟩
     have:y≠x:=fun e=>hj (wk_ hN e1 (e▸hi))
     simp [this,e]
    ·exact .inr ⟨k,c,e,z.sameBut hs (cne y c e)⟩
  ·obtain⟨w',z⟩:=I.cell y c e
   exact⟨w',z.sameBut hs (cne y c e)⟩
  ·obtain⟨e,n,ne,nf,d⟩:=I.pin p hp
   exact⟨(hs.2 p.1 ne).trans e,n,ne,nf,d⟩
 ·have hfn:X.fn x=true:=by
   rcases hf with z|z
   ·exact z
   ·rw[z] at hk;cases hk
  obtain⟨c,hc⟩:=I.ok.has x (.inl hk)
  obtain⟨w',z⟩:=I.cell x c hc
  refine wpAny_storeName_cell I.ok.kind hk hc z (fun h' hc' hs=>?_)
  obtain⟨oc,hoc,hocd⟩:=id z
  refine h { s with heap:=h' } ⟨I.ok,I.os,I.bare,⟨fun b o e n hb hx=>?_,fun b o e n hb hx=>?_,I.base.free,fun b o e hx=>?_,I.base.tups,I.base.frzs,I.base.tbls⟩,⟨m,hn.sameBut hs (Ne.symm (cne x c hc)),fun j y v' e1 e2 e3=>?_⟩,fun y c' e=>?_,I.free,I.freeC,fun p hp=>?_,tracked ⟨oc,hoc,I.freeC x c hc⟩ hs,by simpa using I.len⟩ ⟨c,hs, .inr hc⟩
  ·exact(hs.2 b (Nat.ne_of_lt (Nat.lt_of_lt_of_le [031] (I.ok.cab x c hfn hc)))).trans (I.base.keep b o e n hb hx)
  ·obtain⟨sl,e1⟩:=I.base.slot b o e n hb hx
   exact⟨sl,(hs.2 b (Nat.ne_of_lt (Nat.lt_of_lt_of_le [031] (I.ok.cab x c hfn hc)))).trans e1⟩
  ·obtain⟨o',e1⟩:=I.base.there b o e hx
   exact⟨o',(hs.2 b (Nat.ne_of_lt (Nat.lt_of_lt_of_le [031] (I.ok.cab x c hfn hc)))).trans e1⟩
  ·by_cases hj:j=i
   ·subst hj
    rw[hi] at e1;cases e1
    rw[List.getElem?_set_self hiσ] at e2
    cases e2
    exact⟨u,r, .inr ⟨.inl hk,c,hc,hc'⟩⟩
   ·rw[List.getElem?_set_ne (Ne.symm hj)] at e2
    obtain⟨u',r',q⟩:=hl j y v' e1 e2 e3
    refine⟨u',r',?_⟩
    rcases q with q|⟨k,c',e,z'⟩
    ·exact .inl q
    ·refine .inr ⟨k,c',e,z'.sameBut hs ?_⟩
     rintro rfl
     exact hj (wk_ hN e1 (I.ok.inj _ _ _ e hc▸hi))
  ·by_cases hcc:c'=c
   ·subst hcc;exact⟨_,hc'⟩
   ·obtain⟨w2,z2⟩:=I.cell y c' e
    exact⟨w2,z2.sameBut hs hcc⟩
  ·obtain⟨e,n,ne,nf,d⟩:=I.pin p hp
   refine⟨(hs.2 p.1 ?_).trans e,n,ne,nf,d⟩
   intro q
   rw[q,hoc] at e
   have q':oc=p.2:=Option.some.inj e
   exact d w' (by rw[<-q'];exact hocd)
theorem yu_ {M:Model}{A:Around}{E:Value->Shared->Prop}{i:Nat}{x:Str}{v:V}{u:Value}{Q:Unit->Shared->Prop}(I:aV X pins σ H s) (hN:X.N.Nodup) (hi:X.N[i]?=some x) (hx:Loc X.env.scope x) (r:bE v u)
  (h: ∀s',aV X pins (σ.set i (some v)) H s'->Q () s') (hf:X.fn x=true\/X.env.scope.names.lookup x=some .local:=by first|exact .inl rfl|exact .inr rfl|assumption):wpAny M A (storeName X.env x u) Q E s:=
 j6q_ I hN hi hx r (fun s' I' _=>h s' I') hf
theorem aV.call' {s':Shared}{ch:List Addr}(I:aV X pins σ H s) (ho:s'.os=s.os) (u:Un (frs X.stack) ch H H' s.heap s'.heap) (hok:gP X.prog X.w H' s'.heap) (hg:AllBare s'.gens)
  (hch: ∀b∈ch,(b∈X.ex\/X.s_0.heap.objs.size<=b)/\b≠X.env.locals/\(∀x c,X.env.cells.lookup x=some c->c≠b)/\ ∀p∈X.pn++pins,p.1≠b):aV X pins σ H' s':=by
 obtain⟨h',g',d',t',o'⟩:=s'
 have e:o'=s.os:=ho
 subst e
 exact I.call (g':=g') (t':=t') (d':=d') u hok hg hch
end
abbrev XK:=Value->Option Addr->Hp->Prop
abbrev St:=List (Option V)
abbrev VK:=V->Hp->Prop
abbrev TE:=St->Hp->VK->Prop
abbrev TT:=St->Hp->(Bool->Hp->Prop)->Prop
abbrev TA:=St->Hp->(List V->Hp->Prop)->Prop
structure fi where
 nx:St->Hp->Prop
 rt:VK
 bk:St->Hp->Prop:=fun _ _=>False
 ct:St->Hp->Prop:=fun _ _=>False
abbrev TS:=fi->St->Hp->Prop
inductive EP (X:Cx) (pins:List [001]) (σ:St) (Q:VK) (u:Value) (s':Shared):Prop
 |mk (v:V) (H':Hp) (_:aV X pins σ H' s') (_:bE v u) (_:Q v H'):EP X pins σ Q u s'
def TP (X:Cx) (pins:List [001]) (σ:St) (Q:Bool->Hp->Prop) (b:Bool) (s':Shared):Prop:= ∃H',aV X pins σ H' s'/\Q b H'
inductive AP (X:Cx) (pins:List [001]) (σ:St) (Q:List V->Hp->Prop) (us:List Value) (s':Shared):Prop
 |mk (vs:List V) (H':Hp) (_:aV X pins σ H' s') (_:bL vs us) (_:Q vs H'):AP X pins σ Q us s'
def SP (X:Cx) (pins:List [001]) (D:fi) (f:Flow) (s':Shared):Prop:=
 match f with
 | .next=> ∃σ' H',aV X pins σ' H' s'/\D.nx σ' H'
 | .brk=> ∃σ' H',aV X pins σ' H' s'/\D.bk σ' H'
 | .cont=> ∃σ' H',aV X pins σ' H' s'/\D.ct σ' H'
 | .ret u=> ∃v σ' H',aV X pins σ' H' s'/\bE v u/\D.rt v H'
def PE (X:Cx) (e:Expr) (t:TE):Prop:=
 ∀(pins:List [001]) (s:Shared) (σ:St) (H:Hp) (Q:VK),aV X pins σ H s->t σ H Q->wpAny (model X.prog X.w) X.A (eval e X.env) [044] X.xe s
def PT (X:Cx) (e:Expr) (t:TT):Prop:=
 ∀(pins:List [001]) (s:Shared) (σ:St) (H:Hp) (Q:Bool->Hp->Prop),aV X pins σ H s->t σ H Q->wpAny (model X.prog X.w) X.A (isTrue e X.env (eval e X.env)) (TP X pins σ Q) X.xe s
def PW (X:Cx) (e:Expr) (t:TT):Prop:=
 ∀(whole:Sem Value) (pins:List [001]) (s:Shared) (σ:St) (H:Hp) (Q:Bool->Hp->Prop),aV X pins σ H s->t σ H Q->wpAny (model X.prog X.w) X.A (isTrue e X.env whole) (TP X pins σ Q) X.xe s
theorem PW.pt {X:Cx}{e:Expr}{t:TT}(h:PW X e t):PT X e t:=h _
def PA (X:Cx) (es:List Expr) (t:TA):Prop:=
 ∀(pos:Pos) (pins:List [001]) (s:Shared) (σ:St) (H:Hp) (Q:List V->Hp->Prop),aV X pins σ H s->t σ H Q->wpAny (model X.prog X.w) X.A (spliced [0020]) (AP X pins σ Q) X.xe s
def PS (X:Cx) (st:Stmt) (t:TS):Prop:=
 ∀(pins:List [001]) (s:Shared) (σ:St) (H:Hp) (D:fi),aV X pins σ H s->t D σ H->wpAny (model X.prog X.w) X.A (exec st X.env) (SP X pins D) X.xe s
def PSs (X:Cx) (st:List Stmt) (t:TS):Prop:=
 ∀(pins:List [001]) (s:Shared) (σ:St) (H:Hp) (D:fi),aV X pins σ H s->t D σ H->wpAny (model X.prog X.w) X.A (execs st X.env) (SP X pins D) X.xe s
inductive Bd (X:Cx) (st:List Stmt) (D:fi) (σ:St) (H:Hp):Prop
 |mk (t:TS) (_:PSs X st t) (_:t D σ H):Bd X st D σ H
theorem cJ {α:Type}{t:Sem α}{Q Q':α->Shared->Prop}{M:Model}{A:Around}{E:Value->Shared->Prop}{s:Shared}(h:wpAny M A t Q E s) (hQ: ∀a s,Q a s->Q' a s):wpAny M A t Q' E s:=wpAny_mono h hQ fun _ _ x=>x
end L2
namespace L2
open PySem PySem.Spec PyProof.Rows
section
variable {X:Cx}
theorem bin {a b:Expr}{ta tb:TE}(ha:PE X a ta) (hb:PE X b tb) {pins:List [001]}{s:Shared}{σ:St}{H:Hp}{R:V->V->Hp->Prop}(I:aV X pins σ H s) (h:ta σ H fun x H1=>tb σ H1 fun y H2=>R x y H2)
  {α:Type}{Q:α->Shared->Prop}{f:Value->Value->Sem α}
  (hf: ∀v u s2 x y H2,aV X pins σ H2 s2->bE x v->bE y u->R x y H2->wpAny (model X.prog X.w) X.A (f v u) Q X.xe s2):
  wpAny (model X.prog X.w) X.A (eval a X.env) (fun v s₁=>wpAny (model X.prog X.w) X.A (eval b X.env) (fun u s₂=>wpAny (model X.prog X.w) X.A (f v u) Q X.xe s₂) X.xe s₁) X.xe s:=by
 refine cJ [033] fun v s1 ⟨x,H1,I1,r1,q1⟩=>?_
 refine cJ (hb pins s1 σ H1 _ I1 q1) fun u s2 ⟨y,H2,I2,r2,q2⟩=>?_
 exact hf v u s2 x y H2 I2 r1 r2 q2
def d9:Nat->St->Hp->VK->Prop
 |0,some v::_,H,Q=>Q v H
 |i+1,_::σ,H,Q=>d9 i σ H Q
 |_,_,_,_=>False
theorem tvO_at {H:Hp}{Q:VK} : ∀ {i:Nat}{σ:St},d9 i σ H Q-> ∃v,σ[i]?=some (some v)/\Q v H
 |0,some v::_,h=>⟨v,rfl,h⟩
 |i+1,_::σ,h=>tvO_at (i:=i) (σ:=σ) h
theorem tv_of {H:Hp}{Q:VK}{v:V}(q:Q v H): ∀ {i:Nat}{σ:St},σ[i]?=some (some v)->d9 i σ H Q
 |0,some _::_,e=>Option.some.inj (Option.some.inj e)▸q
 |i+1,_::σ,e=>tv_of q (i:=i) (σ:=σ) e
def tC (v:V):TE:=fun _ H Q=>Q v H
theorem pe_var {i:Nat}{x:Str}{pos:Pos}(hN:X.N[i]?=some x) (hv:Vis X.env.scope x) (hd:[018]=false:=by decide) (hcd:(x == ("__classdict__":Str))=false:=by decide):PE X (.Name x pos) (d9 i):=by
 rw[02]
 obtain⟨v,e,h⟩:=tvO_at h
 obtain⟨m,hn,hl⟩:=I.loc
 obtain⟨u,r,l⟩:=hl i x v hN e hv
 have fin:EP X pins σ Q u s:=⟨v,H,I,r,h⟩
 rcases l with⟨hk,hm⟩|⟨hk,c,hc,hcell⟩
 ·exact wpAny_Name (wpAny_loadName_local I.ok.kind hk hn hm fin) hd
 ·rcases hk with hk|hk
  ·exact wpAny_Name (wpAny_loadName_cell I.ok.kind hk hc hcell fin) hd
  ·exact wpAny_Name (wpAny_loadName_free I.ok.kind hk hc hcell fin hcd) hd
theorem aU {i j pos} :PE X (.Constant (.int i) j pos) (tC (.int i)):=fun _ _ _ H _ I h=>wpAny_Constant_int ⟨.int i,H,I.tok _,⟨_,rfl⟩,h⟩
theorem pe_bl {b j pos} :PE X (.Constant (.bool b) j pos) (tC (.bl b)):=fun _ _ _ H _ I h=>Constant_bool ⟨.bl b,H,I,rfl,h⟩
theorem pe_non {j pos} :PE X (.Constant .none j pos) (tC .non):=fun _ _ _ H _ I h=>Constant_none ⟨.non,H,I,rfl,h⟩
theorem ax {x j pos} :PE X (.Constant (.str x) j pos) (tC (.str x)):=fun _ _ _ H _ I h=>Calls.Constant_str ⟨.str x,H,I.tok _,⟨_,rfl⟩,h⟩
def Gl (X:Cx) (x:Str):Prop:=X.env.kindOf x=some .globalImplicit
theorem gE {E:Value->Shared->Prop}{pins:List [001]}{s:Shared}{σ:St}{H:Hp}{x:Str}{u:Value}{pos:Pos}{Q:Value->Shared->Prop}(I:aV X pins σ H s) (hg:Gl X x) (hm:X.mg x=some u) (h:Q u s)
  (hd:[018]=false:=by decide):wpAny (model X.prog X.w) X.A (eval (.Name x pos) X.env) Q E s:=
 Calls.Name_function_global I.ok.kind hg (Calls.loadGlobal_global (by rw[I.ok.glob];exact I.mod.glob.keeps I.bk) hm h) hd
theorem j3k_ {E:Value->Shared->Prop}{pins:List [001]}{s:Shared}{σ:St}{H:Hp}{x:Str}{u:Value}{pos:Pos}{Q:Value->Shared->Prop}(I:aV X pins σ H s) (hg:Gl X x) (hm:X.mg x=none) (hv:bootBuiltins x=some u) (h:Q u s)
  (hn:x≠"__name__":=by decide) (hd:[018]=false:=by decide):wpAny (model X.prog X.w) X.A (eval (.Name x pos) X.env) Q E s:=by
 obtain⟨mb,h1,h2⟩:=I.mod.blt
 exact Calls.Name_function_global I.ok.kind hg (Calls.loadGlobal_builtin (by rw[I.ok.glob];exact I.mod.glob.keeps I.bk) hm (by rw[I.ok.blt];exact h1.keeps I.bk) ((h2 x hn).trans hv) h) hd
theorem j3j_ {x:Str}{v:V}{u:Value}{pos:Pos}(hg:Gl X x) (hm:X.mg x=some u) (r:bE v u) (hd:[018]=false:=by decide):PE X (.Name x pos) (tC v):=
 fun _ _ _ H _ I h=>gE I hg hm ⟨v,H,I,r,h⟩ hd
variable {a b:Expr}{ta tb:TE}{pos:Pos}
def PC (X:Cx) (op:CmpOp) (a b:Expr) (t:TE):Prop:=
 ∀(pins:List [001]) (s:Shared) (σ:St) (H:Hp) (Q:VK),aV X pins σ H s->t σ H Q->
  wpAny (model X.prog X.w) X.A (eval a X.env) (fun v s₁=>wpAny (model X.prog X.w) X.A (eval b X.env) (fun u s₂=>wpAny (model X.prog X.w) X.A (compareOp op v u) [044] X.xe s₂) X.xe s₁) X.xe s
theorem nobehind (b:Expr) {op:CmpOp}(h:op≠ .In) (h2:op≠ .NotIn):behindInMarks op b=false:=by
 have e1:(op == CmpOp.In)=false:=by cases op<;>first|rfl|exact absurd rfl h
 have e2:(op == CmpOp.NotIn)=false:=by cases op<;>first|rfl|exact absurd rfl h2
 cases b<;>simp [behindInMarks,e1,e2]
def tIsN (ta:TE):TE:=fun σ H Q=>ta σ H fun x H1=>Q (.bl (decide (x= .non))) H1
def tNotN (ta:TE):TE:=fun σ H Q=>ta σ H fun x H1=>Q (.bl (!decide (x= .non))) H1
theorem bE.none_iff {x:V}{v:Value}(r:bE x v):(v == Value.none)=decide (x= .non):=by
 cases x with
 |non=>cases r;rfl
 |bl _=>cases r;rfl
 |int _=>obtain⟨t,rfl⟩:=r;rfl
 |str _=>obtain⟨t,rfl⟩:=r;rfl
 |byt _=>obtain⟨t,rfl⟩:=r;rfl
 |flt _=>obtain⟨t,rfl⟩:=r;rfl
 |ref _=>cases r;rfl
 |ty _=>cases r;rfl
theorem pc_isN {j pos'} (ha:PE X a ta):PC X .Is a (.Constant .none j pos') (tIsN ta):=by
 rw[02]
 refine cJ [033] fun v s1 ⟨x,H1,I1,r1,q1⟩=>?_
 exact Constant_none (is_none_gen ⟨.bl _,H1,I1,by rw[r1.none_iff];rfl,q1⟩)
theorem j28_ {j pos'} (ha:PE X a ta):PC X .IsNot a (.Constant .none j pos') (tNotN ta):=by
 rw[02]
 refine cJ [033] fun v s1 ⟨x,H1,I1,r1,q1⟩=>?_
 exact Constant_none (isnot_none_gen ⟨.bl _,H1,I1,by rw[r1.none_iff];rfl,q1⟩)
inductive isBl (R:Bool->Hp->Prop) (x:V) (H1:Hp):Prop
 |mk (c:Bool) (_:x= .bl c) (_:R c H1):isBl R x H1
def tB (t:TE):TT:=fun σ H Q=>t σ H (isBl Q)
theorem fe {op:CmpOp}{t:TE}(h:PC X op a b t) (h1:behindInMarks op b=false:=by first|exact nobehind _ [06] [06]|rfl):PT X (.Compare a [op] [b] pos) (tB t):=by
 intro pins s σ H Q I hw
 refine wpAny_isTrue_Compare1 (cJ (h pins s σ H _ I hw) fun v s1 h1=>cJ h1 fun u s2 h2=>cJ h2 fun c s3 ⟨x,H1,I1,r1,q1⟩=>?_) h1
 obtain⟨d,rfl,q⟩:=q1
 cases r1
 exact wpAny_truthy_bool ⟨H1,I1,q⟩
theorem bd {e:Expr}{t:TE}(h:PE X e t) (he: ∀whole,isTrue e X.env whole=(do let v<-whole;standAt e.pos;holding [v] (truthy v)):=by intro _;rfl):PT X e (tB t):=by
 intro pins s σ H Q I hw
 refine isTrue_plain (cJ (h pins s σ H _ I hw) fun v s1 ⟨x,H1,I1,r1,q1⟩=>?_) (he _)
 obtain⟨d,rfl,q⟩:=q1
 cases r1
 exact wpAny_truthy_bool ⟨H1,I1,q⟩
variable {tA tB':TT}{rest:List Expr}
def tAnd (t u:TT):TT:=fun σ H Q=>t σ H fun c H1=>if c=true then u σ H1 Q else Q false H1
def tOr (t u:TT):TT:=fun σ H Q=>t σ H fun c H1=>if c=true then Q true H1 else u σ H1 Q
def tNot (t:TT):TT:=fun σ H Q=>t σ H fun c H1=>Q (!c) H1
theorem ye_ (ha:PT X a tA):PW X (.BoolOp .And [a] pos) tA:=by
 intro wh pins s σ H Q I h
 refine isTrue_and (cJ (ha pins s σ H Q I h) fun c s1 e=>?_)
 cases c with
 |true=>exact isTrue_and_nil e
 |false=>exact e
theorem j2h_ (ha:PT X a tA):PW X (.BoolOp .Or [a] pos) tA:=by
 intro wh pins s σ H Q I h
 refine isTrue_or (cJ (ha pins s σ H Q I h) fun c s1 e=>?_)
 cases c with
 |false=>exact isTrue_or_nil e
 |true=>exact e
theorem j11_ (ha:PT X a tA) (hb:PW X (.BoolOp .And (b::rest) pos) tB'):PW X (.BoolOp .And (a::b::rest) pos) (tAnd tA tB'):=by
 intro wh pins s σ H Q I h
 refine isTrue_and (cJ [033] fun c s1 ⟨H1,I1,q1⟩=>?_)
 cases c with
 |true=>exact hb wh pins s1 σ H1 Q I1 q1
 |false=>exact⟨H1,I1,q1⟩
theorem pw_or (ha:PT X a tA) (hb:PW X (.BoolOp .Or (b::rest) pos) tB'):PW X (.BoolOp .Or (a::b::rest) pos) (tOr tA tB'):=by
 intro wh pins s σ H Q I h
 refine isTrue_or (cJ [033] fun c s1 ⟨H1,I1,q1⟩=>?_)
 cases c with
 |true=>exact⟨H1,I1,q1⟩
 |false=>exact hb wh pins s1 σ H1 Q I1 q1
theorem eS (ha:PT X a tA):PT X (.UnaryOp .Not a pos) (tNot tA):=by
 rw[02]
 exact isTrue_not (ha pins s σ H (fun c H1=>Q (!c) H1) I h)
def tAndV (ta tb:TE):TE:=fun σ H Q=>ta σ H (isBl (fun c H1=>if c=true then tb σ H1 Q else Q (.bl false) H1))
def tOrV (ta tb:TE):TE:=fun σ H Q=>ta σ H (isBl (fun c H1=>if c=true then Q (.bl true) H1 else tb σ H1 Q))
theorem j36_ {op} {t:TE}(h:PE X a t):PE X (.BoolOp op [a] pos) t:=fun pins s σ H Q I hw=>BoolOp_one (h pins s σ H Q I hw)
theorem pe_and (ha:PE X a ta) (hb:PE X (.BoolOp .And (b::rest) pos) tb):PE X (.BoolOp .And (a::b::rest) pos) (tAndV ta tb):=by
 rw[02]
 refine BoolOp_and (cJ [033] fun v s1 ⟨x,H1,I1,r1,q1⟩=>?_)
 obtain⟨c,rfl,q1⟩:=q1
 cases r1
 refine wpAny_truthy_bool ?_
 cases c with
 |true=>exact hb pins s1 σ H1 Q I1 q1
 |false=>exact⟨.bl false,H1,I1,rfl,q1⟩
theorem pe_or (ha:PE X a ta) (hb:PE X (.BoolOp .Or (b::rest) pos) tb):PE X (.BoolOp .Or (a::b::rest) pos) (tOrV ta tb):=by
 rw[02]
 refine BoolOp_or (cJ [033] fun v s1 ⟨x,H1,I1,r1,q1⟩=>?_)
 obtain⟨c,rfl,q1⟩:=q1
 cases r1
 refine wpAny_truthy_bool ?_
 cases c with
 |false=>exact hb pins s1 σ H1 Q I1 q1
 |true=>exact⟨.bl true,H1,I1,rfl,q1⟩
def tIf (t:TT) (ta tb:TE):TE:=fun σ H Q=>t σ H fun c H1=>if c=true then ta σ H1 Q else tb σ H1 Q
theorem v9_ {c:Expr}(hc:PT X c tA) (ha:PE X a ta) (hb:PE X b tb):PE X (.IfExp c a b pos) (tIf tA ta tb):=by
 rw[02]
 refine wpAny_IfExp (cJ (hc pins s σ H _ I h) fun d s1 ⟨H1,I1,q1⟩=>?_)
 cases d with
 |true=>exact ha pins s1 σ H1 Q I1 q1
 |false=>exact hb pins s1 σ H1 Q I1 q1
end
end L2
namespace L2
open PySem PySem.Spec PyProof.Rows
def cK (K:PySem.W.Frag) (H:Hp) (a:Addr) (xs:List V):Prop:=
 Rd H a [085]\/
  ∃(o:Obj) (its:Array Value) (n:Nat),K.lookup a=some o/\o.cls= .type "list"/\o.dict=none/\o.data= .seq its n/\its.size<=sizeLine/\bL xs its.toList
def SqT (K:PySem.W.Frag) (H:Hp) (a:Addr) (xs:List V):Prop:=
 Rd H a (.tup xs)\/
  ∃(o:Obj) (its:Array Value) (n:Nat),K.lookup a=some o/\o.cls= .type "tuple"/\o.data= .seq its n/\its.size<=sizeLine/\bL xs its.toList
def absV:Value->Option V
 | .none=>some .non
 | .bool b=>some (.bl b)
 | .int i _=>some (.int i)
 | .str x _=>some (.str x)
 | .bytes b _=>some (.byt b)
 | .float b _=>some (.flt b)
 | .ref a=>some (.ref a)
 | .type n=>some (.ty n)
 |_=>none
theorem bE.abs {x:V}{u:Value}(r:bE x u):absV u=some x:=by
 cases x with
 |non=>cases r;rfl
 |bl _=>cases r;rfl
 |int _=>obtain⟨t,rfl⟩:=r;rfl
 |str _=>obtain⟨t,rfl⟩:=r;rfl
 |byt _=>obtain⟨t,rfl⟩:=r;rfl
 |flt _=>obtain⟨t,rfl⟩:=r;rfl
 |ref _=>cases r;rfl
 |ty _=>cases r;rfl
theorem bE.inj {x y:V}{u:Value}(r:bE x u) (q:bE y u):x=y:=Option.some.inj (r.abs.symm.trans q.abs)
theorem bL.inj: ∀ {xs ys:List V}{us:List Value},bL xs us->bL ys us->xs=ys
 |_,_,_, .nil, .nil=>rfl
 |_,_,_, .cons r t, .cons r' t'=>by rw[r.inj r',bL.inj t t']
section
variable {X:Cx}{pins:List (Addr×Obj)}{σ:St}{H:Hp}{s:Shared}{a:Addr}{xs ys:List V}
theorem cK.of {K:PySem.W.Frag}(h:H a=some [085]):cK K H a xs:= .inl (.inl h)
theorem SqT.of {K:PySem.W.Frag}(h:H a=some (.tup xs)):SqT K H a xs:= .inl (.inl h)
theorem aV.list (I:aV X pins σ H s) (h:cK X.K H a xs): ∃its:List Value,bL xs its/\PlainL s.heap a its.toArray/\xs.length<=sizeLine:=by
 rcases h with h|⟨o,its,n,hk,hc,hd,hs,hz,r⟩
 ·obtain⟨z,its,n,r,e⟩:=h.ok I.hok
  exact⟨its,r,⟨_,n,e,rfl,rfl,rfl⟩,z⟩
 ·refine⟨its.toList,r,⟨o,n,I.kIn a o hk,hc,hd,by simpa using hs⟩,?_⟩
  have e:=r.length
  simp only[Array.length_toList] at e
  lia
theorem aV.tuple (I:aV X pins σ H s) (h:SqT X.K H a xs): ∃its:List Value,bL xs its/\IsTup s.heap a its.toArray/\xs.length<=sizeLine:=by
 rcases h with h|⟨o,its,n,hk,hc,hs,hz,r⟩
 ·obtain⟨z,its,r,p⟩:=h.ok I.hok
  exact⟨its,r,p,z⟩
 ·refine⟨its.toList,r,⟨o,I.kIn a o hk,hc,n,by simpa using hs⟩,?_⟩
  have e:=r.length
  simp only[Array.length_toList] at e
  lia
theorem aV.list_inj (I:aV X pins σ H s) (h:cK X.K H a xs) (h':cK X.K H a ys):xs=ys:=by
 obtain⟨its,r,⟨o,n,e,_,_,d⟩,_⟩:=I.list h
 obtain⟨its',r',⟨o',n',e',_,_,d'⟩,_⟩:=I.list h'
 rw[e] at e';cases e'
 rw[d] at d'
 injection d' with d1 _
 have:its=its':=by simpa using congrArg Array.toList d1
 subst this
 exact r.inj r'
end
abbrev Cx.wish (X:Cx) (E:Value->Shared->Prop):Cx:= { X with xe:=E }
abbrev Cx.nox (X:Cx):Cx:=X.wish fun _ _=>False
theorem Cx.Ok.wish {X:Cx}(ok:X.Ok) (E:Value->Shared->Prop):(X.wish E).Ok:=
 ⟨ok.mod,ok.kind,ok.glob,ok.blt,ok.above,ok.inj,ok.has,ok.cab,ok.hd,ok.frames,ok.stk,ok.exf,ok.bs,ok.bsz,ok.noex,ok.exfs,ok.funs,ok.frf⟩
theorem Cx.Ok.unwish {X:Cx}{E:Value->Shared->Prop}(ok:(X.wish E).Ok):X.Ok:=
 ⟨ok.mod,ok.kind,ok.glob,ok.blt,ok.above,ok.inj,ok.has,ok.cab,ok.hd,ok.frames,ok.stk,ok.exf,ok.bs,ok.bsz,ok.noex,ok.exfs,ok.funs,ok.frf⟩
section
variable {X:Cx}{pins:List (Addr×Obj)}{σ:St}{H:Hp}{s:Shared}{E:Value->Shared->Prop}
theorem aV.wish (I:aV X pins σ H s) (E:Value->Shared->Prop):aV (X.wish E) pins σ H s:=⟨I.ok.wish E,I.os,I.bare,I.base,I.loc,I.cell,I.free,I.freeC,I.pin,I.hok,I.len⟩
theorem aV.unwish (I:aV (X.wish E) pins σ H s):aV X pins σ H s:=⟨I.ok.unwish,I.os,I.bare,I.base,I.loc,I.cell,I.free,I.freeC,I.pin,I.hok,I.len⟩
theorem SP.unwish {D:fi}{f:Flow}{s':Shared}(h:SP (X.wish E) pins D f s'):SP X pins D f s':=by
 cases f with
 |next=>obtain⟨σ',H',I,q⟩:=h;exact⟨σ',H',I.unwish,q⟩
 |brk=>obtain⟨σ',H',I,q⟩:=h;exact⟨σ',H',I.unwish,q⟩
 |cont=>obtain⟨σ',H',I,q⟩:=h;exact⟨σ',H',I.unwish,q⟩
 |ret u=>obtain⟨v,σ',H',I,r,q⟩:=h;exact⟨v,σ',H',I.unwish,r,q⟩
theorem PSs.nox {st:List Stmt}{t:TS}(h:PSs X.nox st t):PSs X st t:=fun pins s σ H D I hw=>
 wpAny_mono (h pins s σ H D (I.wish _) hw) (fun _ _ q=>q.unwish) fun _ _ z=>False.elim z
end
section
variable {X:Cx}{st:Stmt}{rest:List Stmt}{t u:TS}{e:Expr}{te:TE}{pos:Pos}
def tNext:TS:=fun D σ H=>D.nx σ H
def tSeq (t u:TS):TS:=fun D σ H=>t { D with nx:=u D } σ H
theorem aG:PSs X [] tNext:=fun _ _ σ H _ I h=>wpAny_execs_nil ⟨σ,H,I,h⟩
theorem ae (h1:PS X st t) (h2:PSs X rest u):PSs X (st::rest) (tSeq t u):=by
 rw[09]
 refine wpAny_execs_cons (cJ (h1 pins s σ H { D with nx:=u D } I h) fun f s1 q=>?_)
 cases f with
 |next=>
  obtain⟨σ',H',I',q⟩:=q
  exact h2 pins s1 σ' H' D I' q
 |ret v=>exact q
 |brk=>exact q
 |cont=>exact q
theorem ai (h1:PS X st t):PSs X [st] t:=by
 rw[09]
 refine wpAny_execs_cons (cJ (h1 pins s σ H D I h) fun f s1 q=>?_)
 cases f with
 |next=>exact wpAny_execs_nil q
 |ret v=>exact q
 |brk=>exact q
 |cont=>exact q
def tBreak:TS:=fun D σ H=>D.bk σ H
theorem j5j_:PS X (.Break pos) tBreak:=fun _ _ σ H _ I h=>wpAny_Break ⟨σ,H,I,h⟩
theorem aV.quiet {pins:List [001]}{σ:St}{H:Hp}{s:Shared}(I:aV X pins σ H s):interactive X.env=false:=by simp [interactive,I.ok.kind]
def tDrop (te:TE):TS:=fun D σ H=>te σ H fun _ H1=>D.nx σ H1
theorem au (he:PE X e te) (hs:swapsWith e none pos.line X.env=pure false:=by rfl):PS X (.Expr e pos) (tDrop te):=by
 rw[09]
 exact wpAny_Expr_any (cJ [056] fun v s1 ⟨x,H1,I1,r1,q1⟩=>⟨σ,H1,I1,q1⟩) I.quiet hs
def tRet (te:TE):TS:=fun D σ H=>te σ H D.rt
theorem ay (he:PE X e te):PS X (.Return (some e) pos) (tRet te):=by
 rw[09]
 exact wpAny_Return_some (cJ [056] fun v s1 ⟨x,H1,I1,r1,q1⟩=>⟨x,σ,H1,I1,r1,q1⟩)
def tIfS (c:TT) (t u:TS):TS:=fun D σ H=>c σ H fun b H1=>if b=true then t D σ H1 else u D σ H1
theorem aZ {c:Expr}{a b:List Stmt}{tc:TT}(hc:PT X c tc) (ha:PSs X a t) (hb:PSs X b u):PS X (.If c a b pos) (tIfS tc t u):=by
 rw[09]
 refine wpAny_If (cJ (hc pins s σ H _ I h) fun d s1 ⟨H1,I1,q1⟩=>?_)
 cases d with
 |true=>exact ha pins s1 σ H1 D I1 q1
 |false=>exact hb pins s1 σ H1 D I1 q1
end
abbrev TG:=V->St->Hp->(St->Hp->Prop)->Prop
abbrev TGs:=List V->St->Hp->(St->Hp->Prop)->Prop
def PG (X:Cx) (target:Expr) (t:TG):Prop:=
 ∀(pins:List [001]) (s:Shared) (σ:St) (H:Hp) (v:V) (u:Value) (Q:St->Hp->Prop),aV X pins σ H s->bE v u->t v σ H Q->
  wpAny (model X.prog X.w) X.A (assign target X.env u) (fun _ s'=> ∃σ' H',aV X pins σ' H' s'/\Q σ' H') X.xe s
def PGs (X:Cx) (ts:List Expr) (t:TGs):Prop:=
 ∀(pins:List [001]) (s:Shared) (σ:St) (H:Hp) (vs:List V) (us:List Value) (Q:St->Hp->Prop),aV X pins σ H s->bL vs us->t vs σ H Q->
  wpAny (model X.prog X.w) X.A (assignInOrder ((assignEach ts X.env).map (·.2)) us) (fun _ s'=> ∃σ' H',aV X pins σ' H' s'/\Q σ' H') X.xe s
abbrev TIp:=V->V->Hp->VK->Prop
def PIp (X:Cx) (op:Operator) (t:TIp):Prop:=
 ∀(pins:List [001]) (s:Shared) (σ:St) (H:Hp) (x y:V) (v u:Value) (Q:VK),aV X pins σ H s->bE x v->bE y u->t x y H Q->
  wpAny (model X.prog X.w) X.A (inplaceOp op v u) [044] X.xe s
section
variable {X:Cx}{pos:Pos}
def gName (i:Nat):TG:=fun v σ H Q=>Q (σ.set i (some v)) H
theorem dS {i:Nat}{x:Str}(hN:X.N.Nodup) (hi:X.N[i]?=some x) (hx:Loc X.env.scope x) (hf:X.fn x=true\/X.env.scope.names.lookup x=some .local:=by first|exact .inl rfl|exact .inr rfl|assumption):PG X (.Name x pos) (gName i):=by
 intro pins s σ H v u Q I r h
 exact wpAny_assign_Name (yu_ I hN hi hx r (fun s' I'=>⟨_,H,I',h⟩) hf)
def gNil:TGs:=fun vs σ H Q=>vs=[]/\Q σ H
def gCons (t:TG) (u:TGs):TGs:=fun vs σ H Q=> ∃v r,vs=v::r/\t v σ H fun σ' H'=>u r σ' H' Q
theorem pgs_nil:PGs X [] gNil:=by
 intro pins s σ H vs us Q I r h
 obtain⟨e,h⟩:=h
 subst e
 cases r
 exact assignInOrder_nil ⟨σ,H,I,h⟩
theorem j4h_ {e:Expr}{es:List Expr}{t:TG}{u:TGs}(h1:PG X e t) (h2:PGs X es u)
  (hs:(assignEach (e::es) X.env).map (·.2)=assign e X.env::(assignEach es X.env).map (·.2):=by rfl):PGs X (e::es) (gCons t u):=by
 intro pins s σ H vs us Q I r h
 obtain⟨v,vr,e1,h⟩:=h
 subst e1
 cases r with
 |cons r rr=>
  rw[hs]
  refine assignInOrder_cons (cJ (h1 pins s σ H _ _ _ I r h) fun _ s1 ⟨σ1,H1,I1,q1⟩=>?_)
  exact h2 pins s1 σ1 H1 _ _ Q I1 rr q1
def gTup (K:PySem.W.Frag) (n:Nat) (t:TGs):TG:=fun v σ H Q=> ∃a xs,v= .ref a/\SqT K H a xs/\xs.length=n/\t xs σ H Q
theorem pg_tup {es:List Expr}{k:Nat}{t:TGs}{n:Nat}(hc:X.calm=true) (h:PGs X es t)
  (hn:(assignEach es X.env).length=n:=by rfl) (hst:(assignEach es X.env).findIdx? (·.1)=none:=by rfl):PG X (.Tuple es k pos) (gTup X.K n t):=by
 intro pins s σ H v u Q I r hw
 obtain⟨a,xs,e1,hq,hl,hw⟩:=hw
 subst e1
 cases r
 obtain⟨its,rv,ht,hz⟩:=I.tuple hq
 refine assign_Tuple_tuple (I.ok.hd hc) ht (by simp [hn,<-hl,rv.length]) hst fun h' hx=>?_
 have I1:aV X pins σ H { s with heap:=h' } :=I.kept (t':=s.toks) fun b o e=>hx b o (Nat.ne_of_lt [031]) e
 exact h pins _ σ H xs _ Q I1 (by simpa using rv) hw
def tAsg (te:TE) (g:TG):TS:=fun D σ H=>te σ H fun x H1=>g x σ H1 D.nx
theorem aE {i:Nat}{x:Str}{e:Expr}{te:TE}{pos':Pos}(hN:X.N.Nodup) (hi:X.N[i]?=some x) (hx:Loc X.env.scope x) (he:PE X e te) (hs:swapsWith e (some (.Name x pos')) pos.line X.env=pure false:=by rfl) (hf:X.fn x=true\/X.env.scope.names.lookup x=some .local:=by first|exact .inl rfl|exact .inr rfl|assumption):
  PS X (.Assign [.Name x pos'] e pos) (tAsg te (gName i)):=by
 rw[09]
 refine wpAny_Assign_Name (cJ [056] fun v s1 ⟨y,H1,I1,r1,q1⟩=>?_) hs
 exact yu_ I1 hN hi hx r1 (fun s2 I2=>⟨_,H1,I2,q1⟩) hf
def tAug (i:Nat) (te:TE) (ti:TIp):TS:=fun D σ H=> ∃x,σ[i]?=some (some x)/\te σ H fun y H1=>ti x y H1 fun z H2=>D.nx (σ.set i (some z)) H2
theorem j0z_ {i:Nat}{x:Str}{e:Expr}{te:TE}{op:Operator}{ti:TIp}{pos':Pos}(hN:X.N.Nodup) (hi:X.N[i]?=some x) (hx:Loc X.env.scope x) (he:PE X e te) (ho:PIp X op ti) (hf:X.fn x=true\/X.env.scope.names.lookup x=some .local:=by first|exact .inl rfl|exact .inr rfl|assumption):
  PS X (.AugAssign (.Name x pos') op e pos) (tAug i te ti):=by
 rw[09]
 obtain⟨v,e1,h⟩:=h
 obtain⟨m,hn,hl⟩:=I.loc
 have vis:Vis X.env.scope x:=by rcases hx with k|k;exact .inl k;exact .inr (.inl k)
 obtain⟨u,r,l⟩:=hl i x v hi e1 vis
 refine wpAny_AugAssign_Name ?_
 have go:wpAny (model X.prog X.w) X.A (eval e X.env) (fun w s₂=>wpAny (model X.prog X.w) X.A (inplaceOp op u w) (fun r s₃=>wpAny (model X.prog X.w) X.A (storeName X.env x r) (fun _=>SP X pins D .next) X.xe s₃) X.xe s₂) X.xe s:=by
  refine cJ [056] fun w s1 ⟨y,H1,I1,r1,q1⟩=>?_
  refine cJ (ho pins s1 σ H1 v y u w _ I1 r r1 q1) fun z s2 ⟨zv,H2,I2,r2,q2⟩=>?_
  exact yu_ I2 hN hi hx r2 (fun s3 I3=>⟨_,H2,I3,q2⟩) hf
 rcases l with⟨hk,hm⟩|⟨hk,c,hc,hcell⟩
 ·exact wpAny_loadName_local I.ok.kind hk hn hm go
 ·rcases hk with hk|hk
  ·exact wpAny_loadName_cell I.ok.kind hk hc hcell go
  ·rcases hx with k|k
   ·have:X.env.scope.names.lookup x=some .free:=hk
    rw[k] at this;cases this
   ·have:X.env.scope.names.lookup x=some .free:=hk
    rw[k] at this;cases this
def ipI (f:Int->Int->Int):TIp:=fun x y H Q=> ∃i j,x= .int i/\y= .int j/\Q (.int (f i j)) H
theorem j16_:PIp X .Add (ipI fun i j=>i+j):=by
 intro pins s σ H x y v u Q I r1 r2 h
 obtain⟨i,j,e1,e2,q⟩:=h
 subst e1;subst e2
 obtain⟨t,rfl⟩:=r1
 obtain⟨t',rfl⟩:=r2
 exact iadd_int ⟨.int _,H,I.tok _,⟨_,rfl⟩,q⟩
end
section
variable {X:Cx}{pos:Pos}
def tWhile (c:TT) (tb:TS):TS:=fun D σ H=> ∃W:Nat->St->Hp->Prop,(∃m,W m σ H)/\ ∀m σ H,W m σ H->
 c σ H fun b H1=>if b=true then∃N:St->Hp->Prop,(∀σ' H',N σ' H'-> ∃m',m'<m/\W m' σ' H')/\tb { D with nx:=N,ct:=N,bk:=D.nx } σ H1 else D.nx σ H1
theorem dR {c:Expr}{body:List Stmt}{tc:TT}{tb:TS}(hp:PassesOwn (model X.prog X.w) X.A X.env X.xe) (hc:PT X c tc) (hb:PSs X body tb):PS X (.While c body [] pos) (tWhile tc tb):=by
 rw[09]
 obtain⟨W,⟨m0,w0⟩,turn⟩:=h
 refine wpAny_While (codeAny_whileLoop (fun n s'=> ∃σ' H',aV X pins σ' H' s'/\W n σ' H') ?_ m0 ⟨σ,H,I,w0⟩)
 rintro n s1 ⟨σ1,H1,I1,w1⟩
 refine wpAny_passesOwn hp (cJ (hc pins s1 σ1 H1 _ I1 (turn n σ1 H1 w1)) fun b s2 ⟨H2,I2,q2⟩=>?_)
 cases b with
 |true=>
  obtain⟨N,hN,q2⟩:=q2
  rw[if_pos rfl]
  refine wpAny_passesOwn hp (cJ (hb pins s2 σ1 H2 _ I2 q2) fun f s3 q3=>?_)
  cases f with
  |next=>
   obtain⟨σ3,H3,I3,n3⟩:=q3
   obtain⟨m',hm,w3⟩:=hN σ3 H3 n3
   exact⟨m',hm,σ3,H3,I3,w3⟩
  |cont=>
   obtain⟨σ3,H3,I3,n3⟩:=q3
   obtain⟨m',hm,w3⟩:=hN σ3 H3 n3
   exact⟨m',hm,σ3,H3,I3,w3⟩
  |brk=>exact q3
  |ret v=>exact q3
 |false=>
  rw[if_neg Bool.false_ne_true]
  exact wpAny_execs_nil ⟨σ1,H2,I2,q2⟩
end
structure It where
 go:Nat->Hp->Prop
 yld:Nat->Hp->V->Hp->Prop
 stop:Nat->Hp->Prop
def ug_ (X:Cx) (pins:List [001]) (H:Hp) (b:Addr):Prop:=
 H b=none/\b≠X.env.locals/\b∉X.fs/\(b∈X.ex\/X.s_0.heap.objs.size<=b)/\(∀x c,X.env.cells.lookup x=some c->c≠b)/\ ∀p∈X.pn++pins,p.1≠b
theorem aV.fpOk {X:Cx}{pins:List [001]}{σ:St}{H H':Hp}{s:Shared}{b:Addr}(I:aV X pins σ H s) (hb:s.heap.objs.size<=b) (hn:H' b=none):ug_ X pins H' b:=by
 refine⟨hn,Nat.ne_of_gt (Nat.lt_of_lt_of_le I.lt hb),I.nofs hb, .inr (Nat.le_trans I.sz hb),fun x c e z=>?_,fun p hp z=>?_⟩
 ·obtain⟨v,q⟩:=I.cell x c e
  exact absurd (Nat.lt_of_lt_of_le q.lt (by rw[z];exact hb)) [048]
 ·exact absurd (Nat.lt_of_lt_of_le (Heap.lt_size (I.pin p hp).1) (by rw[z];exact hb)) [048]
structure Turn (P:Program) (w:World) (K:PySem.W.Frag) (tg:Expr) (J:It) (fp:List Addr) (it:Addr) (tn:Nat->Heap->Prop):Prop where
 mem:it∈fp
 obj: ∀i h,tn i h-> ∀b∈fp,∃o,h.get? b=some o/\ ∀v,o.data≠ .cell v
 keep: ∀i h h',tn i h->(∀b∈fp,∀o,h.get? b=some o->h'.get? b=some o)->tn i h'
 item: ∀(X:Cx),X.prog=P->X.w=w->X.K=K->X.calm=true-> ∀(i:Nat) (pins:List [001]) (s:Shared) (σ:St) (H:Hp) (E:Value->Shared->Prop),aV X pins σ H s->(∀b∈fp,ug_ X pins H b)->tn i s.heap->J.go i H->
  wpAny (model P w) X.A (pyNext (.ref it)) (fun r s1=> ∃u,r=some u/\
   wpAny (model P w) X.A (letOwnedTupleGo tg (.ref it) u) (fun _ s2=> ∃x H',aV X pins σ H' s2/\bE x u/\J.yld i H x H'/\tn (i+1) s2.heap/\ ∀b∈fp,H' b=none) E s1) E s
 done: ∀(X:Cx),X.prog=P->X.w=w->X.K=K->X.calm=true-> ∀(i:Nat) (pins:List [001]) (s:Shared) (σ:St) (H:Hp) (E:Value->Shared->Prop),aV X pins σ H s->(∀b∈fp,ug_ X pins H b)->tn i s.heap->J.stop i H->
  wpAny (model P w) X.A (pyNext (.ref it)) (fun r s1=>r=none/\aV X pins σ H s1) E s
 self: ∀(A:Around) (i:Nat) (s:Shared) (Q:Value->Shared->Prop) (E:Value->Shared->Prop),tn i s.heap->Q (.ref it) s->wpAny (model P w) A (pyIter (.ref it)) Q E s
abbrev TI:=St->Hp->(It->Hp->Prop)->Prop
def PIE (X:Cx) (pins:List [001]) (σ:St) (tg:Expr) (R:It->Hp->Prop) (itv:Value) (s2:Shared):Prop:=
 ∃(it:Addr) (fp:List Addr) (tn:Nat->Heap->Prop) (J:It) (H':Hp),itv= .ref it/\aV X pins σ H' s2/\Turn X.prog X.w X.K tg J fp it tn/\tn 0 s2.heap/\(∀b∈fp,ug_ X pins H' b)/\R J H'
def PI (X:Cx) (tg iter:Expr) (wi:TI):Prop:=
 ∀(pins:List [001]) (s:Shared) (σ:St) (H:Hp) (R:It->Hp->Prop),aV X pins σ H s->wi σ H R->
  wpAny (model X.prog X.w) X.A (eval iter X.env) (fun v s1=>wpAny (model X.prog X.w) X.A (pyIter v) (PIE X pins σ tg R) X.xe s1) X.xe s
theorem go_of {M:Model}{A:Around}{E:Value->Shared->Prop}{s:Shared}{tg:Expr}{it:Addr}{u:Value}{o:Obj}{n:String}{vs:Array Value}{Q:Unit->Shared->Prop}(ho:s.heap.get? it=some o) (hc:o.cls= .type n) (hd:o.data= .fields vs)
  (hn:["enumerate","zip","dict_itemiterator","dict_reverseitemiterator","odict_iterator","itertools.zip_longest","itertools.pairwise"].contains n=false) (hQ:Q () s):wpAny M A (letOwnedTupleGo tg (.ref it) u) Q E s:=by
 unfold letOwnedTupleGo
 cases tg<;>first
  |exact wpAny_pure hQ
  | (cases u<;>first
    |exact wpAny_pure hQ
    | (refine wpAny_bind (wpAny_load ho ?_)
       rw[hc,hd]
       show wpAny M A (if(["enumerate","zip","dict_itemiterator","dict_reverseitemiterator","odict_iterator","itertools.zip_longest","itertools.pairwise"].contains n&&vs[0]? == some (rawInt _))=true then _ else _) Q E s
       rw[if_neg (by intro h;rw[hn,Bool.false_and] at h;cases h)]
       exact wpAny_pure hQ))
def Itl (K:PySem.W.Frag) (a:Addr):It:=
 ⟨fun i H=> ∃xs x,cK K H a xs/\xs[i]?=some x,fun i H x H'=>H'=H/\ ∀xs,cK K H a xs->xs[i]?=some x,fun i H=> ∃xs,cK K H a xs/\xs.length<=i⟩
theorem j7l_ {P:Program}{w:World}{K:PySem.W.Frag}{tg:Expr}(a it:Addr):Turn P w K tg (Itl K a) [it] it (fun i h=>h.IsListIter it a i) where
 mem:=by simp
 obj:=fun i h st b hb=>by
  have e:b=it:=by simpa using hb
  subst e
  obtain⟨o,e,c,d⟩:=st
  exact⟨o,e,fun v z=>by rw[d] at z;cases z⟩
 keep:=fun i h h' st k=>st.at fun o e=>k it [022] o e
 item:=by
  rw[019]
  obtain⟨xs,x,hq,hx⟩:=hg
  obtain⟨its,rv,p,hz⟩:=I.list hq
  obtain⟨u,hu,ru⟩:=rv.get hx
  obtain⟨f0,f1,f2,f3,f4,f5⟩:=hf it [022]
  refine wpAny_pyNext_list_item st p.isList (x:=u) (by simpa using hu) fun h' st' sb=>?_
  have I1:aV X pins σ H { s with heap:=h' } :=I.turned (t':=s.toks) (fun b o hb e=>(sb.2 b hb).trans e) f0 f1 f3 f4 f5
  obtain⟨o,e,c,d⟩:=id st'
  exact⟨u,rfl,go_of (s:= { s with heap:=h' }) e c d [06] ⟨x,H,I1,ru,⟨rfl,fun ys hy=>by rw[I.list_inj hy hq];exact hx⟩,st',fun b hb=>(hf b hb).1⟩⟩
 done:=by
  rw[019]
  obtain⟨xs,hq,hx⟩:=hg
  obtain⟨its,rv,p,hz⟩:=I.list hq
  obtain⟨f0,f1,f2,f3,f4,f5⟩:=hf it [022]
  have hl:=rv.length
  exact wpAny_pyNext_list_end (I.ok.hd hc) st p.isList (by simp;lia) fun h' eb=>⟨rfl,I.turned (t':=s.toks) (fun b o hb e=>eb b o hb e) f0 f1 f3 f4 f5⟩
 self:=fun _ _ _ _ _ st h=>wpAny_pyIter_listiter st h
end L2
namespace L2
open PySem PySem.Spec PyProof.Rows
section
variable {X:Cx}{tg:Expr}
inductive isItl (K:PySem.W.Frag) (R:It->Hp->Prop) (x:V) (H1:Hp):Prop
 |mk (a:Addr) (_:x= .ref a) (_:(∃xs,cK K H1 a xs)) (_:R (Itl K a) H1):isItl K R x H1
def iList (K:PySem.W.Frag) (tl:TE):TI:=fun σ H R=>tl σ H (isItl K R)
theorem fX {l:Expr}{tl:TE}(hl:PE X l tl):PI X tg l (iList X.K tl):=by
 intro pins s σ H R I h
 refine cJ (hl pins s σ H _ I h) fun v s1 ⟨x,H1,I1,r1,q1⟩=>?_
 obtain⟨a,e,⟨xs,hq⟩,q⟩:=q1
 subst e
 cases r1
 obtain⟨its,rv,p,hz⟩:=I1.list hq
 refine wpAny_pyIter_list p.isList ?_
 refine⟨s1.heap.objs.size,[s1.heap.objs.size],_,_,H1,rfl,I1.kept (t':=s1.toks) fun b o e=>Heap.get?_push_of_some _ e,j7l_ a _,⟨_,Heap.get?_push_size _ rfl,rfl,rfl⟩,fun b hb=>?_,q⟩
 have e:b=s1.heap.objs.size:=by simpa using hb
 subst e
 exact I1.fpOk [007] (I1.hok.fresh [007])
def tFor (wi:TI) (g:TG) (tb:TS):TS:=fun D σ H=>wi σ H fun J H1=> ∃W:Nat->Nat->St->Hp->Prop,(∃m,W 0 m σ H1)/\ ∀i m σ H,W i m σ H->
 (J.stop i H/\D.nx σ H)\/(J.go i H/\ ∃N:St->Hp->Prop,(∀σ' H',N σ' H'-> ∃m',m'<m/\W (i+1) m' σ' H')/\ ∀x H',J.yld i H x H'->g x σ H' fun σ2 H2=>tb { D with nx:=N,ct:=N,bk:=D.nx } σ2 H2)
def wr_ (fp:List Addr) (h:Heap):List [001]:=fp.filterMap fun b=>(h.get? b).map fun o=>(b,o)
theorem jo_ {fp:List Addr}{h:Heap}{b:Addr}{o:Obj}(hb:b∈fp) (e:h.get? b=some o):(b,o)∈wr_ fp h:=List.mem_filterMap.mpr ⟨b,hb,by rw[e];rfl⟩
theorem j6b_ {fp:List Addr}{h:Heap}{p:Addr×Obj}(hp:p∈wr_ fp h):p.1∈fp/\h.get? p.1=some p.2:=by
 obtain⟨b,hb,e⟩:=List.mem_filterMap.mp hp
 cases q:h.get? b with
 |none=>rw[q] at e;cases e
 |some o=>
  rw[q] at e
  have e':(b,o)=p:=Option.some.inj e
  subst e'
  exact⟨hb,q⟩
theorem aV.pinned {pins:List [001]}{σ:St}{H:Hp}{s:Shared}{fp:List Addr}(I:aV X pins σ H s) (hf: ∀b∈fp,ug_ X pins H b) (ho: ∀b∈fp,∃o,s.heap.get? b=some o/\ ∀v,o.data≠ .cell v):aV X (pins++wr_ fp s.heap) σ H s:=
 I.pins_of fun p hp=>(List.mem_append.mp hp).elim (fun z=>I.pin p (List.mem_append_right _ z)) fun z=>by
  obtain⟨hb,e⟩:=j6b_ z
  obtain⟨f0,f1,f2,_⟩:=hf p.1 hb
  obtain⟨o,e',d⟩:=ho p.1 hb
  rw[e] at e';cases e'
  exact⟨e,f0,f1,f2,d⟩
theorem aV.unpinned {pins pl:List [001]}{σ:St}{H:Hp}{s:Shared}(I:aV X (pins++pl) σ H s):aV X pins σ H s:=I.pins_of fun p hp=>I.pin p (List.mem_append_right _ (List.mem_append_left _ hp))
theorem gX {iter:Expr}{body:List Stmt}{wi:TI}{g:TG}{tb:TS}{pos:Pos}(hp:PassesOwn (model X.prog X.w) X.A X.env X.xe) (hc:X.calm=true) (hi:PI X tg iter wi) (hg:PG X tg g) (hb:PSs X body tb)
  (hs: ∀x,foldedSetIterable iter X.env x=pure x:=by intro _;rfl):PS X (.For tg iter body [] pos) (tFor wi g tb):=by
 rw[09]
 refine wpAny_For (cJ (hi pins s σ H _ I h) fun v s1 h1=>cJ h1 fun itv s2 h2=>?_) hs
 obtain⟨it,fp,tn,J,H2,e,I2,T,st2,f2,W,⟨m0,w0⟩,turn⟩:=h2
 subst e
 have stat: ∀ {H':Hp},(∀b∈fp,H' b=none)-> ∀b∈fp,ug_ X pins H' b:=fun hn b hb=>⟨hn b hb,(f2 b hb).2⟩
 refine codeAny_forLoop_any (fun n s'=> ∃i σ' H',aV X pins σ' H' s'/\tn i s'.heap/\(∀b∈fp,H' b=none)/\W i n σ' H') ?_ m0 ⟨0,σ,H2,I2,st2,fun b hb=>(f2 b hb).1,w0⟩
 rintro n s3 ⟨i,σ3,H3,I3,st3,fr3,w3⟩
 rcases turn i n σ3 H3 w3 with⟨stop,qn⟩|⟨go,N,hN,step⟩
 ·refine wpAny_passesOwn hp (cJ (T.done X rfl rfl rfl hc i pins s3 σ3 H3 X.xe I3 (stat fr3) st3 stop) fun r s4 ⟨hr,I4⟩=>?_)
  subst hr
  exact wpAny_execs_nil ⟨σ3,H3,I4,qn⟩
 ·refine wpAny_passesOwn hp (cJ (T.item X rfl rfl rfl hc i pins s3 σ3 H3 X.xe I3 (stat fr3) st3 go) fun r s4 ⟨u,hr,h4⟩=>?_)
  subst hr
  refine wpAny_passesOwn hp (cJ h4 fun _ s5 ⟨x,H5,I5,r5,y5,st5,fr5⟩=>?_)
  have I5':=I5.pinned (stat fr5) (T.obj _ _ st5)
  refine wpAny_passesOwn hp (cJ (hg _ s5 σ3 H5 x u _ I5' r5 (step x H5 y5)) fun _ s6 ⟨σ6,H6,I6,q6⟩=>?_)
  refine wpAny_passesOwn hp (cJ (hb _ s6 σ6 H6 _ I6 q6) fun f s7 q7=>?_)
  have again: ∀ {σ7:St}{H7:Hp},aV X (pins++wr_ fp s5.heap) σ7 H7 s7->N σ7 H7-> ∃m,m<n/\ ∃i σ' H',aV X pins σ' H' s7/\tn i s7.heap/\(∀b∈fp,H' b=none)/\W i m σ' H':=fun {σ7 H7} I7 n7=>by
   obtain⟨m',hm,w7⟩:=hN σ7 H7 n7
   refine⟨m',hm,i+1,σ7,H7,I7.unpinned,T.keep _ _ _ st5 fun b hb o e=>(I7.pin (b,o) (List.mem_append_right _ (List.mem_append_right _ (jo_ hb e)))).1,fun b hb=>?_,w7⟩
   obtain⟨o,e,d⟩:=T.obj _ _ st5 b hb
   exact(I7.pin (b,o) (List.mem_append_right _ (List.mem_append_right _ (jo_ hb e)))).2.1
  cases f with
  |next=>obtain⟨σ7,H7,I7,n7⟩:=q7;exact again I7 n7
  |cont=>obtain⟨σ7,H7,I7,n7⟩:=q7;exact again I7 n7
  |brk=>obtain⟨σ7,H7,I7,q7⟩:=q7;exact⟨σ7,H7,I7.unpinned,q7⟩
  |ret v=>obtain⟨x7,σ7,H7,I7,r7,q7⟩:=q7;exact⟨x7,σ7,H7,I7.unpinned,r7,q7⟩
end
theorem ga {K:PySem.W.Frag}{a:Addr}{xs:List V}{g:TG}{tb:TS}{D:fi}{σ:St}{H:Hp}(Pv:Nat->St->Hp->Prop) (h0:Pv 0 σ H) (hl: ∀i σ H,i<=xs.length->Pv i σ H->cK K H a xs)
  (hs: ∀i x σ H,xs[i]?=some x->Pv i σ H->g x σ H fun σ2 H2=>tb { D with nx:=Pv (i+1),ct:=Pv (i+1),bk:=D.nx } σ2 H2) (hd: ∀σ H,Pv xs.length σ H->D.nx σ H):
  ∃W:Nat->Nat->St->Hp->Prop,(∃m,W 0 m σ H)/\ ∀i m σ H,W i m σ H->
   ((Itl K a).stop i H/\D.nx σ H)\/((Itl K a).go i H/\ ∃N:St->Hp->Prop,(∀σ' H',N σ' H'-> ∃m',m'<m/\W (i+1) m' σ' H')/\ ∀x H',(Itl K a).yld i H x H'->g x σ H' fun σ2 H2=>tb { D with nx:=N,ct:=N,bk:=D.nx } σ2 H2):=by
 refine⟨fun i m σ H=>m=xs.length-i/\i<=xs.length/\Pv i σ H,⟨xs.length,by simp,Nat.zero_le _,h0⟩,?_⟩
 rintro i m σ H ⟨rfl,hi,p⟩
 have q:=hl i σ H hi p
 by_cases hlt:i<xs.length
 ·refine .inr ⟨⟨xs,xs[i],q,by simp [hlt]⟩,Pv (i+1),fun σ' H' p'=>⟨xs.length-(i+1),by lia,rfl,hlt,p'⟩,fun x H' y=>?_⟩
  obtain⟨e,y⟩:=y
  subst e
  exact hs i x σ _ (y xs q) p
 ·have e:i=xs.length:=by lia
  subst e
  exact .inl ⟨⟨xs,q,Nat.le_refl _⟩,hd σ H p⟩
end L2
namespace L2
open PySem PySem.Spec PyProof.Rows
abbrev R2:=V->V->Hp->VK->Prop
def OpR (X:Cx) (f:Value->Value->Sem Value) (r:R2):Prop:=
 ∀(pins:List [001]) (s:Shared) (σ:St) (H:Hp) (x y:V) (v u:Value) (Q:VK),aV X pins σ H s->bE x v->bE y u->r x y H Q->
  wpAny (model X.prog X.w) X.A (f v u) [044] X.xe s
def UnR (X:Cx) (f:Value->Sem Value) (r:V->Hp->VK->Prop):Prop:=
 ∀(pins:List [001]) (s:Shared) (σ:St) (H:Hp) (x:V) (v:Value) (Q:VK),aV X pins σ H s->bE x v->r x H Q->
  wpAny (model X.prog X.w) X.A (f v) [044] X.xe s
def io (X:Cx) (f:Value) (r:List V->Hp->VK->Prop):Prop:=
 ∀(pins:List [001]) (s:Shared) (σ:St) (H:Hp) (xs:List V) (us:List Value) (Q:VK),aV X pins σ H s->bL xs us->r xs H Q->
  wpAny (model X.prog X.w) X.A (call f us) [044] X.xe s
def tOp (r:R2) (ta tb:TE):TE:=fun σ H Q=>ta σ H fun x H1=>tb σ H1 fun y H2=>r x y H2 Q
def tUn (r:V->Hp->VK->Prop) (ta:TE):TE:=fun σ H Q=>ta σ H fun x H1=>r x H1 Q
inductive rI (C:Int->Int->Prop) (g:Int->Int->V) (x:V) (y:V) (H:Hp) (Q:VK):Prop
 |mk (i j:Int) (_:x= .int i) (_:y= .int j) (_:C i j) (_:Q (g i j) H):rI C g x y H Q
inductive rI0 (g:Int->Int->V) (x:V) (y:V) (H:Hp) (Q:VK):Prop
 |mk (i j:Int) (_:x= .int i) (_:y= .int j) (_:Q (g i j) H):rI0 g x y H Q
inductive rU (g:Int->V) (x:V) (H:Hp) (Q:VK):Prop
 |mk (i:Int) (_:x= .int i) (_:Q (g i) H):rU g x H Q
section
variable {X:Cx}{a b c:Expr}{ta tb tc:TE}{pos:Pos}
theorem binT (ha:PE X a ta) (hb:PE X b tb) {pins:List [001]}{s:Shared}{σ:St}{H:Hp}{R:V->V->Hp->Prop}(I:aV X pins σ H s)
  (h:ta σ H fun x H1=>tb σ H1 fun y H2=>R x y H2) {Q:Value->Shared->Prop}{f:Value->Value->Sem Value}
  (hf: ∀v u s2 x y H2,aV X pins σ H2 s2->bE x v->bE y u->R x y H2->wpAny (model X.prog X.w) X.A (f v u) Q X.xe s2):
  wpAny (model X.prog X.w) X.A (eval a X.env) (fun v s₁=>wpAny (model X.prog X.w) X.A (eval b X.env) (fun u s₂=>wpAny (model X.prog X.w) X.A (f v u) Q X.xe s₂) X.xe s₁) X.xe s:=by
 refine cJ [033] fun v s1 ⟨x,H1,I1,r1,q1⟩=>?_
 refine cJ (hb pins s1 σ H1 _ I1 q1) fun u s2 ⟨y,H2,I2,r2,q2⟩=>?_
 exact hf v u s2 x y H2 I2 r1 r2 q2
theorem bh {op:Operator}{r:R2}(ho:OpR X (binaryOp op) r) (ha:PE X a ta) (hb:PE X b tb):PE X (.BinOp a op b pos) (tOp r ta tb):=by
 rw[02]
 exact wpAny_BinOp (binT ha hb I h fun v u s2 x y H2 I2 rx ry q=>ho pins s2 σ H2 x y v u Q I2 rx ry q)
theorem pe_un {op:UnaryOp}{r:V->Hp->VK->Prop}(ho:UnR X (unaryOp op) r) (ha:PE X a ta):PE X (.UnaryOp op a pos) (tUn r ta):=by
 rw[02]
 exact UnaryOp_ (cJ [033] fun v s1 ⟨x,H1,I1,r1,q1⟩=>ho pins s1 σ H1 x v Q I1 r1 q1)
theorem opI {f:Value->Value->Sem Value}{C:Int->Int->Prop}{g:Int->Int->Int}
  (rule: ∀(i j:Int) (t u:Tok) (s:Shared) (Q:Value->Shared->Prop) (E:Value->Shared->Prop),C i j->Q (.int (g i j) s.toks) { s with toks:=s.toks+1 } ->wpAny (model X.prog X.w) X.A (f (.int i t) (.int j u)) Q E s):
  OpR X f (rI C fun i j=> .int (g i j)):=by
 rw[013]
 obtain⟨i,j,rfl,rfl,hc,q⟩:=h
 rw[014]
 obtain⟨t',rfl⟩:=ry
 exact rule i j t t' s _ _ hc ⟨.int (g i j),H,I.tok _,⟨_,rfl⟩,q⟩
theorem opI0 {f:Value->Value->Sem Value}{g:Int->Int->Int}
  (rule: ∀(i j:Int) (t u:Tok) (s:Shared) (Q:Value->Shared->Prop) (E:Value->Shared->Prop),Q (.int (g i j) s.toks) { s with toks:=s.toks+1 } ->wpAny (model X.prog X.w) X.A (f (.int i t) (.int j u)) Q E s):
  OpR X f (rI0 fun i j=> .int (g i j)):=by
 rw[013]
 obtain⟨i,j,rfl,rfl,q⟩:=h
 rw[014]
 obtain⟨t',rfl⟩:=ry
 exact rule i j t t' s _ _ ⟨.int (g i j),H,I.tok _,⟨_,rfl⟩,q⟩
theorem opB0 {f:Value->Value->Sem Value}{g:Int->Int->Bool}
  (rule: ∀(i j:Int) (t u:Tok) (s:Shared) (Q:Value->Shared->Prop) (E:Value->Shared->Prop),Q (.bool (g i j)) s->wpAny (model X.prog X.w) X.A (f (.int i t) (.int j u)) Q E s):
  OpR X f (rI0 fun i j=> .bl (g i j)):=by
 rw[013]
 obtain⟨i,j,rfl,rfl,q⟩:=h
 rw[014]
 obtain⟨t',rfl⟩:=ry
 exact rule i j t t' s _ _ ⟨.bl (g i j),H,I,rfl,q⟩
def CMul (i j:Int):Prop:=(-(2 ^ 64)<i/\i<2 ^ 64)\/(-(2 ^ 64)<j/\j<2 ^ 64)
theorem CMul.ok {i j:Int}(h:CMul i j):IntMulOk i j:=by
 rcases h with⟨h1,h2⟩|⟨h1,h2⟩
 ·exact .of_left (intBits_le_64 h1 h2)
 ·exact .of_right (intBits_le_64 h1 h2)
theorem dq:OpR X (binaryOp .Add) (rI0 fun i j=> .int (i+j)):=opI0 fun _ _ _ _ _ _ _ q=>add_int q
theorem jv_:OpR X (binaryOp .Sub) (rI0 fun i j=> .int (i-j)):=opI0 fun _ _ _ _ _ _ _ q=>sub_int q
theorem op_mul:OpR X (binaryOp .Mult) (rI CMul fun i j=> .int (i*j)):=opI fun _ _ _ _ _ _ _ hc q=>mul_int q hc.ok
theorem unI {f:Value->Sem Value}{g:Int->Int}
  (rule: ∀(i:Int) (t:Tok) (s:Shared) (Q:Value->Shared->Prop) (E:Value->Shared->Prop),Q (.int (g i) s.toks) { s with toks:=s.toks+1 } ->wpAny (model X.prog X.w) X.A (f (.int i t)) Q E s):
  UnR X f (rU fun i=> .int (g i)):=by
 intro pins s σ H x v Q I rx h
 obtain⟨i,rfl,q⟩:=h
 rw[014]
 exact rule i t s _ _ ⟨.int (g i),H,I.tok _,⟨_,rfl⟩,q⟩
theorem un_neg:UnR X (unaryOp .USub) (rU fun i=> .int (-i)):=unI fun _ _ _ _ _ q=>neg_int q
end
def scal:V->V->Bool
 | .non, .non=>true| .non, .int _=>true| .int _, .non=>true| .non, .bl _=>true| .bl _, .non=>true| .non, .str _=>true| .str _, .non=>true
 | .int _, .int _=>true| .bl _, .bl _=>true| .str _, .str _=>true| .byt _, .byt _=>true
 | .int _, .str _=>true| .str _, .int _=>true| .bl _, .str _=>true| .str _, .bl _=>true
 |_,_=>false
inductive rEq (x:V) (y:V) (H:Hp) (Q:VK):Prop
 |mk (_:scal x y=true) (_:Q (.bl (decide (x=y))) H):rEq x y H Q
inductive rNe (x:V) (y:V) (H:Hp) (Q:VK):Prop
 |mk (_:scal x y=true) (_:Q (.bl (!decide (x=y))) H):rNe x y H Q
theorem dec_int {i j:Int} :decide (V.int i=V.int j)=(i == j):=by
 rw[Bool.eq_iff_iff]
 simp
theorem dec_bl {i j:Bool} :decide (V.bl i=V.bl j)=(i == j):=by
 rw[Bool.eq_iff_iff]
 simp
theorem dec_str {i j:Str} :decide (V.str i=V.str j)=(i == j):=by
 rw[Bool.eq_iff_iff]
 simp
theorem dec_byt {i j:Array UInt8} :decide (V.byt i=V.byt j)=(i.toList == j.toList):=by
 rw[Bool.eq_iff_iff]
 cases i
 cases j
 simp
section
variable {X:Cx}{a b c:Expr}{ta tb tc:TE}{pos:Pos}
theorem bZ {pins:List [001]}{σ:St}{H:Hp}{s:Shared}{Q:VK}{k k':Bool}(I:aV X pins σ H s) (q:Q (.bl k) H) (e:k=k'):EP X pins σ Q (.bool k') s:=by
 subst e
 exact⟨.bl k,H,I,rfl,q⟩
theorem dw:OpR X (compareOp .Eq) rEq:=by
 rw[013]
 obtain⟨hs,q⟩:=h
 cases x with
 |non=>
  cases rx
  cases y with
  |non=>cases ry;exact PySem.EqNone.eq_none_none (bZ I q (by simp))
  |bl j=>cases ry;exact PySem.EqNone.eq_none_bool (bZ I q (by simp))
  |int j=>obtain⟨t',rfl⟩:=ry;exact PySem.EqNone.eq_none_int (bZ I q (by simp))
  |str j=>obtain⟨t',rfl⟩:=ry;exact PySem.EqNone.eq_none_str (bZ I q (by simp))
  |_=>exact absurd (show false=true from hs) Bool.false_ne_true
 |bl i=>
  cases rx
  cases y with
  |non=>cases ry;exact PySem.EqNone.eq_bool_none (bZ I q (by simp))
  |bl j=>cases ry;exact eq_bool (bZ I q dec_bl)
  |str j=>obtain⟨t',rfl⟩:=ry;exact PySem.EqMixed.eq_bool_str (bZ I q (by simp))
  |_=>exact absurd (show false=true from hs) Bool.false_ne_true
 |int i=>
  rw[014]
  cases y with
  |non=>cases ry;exact PySem.EqNone.eq_int_none (bZ I q (by simp))
  |int j=>obtain⟨t',rfl⟩:=ry;exact eq_int (bZ I q dec_int)
  |str j=>obtain⟨t',rfl⟩:=ry;exact PySem.EqMixed.eq_int_str (bZ I q (by simp))
  |_=>exact absurd (show false=true from hs) Bool.false_ne_true
 |str i=>
  rw[014]
  cases y with
  |non=>cases ry;exact PySem.EqNone.eq_str_none (bZ I q (by simp))
  |bl j=>cases ry;exact PySem.EqMixed.eq_str_bool (bZ I q (by simp))
  |int j=>obtain⟨t',rfl⟩:=ry;exact PySem.EqMixed.eq_str_int (bZ I q (by simp))
  |str j=>obtain⟨t',rfl⟩:=ry;exact eq_str (bZ I q dec_str)
  |_=>exact absurd (show false=true from hs) Bool.false_ne_true
 |byt i=>
  rw[014]
  cases y with
  |byt j=>obtain⟨t',rfl⟩:=ry;exact PySem.W.eq_bytes (bZ I q dec_byt)
  |_=>exact absurd (show false=true from hs) Bool.false_ne_true
 |_=>cases y<;>exact absurd (show false=true from hs) Bool.false_ne_true
theorem op_ne:OpR X (compareOp .NotEq) rNe:=by
 rw[013]
 obtain⟨hs,q⟩:=h
 cases x with
 |non=>
  cases rx
  cases y with
  |non=>cases ry;exact PySem.EqNone.ne_none_none (bZ I q (by simp))
  |bl j=>cases ry;exact PySem.EqNone.ne_none_bool (bZ I q (by simp))
  |int j=>obtain⟨t',rfl⟩:=ry;exact PySem.EqNone.ne_none_int (bZ I q (by simp))
  |str j=>obtain⟨t',rfl⟩:=ry;exact PySem.EqNone.ne_none_str (bZ I q (by simp))
  |_=>exact absurd (show false=true from hs) Bool.false_ne_true
 |bl i=>
  cases rx
  cases y with
  |non=>cases ry;exact PySem.EqNone.ne_bool_none (bZ I q (by simp))
  |bl j=>cases ry;exact ne_bool (bZ I q (congrArg not dec_bl))
  |str j=>obtain⟨t',rfl⟩:=ry;exact PySem.EqMixed.ne_bool_str (bZ I q (by simp))
  |_=>exact absurd (show false=true from hs) Bool.false_ne_true
 |int i=>
  rw[014]
  cases y with
  |non=>cases ry;exact PySem.EqNone.ne_int_none (bZ I q (by simp))
  |int j=>obtain⟨t',rfl⟩:=ry;exact ne_int (bZ I q (congrArg not dec_int))
  |str j=>obtain⟨t',rfl⟩:=ry;exact PySem.EqMixed.ne_int_str (bZ I q (by simp))
  |_=>exact absurd (show false=true from hs) Bool.false_ne_true
 |str i=>
  rw[014]
  cases y with
  |non=>cases ry;exact PySem.EqNone.ne_str_none (bZ I q (by simp))
  |bl j=>cases ry;exact PySem.EqMixed.ne_str_bool (bZ I q (by simp))
  |int j=>obtain⟨t',rfl⟩:=ry;exact PySem.EqMixed.ne_str_int (bZ I q (by simp))
  |str j=>obtain⟨t',rfl⟩:=ry;exact ne_str (bZ I q (congrArg not dec_str))
  |_=>exact absurd (show false=true from hs) Bool.false_ne_true
 |byt i=>
  rw[014]
  cases y with
  |byt j=>obtain⟨t',rfl⟩:=ry;exact PySem.W.ne_bytes (bZ I q (congrArg not dec_byt))
  |_=>exact absurd (show false=true from hs) Bool.false_ne_true
 |_=>cases y<;>exact absurd (show false=true from hs) Bool.false_ne_true
theorem op_lt:OpR X (compareOp .Lt) (rI0 fun i j=> .bl (decide (i<j))):=opB0 fun _ _ _ _ _ _ _ q=>lt_int q
theorem jg_:OpR X (compareOp .LtE) (rI0 fun i j=> .bl (decide (i<=j))):=opB0 fun _ _ _ _ _ _ _ q=>le_int q
theorem op_gt:OpR X (compareOp .Gt) (rI0 fun i j=> .bl (decide (j<i))):=opB0 fun _ _ _ _ _ _ _ q=>gt_int q
theorem bx (b:Expr) {op:CmpOp}(h:op≠ .In:=by decide) (h2:op≠ .NotIn:=by decide):behindInMarks op b=false:=by
 have e1:(op == CmpOp.In)=false:=by cases op<;>first|rfl|exact absurd rfl h
 have e2:(op == CmpOp.NotIn)=false:=by cases op<;>first|rfl|exact absurd rfl h2
 cases b<;>simp [behindInMarks,e1,e2]
theorem fU {op:CmpOp}{r:R2}(ho:OpR X (compareOp op) r) (ha:PE X a ta) (hb:PE X b tb) (hm:behindInMarks op b=false):PE X (.Compare a [op] [b] pos) (tOp r ta tb):=by
 rw[02]
 exact wpAny_Compare1 (binT ha hb I h fun v u s2 x y H2 I2 rx ry q=>ho pins s2 σ H2 x y v u Q I2 rx ry q) hm
def tTest (t:TE):TT:=fun σ H Q=>t σ H (isBl Q)
theorem bv {op:CmpOp}{r:R2}(ho:OpR X (compareOp op) r) (ha:PE X a ta) (hb:PE X b tb) (hm:behindInMarks op b=false):PT X (.Compare a [op] [b] pos) (tTest (tOp r ta tb)):=by
 rw[02]
 refine wpAny_isTrue_Compare1 (cJ [033] fun v s1 ⟨x,H1,I1,r1,q1⟩=>cJ (hb pins s1 σ H1 _ I1 q1) fun u s2 ⟨y,H2,I2,r2,q2⟩=>
  cJ (ho pins s2 σ H2 x y v u _ I2 r1 r2 q2) fun c s3 ⟨z,H3,I3,r3,k,e,q3⟩=>?_) hm
 subst e
 cases r3
 exact wpAny_truthy_bool ⟨H3,I3,q3⟩
def tChain (r r':R2) (ta tb tc:TE):TE:=fun σ H Q=>ta σ H fun x H1=>tb σ H1 fun y H2=>r x y H2 fun z H3=> ∃k,z= .bl k/\
 (if k=true then tc σ H3 fun w' H4=>r' y w' H4 Q else Q (.bl false) H3)
theorem jz_ {op op':CmpOp}{r r':R2}(ho:OpR X (compareOp op) r) (ho':OpR X (compareOp op') r') (ha:PE X a ta) (hb:PE X b tb) (hc:PE X c tc)
  (hm:lastMarks [op,op'] [b,c]=false:=by with_unfolding_all rfl):PE X (.Compare a [op,op'] [b,c] pos) (tChain r r' ta tb tc):=by
 rw[02]
 refine Compare_chain (cJ [033] fun v s1 ⟨x,H1,I1,r1,q1⟩=>chain_link (cJ (hb pins s1 σ H1 _ I1 q1) fun u s2 ⟨y,H2,I2,r2,q2⟩=>
  cJ (ho pins s2 σ H2 x y v u _ I2 r1 r2 q2) fun d s3 ⟨z,H3,I3,r3,k,e,q3⟩=>?_)) hm
 subst e
 cases r3
 refine wpAny_truthy_bool ?_
 cases k with
 |false=>exact ite_ff ⟨.bl false,H3,I3,rfl,q3⟩
 |true=>exact ite_tt (chain_last (cJ (hc pins s3 σ H3 _ I3 q3) fun w' s4 ⟨z',H4,I4,r4,q4⟩=>ho' pins s4 σ H4 y z' u w' Q I4 r2 r4 q4))
theorem j2k_:(sizeLine:Nat)<2 ^ 63:=by rw[sizeLine_eq];decide
theorem vals1 {x:V}{us:List Value}(r:bL [x] us): ∃u,us=[u]/\bE x u:=by
 cases r with
 |cons r1 r2=>cases r2;exact⟨_,rfl,r1⟩
theorem vals2 {x y:V}{us:List Value}(r:bL [x,y] us): ∃u w',us=[u,w']/\bE x u/\bE y w':=by
 cases r with
 |cons r1 r2=>
  cases r2 with
  |cons r3 r4=>cases r4;exact⟨_,_,rfl,r1,r3⟩
theorem j2g_:io X (.type "str") (fun xs H Q=> ∃i,xs=[.int i]/\i.natAbs.log2<1920/\Q (.str (toString i)) H):=by
 rw[029]
 obtain⟨i,rfl,hz,q⟩:=h
 obtain⟨u,rfl,t,rfl⟩:=vals1 r
 exact PySem.P.str_of_int hz ⟨.str _,H,I.tok _,⟨_,rfl⟩,q⟩
theorem call_ord:io X (.builtin "ord") (fun xs H Q=> ∃x,xs=[.str x]/\x.length=1/\Q (.int (x.cps.getD 0 0:Nat)) H):=by
 rw[029]
 obtain⟨x,rfl,hz,q⟩:=h
 obtain⟨u,rfl,t,rfl⟩:=vals1 r
 exact ord_of_one hz ⟨.int _,H,I.tok _,⟨_,rfl⟩,q⟩
end
end L2
namespace L2
open PySem PySem.Spec PyProof.Rows
structure ObjM (h:Heap) (x dx C:Addr) (mA:Str->Option Value):Prop where
 obj:h.get? x=some (PySem.W.instObj C dx)
 ns:h.Ns1 dx mA
 ne:dx≠x
theorem j7p_ {h:Heap}{dx:Addr}{mA:Str->Option Value}(n:h.Ns1 dx mA): ∃od,h.get? dx=some od/\ ∀name,PySem.W.lookIn name od=some (mA name):=by
 obtain⟨o,es,ep,ho,hd,hk,_,hm⟩:=n
 refine⟨o,ho,fun name=>?_⟩
 have e:=hm name
 unfold nsFind findBy at e
 rw[<-Array.find?_toList] at e
 unfold PySem.W.lookIn
 rw[hd]
 dsimp only
 split
 ·rename_i y q
  rw[q] at e
  exact congrArg some e
 ·rename_i q
  rw[q] at e
  have a:es.toList.any (·.refKey)=false:=by
   rw[List.any_eq_false]
   intro y hy
   obtain⟨z,t,hkey⟩:=hk y (Array.mem_toList_iff.mp hy)
   simp [DictEntry.refKey,hkey]
  have a': ¬es.toList.any (·.refKey)=true:=by rw[a];exact Bool.false_ne_true
  rw[if_neg a']
  exact congrArg some e
theorem ObjM.look {h:Heap}{x dx C:Addr}{mA:Str->Option Value}(I:ObjM h x dx C mA): ∃od,PySem.W.InstAt h x (PySem.W.instObj C dx) C (some od)/\ ∀name,PySem.W.lookIn name od=some (mA name):=
 let ⟨od,ho,hl⟩:=j7p_ I.ns
 ⟨od,⟨I.obj,rfl,rfl,ho⟩,hl⟩
section
variable {prog:Program}{w:World}{A:Around}{E:Value->Shared->Prop}{s:Shared}{K:PySem.W.Frag}{x dx C f:Addr}{mA:Str->Option Value}{name:Str}{v:Value}
theorem get_map {expr:Bool}{Q:Value->Shared->Prop}(X:K.In s.heap) (I:ObjM s.heap x dx C mA) (hg:PySem.W.plainGet K C name=true) (hh:PySem.W.hasDictIn K C=true)
  (ha:PySem.W.findIn K (.ref C) name=some none) (hv:mA name=some v) (hv':PySem.W.handedIn v=true) (h:Q v { s with toks:=s.toks+1 }):
  wpAny (model prog w) A (getAttr (.ref x) name expr) Q E s:=by
 obtain⟨od,J,hl⟩:=I.look
 exact PySem.W.get_value X J (PySem.W.plainGet_of hg).1 (PySem.W.findObj_own hh ha rfl (by rw[hl,hv])) hv' h
theorem get_meth {pl:Sem Bool}{Q:Value×List Value->Shared->Prop}(X:K.In s.heap) (I:ObjM s.heap x dx C mA) (hg:PySem.W.plainGet K C name=true)
  (hf:PySem.W.findIn K (.ref C) name=some (some (.ref f))) (ht:PySem.W.isFn K (.ref f)=true) (hv:mA name=none) (h:Q (.ref f,[.ref x]) s):
  wpAny (model prog w) A (getMethod (.ref x) name pl) Q E s:=by
 obtain⟨od,J,hl⟩:=I.look
 exact PySem.W.method_fn X J (PySem.W.plainGet_of hg).1 (PySem.W.plainGet_of hg).2 hf (beq_iff_eq.mp ht) (by show(PySem.W.lookIn name od).map (·.isSome)=some false;rw[hl,hv];rfl) h
theorem set_map {ns:List Str}{Q:Unit->Shared->Prop}(X:K.In s.heap) (I:ObjM s.heap x dx C mA)
  (hs:PySem.W.findIn K (.ref C) "__setattr__"=some (some (.builtin "object.__setattr__"))) (hp:PySem.W.plainOver K C=true) (ht:PySem.W.takerIn K C name=some none) (hh:PySem.W.hasDictIn K C=true)
  (hw:PySem.Within mA ns) (hsz:ns.length<=sizeLine)
  (h: ∀h',ObjM h' x dx C (fun y=>if y=name then some v else mA y)->Heap.SameBut dx s.heap h'->Q () { s with heap:=h',toks:=s.toks+2 }):
  wpAny (model prog w) A (setAttr (.ref x) name v) Q E s:=by
 obtain⟨od,J,hl⟩:=I.look
 refine PySem.W.set_plain X J hs (PySem.W.osa_open (s:= { s with toks:=s.toks+1 }) (r:=none) X J hp ht fun b=>?_)
 obtain⟨cd,hc,hd'⟩:=PySem.W.any_some hh
 have hx:s.heap.get? x=some ⟨.ref C,some dx, .plain, #[]⟩:=I.obj
 refine wpAny_bind (wpAny_pure (wpAny_bind (wpAny_bind (wpAny_loadPart hx (wpAny_bind (PySem.W.Looks.here (s:= { s with toks:=s.toks+1 }) (PySem.W.looks_clsIn X hc) ?_))))))
 rw[hd']
 refine wpAny_pure (a:=some dx) (wpAny_bind (wpAny_pure (wpAny_bind ?_)))
 refine wpAny_nsSet1 (s:= { s with toks:=s.toks+1 }) I.ns fun h' hn2 hs2=>?_
 obtain⟨oD,esD,epD,hoD,hdD,hcD⟩:=hn2.count (PySem.Within.cons name v hw)
 refine wpAny_bind (wpAny_lookBehind hoD (by rw[hdD];exact pastItsLine_dict (Nat.le_trans hcD [052])) ?_)
 exact wpAny_pure (h _ ⟨(hs2.2 _ (Ne.symm I.ne)).trans I.obj,hn2,I.ne⟩ hs2)
theorem make_map {R:Result->Shared->Prop}{vs:List Value}{kw:List (Str×Value)}(X:K.In s.heap) (hm:PySem.W.makesIn K C=true)
  (hi:PySem.W.findIn K (.ref C) "__init__"=some (some (.ref f))) (hf:PySem.W.typeIn K (.ref f)=some (.type "function"))
  (h:codeAny (model prog w) (A.under (.builtin "type.__call__" ⟨.ref C::vs,kw⟩)) (.call (.ref f) ⟨.ref (s.heap.objs.size+1)::vs,kw⟩) (PySem.W.InitBack (s.heap.objs.size+1) R)
   { s with heap:=(s.heap.push PySem.W.emptyDict).push (PySem.W.instObj C s.heap.objs.size) }):
  codeAny (model prog w) A (.call (.ref C) ⟨vs,kw⟩) R s:=by
 obtain⟨hh,g,d,t,os⟩:=s
 exact PySem.W.make_core (PySem.W.makes_of X hm) (PySem.W.looks_findIn X hi) (fun self=>PySem.W.bind_fn X self hf) (.inl rfl) h
end
def putF (f:Str) (v:V):List (Str×V)->List (Str×V)
 |[]=>[(f,v)]
 | (g,x)::r=>if g=f then(g,v)::r else(g,x)::putF f v r
theorem j0_ (f g:Str) (v:V): ∀fs:List (Str×V),(putF f v fs).lookup g=if g=f then some v else fs.lookup g
 |[]=>by
  show List.lookup g [(f,v)]=_
  by_cases h:g=f
  ·have hb:(g == f)=true:=beq_iff_eq.mpr h
   simp only[List.lookup,hb,if_pos h]
  ·have hb:(g == f)=false:=beq_eq_false_iff_ne.mpr h
   simp only[List.lookup,hb,if_neg h]
 | (k,x)::r=>by
  have ih:=j0_ f g v r
  rw[show putF f v ((k,x)::r)=(if k=f then(k,v)::r else(k,x)::putF f v r) from rfl]
  by_cases hk:k=f
  ·rw[if_pos hk]
   by_cases h:g=k
   ·have hb:(g == k)=true:=beq_iff_eq.mpr h
    simp only[List.lookup,hb,if_pos (h.trans hk)]
   ·have hb:(g == k)=false:=beq_eq_false_iff_ne.mpr h
    simp only[List.lookup,hb,if_neg (fun e:g=f=>h (e.trans hk.symm))]
  ·rw[if_neg hk]
   by_cases h:g=k
   ·have hb:(g == k)=true:=beq_iff_eq.mpr h
    simp only[List.lookup,hb,if_neg (fun e:g=f=>hk (h.symm.trans e))]
   ·have hb:(g == k)=false:=beq_eq_false_iff_ne.mpr h
    simp only[List.lookup,hb]
    exact ih
theorem fK (f:Str) (v:V): ∀fs:List (Str×V),f∈(putF f v fs).map (·.1)/\ ∀g,g∈fs.map (·.1)->g∈(putF f v fs).map (·.1)
 |[]=>⟨by simp [putF],fun g h=>by simp at h⟩
 | (k,x)::r=>by
  obtain⟨i1,i2⟩:=fK f v r
  rw[show putF f v ((k,x)::r)=(if k=f then(k,v)::r else(k,x)::putF f v r) from rfl]
  by_cases hk:k=f
  ·rw[if_pos hk]
   subst hk
   exact⟨by simp,fun g h=>by simpa using h⟩
  ·rw[if_neg hk]
   refine⟨?_,fun g h=>?_⟩
   ·rw[List.map_cons]
    exact List.mem_cons_of_mem _ i1
   ·rw[List.map_cons] at h ⊢
    rcases List.mem_cons.mp h with e|e
    ·exact List.mem_cons.mpr (.inl e)
    ·exact List.mem_cons_of_mem _ (i2 g e)
theorem df (f:Str) (v:V): ∀fs:List (Str×V),(putF f v fs).length<=fs.length+1
 |[]=>by simp [putF]
 | (k,x)::r=>by
  have ih:=df f v r
  rw[show putF f v ((k,x)::r)=(if k=f then(k,v)::r else(k,x)::putF f v r) from rfl]
  by_cases hk:k=f
  ·rw[if_pos hk,List.length_cons,List.length_cons];lia
  ·rw[if_neg hk,List.length_cons,List.length_cons];lia
theorem gi.some_of {v:V}{o:Option Value}(r:gi (some v) o): ∃u,o=some u/\bE v u:=by
 cases o with
 |none=>exact(show False from r).elim
 |some u=>exact⟨u,rfl,r⟩
theorem gi.none_of {o:Option Value}(r:gi none o):o=none:=by
 cases o with
 |none=>rfl
 |some u=>exact(show False from r).elim
theorem j1r_ {v:V}{u:Value}(r:bE v u):PySem.W.handedIn u=true:=by
 cases v with
 |non=>cases (show u=Value.none from r);rfl
 |bl b=>cases (show u=Value.bool b from r);rfl
 |int i=>obtain⟨t,e⟩:=(show∃t,u=Value.int i t from r);cases e;rfl
 |str x=>obtain⟨t,e⟩:=(show∃t,u=Value.str x t from r);cases e;rfl
 |byt b=>obtain⟨t,e⟩:=(show∃t,u=Value.bytes b t from r);cases e;rfl
 |flt b=>obtain⟨t,e⟩:=(show∃t,u=Value.float b t from r);cases e;rfl
 |ref a=>cases (show u=Value.ref a from r);rfl
 |ty n=>cases (show u=Value.type n from r);rfl
section
variable {P:Program}{w:World}{H H':Hp}{h h':Heap}{a C dx:Addr}{fs fs':List (Str×V)}
theorem wa_ (hok:gP P w H h) (e:H a=some [034]): ∃mA,ObjM h a dx C mA/\(∀f,gi (fs.lookup f) (mA f))/\PySem.Within mA (fs.map (·.1))/\fs.length<=1000/\H dx=some (.own a):=by
 obtain⟨d,z,ne,ob,mA,n,r,q⟩:=(show cE P w H h a [034] from hok a _ e)
 exact⟨mA,⟨ob,n,ne⟩,r,q,z,d⟩
end
structure Cls (K:PySem.W.Frag) (C:Addr):Prop where
 pg:PySem.W.plainGet K C Str.empty=true
 hd:PySem.W.hasDictIn K C=true
 po:PySem.W.plainOver K C=true
 sa:PySem.W.findIn K (.ref C) "__setattr__"=some (some (.builtin "object.__setattr__"))
theorem Cls.get {K:PySem.W.Frag}{C:Addr}(c:Cls K C) (f:Str):PySem.W.plainGet K C f=true:=c.pg
def aR (K:PySem.W.Frag) (C:Addr) (f:Str):Prop:=PySem.W.findIn K (.ref C) f=some none
theorem aR.taker {K:PySem.W.Frag}{C:Addr}{f:Str}(n:aR K C f):PySem.W.takerIn K C f=some none:=by
 unfold PySem.W.takerIn
 rw[show PySem.W.findIn K (.ref C) f=some none from n]
 rfl
structure Meth (K:PySem.W.Frag) (C:Addr) (m:Str) (f:Addr):Prop where
 at_:PySem.W.findIn K (.ref C) m=some (some (.ref f))
 fn:PySem.W.isFn K (.ref f)=true
 kp:PySem.W.keepIn K (.ref f)=true
section
variable {X:Cx}{pins:List (Addr×Obj)}{σ:St}{H:Hp}{s:Shared}{a C dx:Addr}{fs:List (Str×V)}{f:Str}{v:V}{A:Around}{E:Value->Shared->Prop}
theorem wd_ {b:Bool}{Q:Value->Shared->Prop}(I:aV X pins σ H s) (e:H a=some [034]) (c:Cls X.K C) (n:aR X.K C f) (l:fs.lookup f=some v)
  (h: ∀u s',aV X pins σ H s'->bE v u->Q u s'):wpAny (model X.prog X.w) A (getAttr (.ref a) f b) Q E s:=by
 obtain⟨mA,O,r,_,_,_⟩:=wa_ I.hok e
 obtain⟨u,hu,ru⟩:=gi.some_of (v:=v) (o:=mA f) (by rw[<-l];exact r f)
 exact get_map I.kIn O (c.get f) c.hd n hu (j1r_ ru) (h u _ (I.tok _) ru)
theorem j00_ {m:Str}{g:Addr}{pl:Sem Bool}{Q:Value×List Value->Shared->Prop}(I:aV X pins σ H s) (e:H a=some [034]) (c:Cls X.K C) (k:Meth X.K C m g) (l:fs.lookup m=none)
  (h:Q (.ref g,[.ref a]) s):wpAny (model X.prog X.w) A (getMethod (.ref a) m pl) Q E s:=by
 obtain⟨mA,O,r,_,_,_⟩:=wa_ I.hok e
 have hn:mA m=none:=gi.none_of (by rw[<-l];exact r m)
 exact get_meth I.kIn O (c.get m) k.at_ k.fn hn h
theorem j0d_ {y:V}{u:Value}{Q:Unit->Shared->Prop}(I:aV X pins σ H s) (e:H a=some [034]) (c:Cls X.K C) (n:aR X.K C f) (hl:fs.length<1000) (ry:bE y u)
  (h: ∀s',aV X pins σ (bg H a (.ins C dx (putF f y fs))) s'->Q () s'):wpAny (model X.prog X.w) A (setAttr (.ref a) f u) Q E s:=by
 obtain⟨mA,O,r,wi,_,ho⟩:=wa_ I.hok e
 have hz:(fs.map (·.1)).length<=sizeLine:=by rw[List.length_map,sizeLine_eq];lia
 refine set_map I.kIn O c.sa c.po n.taker c.hd wi hz fun h' O' sb=>h _ ?_
 have hd: ∃o,h'.get? dx=some o:=let ⟨o,_,_,e',_⟩:=O'.ns;⟨o,e'⟩
 refine I.write (x:=a) (e:=dx) (by rw[e];exact True.intro) (.inr ho) (fun b q hb z=>(sb.2 b hb).trans z) hd ?_
 refine⟨by rw[ag O.ne];exact ho,?_,O.ne,O'.obj,_,O'.ns,fun g=>?_,fun g hg=>?_⟩
 ·have:=df f y fs;lia
 ·show gi ((putF f y fs).lookup g) (if g=f then some u else mA g)
  rw[j0_]
  by_cases q:g=f
  ·rw[if_pos q,if_pos q];exact ry
  ·rw[if_neg q,if_neg q];exact r g
 ·by_cases q:g=f
  ·rw[q];exact(fK f y fs).1
  ·refine(fK f y fs).2 g (wi g fun z=>hg ?_)
   show(if g=f then some u else mA g)=none
   rw[if_neg q];exact z
theorem aV.made (I:aV X pins σ H s):aV X pins σ (bg (bg H s.heap.objs.size (.own (s.heap.objs.size+1))) (s.heap.objs.size+1) (.ins C s.heap.objs.size []))
  { s with heap:=(s.heap.push PySem.W.emptyDict).push (PySem.W.instObj C s.heap.objs.size) } :=by
 have e1:(s.heap.push PySem.W.emptyDict).get? s.heap.objs.size=some PySem.W.emptyDict:=Heap.get?_push_size s.heap rfl
 have e2:((s.heap.push PySem.W.emptyDict).push (PySem.W.instObj C s.heap.objs.size)).get? (s.heap.objs.size+1)=some (PySem.W.instObj C s.heap.objs.size):=by
  have:=Heap.get?_push_size (s.heap.push PySem.W.emptyDict) (o:=PySem.W.instObj C s.heap.objs.size) rfl
  rwa [Heap.size_push] at this
 have e3:(s.heap.push PySem.W.emptyDict).Ns s.heap.objs.size (fun _=>none):=⟨PySem.W.emptyDict, #[],_,e1,rfl,(fun e he=>absurd he [022]),fun _=>rfl⟩
 have I1:=I.laid (a:=s.heap.objs.size) (o:= .own (s.heap.objs.size+1)) (h':=s.heap.push PySem.W.emptyDict) (t':=s.toks) (fun b u q=>Heap.get?_push_of_some _ q) [007] ⟨_,e1⟩
 refine I1.laid (a:=s.heap.objs.size+1) (o:= .ins C s.heap.objs.size []) (t':=s.toks) (fun b u q=>Heap.get?_push_of_some _ q) (Nat.le_of_eq (Heap.size_push _ _)) ?_
 have ne:s.heap.objs.size≠s.heap.objs.size+1:=Nat.ne_of_lt (Nat.lt_succ_self _)
 refine⟨by rw[ag ne,ah],Nat.zero_le _,ne,e2,fun _=>none,(Heap.Ns1.of_empty e3).at fun o q=>Heap.get?_push_of_some _ q,fun _=>True.intro,fun y hy=>absurd rfl hy⟩
theorem attr_of {prog:Program}{w:World}{env:Env}{e:Expr}{f:Str}{pos:Pos}{s:Shared}{Q:Value->Shared->Prop}(hb:attributeBase e f env (eval e env)=eval e env)
  (h:wpAny (model prog w) A (eval e env) (fun o s₁=>wpAny (model prog w) A (getAttr o f true) Q E s₁) E s):wpAny (model prog w) A (eval (.Attribute e f pos) env) Q E s:=
 Attribute_any_ h (by rw[arm_eval_Attribute,hb])
end
inductive isFld (K:PySem.W.Frag) (f:Str) (R:V->Hp->Prop) (x:V) (H1:Hp):Prop
 |mk (a C dx:Addr) (fs:List (Str×V)) (v:V) (_:x= .ref a) (_:H1 a=some [034]) (_:Cls K C) (_:aR K C f) (_:fs.lookup f=some v) (_:R v H1):isFld K f R x H1
def wo_ (K:PySem.W.Frag) (ta:TE) (f:Str):TE:=fun σ H Q=>ta σ H (isFld K f Q)
def sFld (K:PySem.W.Frag) (ta tv:TE) (f:Str):TS:=fun D σ H=>tv σ H fun y H1=>ta σ H1 fun x H2=> ∃a C dx fs,x= .ref a/\H2 a=some [034]/\Cls K C/\aR K C f/\fs.length<1000/\
 D.nx σ (bg H2 a (.ins C dx (putF f y fs)))
def InOp (X:Cx) (op:Operator) (rd:V->V->Hp->VK->Prop):Prop:=
 ∀(pins:List [001]) (s:Shared) (σ:St) (H:Hp) (x y:V) (u v:Value) (Q:VK),aV X pins σ H s->bE x u->bE y v->rd x y H Q->wpAny (model X.prog X.w) X.A (inplaceOp op u v) [044] X.xe s
def sFldAug (K:PySem.W.Frag) (ta tv:TE) (rd:V->V->Hp->VK->Prop) (f:Str):TS:=fun D σ H=>ta σ H fun x H1=> ∃a C dx fs v,x= .ref a/\H1 a=some [034]/\Cls K C/\aR K C f/\fs.lookup f=some v/\
 tv σ H1 fun y H2=>rd v y H2 fun z H3=> ∃dx' fs',H3 a=some (.ins C dx' fs')/\fs'.length<1000/\D.nx σ (bg H3 a (.ins C dx' (putF f z fs')))
section
variable {X:Cx}{o e value:Expr}{f:Str}{pos pos' tpos:Pos}{ta tv:TE}
theorem aI (he:PE X e ta) (hb:attributeBase e f X.env (eval e X.env)=eval e X.env):PE X (.Attribute e f pos) (wo_ X.K ta f):=by
 rw[02]
 refine attr_of hb (cJ [056] fun u s1 ⟨x,H1,I1,rx,a,C,dx,fs,v,ex,ea,c,n,l,q⟩=>?_)
 rw[010]
 exact wd_ I1 ea c n l fun u' s2 I2 ru=>⟨v,H1,I2,ru,q⟩
theorem aX (ha:PE X o ta) (hv:PE X value tv) (hs:swapsWith value (some (.Attribute o f pos')) pos.line X.env=pure false):PS X (.Assign [.Attribute o f pos'] value pos) (sFld X.K ta tv f):=by
 rw[09]
 refine plainObj_wpAny_Assign_Attribute (cJ (hv pins s σ H _ I h) fun u s1 ⟨y,H1,I1,ry,q⟩=>cJ (ha pins s1 σ H1 _ I1 q) fun ov s2 ⟨x,H2,I2,rx,a,C,dx,fs,ex,ea,c,n,l,q2⟩=>?_) hs
 subst ex
 obtain rfl:ov=Value.ref a:=rx
 exact j0d_ I2 ea c n l ry fun s3 I3=>⟨σ,_,I3,q2⟩
theorem qo_ {op:Operator}{rd:V->V->Hp->VK->Prop}(ha:PE X o ta) (hv:PE X value tv) (hop:InOp X op rd):PS X (.AugAssign (.Attribute o f tpos) op value pos) (sFldAug X.K ta tv rd f):=by
 rw[09]
 refine wpAny_AugAssign_AttributeAny (cJ [033] fun ov s1 ⟨x,H1,I1,rx,a,C,dx,fs,v,ex,ea,c,n,l,q⟩=>?_)
 subst ex
 obtain rfl:ov=Value.ref a:=rx
 refine wd_ I1 ea c n l fun u s2 I2 ru=>cJ (hv pins s2 σ H1 _ I2 q) fun w3 s3 ⟨y,H2,I3,ry,q3⟩=>cJ (hop pins s3 σ H2 v y u w3 _ I3 ru ry q3) fun w4 s4 ⟨z,H3,I4,rz,dx',fs',ea',l',q4⟩=>?_
 exact j0d_ I4 ea' c n l' rz fun s5 I5=>⟨σ,_,I5,q4⟩
def rAdd:V->V->Hp->VK->Prop:=fun x y H Q=> ∃i j,x= .int i/\y= .int j/\Q (.int (i+j)) H
theorem in_add:InOp X .Add rAdd:=by
 rintro pins s σ H x y u v Q I rx ry ⟨i,j,rfl,rfl,q⟩
 obtain⟨t,rfl⟩:=(show∃t,u=Value.int i t from rx)
 obtain⟨t',rfl⟩:=(show∃t',v=Value.int j t' from ry)
 exact PyProof.Rows.iadd_int ⟨.int (i+j),H,I.tok _,⟨_,rfl⟩,q⟩
end
section
variable {X:Cx}{pins:List (Addr×Obj)}{σ:St}{H:Hp}{s:Shared}{A:Around}{E:Value->Shared->Prop}{Q:Value->Shared->Prop}{c:Value}{b:Bool}
inductive iu (K:PySem.W.Frag) (H:Hp):V->Value->Prop where
 |non:iu K H .non (.type "NoneType")
 |bl (x:Bool):iu K H (.bl x) (.type "bool")
 |int (i:Int):iu K H (.int i) (.type "int")
 |str (x:Str):iu K H (.str x) (.type "str")
 |flt (x:UInt64):iu K H (.flt x) (.type "float")
 |lst {a:Addr}{xs:List V}(e:H a=some [085]):iu K H (.ref a) (.type "list")
 |frz {a:Addr}{o:Obj}{xs:List V}(e:H a=some (.frz o [085])):iu K H (.ref a) (.type "list")
 |tup {a:Addr}{xs:List V}(e:H a=some (.tup xs)):iu K H (.ref a) (.type "tuple")
 |dK {a:Addr}{kvs:List (bW×V)}(e:H a=some [0023]):iu K H (.ref a) (.type "dict")
 |dT {a:Addr}{kvs:List (List bW×V)}(e:H a=some (.dT kvs)):iu K H (.ref a) (.type "dict")
 |ins {a C dx:Addr}{fs:List (Str×V)}(e:H a=some [034]) (cl:Cls K C) (ha:PySem.W.findIn K (.ref C) "__class__"=some (some [095]))
   (hn:PySem.W.specialIn K [095] "__get__"=some (some (.builtin "getset_descriptor.__get__"))) (htk:PySem.W.takesIn K [095]=some true)
   (hm:PySem.W.mroIn K C (.type "object")=some true):iu K H (.ref a) (.ref C)
theorem j6f_ {x:V}{u t:Value}(I:aV X pins σ H s) (rx:bE x u) (ty:iu X.K H x t) (e:PySem.W.kitOne X.K t c=some b) (h: ∀tk,Q (.bool b) { s with toks:=tk }):
  wpAny (model X.prog X.w) A (call (.builtin "isinstance") [u,c]) Q E s:=by
 cases ty with
 |non=>cases (show u=Value.none from rx);exact PySem.W.kia_one PySem.W.kitx_none I.kIn True.intro e (fun z=>nomatch z) h
 |bl y=>cases (show u=Value.bool y from rx);exact PySem.W.kia_one PySem.W.kitx_bool I.kIn True.intro e (fun z=>nomatch z) h
 |int i=>obtain⟨t,q⟩:=(show∃t,u=Value.int i t from rx);cases q;exact PySem.W.kia_one PySem.W.kitx_int I.kIn True.intro e (fun z=>nomatch z) h
 |str y=>obtain⟨t,q⟩:=(show∃t,u=Value.str y t from rx);cases q;exact PySem.W.kia_one PySem.W.kitx_str I.kIn True.intro e (fun z=>nomatch z) h
 |flt y=>obtain⟨t,q⟩:=(show∃t,u=Value.float y t from rx);cases q;exact PySem.W.kia_one PySem.W.kitx_float I.kIn True.intro e (fun z=>nomatch z) h
 | @lst a xs ea=>
  cases [098]
  obtain⟨_,_,n,_,h1⟩:=(show cE X.prog X.w H s.heap a [085] from I.hok a _ ea)
  exact PySem.W.kia_one PySem.W.kitx_list I.kIn ⟨_,h1,rfl⟩ e [003] h
 | @frz a ob xs ea=>
  cases [098]
  obtain⟨_,_,_,n,_,h1⟩:=(show cE X.prog X.w H s.heap a (.frz ob [085]) from I.hok a _ ea)
  exact PySem.W.kia_one PySem.W.kitx_list I.kIn ⟨_,h1,rfl⟩ e [003] h
 | @tup a xs ea=>
  cases [098]
  obtain⟨_,_,_,p⟩:=(show cE X.prog X.w H s.heap a (.tup xs) from I.hok a _ ea)
  obtain⟨o,h1,h2,_⟩:=p
  exact PySem.W.kia_one PySem.W.kitx_tuple I.kIn ⟨o,h1,h2⟩ e [003] h
 | @dK a kvs ea=>
  cases [098]
  obtain⟨_,_,vs,_,p⟩:=(show cE X.prog X.w H s.heap a [0023] from I.hok a _ ea)
  obtain⟨o,es,ep,h1,h2,_⟩:=p
  exact PySem.W.kia_one PySem.W.kitx_dict I.kIn ⟨o,h1,h2.1⟩ e [003] h
 | @dT a kvs ea=>
  cases [098]
  obtain⟨_,_,xs,_,o,es,ep,h1,h2,_⟩:=(show cE X.prog X.w H s.heap a (.dT kvs) from I.hok a _ ea)
  exact PySem.W.kia_one PySem.W.kitx_dict I.kIn ⟨o,h1,h2.1⟩ e [003] h
 | @ins a C dx fs ea cl ha hn htk hm=>
  cases [098]
  obtain⟨mA,O,_⟩:=wa_ I.hok ea
  obtain⟨od,J,_⟩:=O.look
  exact PySem.W.kia_one (PySem.W.kitx_own (cl.get _) cl.hd ha hn htk hm) I.kIn J e [003] h
end
end L2
namespace L2
open PySem PySem.Spec PyProof.Rows
structure dY (k:Nat) (A:Around):Prop where
 hd:A.handled=none
 dp:A.depth+2*k+5<recursionLimit
 un:A.units+16*k+200<cLine
theorem dY.mono {j k:Nat}{A:Around}(r:dY k A) (h:j<=k):dY j A:=⟨r.hd,by have:=r.dp;lia,by have:=r.un;lia⟩
theorem dY.deeper {k:Nat}{A:Around}(r:dY (k+1) A) (env:Env):dY k (A.deeper env):=
 ⟨r.hd,by have:=r.dp;show A.depth+1+2*k+5<_;lia,by have:=r.un;show A.units+3+16*k+200<_;lia⟩
theorem j5y_ {A:Around}{C:Addr}{us:List Value}{kw:List (Str×Value)} :(A.under (.builtin "type.__call__" ⟨.ref C::us,kw⟩)).depth=A.depth+1:=by
 first|rfl|simp [Around.under,Code.weight,Code.isCreation,Code.isGuard,Code.isCaller,Code.frames,Code.isFrame,guardIds]
theorem j5p_ {A:Around}{C:Addr}{us:List Value}{kw:List (Str×Value)} :(A.under (.builtin "type.__call__" ⟨.ref C::us,kw⟩)).units=A.units+1:=by
 first|rfl|simp [Around.under,Code.cUnits,Code.frames,Code.isFrame]
theorem dY.make {k:Nat}{A:Around}(r:dY (k+1) A) (C:Addr) (us:List Value) (kw:List (Str×Value)):dY k (A.under (.builtin "type.__call__" ⟨.ref C::us,kw⟩)):=
 ⟨r.hd,by have:=r.dp;rw[j5y_];lia,by have:=r.un;rw[j5p_];lia⟩
theorem dY.depth {k:Nat}{A:Around}(r:dY k A):A.depth<recursionLimit:=by have:=r.dp;lia
theorem dY.units {k:Nat}{A:Around}(r:dY k A):A.units+64<cLine:=by have:=r.un;lia
def jx_:TA:=fun _ H Q=>Q [] H
def fR (ta:TE) (tr:TA):TA:=fun σ H Q=>ta σ H fun x H1=>tr σ H1 fun xs H2=>Q (x::xs) H2
section
variable {X:Cx}{e:Expr}{es:List Expr}{te:TE}{t:TA}{pos:Pos}
theorem af:PA X [] jx_:=fun _ _ _ _ H Q I h=>Calls.spliced_nil ⟨[],H,I, .nil,h⟩
theorem aa (ha:PE X e te) (hr:PA X es t) (hs:starEach (e::es) X.env=[032]::starEach es X.env:=by rfl):PA X (e::es) (fR te t):=by
 intro pos pins s σ H Q I h
 rw[hs]
 show wpAny _ _ (spliced ([032]::backTo pos [057])) _ _ s
 refine Calls.spliced_cons (cJ [033] fun u s1 ⟨x,H1,I1,r1,q1⟩=>?_)
 exact cJ (hr pos pins s1 σ H1 _ I1 q1) fun us s2 ⟨xs,H2,I2,r2,q2⟩=>⟨x::xs,H2,I2, .cons r1 r2,q2⟩
inductive isLst (Q:VK) (xs:List V) (H1:Hp):Prop
 |mk (_:xs.length<=sizeLine) (_: ∀p,H1 p=none->Q (.ref p) (bg H1 p [085])):isLst Q xs H1
def tLst (t:TA):TE:=fun σ H Q=>t σ H (isLst Q)
theorem be (h:PA X es t):PE X (.List es pos) (tLst t):=by
 intro pins s σ H Q I hq
 refine wpAny_List_spliced (cJ (h pos pins s σ H _ I hq) fun us s1 ⟨xs,H1,I1,r,z,q⟩=>⟨by rw[<-r.length];exact z,?_⟩)
 have hf:H1 s1.heap.objs.size=none:=I1.hok.fresh [007]
 refine⟨.ref s1.heap.objs.size,bg H1 s1.heap.objs.size [085],I1.laid (t':=s1.toks) (fun b u e=>Heap.get?_push_of_some _ e) [007] ?_,rfl,q _ hf⟩
 exact⟨z,us,0,r,Heap.get?_push_size _ rfl⟩
end
abbrev Sp:=List V->Hp->VK->XK->Prop
abbrev CXT:=List Env->Hp->Shared->XK->Value->Shared->Prop
structure Env0 (P:Program) (w:World) (K:PySem.W.Frag) (mg:Str->Option Value) (base:Heap) (A:Around) (outer:List Env) (s:Shared) (H:Hp):Prop where
 frames:A.frames=some outer
 mod:Mod K mg base
 bs: ∀b o,base.get? b=some o->s.heap.get? b=some o/\H b=none
 bsz:base.objs.size<=s.heap.objs.size
 funs:s.heap.FunFrames base outer
 frf: ∀b∈frs outer,H b=none
 hok:gP P w H s.heap
 bare:AllBare s.gens
def CE (outer:List Env) (P:Program) (w:World) (H:Hp) (s:Shared) (Q:VK) (u:Value) (s':Shared):Prop:=
 ∃v H',s'.os=s.os/\AllBare s'.gens/\Un (frs outer) [] H H' s.heap s'.heap/\gP P w H' s'.heap/\bE v u/\Q v H'
def CR (CX:CXT) (outer:List Env) (P:Program) (w:World) (H:Hp) (s:Shared) (Q:VK) (E:XK) (r:Result) (s':Shared):Prop:=
 match r with
 | .ok (.ret u)=>CE outer P w H s Q u s'
 | .ok _=>False
 | .error e=>CX outer H s E e s'
structure aJ (P:Program) (w:World) (K:PySem.W.Frag) (mg:Str->Option Value) (base:Heap) (CX:CXT) (k:Nat) (f:Addr) (fd:FuncData) (ps:List Str) (sp:Sp):Prop where
 len: ∀vs H Q E,sp vs H Q E->vs.length=ps.length
 run: ∀(A:Around) (outer:List Env) (s:Shared) (H:Hp) (args:Args) (us:List Value) (vs:List V) (Q:VK) (E:XK),dY k A->Env0 P w K mg base A outer s H->BindsTo s fd args (ps.zip us)->bL vs us->sp vs H Q E->
  codeAny (model P w) A (.call (.ref f) args) (CR CX outer P w H s Q E) s
theorem aJ.mono {P:Program}{w:World}{K:PySem.W.Frag}{mg:Str->Option Value}{base:Heap}{CX:CXT}{j k:Nat}{f:Addr}{fd:FuncData}{ps:List Str}{sp:Sp}(F:aJ P w K mg base CX j f fd ps sp) (h:j<=k):
  aJ P w K mg base CX k f fd ps sp:=⟨F.len,fun A outer s H args us vs Q E hr=>F.run A outer s H args us vs Q E (hr.mono h)⟩
theorem aJ.imp {P:Program}{w:World}{K:PySem.W.Frag}{mg:Str->Option Value}{base:Heap}{CX:CXT}{k:Nat}{f:Addr}{fd:FuncData}{ps:List Str}{sp sp':Sp}(F:aJ P w K mg base CX k f fd ps sp)
  (h: ∀vs H Q E,sp' vs H Q E->sp vs H Q E):aJ P w K mg base CX k f fd ps sp':=
 ⟨fun vs H Q E q=>F.len vs H Q E (h _ _ _ _ q),fun A outer s H args us vs Q E hr he hb hv hs=>F.run A outer s H args us vs Q E hr he hb hv (h _ _ _ _ hs)⟩
theorem Env0.make {P:Program}{w:World}{K:PySem.W.Frag}{mg:Str->Option Value}{base:Heap}{A:Around}{outer:List Env}{s:Shared}{H:Hp}(e:Env0 P w K mg base A outer s H) (C:Addr) (us:List Value) (kw:List (Str×Value)):
  Env0 P w K mg base (A.under (.builtin "type.__call__" ⟨.ref C::us,kw⟩)) outer s H:=⟨by first|exact e.frames|(simpa [Around.under,Code.envs,Code.isFrame,pushEnvs] using e.frames),e.mod,e.bs,e.bsz,e.funs,e.frf,e.hok,e.bare⟩
section
variable {X:Cx}{pins:List (Addr×Obj)}{σ:St}{H:Hp}{s s':Shared}
theorem aV.env0 (I:aV X pins σ H s):Env0 X.prog X.w X.K X.mg X.base X.A X.stack s H:=
 ⟨I.ok.frames,I.ok.mod,I.bs,Nat.le_trans I.ok.bsz I.sz,I.stack,I.stkFree,I.hok,I.bare⟩
theorem aV.after {Q:VK}{u:Value}(I:aV X pins σ H s) (h:CE X.stack X.prog X.w H s Q u s'):EP X pins σ Q u s':=by
 obtain⟨v,H',os,bare,un,hok,r,q⟩:=h
 obtain⟨hh,g,d,t,os'⟩:=s'
 obtain rfl:os'=s.os:=os
 exact⟨v,H',I.call (h':=hh) (g':=g) (d':=d) (t':=t) (ch:=[]) un hok bare (fun b z=>absurd z [022]),r,q⟩
end
def yo_ (sp:Sp) (dvs:List V) (E:XK) (t:TA):TE:=fun σ H Q=>t σ H fun vs H1=>sp (vs++dvs) H1 Q E
inductive isMeth (C:Addr) (m:Str) (R:V->Hp->Prop) (x:V) (H1:Hp):Prop
 |mk (a dx:Addr) (fs:List (Str×V)) (_:x= .ref a) (_:H1 a=some [034]) (_:fs.lookup m=none) (_:R x H1):isMeth C m R x H1
def tMeth (C:Addr) (m:Str) (sp:Sp) (dvs:List V) (E:XK) (ta:TE) (t:TA):TE:=fun σ H Q=>ta σ H (isMeth C m (fun x H1=>t σ H1 fun vs H2=>sp (x::(vs++dvs)) H2 Q E))
def tMake (C:Addr) (sp:Sp) (dvs:List V) (E:XK) (t:TA):TE:=fun σ H Q=>t σ H fun vs H1=> ∀x dx,H1 x=none->H1 dx=none->dx≠x->
 sp (.ref x::(vs++dvs)) (bg (bg H1 dx (.own x)) x [097]) (fun v H2=>v= .non/\Q (.ref x) H2) E
def gN (K:PySem.W.Frag) (fd:FuncData) (ps:List Str) (ds:List Value):Prop:=
 ∀(s:Shared) (us:List Value),K.In s.heap->(us++ds).length=ps.length->BindsTo s fd ⟨us,[]⟩ (ps.zip (us++ds))
theorem gN.all {K:PySem.W.Frag}{fd:FuncData}{ps:List Str}(h: ∀us:List Value,us.length=ps.length->bindArgs fd ⟨us,[]⟩=pure [028]):gN K fd ps []:=fun s us _ hl=>by
 rw[List.append_nil] at hl ⊢
 exact .of_eq (h us hl)
def gj (CX:CXT) (X:Cx) (E:XK):Prop:= ∀(pins:List [001]) (σ:St) (H:Hp) (s:Shared) (e:Value) (s':Shared),aV X pins σ H s->CX X.stack H s E e s'->X.xe e s'
section
variable {X:Cx}{CX:CXT}{k:Nat}{f C:Addr}{fd:FuncData}{ps:List Str}{sp:Sp}{dvs:List V}{ds:List Value}{E:XK}{x m:Str}{p pos apos:Pos}{e o:Expr}{es:List Expr}{ta:TE}{t:TA}
theorem j29_ {pins:List [001]}{σ:St}{H:Hp}{s:Shared}{Q:VK}{us:List Value}{vs:List V}(F:aJ X.prog X.w X.K X.mg X.base CX k f fd ps sp) (hr:dY k X.A) (hb:gN X.K fd ps ds) (hd:bL dvs ds) (hx:gj CX X E)
  (I:aV X pins σ H s) (r:bL vs us) (h:sp (vs++dvs) H Q E):wpAny (model X.prog X.w) X.A (call (.ref f) us) [044] X.xe s:=by
 have r2:bL (vs++dvs) (us++ds):=r.append hd
 have hl:(us++ds).length=ps.length:=by rw[<-r2.length];exact F.len _ _ _ _ h
 refine wpAny_call (codeAny_mono (F.run X.A X.stack s H ⟨us,[]⟩ (us++ds) (vs++dvs) Q E hr I.env0 (hb s us I.kIn hl) r2 h) fun r s' hq=>?_)
 cases r with
 |error e=>exact hx pins σ H s e s' I hq
 |ok fl=>
  cases fl with
  |ret u=>exact I.after hq
  |next=>exact False.elim hq
  |brk=>exact False.elim hq
  |cont=>exact False.elim hq
structure CD (K:PySem.W.Frag) (mg:Str->Option Value) (x:Str) (f:Addr) (fd:FuncData) (ps:List Str):Prop where
 m:mg x=some (.ref f)
 k:PySem.W.keepIn K (.ref f)=true
 b:gN K fd ps []
structure MD (K:PySem.W.Frag) (C:Addr) (m:Str) (f:Addr) (fd:FuncData) (ps:List Str):Prop where
 m:Meth K C m f
 b:gN K fd ps []
theorem al (F:aJ X.prog X.w X.K X.mg X.base CX k f fd ps sp) (hr:dY k X.A) (hg:Gl X x) (d:CD X.K X.mg x f fd ps) (hx:gj CX X E)
  (ha:PA X (e::es) t) (hdb:[018]=false:=by decide) (he:starEach (e::es) X.env=[032]::starEach es X.env:=by rfl) (hpl:[0020].any (·.1)=false:=by rfl):
  PE X (.Call (.Name x p) (e::es) [] pos) (yo_ sp [] E t):=by
 rw[02]
 refine wpAny_Call_Name_kw (gE I hg d.m ?_ hdb)
 refine PySem.W.callWith_K (h₀:=X.base) I.ok.mod.kin d.k (cJ (ha pos pins s σ H _ I h) fun us s1 ⟨vs,H1,I1,r,q⟩=>⟨I1.kIn,?_⟩) he hpl
 exact j29_ F hr d.b .nil hx I1 r q
theorem aA {pl:Sem Bool}(he:PE X o ta) (c:Cls X.K C) (d:MD X.K C m f fd ps) (F:aJ X.prog X.w X.K X.mg X.base CX k f fd ps sp) (hr:dY k X.A) (hx:gj CX X E) (ha:PA X (e::es) t)
  (hst:starEach (e::es) X.env=[032]::starEach es X.env:=by rfl) (hpl:[0020].any (·.1)=false:=by rfl)
  (ht:eval (.Call (.Attribute o m apos) (e::es) [] pos) X.env=(do
   let ov<-eval o X.env
   standAt apos.atName
   let (f,first)<-holding [ov] (getMethod ov m pl)
   callWith pos f first (backTo pos (starEach (e::es) X.env)) (backToKw pos [0022])):=by rfl):
  PE X (.Call (.Attribute o m apos) (e::es) [] pos) (tMeth C m sp [] E ta t):=by
 rw[02]
 refine PySem.W.methodCall_KW (pl:=pl) (cJ [056] fun u s1 ⟨x,H1,I1,rx,a,dx,fs,ex,ea,l,q⟩=>?_) ht
 rw[010]
 refine j00_ I1 ea c d.m l ?_
 refine PySem.W.callWith_K (first:=[.ref a]) (h₀:=X.base) I.ok.mod.kin d.m.kp (cJ (ha pos pins s1 σ H1 _ I1 q) fun us s2 ⟨vs,H2,I2,r,q2⟩=>⟨I2.kIn,?_⟩) hst hpl
 exact j29_ (us:= .ref a::us) (vs:= .ref a::vs) F hr d.b .nil hx I2 (.cons rfl r) q2
theorem a0 {pl:Sem Bool}(he:PE X o ta) (c:Cls X.K C) (d:MD X.K C m f fd ps) (F:aJ X.prog X.w X.K X.mg X.base CX k f fd ps sp) (hr:dY k X.A) (hx:gj CX X E)
  (ht:eval (.Call (.Attribute o m apos) [] [] pos) X.env=(do
   let ov<-eval o X.env
   standAt apos.atName
   let (f,first)<-holding [ov] (getMethod ov m pl)
   callWith pos f first (backTo pos (starEach [] X.env)) (backToKw pos [0022])):=by rfl):
  PE X (.Call (.Attribute o m apos) [] [] pos) (tMeth C m sp [] E ta jx_):=by
 rw[02]
 refine PySem.W.methodCall_KW (pl:=pl) (cJ [056] fun u s1 ⟨x,H1,I1,rx,a,dx,fs,ex,ea,l,q⟩=>?_) ht
 rw[010]
 refine j00_ I1 ea c d.m l ?_
 exact PySem.W.callWith_K0 (first:=[.ref a]) I1.kIn d.m.kp (j29_ (us:=[.ref a]) (vs:=[.ref a]) F hr d.b .nil hx I1 (.cons rfl .nil) q)
structure Mk (K:PySem.W.Frag) (C f:Addr):Prop where
 makes:PySem.W.makesIn K C=true
 init:PySem.W.findIn K (.ref C) "__init__"=some (some (.ref f))
 fn:PySem.W.isFn K (.ref f)=true
 kp:PySem.W.keepIn K (.ref C)=true
theorem run_make {pins:List [001]}{σ:St}{H:Hp}{s:Shared}{Q:VK}{us:List Value}{vs:List V}(M:Mk X.K C f) (F:aJ X.prog X.w X.K X.mg X.base CX k f fd ps sp) (hr:dY (k+1) X.A) (hb:gN X.K fd ps ds) (hd:bL dvs ds)
  (hx:gj CX X E) (I:aV X pins σ H s) (r:bL vs us)
  (h: ∀x dx,H x=none->H dx=none->dx≠x->sp (.ref x::(vs++dvs)) (bg (bg H dx (.own x)) x [097]) (fun v H2=>v= .non/\Q (.ref x) H2) E):
  wpAny (model X.prog X.w) X.A (call (.ref C) us) [044] X.xe s:=by
 have hq:=h (s.heap.objs.size+1) s.heap.objs.size (I.hok.fresh (Nat.le_succ _)) (I.hok.fresh [007]) (Nat.ne_of_lt (Nat.lt_succ_self _))
 have I2:=aV.made (C:=C) I
 have r2:bL (V.ref (s.heap.objs.size+1)::(vs++dvs)) (Value.ref (s.heap.objs.size+1)::(us++ds)):= .cons rfl (r.append hd)
 have hl:(Value.ref (s.heap.objs.size+1)::us++ds).length=ps.length:=by
  have e:=r2.length
  rw[F.len _ _ _ _ hq] at e
  exact e.symm
 refine wpAny_call (make_map (f:=f) I.kIn M.makes M.init (beq_iff_eq.mp M.fn) (codeAny_mono (F.run _ X.stack _ _ ⟨Value.ref (s.heap.objs.size+1)::us,[]⟩ (Value.ref (s.heap.objs.size+1)::(us++ds)) _ _ E (hr.make C us [])
  (I2.env0.make C us []) (hb _ (Value.ref (s.heap.objs.size+1)::us) I2.kIn hl) r2 hq) fun r s' hq'=>?_))
 cases r with
 |error e=>exact hx pins σ _ _ e s' I2 hq'
 |ok fl=>
  cases fl with
  |ret u=>
   obtain⟨v,H',I3,rv,ev,q3⟩:=I2.after hq'
   subst ev
   exact⟨rv,⟨V.ref (s.heap.objs.size+1),H',I3,rfl,q3⟩⟩
  |next=>exact False.elim hq'
  |brk=>exact False.elim hq'
  |cont=>exact False.elim hq'
theorem cv (M:Mk X.K C f) (F:aJ X.prog X.w X.K X.mg X.base CX k f fd ps sp) (hr:dY (k+1) X.A) (hg:Gl X x) (hm:X.mg x=some (.ref C)) (hb:gN X.K fd ps ds) (hd:bL dvs ds) (hx:gj CX X E)
  (ha:PA X (e::es) t) (hdb:[018]=false:=by decide) (he:starEach (e::es) X.env=[032]::starEach es X.env:=by rfl) (hpl:[0020].any (·.1)=false:=by rfl):
  PE X (.Call (.Name x p) (e::es) [] pos) (tMake C sp dvs E t):=by
 rw[02]
 refine wpAny_Call_Name_kw (gE I hg hm ?_ hdb)
 refine PySem.W.callWith_K (h₀:=X.base) I.ok.mod.kin M.kp (cJ (ha pos pins s σ H _ I h) fun us s1 ⟨vs,H1,I1,r,q⟩=>⟨I1.kIn,?_⟩) he hpl
 exact run_make M F hr hb hd hx I1 r q
end
structure aw (N P:List Str) (sc:Scope):Prop where
 kind:sc.kind= .function
 co:sc.isCoroutine=false
 gen:sc.isGenerator=false
 nd:N.Nodup
 pre:N.take P.length=P
 par: ∀x∈P,sc.names.lookup x=some .local\/sc.names.lookup x=some .cell
 nofree: ∀y∈sc.names,y.2≠ .free
theorem j24_ {kindOf:Str->Option NameKind}{x:Str} : ∀ {binds:List (Str×Value)}{m:Str->Option Value},(∀v,(x,v)∉binds)->bindL kindOf binds m x=m x
 |[],_,_=>rfl
 | (n,v)::r,m,h=>by
  unfold bindL
  rw[j24_ fun w hw=>h w (List.mem_cons_of_mem _ hw)]
  split
  ·have:x≠n:=by rintro rfl;exact h v List.mem_cons_self
   simp [this]
  ·rfl
theorem j1z_ {kindOf:Str->Option NameKind}{x:Str} : ∀ {binds:List (Str×Value)}{m:Str->Option Value},(∀v,(x,v)∉binds)->bindC kindOf binds m x=m x
 |[],_,_=>rfl
 | (n,v)::r,m,h=>by
  unfold bindC
  rw[j1z_ fun w hw=>h w (List.mem_cons_of_mem _ hw)]
  split
  ·rfl
  ·have:x≠n:=by rintro rfl;exact h v List.mem_cons_self
   simp [this]
theorem j1q_ {kindOf:Str->Option NameKind}{x:Str}{v:Value} : ∀ {P:List Str}{vs:List Value}{i:Nat}{m:Str->Option Value},P.Nodup->P[i]?=some x->vs[i]?=some v->kindOf x=some .local->
  bindL kindOf (P.zip vs) m x=some v
 |[],_,_,_,_,h,_,_=>by simp at h
 |_::_,[],_,_,_,_,h,_=>by simp at h
 |p::P,w::vs,0,m,nd,h1,h2,hk=>by
  simp at h1 h2;subst h1;subst h2
  show bindL kindOf ((p,w)::P.zip vs) m p=_
  unfold bindL
  rw[j24_ fun v hv=>(List.nodup_cons.mp nd).1 (List.of_mem_zip hv).1,if_pos hk]
  simp
 |p::P,w::vs,i+1,m,nd,h1,h2,hk=>by
  show bindL kindOf ((p,w)::P.zip vs) m x=_
  unfold bindL
  exact j1q_ (i:=i) (List.nodup_cons.mp nd).2 (by simpa using h1) (by simpa using h2) hk
theorem j1w_ {kindOf:Str->Option NameKind}{x:Str}{v:Value} : ∀ {P:List Str}{vs:List Value}{i:Nat}{m:Str->Option Value},P.Nodup->P[i]?=some x->vs[i]?=some v->kindOf x≠some .local->
  bindC kindOf (P.zip vs) m x=some v
 |[],_,_,_,_,h,_,_=>by simp at h
 |_::_,[],_,_,_,_,h,_=>by simp at h
 |p::P,w::vs,0,m,nd,h1,h2,hk=>by
  simp at h1 h2;subst h1;subst h2
  show bindC kindOf ((p,w)::P.zip vs) m p=_
  unfold bindC
  rw[j1z_ fun v hv=>(List.nodup_cons.mp nd).1 (List.of_mem_zip hv).1,if_neg hk]
  simp
 |p::P,w::vs,i+1,m,nd,h1,h2,hk=>by
  show bindC kindOf ((p,w)::P.zip vs) m x=_
  unfold bindC
  exact j1w_ (i:=i) (List.nodup_cons.mp nd).2 (by simpa using h1) (by simpa using h2) hk
def start (N:List Str) (vs:List V):St:=vs.map some++List.replicate (N.length-vs.length) none
def cxOf (CX:CXT) (P:Program) (w:World) (K:PySem.W.Frag) (mg:Str->Option Value) (base:Heap) (N:List Str) (qual:Str) (scope:Scope) (f:Addr) (cd:Value) (A:Around) (outer:List Env) (s:Shared) (H:Hp) (E:XK):Cx where
 prog:=P
 w:=w
 K:=K
 mg:=mg
 base:=base
 A:=A.deeper [0001]
 N:=N
 s_0:=s
 H_0:=H
 env:=envOfC qual scope s.heap.objs.size f cd
 outer:=outer
 stack:=envOfC qual scope s.heap.objs.size f cd::outer
 ex:=[]
 calm:=true
 fn:=fun _=>true
 pn:=[]
 xe:=fun e s'=>wpAny (model P w) (A.deeper [0001]) (leaving [0001] e) (fun _ s''=>CX outer H s E e s'') (fun e' s''=>CX outer H s E e' s'') s'
theorem j4w_ {sc:Scope}{n:Nat}{x:Str}(h:sc.names.lookup x=some .cell): ∃c,(cellsFrom n sc.names []).lookup x=some c:=by
 have q:=PySem.W.cellsFrom_some sc.names n [] (.inl h)
 exact Option.isSome_iff_exists.mp q
theorem j6p_ {CX:CXT}{P:Program}{w:World}{K:PySem.W.Frag}{mg:Str->Option Value}{base:Heap}{N ps:List Str}{qual:Str}{scope:Scope}{f:Addr}{cd:Value}{A:Around}{outer:List Env}{s s1:Shared}{H:Hp}{E:XK}{us:List Value}{vs:List V}
  (S:aw N ps scope) (hd:A.handled=none) (e0:Env0 P w K mg base A outer s H) (hl:vs.length=ps.length) (r:bL vs us)
  (x:InCallC s s.heap.objs.size (bindL [0001].kindOf [028] fun _=>none) (cellsFrom (s.heap.objs.size+1) scope.names []) (bindC [0001].kindOf [028] fun _=>none) s1):
  aV (cxOf CX P w K mg base N qual scope f cd A outer s H E) [] (start N vs) H s1:=by
 have hpl:ps.length<=N.length:=by have:=congrArg List.length S.pre;rw[List.length_take] at this;lia
 obtain⟨h1,tk,rfl,hk⟩:=x.done
 have noA: ∀b:Addr,b∉(cxOf CX P w K mg base N qual scope f cd A outer s H E).ex:=fun b z=>absurd (show b∈([]:List Addr) from z) [022]
 refine⟨⟨e0.mod,S.kind,rfl,rfl,Nat.le_refl _,fun y z c h1 h2=>?_,fun y hy=>?_,fun y c _ h=>?_,fun _=>hd,Around.frames_deeper e0.frames, .inr ⟨rfl,rfl⟩,fun b z=>absurd z (noA b),e0.bs,e0.bsz,fun b _ _=>noA b,fun b z=>absurd z (noA b),e0.funs,e0.frf⟩,
  rfl,e0.bare,Un.kept hk,⟨_,x.toInCall.ns,fun i y v h1 h2 h3=>?_⟩,fun y c h=>⟨_,x.cell y c h⟩,e0.hok.fresh [007],fun y c h=>?_,fun p hp=>absurd (show p∈([]:List [001]) from hp) [022],e0.hok.kept hk,?_⟩
 ·exact name_of_addr x.apart (PySem.mem_of_lookup h1) (PySem.mem_of_lookup h2)
 ·have hy:scope.names.lookup y=some .cell\/scope.names.lookup y=some .free:=hy
  rcases hy with hy|hy
  ·exact j4w_ hy
  ·exact absurd rfl (S.nofree _ (PySem.mem_of_lookup hy))
 ·exact Nat.le_of_lt (x.above y c (PySem.mem_of_lookup h))
 ·have hi:i<vs.length:=by
   unfold start at h2
   by_cases hi:i<vs.length
   ·exact hi
   ·rw[List.getElem?_append_right (by simpa using hi)] at h2
    rw[List.getElem?_replicate] at h2
    split at h2<;>cases h2
  have ha:vs[i]?=some v:=by
   unfold start at h2
   rw[List.getElem?_append_left (by simpa using hi),List.getElem?_map] at h2
   cases e:vs[i]? with
   |none=>rw[e] at h2;cases h2
   |some a=>rw[e] at h2;cases h2;rfl
  obtain⟨u,hu,rv⟩:=r.get ha
  have hp:ps[i]?=some y:=by
   rw[<-S.pre,List.getElem?_take_of_lt (by lia)];exact h1
  have ndP:ps.Nodup:=by rw[<-S.pre];exact S.nd.sublist (List.take_sublist _ _)
  refine⟨u,rv,?_⟩
  rcases S.par y (List.mem_of_getElem? hp) with k|k
  ·exact .inl ⟨k,j1q_ ndP hp hu k⟩
  ·obtain⟨c,e⟩:=j4w_ (n:=s.heap.objs.size+1) k
   refine .inr ⟨.inl k,c,e,?_⟩
   have q:=x.cell y c e
   rw[j1w_ ndP hp hu (by show scope.names.lookup y≠_;rw[k];decide)] at q
   exact q
 ·exact e0.hok.fresh (Nat.le_of_lt (x.above y c (PySem.mem_of_lookup h)))
 ·unfold start
  show _=N.length
  rw[List.length_append,List.length_map,List.length_replicate]
  lia
theorem fn_of {CX:CXT}{P:Program}{w:World}{K:PySem.W.Frag}{mg:Str->Option Value}{base:Heap}{k:Nat}{f:Addr}{name qual:Str}{params:Arguments}{body:List Stmt}{scope:Scope}{dV kV doc pm cdv ct oc:Value}{an od:Option Addr}
  {osl:Array (Option Value)}{N ps:List Str}{sp:Sp}(lk:K.lookup f=some ⟨oc,od, .func (PySem.W.fnOf name qual params body scope dV kV doc pm an cdv ct),osl⟩) (hcd:PySem.W.codeIn K cdv qual=true) (S:aw N ps scope)
  (len: ∀vs H Q E,sp vs H Q E->vs.length=ps.length)
  (hbody: ∀(A:Around) (outer:List Env) (s:Shared) (H:Hp) (vs:List V) (Q:VK) (E:XK),dY k (A.deeper (envOfC qual scope s.heap.objs.size f cdv))->sp vs H Q E->
   Bd (cxOf CX P w K mg base N qual scope f cdv A outer s H E) body { nx:=fun _ H'=>Q .non H',rt:=Q } (start N vs) H):
  aJ P w K mg base CX (k+1) f (PySem.W.fnOf name qual params body scope dV kV doc pm an cdv ct) ps sp:=by
 refine⟨len,fun A outer s H args us vs Q E hr e0 hb r hsp=>?_⟩
 have hl:=len _ _ _ _ hsp
 have KX:K.In s.heap:=e0.mod.kin.keeps fun b o e=>(e0.bs b o e).1
 have lim:s.heap.NoLimit:=e0.mod.nolimit.keeps fun b o e=>(e0.bs b o e).1
 have hkind: ∀y∈ps.zip us,scope.names.lookup y.1=some .local\/(scope.names.lookup y.1=some .cell/\((cellsFrom (s.heap.objs.size+1) scope.names []).lookup y.1).isSome=true):=fun⟨n,v⟩ hy=>by
  rcases S.par n (List.of_mem_zip hy).1 with q|q
  ·exact .inl q
  ·exact .inr ⟨q,PySem.W.cellsFrom_some _ _ _ (.inl q)⟩
 refine codeAny_call_function hr.depth (KX _ _ lk) rfl S.co S.gen rfl (PySem.W.codeRec_of KX hcd) (hb _ _ _ _ ?_)
 refine wpAny_newFunctionEnv_cells S.kind hkind fun env he s1 x=>?_
 subst he
 refine⟨lim.keeps x.toInCall.keep,codeAny_func ?_⟩
 obtain⟨t,ht,hq⟩:=hbody A outer s H vs Q E (hr.deeper _) hsp
 have I:aV (cxOf CX P w K mg base N qual scope f cdv A outer s H E) [] (start N vs) H s1:=j6p_ S hr.hd e0 hl r x
 refine wpAny_mono (ht [] s1 (start N vs) H _ I hq) (fun fl s' hs=>?_) fun e s' hs=>hs
 have fin: ∀ {σ':St}{H':Hp}{v:V}{u:Value},aV (cxOf CX P w K mg base N qual scope f cdv A outer s H E) [] σ' H' s'->bE v u->Q v H'->CE outer P w H s Q u s':=
  fun {σ' H' v u} J rv q=>⟨v,H',J.os,J.bare,J.base,J.hok,rv,q⟩
 cases fl with
 |ret u=>
  obtain⟨v,σ',H',J,rv,q⟩:=hs
  exact fin J rv q
 |next=>
  obtain⟨σ',H',J,q⟩:=hs
  exact fin (v:=V.non) (u:=Value.none) J rfl q
 |brk=>
  obtain⟨_,_,_,q⟩:=hs
  exact False.elim q
 |cont=>
  obtain⟨_,_,_,q⟩:=hs
  exact False.elim q
end L2
namespace L2
open PySem PySem.Spec PyProof.Rows
section
variable {X:Cx}{x:Str}{p pos:Pos}{e:Expr}{es:List Expr}{t:TA}{id T:String}{r:List V->Hp->VK->Prop}
def tCB (r:List V->Hp->VK->Prop) (t:TA):TE:=fun σ H Q=>t σ H fun vs H1=>r vs H1 Q
theorem aY (hc:io X (.builtin id) r) (hg:Gl X x) (hm:X.mg x=none) (hv:bootBuiltins x=some (.builtin id)) (ha:PA X (e::es) t) (hn:x≠"__name__":=by decide) (hdb:[018]=false:=by decide)
  (he:starEach (e::es) X.env=[032]::starEach es X.env:=by rfl) (hpl:[0020].any (·.1)=false:=by rfl):PE X (.Call (.Name x p) (e::es) [] pos) (tCB r t):=by
 rw[02]
 refine wpAny_Call_Name_kw (j3k_ I hg hm hv ?_ hn hdb)
 exact PyProof.Rows.callWith_builtin1 (cJ (ha pos pins s σ H _ I h) fun us s1 ⟨vs,H1,I1,r1,q1⟩=>hc pins s1 σ H1 vs us Q I1 r1 q1) he hpl
theorem fL (hc:io X (.type T) r) (hg:Gl X x) (hm:X.mg x=none) (hv:bootBuiltins x=some (.type T)) (ha:PA X (e::es) t) (hn:x≠"__name__":=by decide) (hdb:[018]=false:=by decide)
  (he:starEach (e::es) X.env=[032]::starEach es X.env:=by rfl) (hpl:[0020].any (·.1)=false:=by rfl):PE X (.Call (.Name x p) (e::es) [] pos) (tCB r t):=by
 rw[02]
 refine wpAny_Call_Name_kw (j3k_ I hg hm hv ?_ hn hdb)
 exact PyProof.Rows.callWith_type1 (cJ (ha pos pins s σ H _ I h) fun us s1 ⟨vs,H1,I1,r1,q1⟩=>hc pins s1 σ H1 vs us Q I1 r1 q1) he hpl
end
end L2
namespace HT
open PySem PyProof.Rows
section
open PySem.SeqAt
open PySem.AutoSeq1 (wpAny_loadPart')
open PySem.MeetsSeq PySem.MeetsSeq2 PySem.MeetsSeq3
end
section
variable {prog:Program}{w:World}{A:Around}{E:Value->Shared->Prop}{s:Shared}
def sIx (n d:Nat):Option Int->Nat
 |none=>d
 |some v=>if v<0 then(v+(n:Int)).toNat else min v.toNat n
theorem sIx_none (n d:Nat):sIx n d none=d:=rfl
theorem sIx_nat (n d k:Nat):sIx n d (some (k:Int))=min k n:=by
 show(if(k:Int)<0 then((k:Int)+(n:Int)).toNat else min (k:Int).toNat n)=min k n
 rw[if_neg (by lia),Int.toNat_natCast]
end
end HT
namespace L2
open PySem PySem.Spec PyProof.Rows
abbrev TO:=St->Hp->(Option Int->Hp->Prop)->Prop
def PO (X:Cx) (e:Option Expr) (t:TO):Prop:=
 ∀(pins:List [001]) (s:Shared) (σ:St) (H:Hp) (Q:Option Int->Hp->Prop),aV X pins σ H s->t σ H Q->
  wpAny (model X.prog X.w) X.A (evalPart e X.env) (fun u s'=> ∃o H',aV X pins σ H' s'/\IsPart u o/\Q o H') X.xe s
def tNoPart:TO:=fun _ H Q=>Q none H
def tPart (t:TE):TO:=fun σ H Q=>t σ H fun x H1=> ∃i,x= .int i/\Q (some i) H1
section
variable {X:Cx}{e:Expr}{te:TE}{lo hi:Option Expr}{tl th:TO}{pos p2:Pos}
theorem po_none:PO X none tNoPart:=by
 rw[02]
 rw[evalPart_none]
 exact wpAny_pure ⟨none,H,I, .none,h⟩
theorem gB (h:PE X e te):PO X (some e) (tPart te):=by
 intro pins s σ H Q I hw
 rw[evalPart_some]
 refine cJ (h pins s σ H _ I hw) fun u s1 ⟨x,H1,I1,r1,q1⟩=>?_
 obtain⟨i,rfl,q⟩:=q1
 obtain⟨t,rfl⟩:=r1
 exact⟨some i,H1,I1, .int i t,q⟩
def SlR (X:Cx) (r:V->Option Int->Option Int->Hp->VK->Prop):Prop:=
 ∀(pins:List [001]) (s:Shared) (σ:St) (H:Hp) (x:V) (v vl vu:Value) (lo hi:Option Int) (sl:Addr) (Q:VK),aV X pins σ H s->bE x v->s.heap.IsSliceOf sl vl vu .none->IsPart vl lo->IsPart vu hi->r x lo hi H Q->
  ∃T id,typeLookup (.type T) "__getitem__"=pure (some (.builtin id))/\s.TypeIs v T/\wpAny (model X.prog X.w) X.A (getItem v (.ref sl)) [044] X.xe s
def tSl (r:V->Option Int->Option Int->Hp->VK->Prop) (te:TE) (tl th:TO):TE:=fun σ H Q=>te σ H fun x H1=>tl σ H1 fun l H2=>th σ H2 fun u H3=>r x l u H3 Q
theorem yc_ {r:V->Option Int->Option Int->Hp->VK->Prop}(hr:SlR X r) (he:PE X e te) (hl:PO X lo tl) (hu:PO X hi th):PE X (.Subscript e (.Slice lo hi none p2) pos) (tSl r te tl th):=by
 rw[02]
 refine Subscript_ (cJ [056] fun v s1 ⟨x,H1,I1,r1,q1⟩=>?_)
 refine wpAny_Slice (cJ (hl pins s1 σ H1 _ I1 q1) fun vl s2 ⟨l,H2,I2,pl,q2⟩=>cJ (hu pins s2 σ H2 _ I2 q2) fun vu s3 ⟨u,H3,I3,pu,q3⟩=>?_)
 rw[evalPart_none]
 refine wpAny_pure ?_
 have I4:aV X pins σ H3 { s3 with heap:=s3.heap.push { cls:= .type "slice",data:= .fields #[vl,vu, .none] } } :=I3.kept (t':=s3.toks) fun b ob q=>Heap.get?_push_of_some _ q
 obtain⟨T,id,hT,ht,hg⟩:=hr pins { s3 with heap:=s3.heap.push { cls:= .type "slice",data:= .fields #[vl,vu, .none] } } σ H3 x v vl vu l u s3.heap.objs.size Q I4 r1 (Heap.IsSliceOf.new ..) pl pu q3
 show wpAny (model X.prog X.w) X.A (subscriptTail e (.Slice lo hi none p2) v (.ref s3.heap.objs.size)) [044] X.xe { s3 with heap:=s3.heap.push { cls:= .type "slice",data:= .fields #[vl,vu, .none] } }
 exact tail_any (ops:=[.ref s3.heap.objs.size,v]) ht hT hg (by with_unfolding_all rfl)
def cutV (xs:List V) (lo hi:Option Int):List V:=(xs.drop (HT.sIx xs.length 0 lo)).take (HT.sIx xs.length xs.length hi-HT.sIx xs.length 0 lo)
theorem j4a_ (xs:List V) (lo hi:Option Int):(cutV xs lo hi).length<=xs.length:=by
 unfold cutV
 rw[List.length_take,List.length_drop]
 lia
end
end L2
namespace L2
open PySem PySem.Spec PyProof.Rows
def ixN (n:Nat) (i:Int):Option Nat:=if 0<=i then(if i<n then some i.toNat else none) else if-(n:Int)<=i then some (i+n).toNat else none
def atI {α:Type}(xs:List α) (i:Int):Option α:=(ixN xs.length i).bind fun j=>xs[j]?
theorem ixN_seq {n:Nat}{i:Int}{j:Nat}(h:ixN n i=some j):seqIndex? i n=some j/\j<n/\ -(n:Int)<=i/\i<n:=by
 unfold ixN at h
 by_cases h0:0<=i
 ·rw[if_pos h0] at h
  by_cases h1:i<n
  ·rw[if_pos h1] at h
   have e:i.toNat=j:=Option.some.inj h
   exact⟨by rw[seqIndex_of h0 h1,e],by lia,by lia,h1⟩
  ·rw[if_neg h1] at h;cases h
 ·rw[if_neg h0] at h
  by_cases h1: -(n:Int)<=i
  ·rw[if_pos h1] at h
   have e:(i+n).toNat=j:=Option.some.inj h
   exact⟨by rw[seqIndex_neg (by lia) h1,e],by lia,h1,by lia⟩
  ·rw[if_neg h1] at h;cases h
theorem j2b_ {α:Type}{xs:List α}{i:Int}{v:α}(h:atI xs i=some v): ∃j,seqIndex? i xs.length=some j/\xs[j]?=some v/\j<xs.length/\ -(xs.length:Int)<=i/\i<xs.length:=by
 unfold atI at h
 cases e:ixN xs.length i with
 |none=>rw[e] at h;cases h
 |some j=>
  rw[e] at h
  obtain⟨h1,h2,h3,h4⟩:=ixN_seq e
  exact⟨j,h1,h,h2,h3,h4⟩
theorem cY {α:Type}{xs:List α}{j:Nat}{v:α}(h:xs[j]?=some v):atI xs (j:Int)=some v:=by
 have hj:j<xs.length:=(List.getElem?_eq_some_iff.mp h).1
 have e:ixN xs.length (j:Int)=some j:=by
  unfold ixN
  rw[if_pos (by lia),if_pos (by lia)];simp
 unfold atI;rw[e];exact h
def PlainIx (b:Expr):Prop:= ∀o i,subscripted b false o i=operate [o,i] (getItem o i)
def IxR (X:Cx) (r:R2):Prop:=
 ∀(value slice:Expr) (pins:List [001]) (s:Shared) (σ:St) (H:Hp) (x y:V) (v u:Value) (Q:VK),aV X pins σ H s->bE x v->bE y u->r x y H Q->
  subscripted slice false v u=operate [v,u] (getItem v u)->wpAny (model X.prog X.w) X.A (subscriptTail value slice v u) [044] X.xe s
def MtR (X:Cx) (id:String) (r:V->List V->Hp->VK->Prop):Prop:=
 ∀(pins:List [001]) (s:Shared) (σ:St) (H:Hp) (x:V) (xs:List V) (v:Value) (us:List Value) (Q:VK),aV X pins σ H s->bE x v->bL xs us->r x xs H Q->
  wpAny (model X.prog X.w) X.A (call (.builtin id) (v::us)) [044] X.xe s
section
variable {X:Cx}{a b:Expr}{ta tb:TE}{pos:Pos}
theorem dZ {r:R2}(hr:IxR X r) (ha:PE X a ta) (hb:PE X b tb) (hs:PlainIx b):PE X (.Subscript a b pos) (tOp r ta tb):=by
 rw[02]
 exact Subscript_ (binT ha hb I h fun v u s2 x y H2 I2 rx ry q=>hr a b pins s2 σ H2 x y v u Q I2 rx ry q (hs _ _))
inductive rIxL (K:PySem.W.Frag) (x:V) (y:V) (H:Hp) (Q:VK):Prop
 |mk (p:Addr) (xs:List V) (i:Int) (v:V) (_:x= .ref p) (_:y= .int i) (_:cK K H p xs) (_:atI xs i=some v) (_:Q v H):rIxL K x y H Q
inductive rIxT (K:PySem.W.Frag) (x:V) (y:V) (H:Hp) (Q:VK):Prop
 |mk (p:Addr) (xs:List V) (i:Int) (v:V) (_:x= .ref p) (_:y= .int i) (_:SqT K H p xs) (_:atI xs i=some v) (_:Q v H):rIxT K x y H Q
inductive rIxS (x:V) (y:V) (H:Hp) (Q:VK):Prop
 |mk (z:Str) (i:Int) (c:Nat) (_:x= .str z) (_:y= .int i) (_:z.length<=sizeLine) (_:atI z.cps.toList i=some c) (_:Q (.str ⟨#[c]⟩) H):rIxS x y H Q
theorem cZ:IxR X (rIxL X.K):=by
 intro value slice pins s σ H x y v u Q I rx ry h hs
 obtain⟨p,xs,i,z,rfl,rfl,hq,he,q⟩:=h
 cases rx
 obtain⟨t,rfl⟩:=ry
 obtain⟨its,r,pl,hz⟩:=I.list hq
 obtain⟨j,h1,h2,h3,h4,h5⟩:=j2b_ he
 obtain⟨w,ew,rw'⟩:=r.get h2
 have hl:=r.length
 have hn:=j2k_
 have fin:EP X pins σ Q w s:=⟨z,H,I,rw',q⟩
 by_cases h0:0<=i
 ·have hj:i.toNat=j:=by
   rw[seqIndex_of h0 h5] at h1
   exact Option.some.inj h1
  exact item_listR pl.isList h0 (by lia) (by rw[hj];simpa using ew) fin hs
 ·have hj:(i+(its.toArray.size:Int)).toNat=j:=by
   rw[seqIndex_neg (by lia) h4] at h1
   rw[List.size_toArray,<-hl]
   exact Option.some.inj h1
  exact subscriptTail_builtinR (x:=w) pl.isList.typeIs slot_list_getitem.lookup
   (wpAny_getItem_list_neg (Q:=fun r s'=>r=w/\EP X pins σ Q r s') pl.isList (by lia) (by rw[List.size_toArray]<;>lia) (by lia) (by rw[hj];simpa using ew) ⟨rfl,fin⟩) hs
theorem ix_tup:IxR X (rIxT X.K):=by
 intro value slice pins s σ H x y v u Q I rx ry h hs
 obtain⟨p,xs,i,z,rfl,rfl,hq,he,q⟩:=h
 cases rx
 obtain⟨t,rfl⟩:=ry
 obtain⟨its,r,pl,hz⟩:=I.tuple hq
 obtain⟨j,h1,h2,h3,h4,h5⟩:=j2b_ he
 obtain⟨w,ew,rw'⟩:=r.get h2
 have hl:=r.length
 have hn:=j2k_
 have fin:EP X pins σ Q w s:=⟨z,H,I,rw',q⟩
 exact subscriptTail_builtinR (x:=w) pl.typeIs slot_tuple_getitem.lookup
  (getItem_tuple (j:=j) (Q:=fun r s'=>r=w/\EP X pins σ Q r s') pl (by lia) (by lia) (by rw[List.size_toArray,<-hl];exact h1) (by simpa using ew) ⟨rfl,fin⟩) hs
theorem ix_str:IxR X rIxS:=by
 intro value slice pins s σ H x y v u Q I rx ry h hs
 obtain⟨z,i,c,rfl,rfl,hz,he,q⟩:=h
 rw[014]
 obtain⟨t',rfl⟩:=ry
 obtain⟨j,h1,h2,h3,h4,h5⟩:=j2b_ he
 have hl:z.cps.toList.length=z.length:=by simp [Str.length]
 rw[hl] at h1 h4 h5
 have hn:=j2k_
 exact tail_any (typeIs_str s z t) slot_str_getitem.lookup (getItem_str (c:=c) (by
  have e1:decide (i< -(2 ^ 63:Int))=false:=decide_eq_false (by lia)
  have e2:decide (i ≥ 2 ^ 63)=false:=decide_eq_false (by lia)
  rw[e1,e2,Bool.or_false]) (by rw[h1];simpa using h2) ⟨.str ⟨#[c]⟩,H,I.tok _,⟨_,rfl⟩,q⟩) hs
theorem j34_ (lo hi:Option Int) (n:Nat):(sliceBounds lo hi none n).1=((HT.sIx n 0 lo:Nat):Int)/\(sliceBounds lo hi none n).2.1=((HT.sIx n n hi:Nat):Int)/\(sliceBounds lo hi none n).2.2=1:=by
 refine⟨?_,?_,rfl⟩
 ·cases lo with
  |none=>simp [sliceBounds,HT.sIx]
  |some i=>
   simp only[sliceBounds,HT.sIx,Option.getD_none,show(1:Int)>0 by decide,if_true]
   by_cases h:i<0
   ·simp only[h,if_true]<;>lia
   ·simp only[h,if_false]<;>lia
 ·cases hi with
  |none=>simp [sliceBounds,HT.sIx]
  |some i=>
   simp only[sliceBounds,HT.sIx,Option.getD_none,show(1:Int)>0 by decide,if_true]
   by_cases h:i<0
   ·simp only[h,if_true]<;>lia
   ·simp only[h,if_false]<;>lia
theorem j1b_ (its:List Value) (lo hi:Option Int):slicePick its.toArray lo hi none=((its.drop (HT.sIx its.length 0 lo)).take (HT.sIx its.length its.length hi-HT.sIx its.length 0 lo)).toArray:=by
 obtain⟨h1,h2,h3⟩:=j34_ lo hi its.toArray.size
 unfold slicePick
 rw[h1,h2,h3]
 simp only[sliceRange_one,pick_run,List.size_toArray]<;>rfl
def rSlL (K:PySem.W.Frag):V->Option Int->Option Int->Hp->VK->Prop:=fun x lo hi H Q=> ∃a xs,x= .ref a/\cK K H a xs/\ ∀p,H p=none->Q (.ref p) (bg H p (.lst (cutV xs lo hi)))
theorem uy_:SlR X (rSlL X.K):=by
 intro pins s σ H x v vl vu lo hi sl Q I rx hs pl pu h
 obtain⟨a,xs,rfl,hx,q⟩:=h
 cases rx
 obtain⟨its,r,ht,hz⟩:=I.list hx
 have hlen:=r.length
 refine⟨"list",_,slot_list_getitem.lookup,ht.isList.typeIs,?_⟩
 refine wpAny_getItem_list_slice ht.isList hs pl pu .none [022] ?_ (by rw[List.size_toArray]<;>lia)
 rw[j1b_,<-hlen]
 refine⟨.ref s.heap.objs.size,_,I.laid (t':=s.toks) (o:= .lst (cutV xs lo hi)) (fun b ob q=>Heap.get?_push_of_some _ q) [007] ?_,rfl,q _ (I.hok.fresh [007])⟩
 exact⟨Nat.le_trans (j4a_ xs lo hi) hz,_,0,(r.drop (HT.sIx xs.length 0 lo)).take (HT.sIx xs.length xs.length hi-HT.sIx xs.length 0 lo),Heap.get?_push_size _ rfl⟩
def jh_:V->Bool
 | .non=>true
 | .bl _=>true
 | .int _=>true
 | .str _=>true
 |_=>false
def eqV:V->V->Bool
 | .non, .non=>true
 | .bl a, .bl b=>a == b
 | .bl a, .int b=>(if a then 1 else 0) == b
 | .int a, .bl b=>a == (if b then 1 else 0)
 | .int a, .int b=>a == b
 | .str a, .str b=>a == b
 |_,_=>false
theorem eqAt_V {A:Around}{s:Shared}{y x:V}{u v:Value}(ry:bE y u) (rx:bE x v) (fy:jh_ y=true) (fx:jh_ x=true):SeqAt.EqAt A s u v (eqV y x):=by
 cases y with
 |non=>
  cases ry
  cases x with
  |non=>cases rx;exact SeqAt.EqAt.same _
  |bl b=>cases rx;exact SeqAt.EqAt.none_bool b
  |int b=>obtain⟨t,rfl⟩:=rx;exact SeqAt.EqAt.none_int b t
  |str b=>obtain⟨t,rfl⟩:=rx;exact SeqAt.EqAt.none_str b t
  |_=>exact absurd (show false=true from fx) Bool.false_ne_true
 |bl a=>
  cases ry
  cases x with
  |non=>cases rx;exact SeqAt.EqAt.bool_none a
  |bl b=>cases rx;exact SeqAt.EqAt.bool_bool a b
  |int b=>obtain⟨t,rfl⟩:=rx;exact SeqAt.EqAt.bool_int a b t
  |str b=>obtain⟨t,rfl⟩:=rx;exact SeqAt.EqAt.bool_str a b t
  |_=>exact absurd (show false=true from fx) Bool.false_ne_true
 |int a=>
  obtain⟨t',rfl⟩:=ry
  cases x with
  |non=>cases rx;exact SeqAt.EqAt.int_none a t'
  |bl b=>cases rx;exact SeqAt.EqAt.int_bool a t' b
  |int b=>obtain⟨t,rfl⟩:=rx;exact SeqAt.EqAt.int_int a t' b t
  |str b=>obtain⟨t,rfl⟩:=rx;exact SeqAt.EqAt.int_str a t' b t
  |_=>exact absurd (show false=true from fx) Bool.false_ne_true
 |str a=>
  obtain⟨t',rfl⟩:=ry
  cases x with
  |non=>cases rx;exact SeqAt.EqAt.str_none a t'
  |bl b=>cases rx;exact SeqAt.EqAt.str_bool a t' b
  |int b=>obtain⟨t,rfl⟩:=rx;exact SeqAt.EqAt.str_int a t' b t
  |str b=>obtain⟨t,rfl⟩:=rx;exact SeqAt.EqAt.str_str a t' b t
  |_=>exact absurd (show false=true from fx) Bool.false_ne_true
 |_=>exact absurd (show false=true from fy) Bool.false_ne_true
def eqU (x:V) (u:Value):Bool:=match u with
 | .none=>eqV .non x
 | .bool b=>eqV (.bl b) x
 | .int i _=>eqV (.int i) x
 | .str z _=>eqV (.str z) x
 |_=>false
theorem eqU_of {x y:V}{u:Value}(r:bE y u) (f:jh_ y=true):eqU x u=eqV y x:=by
 cases y with
 |non=>cases r;rfl
 |bl b=>cases r;rfl
 |int i=>obtain⟨t,rfl⟩:=r;rfl
 |str z=>obtain⟨t,rfl⟩:=r;rfl
 |_=>exact absurd (show false=true from f) Bool.false_ne_true
theorem ve_ {x:V} : ∀ {xs:List V}{us:List Value},bL xs us->xs.all jh_=true->us.any (eqU x)=xs.any fun y=>eqV y x
 |_,_, .nil,_=>rfl
 |y::xs,u::us, .cons r t,f=>by
  rw[List.all_cons,Bool.and_eq_true] at f
  rw[List.any_cons,List.any_cons,eqU_of r f.1,ve_ t f.2]
theorem gV {A:Around}{s:Shared}{x:V}{v:Value}(rx:bE x v) (fx:jh_ x=true): ∀ {xs:List V}{us:List Value},bL xs us->xs.all jh_=true-> ∀u∈us,SeqAt.EqAt A s u v (eqU x u)
 |_,_, .nil,_=>fun u hu=>by cases hu
 |y::xs,u::us, .cons r t,f=>fun u' hu=>by
  rw[List.all_cons,Bool.and_eq_true] at f
  rcases List.mem_cons.mp hu with rfl|hu
  ·rw[eqU_of r f.1];exact eqAt_V r rx f.1 fx
  ·exact gV rx fx t f.2 u' hu
def inV (x:V) (xs:List V):Bool:=xs.any fun y=>eqV y x
inductive rIn (K:PySem.W.Frag) (neg:Bool) (x:V) (y:V) (H:Hp) (Q:VK):Prop
 |mk (p:Addr) (xs:List V) (_:y= .ref p) (_:(cK K H p xs\/SqT K H p xs)) (_:jh_ x=true) (_:xs.all jh_=true) (_:Q (.bl (if neg then !inV x xs else inV x xs)) H):rIn K neg x y H Q
theorem vo_:OpR X (compareOp .In) (rIn X.K false):=by
 rw[013]
 obtain⟨p,xs,rfl,hq,fx,fs,q⟩:=h
 cases ry
 rcases hq with hq|hq
 ·obtain⟨its,r,pl,hz⟩:=I.list hq
  refine SeqAt.in_listAt (eqU x) pl.isList (fun w hw=>gV rx fx r fs w (by simpa using hw)) ⟨.bl _,H,I,rfl,?_⟩
  rw[042]
 ·obtain⟨its,r,pl,hz⟩:=I.tuple hq
  refine SeqAt.in_tupleAt (eqU x) pl (fun w hw=>gV rx fx r fs w (by simpa using hw)) ⟨.bl _,H,I,rfl,?_⟩
  rw[042]
theorem j3h_:OpR X (compareOp .NotIn) (rIn X.K true):=by
 rw[013]
 obtain⟨p,xs,rfl,hq,fx,fs,q⟩:=h
 cases ry
 rcases hq with hq|hq
 ·obtain⟨its,r,pl,hz⟩:=I.list hq
  refine SeqAt.notIn_listAt (eqU x) pl.isList (fun w hw=>gV rx fx r fs w (by simpa using hw)) ⟨.bl _,H,I,rfl,?_⟩
  rw[042]
 ·obtain⟨its,r,pl,hz⟩:=I.tuple hq
  refine SeqAt.notIn_tupleAt (eqU x) pl (fun w hw=>gV rx fx r fs w (by simpa using hw)) ⟨.bl _,H,I,rfl,?_⟩
  rw[042]
inductive rLen (K:PySem.W.Frag) (xs:List V) (H:Hp) (Q:VK):Prop
 |mk (p:Addr) (ys:List V) (_:xs=[.ref p]) (_:(cK K H p ys\/SqT K H p ys)) (_:Q (.int ys.length) H):rLen K xs H Q
theorem bj:io X (.builtin "len") (rLen X.K):=by
 rw[029]
 obtain⟨p,ys,rfl,hq,q⟩:=h
 obtain⟨u,rfl,rx⟩:=vals1 r
 cases rx
 have hn:=j2k_
 rcases hq with hq|hq
 ·obtain⟨its,r',pl,hz⟩:=I.list hq
  have hlen:=r'.length
  exact Calls.call_len_list pl.isList (by simp only[List.size_toArray]<;>lia) ⟨.int ys.length,H,I.tok _,⟨s.toks+1,by rw[List.size_toArray,hlen]⟩,q⟩
 ·obtain⟨its,r',pl,hz⟩:=I.tuple hq
  have hlen:=r'.length
  exact len_tuple pl (by simp only[List.size_toArray]<;>lia) ⟨.int ys.length,H,I.tok _,⟨s.toks+1,by rw[List.size_toArray,hlen]⟩,q⟩
theorem fH:io X (.type "tuple") (fun xs H Q=> ∃p ys,xs=[.ref p]/\((cK X.K H p ys/\ ∀l,H l=none->Q (.ref l) (bg H l (.tup ys)))\/(SqT X.K H p ys/\Q (.ref p) H))):=by
 rw[029]
 obtain⟨p,ys,rfl,h⟩:=h
 obtain⟨u,rfl,rx⟩:=vals1 r
 cases rx
 rcases h with⟨hq,q⟩|⟨hq,q⟩
 ·obtain⟨its,r',pl,hz⟩:=I.list hq
  have hlen:=r'.length
  refine call_tuple_list pl.isList (fun h' kp=>?_) (by simp only[List.size_toArray]<;>lia)
  have I1:aV X pins σ H { s with heap:=h' } :=I.kept (t':=s.toks) kp
  have I2:aV X pins σ (bg H h'.objs.size (.tup ys)) { s with heap:=h'.push { cls:= .type "tuple",data:= .seq its.toArray } } :=
   I1.laid (t':=s.toks) (fun b o e=>Heap.get?_push_of_some _ e) [007] (show cE X.prog X.w _ _ _ (.tup ys) from⟨hz,its,r',IsTup.new _ _⟩)
  exact⟨.ref h'.objs.size,_,I2,rfl,q _ (I1.hok.fresh [007])⟩
 ·obtain⟨its,r',pl,hz⟩:=I.tuple hq
  exact call_tuple_same pl ⟨.ref p,H,I,rfl,q⟩
def tyV (K:PySem.W.Frag) (T:String) (x:V) (H:Hp):Prop:=match x with
 | .str _=>T="str"
 | .int _=>T="int"
 | .ref p=>(T="list"/\ ∃xs,cK K H p xs)\/(T="tuple"/\ ∃o,K.lookup p=some o/\o.cls= .type "tuple"/\o.dict=none)\/
   (T="dict"/\((∃kvs,H p=some [0023])\/ ∃kvs,H p=some (.dT kvs)))\/(T="set"/\ ∃S n,H p=some (.set S n))
 |_=>False
theorem tyV_is {pins:List [001]}{σ:St}{H:Hp}{s:Shared}{T:String}{x:V}{v:Value}(I:aV X pins σ H s) (r:bE x v) (ty:tyV X.K T x H):
  s.TypeIs v T/\ ∀a,v= .ref a-> ∃ob,s.heap.get? a=some ob/\ob.dict=none:=by
 cases x with
 |str z=>
  obtain⟨t,rfl⟩:=r
  cases (show T="str" from ty)
  exact⟨typeIs_str s z t,fun _ e=>nomatch e⟩
 |int i=>
  obtain⟨t,rfl⟩:=r
  cases (show T="int" from ty)
  exact⟨typeIs_int s i t,fun _ e=>nomatch e⟩
 |ref p=>
  cases r
  rcases ty with⟨rfl,xs,hq⟩|⟨rfl,o,hk,hc,hd⟩|⟨rfl,hk⟩|⟨rfl,S,n,hk⟩
  ·obtain⟨its,_,pl,_⟩:=I.list hq
   refine⟨pl.isList.typeIs,fun a e=>?_⟩
   cases e
   obtain⟨o,n,e,c,hd,_⟩:=pl
   exact⟨o,e,hd⟩
  ·refine⟨⟨o,I.kIn p o hk,hc⟩,fun a e=>?_⟩
   cases e
   exact⟨o,I.kIn _ o hk,hd⟩
  ·have z: ∃o,s.heap.get? p=some o/\o.ExactDict:=by
    rcases hk with⟨kvs,hk⟩|⟨kvs,hk⟩
    ·obtain⟨_,_,_,_,o,_,_,e,ex,_⟩:=I.hok p _ hk
     exact⟨o,e,ex⟩
    ·obtain⟨_,_,_,_,o,_,_,e,ex,_⟩:=I.hok p _ hk
     exact⟨o,e,ex⟩
   obtain⟨o,e,ex⟩:=z
   refine⟨⟨o,e,ex.1⟩,fun a e2=>?_⟩
   cases e2
   exact⟨o,e,ex.2.1⟩
  ·obtain⟨o,_,_,_,e,ex,_⟩:=I.hok p _ hk
   refine⟨⟨o,e,ex.1⟩,fun a e2=>?_⟩
   cases e2
   exact⟨o,e,ex.2.1⟩
 |_=>exact False.elim ty
inductive isTy (K:PySem.W.Frag) (T:String) (R:V->Hp->Prop) (x:V) (H1:Hp):Prop
 |mk (_:tyV K T x H1) (_:R x H1):isTy K T R x H1
def tBM (K:PySem.W.Frag) (T:String) (r:V->List V->Hp->VK->Prop) (to:TE) (t:TA):TE:=fun σ H Q=>to σ H (isTy K T (fun x H1=>t σ H1 fun xs H2=>r x xs H2 Q))
variable {o e:Expr}{es:List Expr}{to:TE}{t:TA}{name:Str}{apos cpos:Pos}{T id:String}{r:V->List V->Hp->VK->Prop}
theorem cr (pa:PlainAttrs T) (slot:Slot T name id) (hty:typeOf (.builtin id)=pure (.type "method_descriptor")) (hm:MtR X id r) (ho:PE X o to) (ha:PA X (e::es) t)
  (hbase:attributeBase o name X.env (eval o X.env)=eval o X.env:=by rfl)
  (hfew:((backTo cpos (starEach (e::es) X.env)).all (fun x=>!x.1)&&(backToKw cpos [0022]).all (fun x=>x.1.isSome)
   &&decide ((e::es).length+([]:List Keyword).length+(if([]:List Keyword).isEmpty then 0 else 1)<30))=true:=by rfl)
  (hline:(apos.endLine == cpos.line)=true:=by rfl) (hs:starEach (e::es) X.env=[032]::starEach es X.env:=by rfl) (hplain:(backTo cpos [057]).any (·.1)=false:=by rfl):
  PE X (.Call (.Attribute o name apos) (e::es) [] cpos) (tBM X.K T r to t):=by
 rw[02]
 refine wpAny_Call_method_late hbase hfew hline rfl (cJ (ho pins s σ H _ I h) fun v s1 ⟨x,H1,I1,r1,ty,q1⟩=>?_)
 obtain⟨h1,h2⟩:=tyV_is I1 r1 ty
 refine⟨T,id,pa,slot,hty,h1,h2,?_⟩
 have hA:=ha cpos pins s1 σ H1 _ I1 q1
 rw[hs] at hA ⊢
 refine Calls.callWith_builtin (by show(false||(backTo cpos [057]).any (·.1))=false;rw[hplain]<;>rfl) (Calls.evalArgs_plain ?_)
 exact cJ hA fun us s2 ⟨vs,H2,I2,r2,q2⟩=>hm pins s2 σ H2 x vs v us Q I2 r1 r2 q2
end
end L2
namespace L2
open PySem PySem.Spec PyProof.Rows
def MtM (X:Cx) (id:String) (r:V->List V->Hp->VK->Prop):Prop:=
 ∀(pins:List [001]) (s:Shared) (σ:St) (H:Hp) (x:V) (xs:List V) (v:Value) (us:List Value) (Q:VK),aV X pins σ H s->bE x v->bL xs us->r x xs H Q->
  wpAny (model X.prog X.w) X.A (call (.builtin id) (v::us)) [044] X.xe s
theorem bL.one: ∀ {x:V}{us:List Value},bL [x] us-> ∃u,us=[u]/\bE x u
 |_,_, .cons r .nil=>⟨_,rfl,r⟩
section
variable {X:Cx}{pins:List (Addr×Obj)}{σ:St}{H:Hp}{s:Shared}{l b:Addr}{xs ys zs:List V}
theorem aV.lset {its its':List Value}{n:Nat}{f:Array Value->Array Value}{t':Nat}(I:aV X pins σ H s) (hH:H l=some [085])
  (e:s.heap.get? l=some { cls:= .type "list",data:= .seq its.toArray n }) (hf:f its.toArray=its'.toArray) (hv:bL ys its') (hz:ys.length<=sizeLine):
  aV X pins σ (bg H l (.lst ys)) { s with heap:=s.heap.update l (Obj.mapSeq f),toks:=t' } :=by
 have q:=PySem.IsL.update e f
 rw[hf] at q
 refine I.write (x:=l) (e:=l) (by rw[hH];exact trivial) (.inl rfl) (fun b' u hb hu=>(Heap.get?_update_other s.heap (Obj.mapSeq f) (Ne.symm hb)).trans hu) ⟨_,q⟩ ?_
 exact⟨hz,its',_,hv,q⟩
theorem aV.lnew {its:List Value}{t':Nat}(I:aV X pins σ H s) (hv:bL ys its) (hz:ys.length<=sizeLine):
  aV X pins σ (bg H s.heap.objs.size (.lst ys)) { s with heap:=s.heap.push { cls:= .type "list",data:= .seq its.toArray },toks:=t' } :=
 I.laid (fun _ _ q=>Heap.get?_push_of_some _ q) [007] ⟨hz,its,0,hv,Heap.get?_push_size _ rfl⟩
theorem aV.fresh (I:aV X pins σ H s):H s.heap.objs.size=none:=I.hok.fresh [007]
theorem aV.lstM (I:aV X pins σ H s) (hH:H l=some [085]):xs.length<=sizeLine/\ ∃(its:List Value) (n:Nat),bL xs its/\xs.length=its.length/\s.heap.get? l=some { cls:= .type "list",data:= .seq its.toArray n } :=by
 obtain⟨z,its,n,r,e⟩:=I.hok l _ hH
 exact⟨z,its,n,r,r.length,e⟩
theorem notLongL {n:Nat}(h:n<=sizeLine):Builtin.List.listTooLong n=false:=by
 unfold Builtin.List.listTooLong
 exact decide_eq_false (by lia)
end
section
variable {X:Cx}
inductive uo_ (x:V) (vs:List V) (H:Hp) (Q:VK):Prop
 |mk (l:Addr) (xs:List V) (y:V) (_:x= .ref l) (_:vs=[y]) (_:H l=some [085]) (_:xs.length<sizeLine) (_:Q .non (bg H l (.lst (xs++[y])))):uo_ x vs H Q
theorem bR:MtM X "list.append" uo_:=by
 intro pins s σ H x vs v us Q I rx rv h
 obtain⟨l,xs,y,rfl,rfl,hH,hz,q⟩:=h
 cases rx
 obtain⟨u,rfl,ru⟩:=rv.one
 obtain⟨z,its,n,r,hl,e⟩:=I.lstM hH
 refine call_meets F.slot_list_append ⟨_,e,rfl⟩ F.entry_list_append (F.args_list_append_2 _ _) (PySem.list_append l its.toArray n u (by rw[List.size_toArray];lia)) ⟨e,?_⟩
 refine⟨.non,_,I.lset (its':=its++[u]) hH e [022] (r.append (.cons ru .nil)) ?_,rfl,q⟩
 rw[List.length_append,List.length_singleton]
 lia
inductive uu_ (x:V) (vs:List V) (H:Hp) (Q:VK):Prop
 |mk (l b:Addr) (xs zs:List V) (_:x= .ref l) (_:vs=[.ref b]) (_:H l=some [085]) (_:H b=some (.lst zs)) (_:xs.length+zs.length<=sizeLine) (_:Q .non (bg H l (.lst (xs++zs)))):uu_ x vs H Q
theorem bX:MtM X "list.extend" uu_:=by
 intro pins s σ H x vs v us Q I rx rv h
 obtain⟨l,b,xs,zs,rfl,rfl,hH,hB,hz,q⟩:=h
 cases rx
 obtain⟨u,rfl,ru⟩:=rv.one
 cases ru
 obtain⟨z,its,n,r,hl,e⟩:=I.lstM hH
 obtain⟨z2,its2,n2,r2,hl2,e2⟩:=I.lstM hB
 have hsz:its.toArray.size+its2.toArray.size<=sizeLine:=by rw[List.size_toArray,List.size_toArray];lia
 have hlong: ¬(!its.toArray.isEmpty&&Builtin.List.listTooLong (its.toArray.size+its2.toArray.size))=true:=by
  rw[notLongL hsz,Bool.and_false]
  exact Bool.false_ne_true
 refine call_meets F.slot_list_extend ⟨_,e,rfl⟩ F.entry_list_extend (F.args_list_extend_2 _ _)
  (AutoSeq1.list_extend_list_list_0 l its.toArray n b its2.toArray n2 hlong (by rw[List.size_toArray];lia) (by lia)) ⟨e,e2,?_⟩
 refine⟨.non,_,I.lset (its':=its++its2) hH e [022] (r.append r2) ?_,rfl,q⟩
 rw[List.length_append]
 lia
inductive rCat (x:V) (y:V) (H:Hp) (Q:VK):Prop
 |mk (l b:Addr) (xs zs:List V) (_:x= .ref l) (_:y= .ref b) (_:H l=some [085]) (_:H b=some (.lst zs)) (_:xs.length+zs.length<=sizeLine) (_: ∀p,H p=none->Q (.ref p) (bg H p (.lst (xs++zs)))):rCat x y H Q
theorem bI:OpR X (binaryOp .Add) rCat:=by
 rw[013]
 obtain⟨l,b,xs,zs,rfl,rfl,hH,hB,hz,q⟩:=h
 cases rx
 cases ry
 obtain⟨z,its,n,r,hl,e⟩:=I.lstM hH
 obtain⟨z2,its2,n2,r2,hl2,e2⟩:=I.lstM hB
 refine PySem.P.add_list e e2 ?_ (by rw[List.size_toArray,List.size_toArray];lia)
 have ea:its.toArray++its2.toArray=(its++its2).toArray:=by simp
 rw[ea]
 exact⟨.ref _,_,I.lnew (t':=s.toks) (r.append r2) (by rw[List.length_append];lia),rfl,q _ I.fresh⟩
end
section
variable {prog:Program}{w:World}{A:Around}{E:Value->Shared->Prop}{s:Shared}
set_option maxRecDepth 100000 in
end
end L2
namespace L2
open PySem PySem.Spec PyProof.Rows
theorem bL.bls: ∀ {bs:List Bool}{us:List Value},bL (bs.map V.bl) us->us=bs.map Value.bool
 |[],us,h=>by
  rw[List.map_nil] at h
  cases h
  rfl
 |b::bs,us,h=>by
  rw[List.map_cons] at h
  cases h with
  |cons r t=>
   cases r
   rw[bL.bls t,List.map_cons]
theorem bL.ref1 {a:Addr}{us:List Value}(r:bL [V.ref a] us):us=[Value.ref a]:=by
 cases r with
 |cons r t=>
  cases t
  cases r
  rfl
theorem iter_any {prog:Program}{w:World}{A:Around}{E:Value->Shared->Prop}{s:Shared}{l:Addr}{items:Array Value}{Q:Value->Shared->Prop}(hl:s.heap.IsList l items)
  (h: ∀s₂:Shared,s₂= { s with heap:=s.heap.push { cls:= .type "list_iterator",data:= .fields #[.ref l, .int 0 0] } } ->
   (s₂.heap.IsListIter s.heap.objs.size l 0/\s₂.heap.IsList l items)->l≠s.heap.objs.size->Q (.ref s.heap.objs.size) s₂):wpAny (model prog w) A (pyIter (.ref l)) Q E s:=by
 have hlt:l<s.heap.objs.size:=by obtain⟨_,e,_⟩:=hl;exact Heap.lt_size e
 exact wpAny_pyIter_list hl (h _ rfl ⟨⟨_,Heap.get?_push_size _ rfl,rfl,rfl⟩,hl.push _⟩ (Nat.ne_of_lt hlt))
theorem j4e_ {prog:Program}{w:World}{A:Around}{bs:List Bool}{its:List Value}(e:its=bs.map Value.bool):
  TruthOf prog w A (fun i v=>its.toArray[i]?=some v) (fun i=>bs.getD i false):=fun i v s Q E hv hq=>by
 have hv':its[i]?=some v:=by simpa using hv
 rw[e,List.getElem?_map] at hv'
 obtain⟨b,hb,rfl⟩:=Option.map_eq_some_iff.mp hv'
 have hg:bs.getD i false=b:=by rw[List.getD_eq_getElem?_getD,hb]<;>rfl
 have hq':Q (bs.getD i false) s:=hq
 rw[hg] at hq'
 exact wpAny_truthy_bool hq'
theorem j1y_: ∀bs:List Bool,(List.range bs.length).all (fun i=>bs.getD i false)=bs.all id
 |[]=>rfl
 |b::bs=>by
  rw[List.length_cons,List.range_succ_eq_map,List.all_cons,List.all_map,List.all_cons,<-j1y_ bs]
  all_goals rfl
section
variable {X:Cx}
def rAll (K:PySem.W.Frag):List V->Hp->VK->Prop:=fun vs H Q=> ∃(a:Addr) (bs:List Bool),vs=[V.ref a]/\cK K H a (bs.map V.bl)/\Q (.bl (bs.all id)) H
theorem cr_all (hc:X.calm=true):io X (.builtin "all") (rAll X.K):=by
 intro pins s σ H vs us Q I r h
 obtain⟨a,bs,rfl,hs,q⟩:=h
 obtain⟨its,rv,hl,_⟩:=I.list hs
 rw[bL.ref1 r]
 have hb:=rv.bls
 refine call_all_walk (iter_any hl.isList fun s₂ e2 st hne=>?_)
 subst e2
 refine⟨_,_,_,_,_,_,_,rfl,Walks.list (A:=X.A.in1) (I.ok.hd hc) _ a hne its.toArray,st,j4e_ hb,fun h' tk hk=>?_⟩
 refine⟨.bl _,H,I.kept fun b o eo=>hk b o (fun hmem=>?_) (Heap.get?_push_of_some _ eo),?_,q⟩
 ·rcases List.mem_cons.mp hmem with e1|hmem
  ·exact absurd (e1▸Heap.lt_size eo) [048]
  ·cases hmem
 ·show Value.bool _=Value.bool _
  rw[<-j1y_,hb,List.size_toArray,List.length_map]
end
end L2
namespace L2
open PySem PySem.Spec PyProof.Rows
abbrev CellAt (h:Heap) (c:Addr) (v:Option Value):Prop:=h.IsCell c v
def relS (scope sc:Scope):Scope:=
 { scope with names:=scope.names.map fun(n,k)=>if(k == .free&&sc.kind == .function&&sc.names.lookup n == some .cell) then(n, .cell) else(n,k) }
def cp (cells:List [047]):List (Str×NameKind)->List (Str×Addr)->List [047]
 |[],acc=>acc
 | (n,k)::r,acc=>if k == .free then cp cells r ((n,(cells.lookup n).getD 0)::acc) else cp cells r acc
theorem vj_ (env:Env) (f:Str×NameKind->List (Str×Addr)->Sem (ForInStep (List [047])))
  (hf: ∀n k c,f (n,k) c=if k == .free then(do let a<-cellOf env n;pure (.yield ((n,a)::c))) else pure (.yield c)):
  ∀(names:List [0000]) (acc:List [047]),(∀y∈names,y.2= .free-> ∃c,env.cells.lookup y.1=some c)->forIn names acc f=pure (cp env.cells names acc)
 |[],acc,_=>by rw[List.forIn_nil];rfl
 | (n,k)::r,acc,h=>by
  rw[List.forIn_cons,hf]
  have ih:=fun acc=>vj_ env f hf r acc fun y hy=>h y (List.mem_cons_of_mem _ hy)
  unfold cp
  by_cases hk:(k == NameKind.free)=true
  ·rw[if_pos hk,if_pos hk]
   obtain⟨c,hc⟩:=h (n,k) List.mem_cons_self (by simpa using hk)
   have e:cellOf env n=pure c:=by unfold cellOf;rw[hc]
   rw[e]
   have e2:(env.cells.lookup n).getD 0=c:=by rw[hc];rfl
   rw[e2]
   exact ih _
  ·rw[if_neg hk,if_neg hk]
   exact ih _
theorem j5s_ {scope:Scope}{env:Env}(h: ∀y∈scope.names,y.2= .free-> ∃c,env.cells.lookup y.1=some c):closureFor scope env=pure (cp env.cells scope.names []):=by
 simp only[closureFor]
 rw[vj_ env _ (fun n k c=>rfl) scope.names [] h]
 rfl
theorem jp_ {α:Type} : ∀ {l:List (Str×α)}{n:Str}{c:α},(n,c)∈l-> ∃c',l.lookup n=some c'
 | (k,v)::r,n,c,h=>by
  rw[List.lookup_cons]
  cases hb:n == k with
  |true=>exact⟨_,rfl⟩
  |false=>
   rcases List.mem_cons.mp h with e|h
   ·cases e;simp at hb
   ·exact jp_ h
theorem fF {cells:List [047]} : ∀ {names:List [0000]}{acc:List [047]}{n:Str}{c:Addr},(n,c)∈cp cells names acc->(n,c)∈acc\/((n, .free)∈names/\c=(cells.lookup n).getD 0)
 |[],_,_,_,h=> .inl h
 | (m,k)::r,acc,n,c,h=>by
  unfold cp at h
  split at h
  ·rename_i hk
   have hk:k= .free:=by simpa using hk
   rcases fF h with h|⟨h1,h2⟩
   ·rcases List.mem_cons.mp h with e|h
    ·cases e;exact .inr ⟨hk▸List.mem_cons_self,rfl⟩
    ·exact .inl h
   ·exact .inr ⟨List.mem_cons_of_mem _ h1,h2⟩
  ·rcases fF h with h|⟨h1,h2⟩
   ·exact .inl h
   ·exact .inr ⟨List.mem_cons_of_mem _ h1,h2⟩
theorem j4_ {cells:List [047]} : ∀ {names:List [0000]}{acc:List [047]}{p:Str×Addr},p∈acc->p∈cp cells names acc
 |[],_,_,h=>h
 | (m,k)::r,acc,p,h=>by
  unfold cp
  split
  ·exact j4_ (List.mem_cons_of_mem _ h)
  ·exact j4_ h
theorem ir {cells:List [047]} : ∀ {names:List [0000]}{acc:List [047]}{n:Str},(n, .free)∈names->(n,(cells.lookup n).getD 0)∈cp cells names acc
 | (m,k)::r,acc,n,h=>by
  unfold cp
  rcases List.mem_cons.mp h with e|h
  ·cases e
   exact j4_ List.mem_cons_self
  ·split
   ·exact ir h
   ·exact ir h
theorem fP: ∀ {names:List [0000]}{h:Heap}{acc:List [047]}{x:Str}{c:Addr},(x,c)∈cellsFrom h.objs.size names acc->
  (x,c)∈acc\/((x, .cell)∈names/\h.objs.size<=c/\CellAt (pushCells h names) c none)
 |[],_,_,_,_,h=> .inl h
 | (n,k)::r,h,acc,x,c,hm=>by
  unfold cellsFrom at hm
  unfold pushCells
  split at hm
  ·rename_i hk
   rw[if_pos hk]
   have hk:k= .cell:=by simpa using hk
   rw[<-Heap.size_push h { cls:= .type "cell",data:= .cell none }] at hm
   rcases fP hm with hm|⟨h1,h2,h3⟩
   ·rcases List.mem_cons.mp hm with e|hm
    ·cases e
     exact .inr ⟨hk▸List.mem_cons_self,Nat.le_refl _,_,pushCells_keeps r _ _ _ (Heap.get?_push_size _ rfl),rfl⟩
    ·exact .inl hm
   ·rw[Heap.size_push] at h2
    exact .inr ⟨List.mem_cons_of_mem _ h1,Nat.le_of_succ_le h2,h3⟩
  ·rename_i hk
   rw[if_neg hk]
   rcases fP hm with hm|⟨h1,h2,h3⟩
   ·exact .inl hm
   ·exact .inr ⟨List.mem_cons_of_mem _ h1,h2,h3⟩
theorem jd_: ∀ {names:List [0000]}{n:Nat}{acc:List [047]}{p:Str×Addr},p∈acc->p∈cellsFrom n names acc
 |[],_,_,_,h=>h
 | (m,k)::r,n,acc,p,h=>by
  unfold cellsFrom
  split
  ·exact jd_ (List.mem_cons_of_mem _ h)
  ·exact jd_ h
theorem qj_: ∀ {names:List [0000]}{n:Nat}{acc:List [047]}{x:Str},(x, .cell)∈names-> ∃c,(x,c)∈cellsFrom n names acc
 | (m,k)::r,n,acc,x,h=>by
  unfold cellsFrom
  rcases List.mem_cons.mp h with e|h
  ·cases e
   exact⟨n,jd_ List.mem_cons_self⟩
  ·split
   ·exact qj_ h
   ·exact qj_ h
theorem qi_: ∀ {names:List [0000]}{h:Heap}{acc:List [047]}{x y:Str}{c:Addr},(∀p∈acc,p.2<h.objs.size)->(∀x y c,(x,c)∈acc->(y,c)∈acc->x=y)->
  (x,c)∈cellsFrom h.objs.size names acc->(y,c)∈cellsFrom h.objs.size names acc->x=y
 |[],_,_,_,_,_,_,hi,h1,h2=>hi _ _ _ h1 h2
 | (n,k)::r,h,acc,x,y,c,hl,hi,h1,h2=>by
  unfold cellsFrom at h1 h2
  split at h1
  ·rename_i hk
   rw[if_pos hk] at h2
   rw[<-Heap.size_push h { cls:= .type "cell",data:= .cell none }] at h1 h2
   refine qi_ (h:=h.push _) (fun p hp=>?_) (fun x y c a b=>?_) h1 h2
   ·rw[Heap.size_push]
    rcases List.mem_cons.mp hp with rfl|hp
    ·exact Nat.lt_succ_self _
    ·exact Nat.lt_succ_of_lt (hl p hp)
   ·rcases List.mem_cons.mp a with e|a<;>rcases List.mem_cons.mp b with e'|b
    ·cases e;cases e';rfl
    ·cases e;exact absurd (hl _ b) [048]
    ·cases e';exact absurd (hl _ a) [048]
    ·exact hi _ _ _ a b
  ·rename_i hk
   rw[if_neg hk] at h2
   exact qi_ hl hi h1 h2
theorem j5g_ {M:Model}{A:Around}{E:Value->Shared->Prop}{s:Shared}{scope:Scope}{globals:Addr}{closure:List [047]}{qual:Str}{func:Option Addr}{code:Value}{around:Env}{builtins:Addr}{Q:Env->Shared->Prop}
  (h:Q (newEnv scope s.heap.objs.size globals (cellsFrom (s.heap.objs.size+1) scope.names closure) qual func code (some around) builtins)
   { s with heap:=pushCells (s.heap.push { cls:= .type "dict",data:= .dict #[] }) scope.names }):
  wpAny M A (newFunctionEnv scope globals closure [] qual func code (some around) builtins) Q E s:=by
 simp only[newFunctionEnv,Option.isSome_some,if_true]
 refine wpAny_bind (wpAny_alloc ?_)
 refine wpAny_bind (wpAny_layCells _ (fun n k c=>rfl) scope.names closure _ _ ?_)
 rw[show({ s with heap:=s.heap.push { cls:= .type "dict",data:= .dict #[] } } :Shared).heap.objs.size=s.heap.objs.size+1 from Heap.size_push ..]
 rw[List.forIn_nil]
 exact wpAny_bind (wpAny_pure (wpAny_pure h))
theorem im {sc:Scope} : ∀ {names:List [0000]}{x:Str}{k:NameKind},
  (names.map fun(n,k)=>if(k == NameKind.free&&sc.kind == .function&&sc.names.lookup n == some .cell) then(n,NameKind.cell) else(n,k)).lookup x=some k->
  ∃k',names.lookup x=some k'/\(k=k'\/(k'= .free/\k= .cell))
 |[],_,_,h=>by simp at h
 | (n,k₀)::r,x,k,h=>by
  have ih:= @im sc r x k
  have h':List.lookup x ((if(k₀ == NameKind.free&&sc.kind == .function&&sc.names.lookup n == some .cell)=true then(n,NameKind.cell) else(n,k₀))::(r.map _))=some k:=h
  cases hx:x == n with
  |true=>
   simp only[List.lookup_cons,hx]
   by_cases hc:(k₀ == NameKind.free&&sc.kind == .function&&sc.names.lookup n == some .cell)=true
   ·rw[if_pos hc] at h'
    simp only[List.lookup_cons,hx] at h'
    cases h'
    simp only[Bool.and_eq_true,beq_iff_eq] at hc
    exact⟨k₀,rfl, .inr ⟨hc.1.1,rfl⟩⟩
   ·rw[if_neg hc] at h'
    simp only[List.lookup_cons,hx] at h'
    cases h'
    exact⟨_,rfl, .inl rfl⟩
  |false=>
   simp only[List.lookup_cons,hx]
   by_cases hc:(k₀ == NameKind.free&&sc.kind == .function&&sc.names.lookup n == some .cell)=true
   ·rw[if_pos hc] at h'
    simp only[List.lookup_cons,hx] at h'
    exact ih h'
   ·rw[if_neg hc] at h'
    simp only[List.lookup_cons,hx] at h'
    exact ih h'
structure BlkOk (N:List Str) (sc scope:Scope) (own:List (Str×Nat)):Prop where
 kind:scope.kind= .function
 uniq: ∀y∈scope.names,scope.names.lookup y.1=some y.2
 ix: ∀p∈own,N[p.2]?=some p.1
 free: ∀y∈scope.names,y.2= .free->sc.names.lookup y.1=some .cell\/sc.names.lookup y.1=some .free
 own: ∀y∈scope.names,y.2= .local\/y.2= .cell->y.1∈own.map (·.1)\/y.1∉N
def e9 (σ:St):List Nat->St
 |[]=>σ
 |v::vs=>(e9 σ vs).set v none
theorem hX (σ:St): ∀vs:List Nat,(e9 σ vs).length=σ.length
 |[]=>rfl
 |v::vs=>by unfold e9;rw[List.length_set,hX σ vs]
theorem qd_ {σ:St}{i:Nat}{x:V} : ∀ {vs:List Nat},(e9 σ vs)[i]?=some (some x)->σ[i]?=some (some x)/\i∉vs
 |[],h=>⟨h,by simp⟩
 |v::vs,h=>by
  unfold e9 at h
  by_cases hi:v=i
  ·subst hi
   by_cases hv:v<(e9 σ vs).length
   ·rw[List.getElem?_set_self hv] at h;cases h
   ·rw[List.getElem?_eq_none (by simpa using hv)] at h;cases h
  ·rw[List.getElem?_set_ne hi] at h
   obtain⟨h1,h2⟩:=qd_ h
   exact⟨h1,by simp only[List.mem_cons,not_or];exact⟨fun e=>hi e.symm,h2⟩⟩
abbrev Cx.blk (X:Cx) (s:Shared) (H:Hp) (scope:Scope) (cenv:Env) (fp:List Addr):Cx:= { X with s_0:=s,H_0:=H,env:=cenv,outer:=X.stack,ex:=fp,fn:=fun x=>scope.names.lookup x == some .cell,pn:=[],xe:=fun _ _=>False }
section
variable {X:Cx}{pins:List (Addr×Obj)}{σ:St}{H:Hp}{s:Shared}
theorem j54_ {scope:Scope}{own:List (Str×Nat)}{fp:List Addr}(I:aV X pins σ H s) (ok:BlkOk X.N X.env.scope scope own) (hN:X.N.Nodup) (hfp: ∀b∈fp,ug_ X pins H b/\b<s.heap.objs.size):
  aV (X.blk s H scope (compEnvC scope (cellsFrom (s.heap.objs.size+1) scope.names [061]) s.heap.objs.size X.env) fp) [] (e9 σ (own.map (·.2))) H { s with heap:=pushCells (s.heap.push { cls:= .type "dict",data:= .dict #[] }) scope.names } :=by
 have hfree: ∀y∈scope.names,y.2= .free-> ∃c,X.env.cells.lookup y.1=some c:=fun y hy e=>by
  rcases ok.free y hy e with k|k
  ·exact I.ok.has _ (.inl k)
  ·exact I.ok.has _ (.inr k)
 generalize hcenv:compEnvC scope (cellsFrom (s.heap.objs.size+1) scope.names [061]) s.heap.objs.size X.env=cenv
 have kp: ∀b o,s.heap.get? b=some o->(pushCells (s.heap.push { cls:= .type "dict",data:= .dict #[] }) scope.names).get? b=some o:=fun b o e=>pushCells_keeps _ _ _ _ (Heap.get?_push_of_some _ e)
 have hL:cenv.locals=s.heap.objs.size:=by rw[<-hcenv];rfl
 have hcl:cenv.cells=cellsFrom (s.heap.objs.size+1) scope.names [061]:=by rw[<-hcenv];rfl
 have hsc:cenv.scope=relS scope X.env.scope:=by rw[<-hcenv];rfl
 rw[<-Heap.size_push s.heap { cls:= .type "dict",data:= .dict #[] }] at hcl
 have cm: ∀ {y c},(y,c)∈cp X.env.cells scope.names []->X.env.cells.lookup y=some c/\c<s.heap.objs.size:=fun {y c} hm=>by
  rcases fF hm with hm|⟨h1,rfl⟩
  ·cases hm
  ·obtain⟨c,hc⟩:=hfree _ h1 rfl
   rw[hc]
   obtain⟨w,z⟩:=I.cell _ _ hc
   exact⟨rfl,z.lt⟩
 have mem: ∀ {y c},cenv.cells.lookup y=some c->(X.env.cells.lookup y=some c/\c<s.heap.objs.size)\/(s.heap.objs.size+1<=c/\CellAt (pushCells (s.heap.push { cls:= .type "dict",data:= .dict #[] }) scope.names) c none):=fun {y c} e=>by
  rw[hcl] at e
  rcases fP (PySem.mem_of_lookup e) with hm|⟨_,h2,h3⟩
  ·exact .inl (cm hm)
  ·rw[Heap.size_push] at h2;exact .inr ⟨h2,h3⟩
 have look: ∀ {y},scope.names.lookup y=some .free-> ∃c,cenv.cells.lookup y=some c/\X.env.cells.lookup y=some c:=fun {y} hl=>by
  have hy:(y,NameKind.free)∈scope.names:=PySem.mem_of_lookup hl
  obtain⟨c',e'⟩:=jp_ (jd_ (names:=scope.names) (n:=(s.heap.push { cls:= .type "dict",data:= .dict #[] }).objs.size) (ir (cells:=X.env.cells) (acc:=[]) hy))
  rw[<-hcl] at e'
  refine⟨c',e',?_⟩
  rw[hcl] at e'
  rcases fP (PySem.mem_of_lookup e') with hm|⟨h1,_,_⟩
  ·exact(cm hm).1
  ·have:=ok.uniq _ h1
   rw[hl] at this;cases this
 have okB:(X.blk s H scope cenv fp).Ok:=by
  refine⟨I.ok.mod,by show cenv.scope.kind=_;rw[hsc];exact ok.kind,by show cenv.globals=_;rw[<-hcenv];exact I.ok.glob,by show cenv.builtins=_;rw[<-hcenv];exact I.ok.blt,by show s.heap.objs.size<=cenv.locals;rw[hL];exact Nat.le_refl _,
   fun y z c e1 e2=>?_,fun y hy=>?_,fun y c z e=>?_,I.ok.hd,I.ok.frames, .inl rfl,fun b hb=>⟨?_,fun y c e z=>?_⟩,I.bs,Nat.le_trans I.ok.bsz I.sz,fun b o e hb=>?_,fun b hb z=>?_,I.stack,I.stkFree⟩
  ·have e1:cenv.cells.lookup y=some c:=e1
   have e2:cenv.cells.lookup z=some c:=e2
   rw[hcl] at e1 e2
   refine qi_ (fun p hp=>?_) (fun y z c a b=>I.ok.inj y z c (cm a).1 (cm b).1) (PySem.mem_of_lookup e1) (PySem.mem_of_lookup e2)
   rw[Heap.size_push]
   exact Nat.lt_succ_of_lt (cm (y:=p.1) (c:=p.2) hp).2
  ·show∃c,cenv.cells.lookup y=some c
   have key: ∀k,cenv.kindOf y=some k->(k= .cell\/k= .free)-> ∃c,cenv.cells.lookup y=some c:=fun k hk hk'=>by
    unfold Env.kindOf at hk
    rw[hsc] at hk
    obtain⟨k',e,r⟩:= im hk
    have:k'= .cell\/k'= .free:=by
     rcases r with rfl|⟨rfl,_⟩
     ·exact hk'
     ·exact .inr rfl
    rcases this with rfl|rfl
    ·obtain⟨c,hm⟩:=qj_ (n:=(s.heap.push { cls:= .type "dict",data:= .dict #[] }).objs.size) (acc:=cp X.env.cells scope.names []) (PySem.mem_of_lookup e)
     obtain⟨c',e'⟩:=jp_ hm
     exact⟨c',by rw[hcl];exact e'⟩
    ·obtain⟨c,h1,_⟩:=look e
     exact⟨c,h1⟩
   rcases hy with hy|hy
   ·exact key _ hy (.inl rfl)
   ·exact key _ hy (.inr rfl)
  ·have z:(scope.names.lookup y == some NameKind.cell)=true:=z
   have z:scope.names.lookup y=some .cell:=by simpa using z
   have e:cenv.cells.lookup y=some c:=e
   rw[hcl] at e
   rcases fP (PySem.mem_of_lookup e) with hm|⟨_,h2,_⟩
   ·rcases fF hm with hm|⟨h1,_⟩
    ·cases hm
    ·have q:=ok.uniq _ h1
     rw[z] at q;cases q
   ·rw[Heap.size_push] at h2
    exact Nat.le_of_succ_le h2
  ·show b≠cenv.locals
   rw[hL];exact Nat.ne_of_lt (hfp b hb).2
  ·have e:cenv.cells.lookup y=some c:=e
   rcases mem e with⟨h1,_⟩|⟨h1,_⟩
   ·exact(hfp b hb).1.2.2.2.2.1 y c h1 z
   ·have h2:s.heap.objs.size+1<=b:=by rw[<-z];exact h1
    exact absurd (Nat.lt_of_lt_of_le (hfp b hb).2 (Nat.le_of_succ_le h2)) [048]
  ·rcases(hfp b hb).1.2.2.2.1 with z|z
   ·exact I.ok.noex b o e z
   ·exact absurd (Nat.lt_of_lt_of_le [031] (Nat.le_trans I.ok.bsz z)) [048]
  ·rcases List.mem_cons.mp (I.stkSub b z) with z|z
   ·exact(hfp b hb).1.2.1 z
   ·exact(hfp b hb).1.2.2.1 z
 refine⟨okB,rfl,I.bare,Un.kept kp,⟨fun _=>none,?_,fun i y av e1 e2 e3=>?_⟩,fun y c e=>?_,?_,fun y c e=>?_,fun p hp=>?_,I.hok.kept kp,by rw[hX];exact I.len⟩
 ·show Heap.Ns _ cenv.locals _
  rw[hL]
  exact Heap.Ns.keeps (Heap.Ns.new ..) fun b o e=>pushCells_keeps _ _ _ _ e
 ·obtain⟨e2,hne⟩:=qd_ e2
  have hfr:scope.names.lookup y=some .free/\(cenv.kindOf y=some .cell\/cenv.kindOf y=some .free):=by
   have key: ∀k,cenv.scope.names.lookup y=some k->k= .local\/k= .cell\/k= .free->scope.names.lookup y=some .free/\(cenv.kindOf y=some .cell\/cenv.kindOf y=some .free):=fun k hk hk'=>by
    have hk0:=hk
    rw[hsc] at hk
    obtain⟨k',e,r⟩:= im hk
    have no: ¬(k'= .local\/k'= .cell):=fun hh=>by
     rcases ok.own _ (PySem.mem_of_lookup e) hh with e'|e'
     ·obtain⟨p,hp,hpy⟩:=List.mem_map.mp e'
      have e3:=ok.ix p hp
      have:p.1=y:=hpy
      rw[this] at e3
      exact hne (List.mem_map.mpr ⟨p,hp,wk_ hN e3 e1⟩)
     ·exact e' (List.mem_of_getElem? e1)
    rcases r with rfl|⟨rfl,rfl⟩
    ·rcases hk' with rfl|rfl|rfl
     ·exact absurd (.inl rfl) no
     ·exact absurd (.inr rfl) no
     ·exact⟨e, .inr hk0⟩
    ·exact⟨e, .inl hk0⟩
   have e3:Vis cenv.scope y:=e3
   rcases e3 with e3|e3|e3
   ·exact key _ e3 (.inl rfl)
   ·exact key _ e3 (.inr (.inl rfl))
   ·exact key _ e3 (.inr (.inr rfl))
  obtain⟨m,hn,hl⟩:=I.loc
  have hvis:Vis X.env.scope y:=(ok.free _ (PySem.mem_of_lookup hfr.1) rfl).elim (fun k=> .inr (.inl k)) (fun k=> .inr (.inr k))
  obtain⟨w,r,q⟩:=hl i y av e1 e2 hvis
  refine⟨w,r, .inr ⟨hfr.2,?_⟩⟩
  obtain⟨c,h1,h2⟩:=look hfr.1
  rcases q with⟨k,_⟩|⟨_,c',e',z⟩
  ·have k:X.env.scope.names.lookup y=some .local:=k
   rcases ok.free _ (PySem.mem_of_lookup hfr.1) rfl with k'|k'<;>rw[show X.env.scope.names.lookup y=_ from k'] at k<;>cases k
  ·rw[h2] at e';cases e'
   exact⟨c,h1,z.keeps kp⟩
 ·have e:cenv.cells.lookup y=some c:=e
  rcases mem e with⟨h1,_⟩|⟨_,z⟩
  ·obtain⟨w,z⟩:=I.cell y c h1
   exact⟨w,z.keeps kp⟩
  ·exact⟨_,z⟩
 ·show H cenv.locals=none
  rw[hL];exact I.hok.fresh [007]
 ·have e:cenv.cells.lookup y=some c:=e
  rcases mem e with⟨h1,_⟩|⟨h1,_⟩
  ·exact I.freeC y c h1
  ·exact I.hok.fresh (Nat.le_of_succ_le h1)
 ·exact absurd (show p∈([]:List [001])++[] from hp) [022]
theorem app_ok {E:Value->Shared->Prop}{D:Addr}{xs:List V}{y:V}{v:Value}{Q:Value->Shared->Prop}(I:aV X pins σ H s) (hD:H D=some [085]) (hz:xs.length<sizeLine) (r:bE y v)
  (h: ∀s',aV X pins σ (bg H D (.lst (xs++[y]))) s'->Q .none s'):wpAny (model X.prog X.w) X.A (call (.builtin "list.append") [.ref D,v]) Q E s:=by
 obtain⟨hz',its,n,ri,e⟩:=I.hok D _ hD
 have hl:=ri.length
 refine append_at (hsz:=by rw[List.size_toArray];lia) e fun h' sb ho'=>?_
 refine h { s with heap:=h' } (I.write (t':=s.toks) (by rw[hD];trivial) (.inl rfl) (fun b u hb q=>(sb.2 b hb).trans q) ⟨_,ho'⟩ ⟨by rw[List.length_append];exact hz,its++[v],n+1,ri.append (.cons r .nil),?_⟩)
 rw[ho']
 simp
def PTs (X:Cx) (ifs:List Expr) (t:TT):Prop:=
 ∀(pins:List [001]) (s:Shared) (σ:St) (H:Hp) (Q:Bool->Hp->Prop),aV X pins σ H s->t σ H Q->
  wpAny (model X.prog X.w) X.A (forIn ifs true fun c r=>if r=true then do let ok<-isTrue c X.env (eval c X.env);pure (ForInStep.yield ok) else pure (ForInStep.yield r)) (TP X pins σ Q) X.xe s
def tYes:TT:=fun _ H Q=>Q true H
theorem j2y_:PTs X [] tYes:=fun _ _ _ H _ I h=>wpAny_tests_nil ⟨H,I,h⟩
end
theorem thnF {α:Type}{t:Sem α}{Q Q':α->Shared->Prop}{M:Model}{A:Around}{E:Value->Shared->Prop}{s:Shared}(h:wpAny M A t Q (fun _ _=>False) s) (hQ: ∀a s,Q a s->Q' a s):wpAny M A t Q' E s:=wpAny_mono h hQ fun _ _ z=>False.elim z
theorem j2x_ {prog:Program}{w:World}{A:Around}{R:Result->Shared->Prop}{s:Shared}{elt target iter:Expr}{ifs:List Expr}{scope:Scope}{pos:Pos}{it acc:Value}{env:Env}(I:Nat->Shared->Prop)
  (turn: ∀n s,I n s->wpAny (model prog w) A (pyNext it) (fun r s₁=>match r with
   |none=>R (.ok .next) s₁
   |some v=>wpAny (model prog w) A (letOwnedTupleGo target it v) (fun _ s₁'=>wpAny (model prog w) A (assign target env v) (fun _ s₂=>
     wpAny (model prog w) A (forIn ifs true fun c r=>if r=true then do let ok<-isTrue c env (eval c env);pure (ForInStep.yield ok) else pure (ForInStep.yield r)) (fun ok s₃=>
      if ok=true then wpAny (model prog w) A (eval elt env) (fun x s₄=>
       wpAny (model prog w) A (call (.builtin "list.append") [acc,x]) (fun _ s₅=> ∃m,m<n/\I m s₅) [071] s₄) [071] s₃
      else∃m,m<n/\I m s₃) [071] s₂) [071] s₁') [071] s₁) [071] s)
  (n:Nat) (h:I n s):
  codeAny (model prog w) A (.compLoop (.ListComp elt [⟨target,iter,ifs,0⟩] scope pos) 0 it acc env) R s:=by
 refine codeAny_loop rfl I (fun n s hI=>?_) n h
 show wpAny _ A ((compTurn (.ListComp elt [⟨target,iter,ifs,0⟩] scope pos) 0 it acc env).onRaise (fun x=>do noteFrame x env;theTreesLotGoes x)) _ _ s
 refine wpAny_noted ?_
 rw[compTurn_list]
 refine wpAny_bind (wpAny_standAt (wpAny_bind (wpAny_mono (turn n s hI) (fun r s₁ h₁=>?_) fun _ _ h'=>h')))
 cases r with
 |none=>exact wpAny_pure h₁
 |some v=>
  refine wpAny_bind (wpAny_mono h₁ (fun _ s₁' h₁'=>?_) fun _ _ h'=>h')
  refine wpAny_bind (wpAny_mono h₁' (fun _ s₂ h₂=>wpAny_bind (wpAny_mono h₂ (fun ok s₃ h₃=>?_) fun _ _ h'=>h')) fun _ _ h'=>h')
  cases ok with
  |false=>exact wpAny_pure ⟨rfl,h₃⟩
  |true=>
   exact wpAny_bind (wpAny_bind (wpAny_mono h₃ (fun x s₄ h₄=>wpAny_bind (wpAny_mono h₄ (fun _ s₅ h₅=>wpAny_pure (wpAny_pure ⟨rfl,h₅⟩)) fun _ _ h'=>h')) fun _ _ h'=>h'))
section
variable {X:Cx}
def tLc (wi:TI) (g:TG) (tt:TT) (te:TE) (vs:List Nat):TE:=fun σ H Q=>wi σ H fun J H1=> ∀D,H1 D=none-> ∃W:Nat->Nat->Hp->Prop,(∃m,W 0 m (bg H1 D (.lst [])))/\ ∀i m H,W i m H->
 (J.stop i H/\Q (.ref D) H)\/(J.go i H/\ ∃Nx:Hp->Prop,(∀H',Nx H'-> ∃m',m'<m/\W (i+1) m' H')/\ ∀x H',J.yld i H x H'->g x (e9 σ vs) H' fun σ2 H2=>e9 σ2 vs=e9 σ vs/\tt σ2 H2 fun b H3=>
  if b=true then te σ2 H3 fun y H4=> ∃acc,H4 D=some (.lst acc)/\acc.length<sizeLine/\Nx (bg H4 D (.lst (acc++[y]))) else Nx H3)
theorem lc_core {pins:List [001]}{s:Shared}{σ:St}{H:Hp}{Q:VK}{elt tg iter:Expr}{ifs:List Expr}{scope:Scope}{own:List (Str×Nat)}{pos pos':Pos}{wi:TI}{g:TG}{tt:TT}{te:TE}{use:Option (Value->Sem Unit)}{Qf:Value->Shared->Prop}
  (hc:X.calm=true) (hN:X.N.Nodup) (I:aV X pins σ H s) (hi:PI X tg iter wi) (ok:BlkOk X.N X.env.scope scope own)
  (hg: ∀(s:Shared) (H:Hp) (C:Addr) (cl:List [047]) (fp:List Addr),PG [075] tg g) (ht: ∀(s:Shared) (H:Hp) (C:Addr) (cl:List [047]) (fp:List Addr),PTs [075] ifs tt)
  (he: ∀(s:Shared) (H:Hp) (C:Addr) (cl:List [047]) (fp:List Addr),PE [075] elt te) (hs: ∀x,foldedSetIterable iter X.env x=pure x)
  (h:tLc wi g tt te (own.map (·.2)) σ H Q)
  (hRR: ∀D C s' m H',aV X pins σ H' s'->Q (.ref D) H'->s'.heap.Ns C m->ug_ X pins H' C->compPost (model X.prog X.w) X.A X.xe use Qf (.ref D) C (.ok .next) s'):
  wpAny (model X.prog X.w) X.A (comprehension (.ListComp elt [⟨tg,iter,ifs,0⟩] scope pos) scope X.env pos' (newList []) false (eval iter X.env) use) Qf X.xe s:=by
 have hfree: ∀y∈scope.names,y.2= .free-> ∃c,X.env.cells.lookup y.1=some c:=fun y hy e=>by
  rcases ok.free y hy e with k|k
  ·exact I.ok.has _ (.inl k)
  ·exact I.ok.has _ (.inr k)
 refine wpAny_comprehension_free (use:=use) rfl hs (j5s_ hfree) ok.kind (fun y hy e=>by rw[ok.uniq y hy,e])
  (cJ (hi pins s σ H _ I h) fun xv s1 hx=>cJ hx fun itv s2 h2=>?_)
 obtain⟨it,fp,tn,J,H2,e,I2,T,st2,f2,q⟩:=h2
 subst e
 refine wpAny_newObj_type (j5g_ ?_) (by show 0<=sizeLine;decide)
 generalize hD:s2.heap.objs.size=D
 have hDn:H2 D=none:=I2.hok.fresh (Nat.le_of_eq hD)
 obtain⟨W,⟨m0,w0⟩,turn⟩:=q D hDn
 generalize hs3:({ s2 with heap:=s2.heap.push { cls:= .type "list",data:= .seq ([]:List Value).toArray } } :Shared)=s3
 have I3:aV X pins σ (bg H2 D (.lst [])) s3:=by
  rw[<-hs3]
  refine I2.laid (t':=s2.toks) (fun b o e=>Heap.get?_push_of_some _ e) (Nat.le_of_eq hD) ⟨Nat.zero_le _,[],0, .nil,?_⟩
  rw[<-hD]
  exact Heap.get?_push_size _ rfl
 have h3:s3.heap=s2.heap.push { cls:= .type "list",data:= .seq ([]:List Value).toArray } :=by rw[<-hs3]
 have sz: ∀b∈fp,b<s2.heap.objs.size:=fun b hb=>by
  obtain⟨o,e,_⟩:=T.obj _ _ st2 b hb
  exact Heap.lt_size e
 have f3: ∀b∈fp,ug_ X pins (bg H2 D (.lst [])) b/\b<s3.heap.objs.size:=fun b hb=>by
  have hlt:=sz b hb
  refine⟨⟨?_,(f2 b hb).2⟩,by rw[h3,Heap.size_push];exact Nat.lt_succ_of_lt hlt⟩
  rw[ag (by rw[<-hD];exact Nat.ne_of_lt hlt)]
  exact(f2 b hb).1
 have st3:tn 0 s3.heap:=T.keep _ _ _ st2 fun b _ o e=>by rw[h3];exact Heap.get?_push_of_some _ e
 have I4:=j54_ I3 ok hN f3
 have pg:=hg s3 (bg H2 D (.lst [])) s3.heap.objs.size [090] fp
 have pt:=ht s3 (bg H2 D (.lst [])) s3.heap.objs.size [090] fp
 have pe:=he s3 (bg H2 D (.lst [])) s3.heap.objs.size [090] fp
 show codeAny _ _ (.compStart (.ListComp elt [⟨tg,iter,ifs,0⟩] scope pos) 0 (.ref it) (.ref D) (compEnvC scope [090] s3.heap.objs.size X.env)) (compPost (model X.prog X.w) X.A X.xe use Qf (.ref D) s3.heap.objs.size) { s3 with heap:=pushCells (s3.heap.push { cls:= .type "dict",data:= .dict #[] }) scope.names }
 have nfp: ∀b∈fp,(bg H2 D (.lst [])) b=none:=fun b hb=>(f3 b hb).1.1
 generalize hce:compEnvC scope [090] s3.heap.objs.size X.env=ce at I4 pg pt pe ⊢
 have cL:ce.locals=s3.heap.objs.size:=by subst hce;rfl
 generalize hH3:bg H2 D (.lst [])=H3 at I3 I4 pg pt pe w0 nfp f3
 generalize hs4:({ s3 with heap:=pushCells (s3.heap.push { cls:= .type "dict",data:= .dict #[] }) scope.names } :Shared)=s4 at I4 ⊢
 have st4:tn 0 s4.heap:=T.keep _ _ _ st3 fun b _ o e=>by rw[<-hs4];exact pushCells_keeps _ _ _ _ (Heap.get?_push_of_some _ e)
 have stat: ∀ {σ':St}{H':Hp}{s':Shared},aV (X.blk s3 H3 scope ce fp) [] σ' H' s'->(∀b∈fp,H' b=none)-> ∀b∈fp,ug_ (X.blk s3 H3 scope ce fp) [] H' b:=fun {σ' H' s'} I' hn b hb=>
  ⟨hn b hb,(I'.ok.exf b hb).1,I'.ok.exfs b hb, .inl hb,fun x c e=>(I'.ok.exf b hb).2 x c e,fun p hp=>absurd (show p∈([]:List [001])++[] from hp) [022]⟩
 have loop:codeAny (model X.prog X.w) X.A (.compLoop (.ListComp elt [⟨tg,iter,ifs,0⟩] scope pos) 0 (.ref it) (.ref D) ce) (compPost (model X.prog X.w) X.A X.xe use Qf (.ref D) s3.heap.objs.size) s4:=by
  refine j2x_ (fun n s'=> ∃i H',aV (X.blk s3 H3 scope ce fp) [] (e9 σ (own.map (·.2))) H' s'/\tn i s'.heap/\(∀b∈fp,H' b=none)/\W i n H') ?_ m0 ⟨0,H3,I4,st4,nfp,w0⟩
  rintro n s5 ⟨i,H5,I5,st5,n5,w5⟩
  rcases turn i n H5 w5 with⟨stop,qq⟩|⟨go,Nx,hNx,step⟩
  ·have td:=T.done (X.blk s3 H3 scope ce fp) rfl rfl rfl hc i [] s5 _ H5 (fun _ _=>False) I5 (stat I5 n5) st5 stop
   refine thnF td fun r s6 ⟨hr,I6⟩=>?_
   subst hr
   have I7:aV X pins σ H5 s6:=I3.call' (ch:=fp) I6.os I6.base I6.hok I6.bare fun b hb=>⟨(f3 b hb).1.2.2.2.1,(f3 b hb).1.2.1,(f3 b hb).1.2.2.2.2.1,(f3 b hb).1.2.2.2.2.2⟩
   have nC:H5 s3.heap.objs.size=none:=by
    have z:H5 ce.locals=none:=I6.free
    rw[cL] at z
    exact z
   obtain⟨m,hn,_⟩:=I6.loc
   have hn:s6.heap.Ns ce.locals m:=hn
   rw[cL] at hn
   exact hRR D s3.heap.objs.size s6 m H5 I7 qq hn (I3.fpOk [007] nC)
  ·have ti:=T.item (X.blk s3 H3 scope ce fp) rfl rfl rfl hc i [] s5 _ H5 (fun _ _=>False) I5 (stat I5 n5) st5 go
   refine thnF ti fun r s6 ⟨u,hr,h6⟩=>?_
   subst hr
   refine thnF h6 fun _ s7 ⟨x,H7,I7,r7,y7,st7,n7⟩=>?_
   have I7':=I7.pinned (stat I7 n7) (T.obj _ _ st7)
   refine thnF (pg _ s7 _ H7 x u _ I7' r7 (step x H7 y7)) fun _ s8 ⟨σ8,H8,I8,hw8,q8⟩=>?_
   refine thnF (pt _ s8 σ8 H8 _ I8 q8) fun b s9 ⟨H9,I9,q9⟩=>?_
   have fin: ∀ {s':Shared}{H':Hp},aV (X.blk s3 H3 scope ce fp) ([]++wr_ fp s7.heap) σ8 H' s'->Nx H'-> ∃m,m<n/\ ∃i H',aV (X.blk s3 H3 scope ce fp) [] (e9 σ (own.map (·.2))) H' s'/\tn i s'.heap/\(∀b∈fp,H' b=none)/\W i m H':=fun {s' H'} I' nx=>by
    obtain⟨m',hm,w'⟩:=hNx H' nx
    have pin': ∀b∈fp,∀o,s7.heap.get? b=some o->s'.heap.get? b=some o/\H' b=none:=fun b hb o e=>
     let z:=I'.pin (b,o) (List.mem_append_right _ (List.mem_append_right _ (jo_ hb e)))
     ⟨z.1,z.2.1⟩
    have hl:(e9 σ (own.map (·.2))).length=σ8.length:=by rw[<-hw8,hX]
    refine⟨m',hm,i+1,H',(I'.unpinned (pins:=[])).weak hl (fun j v e=>?_),T.keep _ _ _ st7 fun b hb o e=>(pin' b hb o e).1,fun b hb=>?_,w'⟩
    ·rw[<-hw8] at e
     exact(qd_ e).1
    ·obtain⟨o,e,_⟩:=T.obj _ _ st7 b hb
     exact(pin' b hb o e).2
   cases b with
   |false=>
    simp only[Bool.false_eq_true,if_false] at q9 ⊢
    exact fin I9 q9
   |true=>
    simp only[if_true] at q9 ⊢
    refine thnF (pe _ s9 σ8 H9 _ I9 q9) fun z s10 ⟨yv,H10,I10,r10,acc,hD10,hz10,nx⟩=>?_
    exact app_ok (X:=X.blk s3 H3 scope ce fp) I10 hD10 hz10 r10 fun s11 I11=>fin I11 nx
 exact codeAny_compStart_list loop (T.self X.A 0 _ _ _ st4 loop)
theorem pe_lc {elt tg iter:Expr}{ifs:List Expr}{scope:Scope}{own:List (Str×Nat)}{pos:Pos}{wi:TI}{g:TG}{tt:TT}{te:TE}(hc:X.calm=true) (hN:X.N.Nodup) (hi:PI X tg iter wi) (ok:BlkOk X.N X.env.scope scope own)
  (hg: ∀(s:Shared) (H:Hp) (C:Addr) (cl:List [047]) (fp:List Addr),PG [075] tg g) (ht: ∀(s:Shared) (H:Hp) (C:Addr) (cl:List [047]) (fp:List Addr),PTs [075] ifs tt)
  (he: ∀(s:Shared) (H:Hp) (C:Addr) (cl:List [047]) (fp:List Addr),PE [075] elt te) (hs: ∀x,foldedSetIterable iter X.env x=pure x:=by intro _;rfl):
  PE X (.ListComp elt [⟨tg,iter,ifs,0⟩] scope pos) (tLc wi g tt te (own.map (·.2))):=by
 rw[02]
 rw[eval_ListComp]
 refine lc_core hc hN I hi ok hg ht he hs h fun D C s' m H' I' q hn f=>⟨m,hn,fun h'' sb=>?_⟩
 obtain⟨f0,f1,f2,f3,f4,f5⟩:=f
 exact⟨.ref D,H',I'.turned (t':=s'.toks) (fun b o hb e=>(sb.2 b hb).trans e) f0 f1 f3 f4 f5,rfl,q⟩
end
theorem lc_list {K:PySem.W.Frag}{a:Addr}{xs:List V}{g:TG}{tt:TT}{te:TE}{vs:List Nat}{σ:St}{H1:Hp}{D:Addr}{Qd:Hp->Prop}(Pv:Nat->Hp->Prop) (h0:Pv 0 (bg H1 D (.lst []))) (hl: ∀i H,i<=xs.length->Pv i H->cK K H a xs)
  (hs: ∀i x H,xs[i]?=some x->Pv i H->g x (e9 σ vs) H fun σ2 H2=>e9 σ2 vs=e9 σ vs/\tt σ2 H2 fun b H3=>
   if b=true then te σ2 H3 fun y H4=> ∃acc,H4 D=some (.lst acc)/\acc.length<sizeLine/\Pv (i+1) (bg H4 D (.lst (acc++[y]))) else Pv (i+1) H3) (hd: ∀H,Pv xs.length H->Qd H):
  ∃W:Nat->Nat->Hp->Prop,(∃m,W 0 m (bg H1 D (.lst [])))/\ ∀i m H,W i m H->
   ((Itl K a).stop i H/\Qd H)\/((Itl K a).go i H/\ ∃Nx:Hp->Prop,(∀H',Nx H'-> ∃m',m'<m/\W (i+1) m' H')/\ ∀x H',(Itl K a).yld i H x H'->g x (e9 σ vs) H' fun σ2 H2=>e9 σ2 vs=e9 σ vs/\tt σ2 H2 fun b H3=>
    if b=true then te σ2 H3 fun y H4=> ∃acc,H4 D=some (.lst acc)/\acc.length<sizeLine/\Nx (bg H4 D (.lst (acc++[y]))) else Nx H3):=by
 refine⟨fun i m H=>m=xs.length-i/\i<=xs.length/\Pv i H,⟨xs.length,by simp,Nat.zero_le _,h0⟩,?_⟩
 rintro i m H ⟨rfl,hi,p⟩
 have q:=hl i H hi p
 by_cases hlt:i<xs.length
 ·refine .inr ⟨⟨xs,xs[i],q,by simp [hlt]⟩,Pv (i+1),fun H' p'=>⟨xs.length-(i+1),by lia,rfl,hlt,p'⟩,fun x H' y=>?_⟩
  obtain⟨e,y⟩:=y
  subst e
  exact hs i x _ (y xs q) p
 ·have e:i=xs.length:=by lia
  subst e
  exact .inl ⟨⟨xs,q,Nat.le_refl _⟩,hd H p⟩
def blkC (N:List Str) (sc scope:Scope) (own:List (Str×Nat)):Bool:=
 (match scope.kind with| .function=>true|_=>false)&&(scope.names.all fun y=>decide (scope.names.lookup y.1=some y.2))&&(own.all fun p=>decide (N[p.2]?=some p.1))&&
  (scope.names.all fun y=>match y.2 with
   | .free=>(match sc.names.lookup y.1 with|some .cell=>true|some .free=>true|_=>false)
   | .local=>decide (y.1∈own.map (·.1))||decide (y.1∉N)
   | .cell=>decide (y.1∈own.map (·.1))||decide (y.1∉N)
   |_=>true)
theorem j13_ {N:List Str}{sc scope:Scope}{own:List (Str×Nat)}(h:blkC N sc scope own=true):BlkOk N sc scope own:=by
 unfold blkC at h
 simp only[Bool.and_eq_true,List.all_eq_true,decide_eq_true_eq] at h
 obtain⟨⟨⟨h1,h2⟩,h3⟩,h4⟩:=h
 refine⟨?_,h2,h3,fun y hy e=>?_,fun y hy e=>?_⟩
 ·split at h1
  ·assumption
  ·cases h1
 ·have q:=h4 y hy
  simp only[e] at q
  split at q<;>first|exact .inl (by assumption)|exact .inr (by assumption)|cases q
 ·have q:=h4 y hy
  rcases e with e|e<;>(simp only[e,Bool.or_eq_true,decide_eq_true_eq] at q;exact q)
end L2
namespace L2
open PySem PySem.Spec PyProof.Rows
end L2
namespace L2
open PySem PySem.Spec PyProof.Rows
section
variable {κ:Type} [DecidableEq κ]
def cP (kvs:List (κ×V)) (k:κ):Option V:=(kvs.find? fun kv=>decide (kv.1=k)).map (·.2)
def dI (kvs:List (κ×V)) (k:κ) (v:V):List (κ×V):=
 if(kvs.any fun kv=>decide (kv.1=k))=true then kvs.map (fun kv=>if kv.1=k then(kv.1,v) else kv) else kvs++[(k,v)]
def eE (kvs:List (κ×V)) (k:κ):List (κ×V):=kvs.filter fun kv=>decide (kv.1≠k)
theorem cM {p:κ×V}{r:List (κ×V)}{k:κ}(e:p.1=k):cP (p::r) k=some p.2:=by simp [cP,List.find?_cons,e]
theorem cB {p:κ×V}{r:List (κ×V)}{k:κ}(e: ¬p.1=k):cP (p::r) k=cP r k:=by simp [cP,List.find?_cons,e]
theorem yy_ (k:κ): ∀kvs:List (κ×V),(kvs.any fun kv=>decide (kv.1=k))=(cP kvs k).isSome
 |[]=>rfl
 |p::r=>by
  rw[List.any_cons]
  by_cases e:p.1=k
  ·simp only[cM e,decide_eq_true e,Bool.true_or,Option.isSome_some]
  ·rw[cB e,decide_eq_false e,Bool.false_or];exact yy_ k r
theorem j5i_ (k j:κ) (y:V): ∀kvs:List (κ×V),cP (kvs.map fun kv=>if kv.1=k then(kv.1,y) else kv) j=(cP kvs j).map fun x=>if j=k then y else x
 |[]=>rfl
 |p::r=>by
  have ih:=j5i_ k j y r
  rw[List.map_cons]
  by_cases h:p.1=k
  ·rw[if_pos h]
   by_cases e:p.1=j
   ·rw[cM (p:=(p.1,y)) e,cM e,Option.map_some,if_pos (e.symm.trans h)]
   ·rw[cB (p:=(p.1,y)) e,cB e,ih]
  ·rw[if_neg h]
   by_cases e:p.1=j
   ·rw[cM (p:=p) e,cM e,Option.map_some,if_neg (fun z=>h (e.trans z))]
   ·rw[cB (p:=p) e,cB e,ih]
theorem j1p_ (k j:κ) (y:V): ∀kvs:List (κ×V),cP kvs k=none->cP (kvs++[(k,y)]) j=if j=k then some y else cP kvs j
 |[],_=>by
  by_cases e:k=j
  ·rw[if_pos e.symm];exact cM (p:=(k,y)) e
  ·rw[if_neg (fun z=>e z.symm)];exact cB (p:=(k,y)) e
 |p::r,hn=>by
  rw[List.cons_append]
  have hk: ¬p.1=k:=fun z=>by rw[cM z] at hn;cases hn
  rw[cB hk] at hn
  have ih:=j1p_ k j y r hn
  by_cases e:p.1=j
  ·rw[cM e,cM e,if_neg (fun z=>hk (e.trans z))]
  ·rw[cB e,cB e,ih]
theorem j5a_ (kvs:List (κ×V)) (k j:κ) (y:V):cP (dI kvs k y) j=if j=k then some y else cP kvs j:=by
 unfold dI
 by_cases a:(kvs.any fun kv=>decide (kv.1=k))=true
 ·rw[if_pos a,j5i_]
  rw[yy_] at a
  by_cases e:j=k
  ·obtain⟨x,hx⟩:=Option.isSome_iff_exists.mp a
   rw[if_pos e,e,hx,Option.map_some,if_pos rfl]
  ·rw[if_neg e]
   cases cP kvs j with
   |none=>rfl
   |some x=>rw[Option.map_some,if_neg e]
 ·rw[if_neg a]
  refine j1p_ k j y kvs ?_
  rw[yy_] at a
  cases q:cP kvs k with
  |none=>rfl
  |some x=>rw[q] at a;exact(a rfl).elim
theorem eZ (kvs:List (κ×V)) (k:κ) (v:V):(dI kvs k v).length<=kvs.length+1:=by
 unfold dI
 split
 ·rw[List.length_map];lia
 ·rw[List.length_append,List.length_cons,List.length_nil];lia
theorem gi.isSome_eq {o:Option V}{u:Option Value}(r:gi o u):o.isSome=u.isSome:=by
 cases o with
 |none=>cases u with
  |none=>rfl
  |some _=>exact(show False from r).elim
 |some _=>cases u with
  |none=>exact(show False from r).elim
  |some _=>rfl
theorem KV.val {kvs:List (κ×V)}{vs:List (κ×Value)}(r:KV kvs vs) (k:κ):gi (cP kvs k) (valueAt vs k):=by
 unfold KV at r
 induction r with
 |nil=>exact True.intro
 | @cons p q ps qs h t ih=>
  obtain⟨h1,h2⟩:=h
  by_cases e:p.1=k
  ·have e':q.1=k:=h1.symm.trans e
   have b:valueAt (q::qs) k=some q.2:=by simp [valueAt,List.find?_cons,e']
   rw[cM e,b];exact h2
  ·have e': ¬q.1=k:=fun z=>e (h1.trans z)
   have b:valueAt (q::qs) k=valueAt qs k:=by simp [valueAt,List.find?_cons,e']
   rw[cB e,b];exact ih
theorem KV.any {kvs:List (κ×V)}{vs:List (κ×Value)}(r:KV kvs vs) (k:κ):(kvs.any fun kv=>decide (kv.1=k))=vs.any fun kv=>decide (kv.1=k):=by
 unfold KV at r
 induction r with
 |nil=>rfl
 |cons h t ih=>rw[List.any_cons,List.any_cons,ih,h.1]
theorem KV.repl {kvs:List (κ×V)}{vs:List (κ×Value)}(r:KV kvs vs) (k:κ) {y:V}{u:Value}(ry:bE y u):
  KV (kvs.map fun kv=>if kv.1=k then(kv.1,y) else kv) (vs.map fun kv=>if kv.1=k then(kv.1,u) else kv):=by
 unfold KV at r ⊢
 induction r with
 |nil=>exact .nil
 | @cons p q ps qs h t ih=>
  rw[List.map_cons,List.map_cons]
  refine .cons ?_ ih
  obtain⟨h1,h2⟩:=h
  by_cases e:p.1=k
  ·rw[if_pos e,if_pos (h1.symm.trans e)];exact⟨h1,ry⟩
  ·rw[if_neg e,if_neg (fun z=>e (h1.trans z))];exact⟨h1,h2⟩
theorem KV.put {kvs:List (κ×V)}{vs:List (κ×Value)}(r:KV kvs vs) (k:κ) {y:V}{u:Value}(ry:bE y u):KV (dI kvs k y) (stored vs k u):=by
 unfold dI stored
 rw[r.any k]
 by_cases e:(vs.any fun kv=>decide (kv.1=k))=true
 ·rw[if_pos e,if_pos e];exact r.repl k ry
 ·rw[if_neg e,if_neg e];exact Paired.snoc r ⟨rfl,ry⟩
theorem KV.drop {kvs:List (κ×V)}{vs:List (κ×Value)}(r:KV kvs vs) (k:κ):KV (eE kvs k) (without vs k):=by
 unfold KV at r ⊢
 unfold eE without
 induction r with
 |nil=>exact .nil
 | @cons p q ps qs h t ih=>
  obtain⟨h1,h2⟩:=h
  rw[List.filter_cons,List.filter_cons]
  by_cases e:p.1=k
  ·have a: ¬decide (p.1≠k)=true:=by simp [e]
   have b: ¬decide (q.1≠k)=true:=by simp [h1.symm.trans e]
   rw[if_neg a,if_neg b];exact ih
  ·have e': ¬q.1=k:=fun z=>e (h1.trans z)
   have a:decide (p.1≠k)=true:=by simp [e]
   have b:decide (q.1≠k)=true:=by simp [e']
   rw[if_pos a,if_pos b];exact .cons ⟨h1,h2⟩ ih
theorem KV.length {kvs:List (κ×V)}{vs:List (κ×Value)}(r:KV kvs vs):kvs.length=vs.length:=Paired.length r
theorem dropK_le (kvs:List (κ×V)) (k:κ):(eE kvs k).length<=kvs.length:=List.length_filter_le _ _
end
theorem kV_is {P:Program}{w:World}{k:bW}{u:Value}(r:bE (kV k) u):(bJ P w).is k u=true:=by
 cases k with
 |inl i=>obtain⟨t,e⟩:=(show∃t,u=Value.int i t from r);subst e;exact j42_ P w i t
 |inr x=>obtain⟨t,e⟩:=(show∃t,u=Value.str x t from r);subst e;exact j3u_ P w x t
theorem j1o_ {P:Program}{w:World} : ∀ {ks:List bW}{us:List Value},bL (ks.map kV) us->ItemsAre (bJ P w) ks us
 |[],_,r=>by rw[List.map_nil] at r;cases r;exact .nil
 |k::ks,_,r=>by
  rw[List.map_cons] at r
  cases r with
  |cons h t=>exact .cons (kV_is h) (j1o_ t)
abbrev KT (H:Hp):List (List bW×V)->List (List bW×Addr×Value)->Prop:=Paired fun p q=>p.1=q.1/\H q.2.1=some (.tup (p.1.map kV))/\bE p.2 q.2.2
theorem KT.val {H:Hp}{kvs:List (List bW×V)}{xs:List (List bW×Addr×Value)}(r:KT H kvs xs) (k:List bW):gi (cP kvs k) ((atKey xs k).map (·.2)):=by
 induction r with
 |nil=>exact True.intro
 | @cons p q ps qs h t ih=>
  obtain⟨h1,_,h2⟩:=h
  by_cases e:p.1=k
  ·have e':q.1=k:=h1.symm.trans e
   have b:atKey (q::qs) k=some q.2:=by simp [atKey,List.find?_cons,e']
   rw[cM e,b];exact h2
  ·have e': ¬q.1=k:=fun z=>e (h1.trans z)
   have b:atKey (q::qs) k=atKey qs k:=by simp [atKey,List.find?_cons,e']
   rw[cB e,b];exact ih
theorem KT.repl {H:Hp}{kvs:List (List bW×V)}{xs:List (List bW×Addr×Value)}(r:KT H kvs xs) (k:List bW) {y:V}{u:Value}(ry:bE y u):
  KT H (kvs.map fun kv=>if kv.1=k then(kv.1,y) else kv) (xs.map (putAt k u)):=by
 induction r with
 |nil=>exact .nil
 | @cons p q ps qs h t ih=>
  rw[List.map_cons,List.map_cons]
  refine .cons ?_ ih
  obtain⟨h1,h2,h3⟩:=h
  unfold putAt
  by_cases e:p.1=k
  ·rw[if_pos e,if_pos (h1.symm.trans e)];exact⟨h1,h2,ry⟩
  ·rw[if_neg e,if_neg (fun z=>e (h1.trans z))];exact⟨h1,h2,h3⟩
theorem KT.put {H:Hp}{kvs:List (List bW×V)}{xs:List (List bW×Addr×Value)}(r:KT H kvs xs) (k:List bW) {b:Addr}{y:V}{u:Value}(hb:H b=some (.tup (k.map kV))) (ry:bE y u):
  KT H (dI kvs k y) (storedH xs k b u):=by
 have e:(kvs.any fun kv=>decide (kv.1=k))=(atKey xs k).isSome:=by
  rw[yy_,(r.val k).isSome_eq,Option.isSome_map]
 unfold dI storedH
 rw[e]
 by_cases q:(atKey xs k).isSome=true
 ·rw[if_pos q,if_pos q];exact r.repl k ry
 ·rw[if_neg q,if_neg q];exact Paired.snoc r ⟨rfl,hb,ry⟩
theorem KT.keeps {H H':Hp}{kvs:List (List bW×V)}{xs:List (List bW×Addr×Value)}(r:KT H kvs xs) (ht: ∀b ys,H b=some (.tup ys)->H' b=some (.tup ys)):KT H' kvs xs:=
 Paired.mapP r fun _ _ z=>⟨z.1,ht _ _ z.2.1,z.2.2⟩
section
variable {P:Program}{w:World}{H:Hp}{h:Heap}{a:Addr}
theorem rd_of {u:HO}(ok:gP P w H h) (e:Rd H a u):cE P w H h a u:=e.ok ok
theorem dk_rd {kvs:List (bW×V)}(ok:gP P w H h) (e:Rd H a [0023]):kvs.length<=sizeLine/\[074]=false/\ ∃vs,KV kvs vs/\h.DictOf (bJ P w) a vs:=
 show cE P w H h a [0023] from rd_of ok e
theorem dk_of {kvs:List (bW×V)}(ok:gP P w H h) (e:H a=some [0023]):kvs.length<=sizeLine/\[074]=false/\ ∃vs,KV kvs vs/\h.DictOf (bJ P w) a vs:=dk_rd ok (.inl e)
theorem jr_ {ks:List bW}(ok:gP P w H h) (e:H a=some (.tup (ks.map kV))):(tupleKind (bJ P w)).is h ks a:=by
 obtain⟨_,its,r,o,h1,h2,n,h3⟩:=(show cE P w H h a (.tup (ks.map kV)) from ok a _ e)
 exact⟨o,its.toArray,n,h1,h2,h3,by simpa using j1o_ r⟩
theorem dt_rd {kvs:List (List bW×V)}(ok:gP P w H h) (e:Rd H a (.dT kvs)):kvs.length<=sizeLine/\[074]=false/\
  ∃xs,KT H kvs xs/\h.DictOfH (tupleKind (bJ P w)) a xs:=by
 obtain⟨z,y,xs,r,o,es,ep,h1,h2,h3,h4,h5⟩:=(show cE P w H h a (.dT kvs) from rd_of ok e)
 refine⟨z,y,xs,r,o,es,ep,h1,h2,h3,h4,fun x hx=>?_,h5⟩
 have all: ∀ {l:List (List bW×V)}{m:List (List bW×Addr×Value)},KT H l m-> ∀x∈m,(tupleKind (bJ P w)).is h x.1 x.2.1:=by
  intro l m q
  induction q with
  |nil=>intro x hx;exact nomatch hx
  | @cons p q ps qs hq t ih=>
   intro x hx
   rcases List.mem_cons.mp hx with e|hx
   ·subst e
    exact jr_ ok (by rw[<-hq.1];exact hq.2.1)
   ·exact ih x hx
 exact all r x hx
theorem dt_of {kvs:List (List bW×V)}(ok:gP P w H h) (e:H a=some (.dT kvs)):kvs.length<=sizeLine/\[074]=false/\
  ∃xs,KT H kvs xs/\h.DictOfH (tupleKind (bJ P w)) a xs:=dt_rd ok (.inl e)
end
def yi_ (H:Hp) (a:Addr) (y:V) (r:Option V):Prop:=
 (∃kvs k,Rd H a [0023]/\y=kV k/\r=cP kvs k)\/ ∃kvs k b,Rd H a (.dT kvs)/\y= .ref b/\H b=some (.tup (k.map kV))/\r=cP kvs k
def DPut (H:Hp) (a:Addr) (y v:V) (H':Hp):Prop:=
 (∃kvs k,H a=some [0023]/\y=kV k/\kvs.length<sizeLine/\H'=bg H a (.dK (dI kvs k v)))\/
 ∃kvs k b,H a=some (.dT kvs)/\y= .ref b/\H b=some (.tup (k.map kV))/\kvs.length<sizeLine/\H'=bg H a (.dT (dI kvs k v))
theorem yi_.k {H:Hp}{a:Addr}{kvs:List (bW×V)}{k:bW}(e:H a=some [0023]):yi_ H a (kV k) (cP kvs k):= .inl ⟨kvs,k, .inl e,rfl,rfl⟩
theorem DPut.k {H:Hp}{a:Addr}{kvs:List (bW×V)}{k:bW}{v:V}(e:H a=some [0023]) (hl:kvs.length<sizeLine):DPut H a (kV k) v (bg H a (.dK (dI kvs k v))):= .inl ⟨kvs,k,e,rfl,hl,rfl⟩
section
variable {X:Cx}{pins:List (Addr×Obj)}{σ:St}{H:Hp}{s:Shared}{a:Addr}{y v:V}{u r:Value}{o:Option V}{A:Around}{E:Value->Shared->Prop}
theorem aV.big (I:aV X pins σ H s):sysModules<s.heap.objs.size:=by
 have h:mainGlobals<s.heap.objs.size:=(I.mod.glob.keeps I.bk).lt
 exact Nat.lt_trans [06] h
theorem j6k_ {Q:Value->Shared->Prop}(hu:A.units+1<cLine) (I:aV X pins σ H s) (g:yi_ H a y (some v)) (ry:bE y u) (h: ∀w' s',aV X pins σ H s'->bE v w'->Q w' s'):
  wpAny (model X.prog X.w) A (getItem (.ref a) u) Q E s:=by
 rcases g with⟨kvs,k,e,ey,l⟩|⟨kvs,k,b,e,ey,eb,l⟩
 ·subst ey
  obtain⟨z,hd,vs,rel,dd⟩:=dk_rd I.hok e
  obtain⟨w',hw,rw'⟩:=gi.some_of (v:=v) (o:=valueAt vs k) (by rw[l];exact rel.val k)
  exact wpAny_getItem_of (kV_is ry) dd.mapOf hw (h w' _ (I.tok _) rw')
 ·subst ey
  cases (show u=Value.ref b from ry)
  obtain⟨z,hd,xs,rel,dd⟩:=dt_rd I.hok e
  obtain⟨w',hw,rw'⟩:=gi.some_of (v:=v) (o:=(atKey xs k).map (·.2)) (by rw[l];exact rel.val k)
  obtain⟨p,hp,hp2⟩:=Option.map_eq_some_iff.mp hw
  refine wpAny_getItem_heap [0018] (jr_ I.hok eb) dd hp ?_
  rw[hp2]
  exact h w' _ (I.tok _) rw'
theorem d_in {Q:Value->Shared->Prop}(hu:A.units+1<cLine) (I:aV X pins σ H s) (g:yi_ H a y o) (ry:bE y u) (h: ∀s',aV X pins σ H s'->Q (.bool o.isSome) s'):
  wpAny (model X.prog X.w) A (compareOp .In u (.ref a)) Q E s:=by
 rcases g with⟨kvs,k,e,ey,l⟩|⟨kvs,k,b,e,ey,eb,l⟩
 ·subst ey
  obtain⟨z,hd,vs,rel,dd⟩:=dk_rd I.hok e
  refine wpAny_in_of (kV_is ry) hd dd.mapOf ?_
  rw[<-(rel.val k).isSome_eq,<-l]
  exact h _ (I.tok _)
 ·subst ey
  cases (show u=Value.ref b from ry)
  obtain⟨z,hd,xs,rel,dd⟩:=dt_rd I.hok e
  refine wpAny_in_heap [0018] (jr_ I.hok eb) hd dd ?_
  have q:=(rel.val k).isSome_eq
  rw[Option.isSome_map] at q
  rw[<-q,<-l]
  exact h _ (I.tok _)
theorem d_notIn {Q:Value->Shared->Prop}(hu:A.units+1<cLine) (I:aV X pins σ H s) (g:yi_ H a y o) (ry:bE y u) (h: ∀s',aV X pins σ H s'->Q (.bool (!o.isSome)) s'):
  wpAny (model X.prog X.w) A (compareOp .NotIn u (.ref a)) Q E s:=by
 rcases g with⟨kvs,k,e,ey,l⟩|⟨kvs,k,b,e,ey,eb,l⟩
 ·subst ey
  obtain⟨z,hd,vs,rel,dd⟩:=dk_rd I.hok e
  refine wpAny_notIn_of (kV_is ry) hd dd.mapOf ?_
  rw[<-(rel.val k).isSome_eq,<-l]
  exact h _ (I.tok _)
 ·subst ey
  cases (show u=Value.ref b from ry)
  obtain⟨z,hd,xs,rel,dd⟩:=dt_rd I.hok e
  refine wpAny_notIn_heap [0018] (jr_ I.hok eb) hd dd ?_
  have q:=(rel.val k).isSome_eq
  rw[Option.isSome_map] at q
  rw[<-q,<-l]
  exact h _ (I.tok _)
theorem j2u_ {h':Heap}{t':Nat}{ob:HO}(I:aV X pins σ H s) (mu:br (H a)) (hs:Heap.SameBut a s.heap h') (he: ∃q,h'.get? a=some q) (new:cE X.prog X.w (bg H a ob) h' a ob):
  aV X pins σ (bg H a ob) { s with heap:=h',toks:=t' } :=
 I.write (x:=a) (e:=a) mu (.inl rfl) (fun b q hb z=>(hs.2 b hb).trans z) he new
theorem dk_new {P:Program}{w:World}{H':Hp}{h':Heap}{kvs:List (bW×V)}{vs:List (bW×Value)}(z:kvs.length<=sizeLine) (hd:[074]=false) (rel:KV kvs vs) (dd:h'.DictOf (bJ P w) a vs):
  cE P w H' h' a [0023]:=⟨z,hd,vs,rel,dd⟩
theorem j6m_ {H':Hp}{Q:Unit->Shared->Prop}(hu:A.units+1<cLine) (I:aV X pins σ H s) (g:DPut H a y v H') (ry:bE y u) (rv:bE v r) (h: ∀s',aV X pins σ H' s'->Q () s'):
  wpAny (model X.prog X.w) A (setItem (.ref a) u r) Q E s:=by
 rcases g with⟨kvs,k,e,ey,l,eH⟩|⟨kvs,k,b,e,ey,eb,l,eH⟩
 ·subst ey eH
  obtain⟨z,hd,vs,rel,dd⟩:=dk_of I.hok e
  have hz:vs.length<=sizeLine:=by rw[<-rel.length];exact z
  have hl:(dI kvs k v).length<=sizeLine:=by have:=eZ kvs k v;lia
  refine wpAny_setItem_pairs (hsz:=hz) (kV_is ry) dd fun h' dd' hs=>h _ ?_
  have he: ∃q,h'.get? a=some q:=let ⟨q,_,_,hq,_⟩:=dd';⟨q,hq⟩
  exact j2u_ I (by rw[e];exact True.intro) hs he (dk_new hl hd (rel.put k rv) dd')
 ·subst ey eH
  cases (show u=Value.ref b from ry)
  obtain⟨z,hd,xs,rel,dd⟩:=dt_of I.hok e
  have hz:xs.length<=sizeLine:=by rw[<-Paired.length rel];exact z
  have hl:(dI kvs k v).length<=sizeLine:=by have:=eZ kvs k v;lia
  refine wpAny_setItem_heap (hsz:=hz) [0018] (jr_ I.hok eb) dd fun h' dd' hs=>h _ ?_
  obtain⟨q,es,ep,hq,h2,h3,h4,_,h5⟩:=dd'
  refine j2u_ I (by rw[e];exact True.intro) hs ⟨q,hq⟩ ⟨hl,hd,_,(rel.put k eb rv).keeps fun c ys ec=>?_,q,es,ep,hq,h2,h3,h4,h5⟩
  rw[ag (ne_of ec e [003])]
  exact ec
end
section
variable {X:Cx}{pins:List (Addr×Obj)}{σ:St}{H:Hp}{s:Shared}{a:Addr}{kvs:List (bW×V)}{k:bW}{u:Value}{A:Around}{E:Value->Shared->Prop}
theorem d_pop {v:V}{more:List Value}{Q:Value->Shared->Prop}(I:aV X pins σ H s) (e:H a=some [0023]) (ry:bE (kV k) u) (l:cP kvs k=some v) (hm:more=[]\/ ∃x,more=[x])
  (h: ∀w' s',aV X pins σ (bg H a (.dK (eE kvs k))) s'->bE v w'->Q w' s'):wpAny (model X.prog X.w) A (call (.builtin "dict.pop") (.ref a::u::more)) Q E s:=by
 obtain⟨z,hd,vs,rel,dd⟩:=dk_of I.hok e
 obtain⟨w',hw,rw'⟩:=gi.some_of (v:=v) (o:=valueAt vs k) (by rw[<-l];exact rel.val k)
 have hp:(keyPart u).isSome=true:=by
  cases k with
  |inl i=>obtain⟨t,q⟩:=(show∃t,u=Value.int i t from ry);subst q;rfl
  |inr x=>obtain⟨t,q⟩:=(show∃t,u=Value.str x t from ry);subst q;rfl
 have ha:argsOk "dict.pop" ⟨.ref a::u::more,[]⟩:=by
  rcases hm with q|⟨x,q⟩
  ·subst q;exact PySem.F.args_dict_pop_2 _ _
  ·subst q;exact PySem.F.args_dict_pop_3 _ _ _
 refine call_meetsIn PySem.F.slot_dict_pop dd.typeIs PySem.F.entry_dict_pop ha (meets_dict_pop_there (bJ X.prog X.w) a (kV_is ry) more hm hp)
  ⟨vs,w',dd,by rw[<-rel.length];exact z,hw,fun h' dd' hs=>h w' _ ?_ rw'⟩
 have he: ∃q,h'.get? a=some q:=let ⟨q,_,_,hq,_⟩:=dd';⟨q,hq⟩
 exact j2u_ I (by rw[e];exact True.intro) hs he (dk_new (Nat.le_trans (dropK_le kvs k) z) hd (rel.drop k) dd')
theorem d_len {Q:Value->Shared->Prop}(I:aV X pins σ H s) (e:Rd H a [0023]) (h: ∀t s',aV X pins σ H s'->Q (.int kvs.length t) s'):wpAny (model X.prog X.w) A (call (.builtin "len") [.ref a]) Q E s:=by
 obtain⟨z,hd,vs,rel,dd⟩:=dk_rd I.hok e
 refine call_len_dict hd dd (by rw[<-rel.length];rw[sizeLine_eq] at z;lia) ?_
 rw[<-rel.length]
 exact h _ _ (I.tok _)
end
def NoSl (i:Expr):Prop:= ∀ov iv,subscripted i false ov iv=operate [ov,iv] (getItem ov iv)
theorem subD_of {prog:Program}{w:World}{A:Around}{E:Value->Shared->Prop}{s:Shared}{env:Env}{value slice:Expr}{pos:Pos}{T id:String}{Q:Value->Shared->Prop}
  (hl:typeLookup (.type T) "__getitem__"=pure (some (.builtin id))) (hs:NoSl slice)
  (h:wpAny (model prog w) A (eval value env) (fun o s₁=>wpAny (model prog w) A (eval slice env) (fun i s₂=>s₂.TypeIs o T/\wpAny (model prog w) A (getItem o i) Q E s₂) E s₁) E s):
  wpAny (model prog w) A (eval (.Subscript value slice pos) env) Q E s:=by
 refine Subscript_ (wpAny_mono h (fun o s₁ h₁=>wpAny_mono h₁ (fun i s₂ h₂=>?_) fun _ _ x=>x) fun _ _ x=>x)
 obtain⟨hT,h₂⟩:=h₂
 unfold subscriptTail
 refine wpAny_bind ?_
 rw[getitemInPython_of_ne hT.not_modules]
 refine wpAny_bind (wpAny_specialOf hT hl ?_)
 have fin:wpAny (model prog w) A (subscripted slice false o i) (fun r s₃=>wpAny (model prog w) A (letTemporaryGo value o r>>=fun _=>pure r) Q E s₃) E s₂:=by
  rw[hs o i]
  exact wpAny_operating (wpAny_mono h₂ (fun r s₃ h₃=>wpAny_bind (wpAny_letTemporaryGo (wpAny_pure h₃))) fun _ _ x=>x)
 first
  |exact wpAny_pure (wpAny_bind fin)
  |exact wpAny_bind (wpAny_pure (wpAny_bind fin))
  |exact wpAny_bind fin
theorem j3n_ {X:Cx}{pins:List [001]}{σ:St}{H:Hp}{s:Shared}{a:Addr}{y:V}{o:Option V}(I:aV X pins σ H s) (g:yi_ H a y o):s.TypeIs (.ref a) "dict":=by
 rcases g with⟨kvs,k,e,_,_⟩|⟨kvs,k,b,e,_,_,_⟩
 ·obtain⟨_,_,vs,_,dd⟩:=dk_rd I.hok e
  exact dd.typeIs
 ·obtain⟨_,_,xs,_,dd⟩:=dt_rd I.hok e
  exact dd.typeIs
def tDGet (td ty:TE):TE:=fun σ H Q=>td σ H fun x H1=>ty σ H1 fun y H2=> ∃a v,x= .ref a/\yi_ H2 a y (some v)/\Q v H2
inductive isDIn (y:V) (R:Option V->Hp->Prop) (x:V) (H2:Hp):Prop
 |mk (a:Addr) (o:Option V) (_:x= .ref a) (_:yi_ H2 a y o) (_:R o H2):isDIn y R x H2
def tDIn (ty td:TE):TE:=fun σ H Q=>ty σ H fun y H1=>td σ H1 (isDIn y (fun o H2=>Q (.bl o.isSome) H2))
def tDNotIn (ty td:TE):TE:=fun σ H Q=>ty σ H fun y H1=>td σ H1 (isDIn y (fun o H2=>Q (.bl (!o.isSome)) H2))
def sDPut (td ty tv:TE):TS:=fun D σ H=>tv σ H fun v H1=>td σ H1 fun x H2=>ty σ H2 fun y H3=> ∃a H4,x= .ref a/\DPut H3 a y v H4/\D.nx σ H4
section
variable {X:Cx}{o i e value:Expr}{pos pos' tpos:Pos}{td ty tv:TE}
theorem pe_dget (hu:X.A.units+1<cLine) (ho:PE X o td) (hi:PE X i ty) (hs:NoSl i):PE X (.Subscript o i pos) (tDGet td ty):=by
 rw[02]
 refine subD_of PySem.F.slot_dict_getitem.lookup hs (cJ (ho pins s σ H _ I h) fun u s1 ⟨x,H1,I1,rx,q1⟩=>cJ (hi pins s1 σ H1 _ I1 q1) fun iv s2 ⟨y,H2,I2,ry,a,v,ex,g,q2⟩=>?_)
 rw[010]
 exact⟨j3n_ I2 g,j6k_ hu I2 g ry fun w' s3 I3 rw'=>⟨v,H2,I3,rw',q2⟩⟩
theorem j3a_ (hu:X.A.units+1<cLine) (hi:PE X i ty) (ho:PE X o td):PC X .In i o (tDIn ty td):=by
 rw[02]
 refine cJ (hi pins s σ H _ I h) fun iv s1 ⟨y,H1,I1,ry,q1⟩=>cJ (ho pins s1 σ H1 _ I1 q1) fun u s2 ⟨x,H2,I2,rx,a,ov,ex,g,q2⟩=>?_
 rw[010]
 exact d_in hu I2 g ry fun s3 I3=>⟨.bl ov.isSome,H2,I3,rfl,q2⟩
theorem j1n_ (hu:X.A.units+1<cLine) (hi:PE X i ty) (ho:PE X o td):PC X .NotIn i o (tDNotIn ty td):=by
 rw[02]
 refine cJ (hi pins s σ H _ I h) fun iv s1 ⟨y,H1,I1,ry,q1⟩=>cJ (ho pins s1 σ H1 _ I1 q1) fun u s2 ⟨x,H2,I2,rx,a,ov,ex,g,q2⟩=>?_
 rw[010]
 exact d_notIn hu I2 g ry fun s3 I3=>⟨.bl (!ov.isSome),H2,I3,rfl,q2⟩
theorem ur_ (hu:X.A.units+1<cLine) (ho:PE X o td) (hi:PE X i ty) (hv:PE X value tv) (hs:swapsWith value (some (.Subscript o i pos')) pos.line X.env=pure false):
  PS X (.Assign [.Subscript o i pos'] value pos) (sDPut td ty tv):=by
 rw[09]
 refine wpAny_Assign_Subscript (cJ (hv pins s σ H _ I h) fun r s1 ⟨v,H1,I1,rv,q1⟩=>cJ (ho pins s1 σ H1 _ I1 q1) fun u s2 ⟨x,H2,I2,rx,q2⟩=>cJ (hi pins s2 σ H2 _ I2 q2) fun iv s3 ⟨y,H3,I3,ry,a,H4,ex,g,q3⟩=>?_) hs
 rw[010]
 exact j6m_ hu I3 g ry rv fun s4 I4=>⟨σ,H4,I4,q3⟩
end
theorem dk_empty {P:Program}{w:World}{H:Hp}(h:Heap) (hb:sysModules<h.objs.size):cE P w H (h.push { cls:= .type "dict",data:= .dict #[] }) h.objs.size (.dK []):=
 ⟨Nat.zero_le _,beq_eq_false_iff_ne.mpr (Ne.symm (Nat.ne_of_lt hb)),[], .nil,Heap.DictOf.new h⟩
def tDNewK:TE:=fun _ H Q=> ∀p,H p=none->Q (.ref p) (bg H p (.dK []))
section
variable {X:Cx}{pos:Pos}
theorem vc_:PE X (.Dict [] [] pos) tDNewK:=fun pins s σ H Q I h=>
 wpAny_Dict_empty ⟨.ref s.heap.objs.size,_,I.laid (a:=s.heap.objs.size) (o:= .dK []) (t':=s.toks) (fun _ _ q=>Heap.get?_push_of_some _ q) [007] (dk_empty s.heap I.big),rfl,h _ (I.hok.fresh [007])⟩
end
structure M1 (X:Cx) (o:Expr) (m:Str) (apos:Pos) (e:Expr) (cpos:Pos):Prop where
 base:attributeBase o m X.env (eval o X.env)=eval o X.env
 few:((backTo cpos (starEach [e] X.env)).all (fun x=>!x.1)&&(backToKw cpos [0022]).all (fun x=>x.1.isSome)
  &&decide (([e]:List Expr).length+([]:List Keyword).length+(if([]:List Keyword).isEmpty then 0 else 1)<30))=true
 line:(apos.endLine == cpos.line)=true
 trees:backTo cpos (starEach [e] X.env)=[[032]]
def IsD (H:Hp) (a:Addr):Prop:=(∃kvs,Rd H a [0023])\/ ∃kvs,Rd H a (.dT kvs)
theorem isD_at {X:Cx}{pins:List [001]}{σ:St}{H:Hp}{s:Shared}{a:Addr}(I:aV X pins σ H s) (d:IsD H a):
  s.TypeIs (.ref a) "dict"/\(∀b,Value.ref a= .ref b-> ∃ob,s.heap.get? b=some ob/\ob.dict=none)/\[074]=false:=by
 rcases d with⟨kvs,e⟩|⟨kvs,e⟩
 ·obtain⟨_,hd,vs,_,dd⟩:=dk_rd I.hok e
  refine⟨dd.typeIs,fun b q=>?_,hd⟩
  cases q
  obtain⟨ob,_,_,h1,h2,_⟩:=dd
  exact⟨ob,h1,h2.2.1⟩
 ·obtain⟨_,hd,xs,_,dd⟩:=dt_rd I.hok e
  refine⟨dd.typeIs,fun b q=>?_,hd⟩
  cases q
  obtain⟨ob,_,_,h1,h2,_⟩:=dd
  exact⟨ob,h1,h2.2.1⟩
def tDPop1 (td ty:TE):TE:=fun σ H Q=>td σ H fun x H1=> ∃a,x= .ref a/\IsD H1 a/\ty σ H1 fun y H2=> ∃kvs k v,H2 a=some [0023]/\y=kV k/\cP kvs k=some v/\Q v (bg H2 a (.dK (eE kvs k)))
section
variable {X:Cx}{o e f:Expr}{apos cpos:Pos}{td ty tx:TE}
theorem pe_dpop1 (ho:PE X o td) (he:PE X e ty) (m:M1 X o "pop" apos e cpos):PE X (.Call (.Attribute o "pop" apos) [e] [] cpos) (tDPop1 td ty):=by
 rw[02]
 refine wpAny_Call_method m.base m.few m.line PySem.F.plainAttrs_dict PySem.F.slot_dict_pop PySem.F.type_dict_pop (cJ (ho pins s σ H _ I h) fun u s1 ⟨x,H1,I1,rx,a,ex,d,q1⟩=>?_)
 rw[010]
 obtain⟨t1,t2,_⟩:=isD_at I1 d
 refine⟨t1,t2,?_⟩
 rw[m.trees]
 refine Calls.callWith_builtin rfl (Calls.evalArgs_plain (Calls.spliced_cons (cJ (he pins s1 σ H1 _ I1 q1) fun iv s2 ⟨y,H2,I2,ry,kvs,k,v,ea,ey,l,q2⟩=>Calls.spliced_nil ?_)))
 subst ey
 exact d_pop I2 ea ry l (.inl rfl) fun w' s3 I3 rw'=>⟨v,_,I3,rw',q2⟩
end
end L2
namespace L2
open PySem PySem.Spec PyProof.Rows
end L2
namespace L2
open PySem PySem.Spec PyProof.Rows
section
variable {X:Cx}{pins:List (Addr×Obj)}{σ:St}{H:Hp}{s:Shared}{h':Heap}
theorem aV.turnedL {t':Nat}{ch:List Addr}(I:aV X pins σ H s) (k: ∀b o,b∉ch->s.heap.get? b=some o->h'.get? b=some o) (hf: ∀b∈ch,ug_ X pins H b):aV X pins σ H { s with heap:=h',toks:=t' } :=by
 have nit: ∀b u,H b=some u->b∉ch:=fun b u e z=>by
  have q:=(hf b z).1
  rw[q] at e;cases e
 refine I.step (g':=s.gens) (d':=s.drawn) (ch:=ch) (fun b hb=>⟨(hf b hb).2.2.2.1,(hf b hb).2.1,(hf b hb).2.2.2.2.1,(hf b hb).2.2.2.2.2⟩) (fun b o _ _ hc e _=>k b o hc e) (fun b o _ _ hc e _=>⟨o.slots,k b o hc e⟩)
  (fun _ _ _ _ n=>n) (fun b o hc e=>⟨o,k b o hc e⟩) (fun _ _ e=>e) (fun _ _ _ e=>e) (fun b ps e=>⟨#[],by rw[e];simp⟩) (fun m hm=>?_) (fun b u e=>?_) I.bare
 ·obtain⟨o,es,ep,ho,r⟩:=hm
  exact⟨o,es,ep,k _ o (fun z=>(hf _ z).2.1 rfl) ho,r⟩
 ·refine(I.hok b u e).stay (fun c v hc q=>k c v ?_ q) (fun _ q=>q) fun _ _ q=>q
  rcases hc with z|z
  ·rw[z];exact nit b u e
  ·exact nit c _ z
theorem aV.turnedNew {t':Nat}{ch:List Addr}{T:Addr}{ob:HO}(I:aV X pins σ H s) (k: ∀b o,b∉ch->s.heap.get? b=some o->h'.get? b=some o) (hf: ∀b∈ch,ug_ X pins H b) (hT:s.heap.objs.size<=T)
  (new:cE X.prog X.w (bg H T ob) h' T ob):aV X pins σ (bg H T ob) { s with heap:=h',toks:=t' } :=by
 have hn:H T=none:=I.hok.fresh hT
 have nit: ∀b u,H b=some u->b∉ch:=fun b u e z=>by
  have q:=(hf b z).1
  rw[q] at e;cases e
 refine I.step (g':=s.gens) (d':=s.drawn) (ch:=ch) (fun b hb=>⟨(hf b hb).2.2.2.1,(hf b hb).2.1,(hf b hb).2.2.2.2.1,(hf b hb).2.2.2.2.2⟩) (fun b o _ _ hc e _=>k b o hc e) (fun b o _ _ hc e _=>⟨o.slots,k b o hc e⟩)
  (fun b o _ e n=>?_) (fun b o hc e=>⟨o,k b o hc e⟩) (fun b xs e=>?_) (fun b o u e=>?_) (fun b ps e=>⟨#[],?_⟩) (fun m hm=>?_) (fun b u e=>?_) I.bare
 ·rw[ag (Nat.ne_of_lt (Nat.lt_of_lt_of_le [031] hT))];exact n
 ·rw[ag (aD e hn)];exact e
 ·rw[ag (aD e hn)];exact e
 ·rw[ag (aD e hn),e];simp
 ·obtain⟨o,es,ep,ho,r⟩:=hm
  exact⟨o,es,ep,k _ o (fun z=>(hf _ z).2.1 rfl) ho,r⟩
 ·by_cases hb:b=T
  ·subst hb
   rw[ah] at e
   cases e
   exact new
  ·rw[ag hb] at e
   refine(I.hok b u e).stay (fun c v hc q=>k c v ?_ q) (fun c q=>by rw[ag (aD q hn)];exact q) fun c xs q=>by rw[ag (aD q hn)];exact q
   rcases hc with z|z
   ·rw[z];exact nit b u e
   ·exact nit c _ z
end
section
variable {X:Cx}
theorem pi_one {tg:Expr}{pins:List [001]}{σ:St}{H:Hp}{s:Shared}{R:It->Hp->Prop}{J:It}{tn:Nat->Heap->Prop}{tk:Nat}(I:aV X pins σ H s) (o:Obj)
  (T:Turn X.prog X.w X.K tg J [s.heap.objs.size] s.heap.objs.size tn) (st:tn 0 (s.heap.push o)) (q:R J H):PIE X pins σ tg R (.ref s.heap.objs.size) { s with heap:=s.heap.push o,toks:=tk } :=by
 refine⟨s.heap.objs.size,[s.heap.objs.size],tn,J,H,rfl,I.kept fun b ob e=>Heap.get?_push_of_some _ e,T,st,fun b hb=>?_,q⟩
 have e:b=s.heap.objs.size:=by simpa using hb
 subst e
 exact I.fpOk [007] (I.hok.fresh [007])
end
def Its (x:Str):It:=⟨fun i _=>i<x.cps.size,fun i H v H'=>H'=H/\ ∃c,x.cps[i]?=some c/\v= .str ⟨#[c]⟩,fun i _=>x.cps.size<=i⟩
theorem j3p_ {P:Program}{w:World}{K:PySem.W.Frag}{tg:Expr}(it:Addr) (x:Str) (t:Tok) (ty:String) (hty:ty="str_ascii_iterator"\/ty="str_iterator"):
  Turn P w K tg (Its x) [it] it (fun i h=>h.IsStrIter it ty x t i) where
 mem:=by simp
 obj:=fun i h st b hb=>by
  have e:b=it:=by simpa using hb
  subst e
  obtain⟨o,e,c,d⟩:=st
  exact⟨o,e,fun v z=>by rw[d] at z;cases z⟩
 keep:=fun i h h' st k=>let ⟨o,ho,r⟩:=st;⟨o,k it [022] o ho,r⟩
 item:=by
  rw[019]
  obtain⟨f0,f1,f2,f3,f4,f5⟩:=hf it [022]
  have W:Walks X.prog X.w X.A it [it] [it] x.cps.size (SignAt x) (fun i h=>h.IsStrIter it ty x t i):=by
   rcases hty with e|e
   ·rw[e];exact Walks.strAscii (I.ok.hd hc) it x t
   ·rw[e];exact Walks.strWide (I.ok.hd hc) it x t
  have hno:["enumerate","zip","dict_itemiterator","dict_reverseitemiterator","odict_iterator","itertools.zip_longest","itertools.pairwise"].contains ty=false:=by
   rcases hty with e|e
   ·rw[e];decide
   ·rw[e];decide
  refine W.item i s _ _ hg st fun v h' tk hv st' kk=>?_
  obtain⟨c,u,hcx,rfl⟩:=hv
  have I1:aV X pins σ H { s with heap:=h',toks:=tk } :=I.turned (fun b o hb e=>kk b o (by simpa using hb) e) f0 f1 f3 f4 f5
  obtain⟨oi,e,cc,dd⟩:=id st'
  exact⟨_,rfl,go_of (s:= { s with heap:=h',toks:=tk }) e cc dd hno ⟨.str ⟨#[c]⟩,H,I1,⟨u,rfl⟩,⟨rfl,c,hcx,rfl⟩,st',fun b hb=>(hf b hb).1⟩⟩
 done:=by
  rw[019]
  obtain⟨f0,f1,f2,f3,f4,f5⟩:=hf it [022]
  have hx:x.cps[i]?=none:=Array.getElem?_eq_none hg
  rcases hty with e|e
  ·rw[e] at st
   exact wpAny_pyNext_ascii_end (I.ok.hd hc) st hx fun h' eb=>⟨rfl,I.turned (t':=s.toks) (fun b o hb e=>eb b o hb e) f0 f1 f3 f4 f5⟩
  ·rw[e] at st
   exact wpAny_pyNext_wide_end (I.ok.hd hc) st hx fun h' eb=>⟨rfl,I.turned (t':=s.toks) (fun b o hb e=>eb b o hb e) f0 f1 f3 f4 f5⟩
 self:=fun A i s Q E st h=>by
  rcases hty with e|e
  ·rw[e] at st;exact wpAny_pyIter_striter_ascii st h
  ·rw[e] at st;exact wpAny_pyIter_striter_wide st h
def iStr (te:TE):TI:=fun σ H R=>te σ H fun v H1=> ∃x,v= .str x/\R (Its x) H1
theorem pi_str {X:Cx}{tg e:Expr}{te:TE}(he:PE X e te):PI X tg e (iStr te):=by
 intro pins s σ H R I h
 refine cJ [056] fun v s1 ⟨y,H1,I1,r1,x,ex,q⟩=>?_
 subst ex
 obtain⟨t,rfl⟩:=r1
 cases ha:x.cps.all (· <128)
 ·exact wpAny_pyIter_wide ha (pi_one (tk:=s1.toks) I1 _ (j3p_ _ x t "str_iterator" (.inr rfl)) ⟨_,Heap.get?_push_size _ rfl,rfl,rfl⟩ q)
 ·exact wpAny_pyIter_ascii ha (pi_one (tk:=s1.toks) I1 _ (j3p_ _ x t "str_ascii_iterator" (.inl rfl)) ⟨_,Heap.get?_push_size _ rfl,rfl,rfl⟩ q)
theorem j7e_:bootBuiltins "zip"=some (.type "zip"):=by decide+kernel
def Itz (K:PySem.W.Frag) (a b:Addr):It:=
 ⟨fun i H=> ∃(xs ys:List V) (x y:V),cK K H a xs/\cK K H b ys/\xs[i]?=some x/\ys[i]?=some y,
  fun i H v H'=> ∃T x y,v= .ref T/\H T=none/\H'=bg H T (.tup [x,y])/\(∀xs,cK K H a xs->xs[i]?=some x)/\ ∀ys,cK K H b ys->ys[i]?=some y,
  fun i H=> ∃xs ys:List V,cK K H a xs/\cK K H b ys/\(xs.length<=i\/ys.length<=i)⟩
theorem turn_zip {P:Program}{w:World}{K:PySem.W.Frag}{elts:List Expr}{kk:Nat}{tpos:Pos}{a b z TI TO i1 i2:Addr}(D:ZipApart z TI TO i1 i2 a b):
  Turn P w K (.Tuple elts kk tpos) (Itz K a b) [z,TI,TO,i1,i2] z (fun i h=>IsZip h z TI TO .none/\IsPair h TI (.ref i1) (.ref i2)/\(∃x y,IsPair h TO x y)/\h.IsListIter i1 a i/\h.IsListIter i2 b i) where
 mem:=by simp
 obj:=fun i h st c hc=>by
  obtain⟨hz,hTI,⟨x,y,hTO⟩,⟨o1,e1,_,d1⟩,⟨o2,e2,_,d2⟩⟩:=st
  have e':c=z\/c=TI\/c=TO\/c=i1\/c=i2:=by simpa using hc
  rcases e' with q|q|q|q|q
  ·rw[q];exact⟨_,hz,fun v q=>nomatch q⟩
  ·rw[q];exact⟨_,hTI,fun v q=>nomatch q⟩
  ·rw[q];exact⟨_,hTO,fun v q=>nomatch q⟩
  ·rw[q];exact⟨o1,e1,fun v q=>by rw[d1] at q;cases q⟩
  ·rw[q];exact⟨o2,e2,fun v q=>by rw[d2] at q;cases q⟩
 keep:=fun i h h' st k=>by
  obtain⟨hz,hTI,⟨x,y,hTO⟩,h1,h2⟩:=st
  exact⟨k z [022] _ hz,k TI [022] _ hTI,⟨x,y,k TO [022] _ hTO⟩,h1.at fun o q=>k i1 [022] o q,h2.at fun o q=>k i2 [022] o q⟩
 item:=by
  rw[019]
  obtain⟨hz,hTI,⟨x0,y0,hTO⟩,h1,h2⟩:=st
  obtain⟨xs,ys,x,y,hqx,hqy,hx,hy⟩:=hg
  obtain⟨its,rv,p,_⟩:=I.list hqx
  obtain⟨its2,rv2,p2,_⟩:=I.list hqy
  obtain⟨u,hu,ru⟩:=rv.get hx
  obtain⟨u2,hu2,ru2⟩:=rv2.get hy
  have hzl:z<s.heap.objs.size:=Heap.lt_size hz
  refine wpAny_pyNext_zip_item D hz hTI hTO h1 h2 p.isList p2.isList (x:=u) (y:=u2) (by simpa using hu) (by simpa using hu2) fun h' z' TO' h1' h2' hT hsz hk=>?_
  refine⟨_,rfl,wpAny_letOwnedTupleGo_zip (s:= { s with heap:=h' }) z' fun h'' z'' sb=>?_⟩
  have hT2:h''.get? s.heap.objs.size=some { cls:= .type "tuple",data:= .seq #[u,u2] } :=(sb.2 _ (Nat.ne_of_gt hzl)).trans hT
  have new:cE X.prog X.w (bg H s.heap.objs.size (.tup [x,y])) h'' s.heap.objs.size (.tup [x,y]):=
   ⟨by show 2<=sizeLine;decide,[u,u2], .cons ru (.cons ru2 .nil),⟨_,hT2,rfl,_,rfl⟩⟩
  have I1:aV X pins σ (bg H s.heap.objs.size (.tup [x,y])) { s with heap:=h'' } :=
   I.turnedNew (t':=s.toks) (ch:=[z,TI,TO,i1,i2]) (fun c o hb q=>(sb.2 c [055]).trans (hk c o [055] [055] [055] [055] q)) hf [007] new
  refine⟨.ref s.heap.objs.size,_,I1,rfl,⟨_,x,y,rfl,I.hok.fresh [007],rfl,fun l hl=>by rw[I.list_inj hl hqx];exact hx,fun l hl=>by rw[I.list_inj hl hqy];exact hy⟩,⟨z'',?_,⟨u,u2,?_⟩,?_,?_⟩,fun c hcm=>?_⟩
  ·exact(sb.2 _ D.TIz).trans (hk _ _ D.TIz D.TITO D.TIi1 D.TIi2 hTI)
  ·exact(sb.2 _ D.TOz).trans TO'
  ·exact h1'.at fun o q=>(sb.2 _ D.i1z).trans q
  ·exact h2'.at fun o q=>(sb.2 _ D.i2z).trans q
  ·have hlt:c<s.heap.objs.size:=by
    have e':c=z\/c=TI\/c=TO\/c=i1\/c=i2:=by simpa using hcm
    rcases e' with q|q|q|q|q
    ·rw[q];exact hzl
    ·rw[q];exact Heap.lt_size hTI
    ·rw[q];exact Heap.lt_size hTO
    ·rw[q];obtain⟨_,e1,_⟩:=h1;exact Heap.lt_size e1
    ·rw[q];obtain⟨_,e2,_⟩:=h2;exact Heap.lt_size e2
   rw[ag (Nat.ne_of_lt hlt)]
   exact(hf c hcm).1
 done:=by
  rw[019]
  obtain⟨hz,hTI,⟨x0,y0,hTO⟩,h1,h2⟩:=st
  obtain⟨xs,ys,hqx,hqy,hend⟩:=hg
  obtain⟨its,rv,p,_⟩:=I.list hqx
  obtain⟨its2,rv2,p2,_⟩:=I.list hqy
  have l1:=rv.length
  have l2:=rv2.length
  have he:its.toArray[i]?=none\/its2.toArray[i]?=none:=by
   rcases hend with q|q
   ·exact .inl (by simp;lia)
   ·exact .inr (by simp;lia)
  exact wpAny_pyNext_zip_end (I.ok.hd hc) D hz hTI hTO h1 h2 p.isList p2.isList he fun h' hk=>⟨rfl,I.turnedL (t':=s.toks) (ch:=[z,TI,TO,i1,i2]) (fun c o hb q=>
   hk c o [055] [055] [055] [055] q) hf⟩
 self:=fun A i s Q E st h=>wpAny_pyIter_zip st.1 h
def iZip (K:PySem.W.Frag) (ta:TA):TI:=fun σ H R=>ta σ H fun vs H1=> ∃a b xs ys,vs=[.ref a, .ref b]/\cK K H1 a xs/\cK K H1 b ys/\R (Itz K a b) H1
theorem pi_zip {X:Cx}{e e2:Expr}{ta:TA}{p pos tpos:Pos}{elts:List Expr}{kk:Nat}(hg:Gl X "zip") (hm:X.mg "zip"=none) (ha:PA X [e,e2] ta)
  (hs:starEach [e,e2] X.env=[032]::starEach [e2] X.env:=by rfl) (hpl:(backTo pos (starEach [e2] X.env)).any (·.1)=false:=by rfl):
  PI X (.Tuple elts kk tpos) (.Call (.Name "zip" p) [e,e2] [] pos) (iZip X.K ta):=by
 intro pins s σ H R I h
 refine Call_ (j3k_ I hg hm j7e_ (PyProof.Rows.callWith_type1 (cJ (ha pos pins s σ H _ I h) fun us s1 ⟨vs,H1,I1,r1,q1⟩=>?_) hs hpl))
 obtain⟨a,b,xs,ys,ex,hqx,hqy,q⟩:=q1
 subst ex
 cases r1 with
 |cons r rr=>
  cases rr with
  |cons r' rr=>
   cases rr
   cases r
   cases r'
   obtain⟨its,rv,p1,_⟩:=I1.list hqx
   obtain⟨its2,rv2,p2,_⟩:=I1.list hqy
   have la:a<s1.heap.objs.size:=p1.lt
   have lb:b<s1.heap.objs.size:=p2.lt
   refine call_zip_2 p1.isList p2.isList fun h' hz hTI hTO h1 h2 hsz hk=>wpAny_pyIter_zip hz ?_
   have I2:aV X pins σ H1 { s1 with heap:=h' } :=I1.kept (t':=s1.toks) hk
   refine⟨s1.heap.objs.size+4,[s1.heap.objs.size+4,s1.heap.objs.size+2,s1.heap.objs.size+3,s1.heap.objs.size,s1.heap.objs.size+1],_,_,H1,rfl,I2,turn_zip (PySem.W.ktu_apart s1.heap.objs.size a b la lb),⟨hz,hTI,⟨_,_,hTO⟩,h1,h2⟩,fun c hcm=>?_,q⟩
   have e':c=s1.heap.objs.size+4\/c=s1.heap.objs.size+2\/c=s1.heap.objs.size+3\/c=s1.heap.objs.size\/c=s1.heap.objs.size+1:=by simpa using hcm
   have hle:s1.heap.objs.size<=c:=by
    rcases e' with z|z|z|z|z
    ·rw[z];exact Nat.le_add_right _ _
    ·rw[z];exact Nat.le_add_right _ _
    ·rw[z];exact Nat.le_add_right _ _
    ·rw[z];exact Nat.le_refl _
    ·rw[z];exact Nat.le_add_right _ _
   exact I1.fpOk hle (I1.hok.fresh hle)
end L2
section
namespace Bits
open PySem PyProof.Rows
end Bits
end
section
namespace TL
open PySem PySem.Builtin PySem.Builtin.Str PySem.StrLaws
abbrev tl (x:Str):List Nat:=x.cps.toList
theorem ext_tl {x y:Str}(h:tl x=tl y):x=y:=Str.ext' (Array.toList_inj.mp h)
theorem tl_append (x y:Str):tl (x++y)=tl x++tl y:=by
 show(x++y).cps.toList=_
 rw[Str.cps_append,Array.toList_append]
def joinL (S:List Nat):List (List Nat)->List Nat
 |[]=>[]
 |[p]=>p
 |p::q::r=>p++(S++joinL S (q::r))
theorem tl_join (y:Str): ∀parts:List Str,tl (Str.join y parts)=joinL (tl y) (parts.map tl)
 |[]=>rfl
 |[_]=>rfl
 |x::z::r=>by
  show tl (x++y++Str.join y (z::r))=tl x++(tl y++joinL (tl y) ((z::r).map tl))
  rw[tl_append,tl_append,tl_join y (z::r),List.append_assoc]
theorem join_eq (y:Str) (parts:List Str):Txt.join y parts=Str.join y parts:=glued_eq_join y parts
end TL
end
namespace L2
open PySem PySem.Spec PyProof.Rows
theorem gD: ∀ {ys:List Str}{us:List Value},bL (ys.map V.str) us->StrsAre us ys
 |[],_, .nil=> .nil
 |y::ys,_, .cons r t=>by
  obtain⟨k,rfl⟩:=r
  exact .cons y k (gD t)
section
variable {X:Cx}
theorem mt_join:MtR X "str.join" (fun x xs H Q=> ∃a p,∃ys:List Str,x= .str a/\xs=[.ref p]/\(cK X.K H p (ys.map V.str)\/SqT X.K H p (ys.map V.str))/\
  (ys.map (·.length)).sum+ys.length*a.length<=16777216/\Q (.str (Txt.join a ys)) H):=by
 intro pins s σ H x xs v us Q I rx rs h
 obtain⟨a,p,ys,rfl,rfl,hp,hz,h⟩:=h
 rw[014]
 cases rs with
 |cons r1 rs=>
  cases rs
  cases r1
  rcases hp with hp|hp
  ·obtain⟨its,r,⟨o,n,ho,hc,_,hd⟩,_⟩:=I.list hp
   exact PyProof.Rows.join_list (items:=its.toArray) ⟨o,ho,hc,n,hd⟩ (by rw[List.toList_toArray];exact gD r) hz fun t' k=>⟨.str _,H,I.tok k,⟨t',rfl⟩,h⟩
  ·obtain⟨its,r,ht,_⟩:=I.tuple hp
   exact PyProof.Rows.join_tuple (items:=its.toArray) ht (by rw[List.toList_toArray];exact gD r) hz fun t' k=>⟨.str _,H,I.tok k,⟨t',rfl⟩,h⟩
end
section
variable {X:Cx}{o e:Expr}{to te:TE}
def tM1 (r:V->List V->Hp->VK->Prop) (to te:TE):TE:=fun σ H Q=>to σ H fun x H1=>(∃a,x= .str a)/\te σ H1 fun y H2=>r x [y] H2 Q
theorem pe_m1 {id:String}{name:Str}{apos pos:Pos}{r:V->List V->Hp->VK->Prop}(slot:Slot "str" name id) (ty:typeOf (.builtin id)=pure (.type "method_descriptor")) (rule:MtR X id r) (ho:PE X o to) (he:PE X e te)
  (hs:starEach [e] X.env=[[032]]:=by rfl) (hbase:attributeBase o name X.env (eval o X.env)=eval o X.env:=by rfl) (hline:(apos.endLine == pos.line)=true:=by rfl):
  PE X (.Call (.Attribute o name apos) [e] [] pos) (tM1 r to te):=by
 rw[02]
 refine PySem.Call_method1 hbase hs hline (cJ (ho pins s σ H _ I h) fun v s1 ⟨x,H1,I1,r1,q1⟩=>?_)
 obtain⟨⟨a,rfl⟩,q1⟩:=q1
 obtain⟨t,rfl⟩:=_root_.id r1
 refine⟨"str",_,F.plainAttrs_str,slot,ty,typeIs_str _ _ _,(fun _ e=>nomatch e),Calls.callWith_builtin rfl (Calls.evalArgs_plain (Calls.spliced_cons ?_))⟩
 exact cJ (he pins s1 σ H1 _ I1 q1) fun u s2 ⟨y,H2,I2,r2,q2⟩=>Calls.spliced_nil (rule pins s2 σ H2 _ [y] _ [u] Q I2 r1 (.cons r2 .nil) q2)
theorem pe_join {apos pos:Pos}(ho:PE X o to) (he:PE X e te) (hs:starEach [e] X.env=[[032]]:=by rfl) (hbase:attributeBase o "join" X.env (eval o X.env)=eval o X.env:=by rfl) (hline:(apos.endLine == pos.line)=true:=by rfl):
  PE X (.Call (.Attribute o "join" apos) [e] [] pos) (tM1 (fun x xs H Q=> ∃a p,∃ys:List Str,x= .str a/\xs=[.ref p]/\(cK X.K H p (ys.map V.str)\/SqT X.K H p (ys.map V.str))/\
   (ys.map (·.length)).sum+ys.length*a.length<=16777216/\Q (.str (Txt.join a ys)) H) to te):=
 pe_m1 F.slot_str_join F.type_str_join mt_join ho he hs hbase hline
end
end L2
namespace L2
open PySem PySem.Spec PyProof.Rows
end L2
namespace Att
open PySem PySem.W PySem.Calls PyProof.Rows
end Att
namespace L2
open PySem PySem.Spec PyProof.Rows
end L2
namespace L2
open PySem PySem.Spec PyProof.Rows
end L2
namespace L2
open PySem PySem.Spec PyProof.Rows
def bq (s:Stmt) (j:Nat):Stmt:=match s with
 | .ClassDef _ _ _ body _ _ _ _ _ _ _=>body.getD j (.Pass ⟨0,0,0,0⟩)
 |_=> .Pass ⟨0,0,0,0⟩
def fE (s:Stmt):Arguments:=match s with
 | .FunctionDef _ a _ _ _ _ _ _ _ _=>a
 |_=> { posonlyargs:=[],args:=[],vararg:=none,kwonlyargs:=[],kw_defaults:=[],kwarg:=none,defaults:=[] }
def eT (s:Stmt):List Stmt:=match s with
 | .FunctionDef _ _ b _ _ _ _ _ _ _=>b
 |_=>[]
def ak (s:Stmt):Scope:=match s with
 | .FunctionDef _ _ _ _ _ _ sc _ _ _=>sc
 |_=> { kind:= .function,names:=[],isGenerator:=false,isCoroutine:=false }
abbrev dE:CXT:=fun _ _ _ _ _ _=>False
abbrev E0:XK:=fun _ _ _=>False
theorem aQ {X:Cx} :gj dE X E0:=fun _ _ _ _ _ _ _ h=>h.elim
structure Fun (K:PySem.W.Frag) (x qual:Str) (st:Stmt) (f:Addr) (fd:FuncData):Prop where
 ex: ∃(oc:Value) (od:Option Addr) (kV doc pm:Value) (an:Option Addr) (cdv ct:Value) (osl:Array (Option Value)),
  fd=PySem.W.fnOf x qual (fE st) (eT st) (ak st) .none kV doc pm an cdv ct/\K.lookup f=some ⟨oc,od, .func fd,osl⟩/\PySem.W.codeIn K cdv qual=true
 kp:PySem.W.keepIn K (.ref f)=true
section
variable {P:Program}{w:World}{K:PySem.W.Frag}{mg:Str->Option Value}{base:Heap}
theorem Fun.ok {x qual:Str}{st:Stmt}{f:Addr}{fd:FuncData}{N ps:List Str}{k:Nat}{sp:Sp}(F:Fun K x qual st f fd) (S:aw N ps (ak st)) (len: ∀vs H Q E,sp vs H Q E->vs.length=ps.length)
  (hbody: ∀(cdv:Value) (A:Around) (outer:List Env) (s:Shared) (H:Hp) (vs:List V) (Q:VK) (E:XK),dY k (A.deeper (envOfC qual (ak st) s.heap.objs.size f cdv))->sp vs H Q E->
   Bd (cxOf dE P w K mg base N qual (ak st) f cdv A outer s H E).nox (eT st) { nx:=fun _ H'=>Q .non H',rt:=Q } (start N vs) H):aJ P w K mg base dE (k+1) f fd ps sp:=by
 obtain⟨oc,od,kV,doc,pm,an,cdv,ct,osl,rfl,lk,hcd⟩:=F.ex
 refine fn_of lk hcd S len fun A outer s H vs Q E hr hsp=>?_
 obtain⟨t,h,q⟩:=hbody cdv A outer s H vs Q E hr hsp
 exact⟨t,h.nox,q⟩
theorem Fun.binds {x qual:Str}{st:Stmt}{f:Addr}{fd:FuncData}{ps:List Str}(F:Fun K x qual st f fd)
  (h: ∀(kV doc pm:Value) (an:Option Addr) (cdv ct:Value) (us:List Value),us.length=ps.length->bindArgs (PySem.W.fnOf x qual (fE st) (eT st) (ak st) .none kV doc pm an cdv ct) ⟨us,[]⟩=pure [028]):gN K fd ps []:=by
 obtain⟨oc,od,kV,doc,pm,an,cdv,ct,osl,rfl,lk,hcd⟩:=F.ex
 exact .all (h kV doc pm an cdv ct)
theorem j2w_ {x qual:Str}{st:Stmt}{f:Addr}{oc:Value}{od an:Option Addr}{osl:Array (Option Value)}{kV doc pm cdv ct:Value}(l:K.lookup f=some ⟨oc,od, .func (PySem.W.fnOf x qual (fE st) (eT st) (ak st) .none kV doc pm an cdv ct),osl⟩)
  (c:PySem.W.codeIn K cdv qual=true) (k:PySem.W.keepIn K (.ref f)=true):Fun K x qual st f (PySem.W.fnOf x qual (fE st) (eT st) (ak st) .none kV doc pm an cdv ct):=⟨⟨oc,od,kV,doc,pm,an,cdv,ct,osl,rfl,l,c⟩,k⟩
end
theorem fG {A:Around}{k:Nat}(hr:dY k A):A.units+1<cLine:=Nat.lt_of_le_of_lt (Nat.add_le_add_left (by decide:1<=64) _) hr.units
section
variable {X:Cx}
theorem pv (i:Nat) {x:Str}{pos:Pos}(hN:X.N[i]?=some x:=by rfl) (hv:Vis X.env.scope x:=by first|exact Or.inl rfl|exact Or.inr [05]|exact Or.inr (Or.inr rfl)) (hd:[018]=false:=by decide)
  (hcd:(x == ("__classdict__":Str))=false:=by decide):PE X (.Name x pos) (d9 i):=pe_var hN hv hd hcd
theorem j7b_:io X (.builtin "len") (fun xs H Q=> ∃a kvs,xs=[V.ref a]/\H a=some [0023]/\Q (.int kvs.length) H):=by
 rw[029]
 obtain⟨a,kvs,rfl,ha,q⟩:=h
 obtain⟨u,rfl,ru⟩:=vals1 r
 cases ru
 exact d_len I (.inl ha) fun t s' I'=>⟨.int kvs.length,H,I',⟨t,rfl⟩,q⟩
end
theorem cR {A B:Prop}(h:B):if false=true then A else B:=by
 rw[if_neg Bool.false_ne_true]
 exact h
theorem dQ {A B:Prop}(h:A):if true=true then A else B:=by
 rw[if_pos rfl]
 exact h
def aW (H H':Hp):Prop:= ∀b o,H b=some o->H' b=some o
theorem aW.refl (H:Hp):aW H H:=fun _ _ h=>h
theorem aW.trans {H H1 H2:Hp}(a:aW H H1) (b:aW H1 H2):aW H H2:=fun c o h=>b c o (a c o h)
theorem aW.seq {K:PySem.W.Frag}{H H':Hp}{a:Addr}{xs:List V}(e:aW H H') (h:cK K H a xs):cK K H' a xs:=by
 rcases h with(h|⟨o,h⟩)|h
 ·exact .inl (.inl (e _ _ h))
 ·exact .inl (.inr ⟨o,e _ _ h⟩)
 ·exact .inr h
end L2
section
set_option Elab.async false
set_option linter.all false
set_option maxRecDepth 100000
set_option maxHeartbeats 2000000
namespace L2
open PySem PySem.Spec PyProof.Rows
open PySem.W (WData Codec OpenSpec Well WellAll ReadsW ReadsAllW)
mutual
inductive Dw (K:PySem.W.Frag) (H:Hp):V->WData->Prop
 |non:Dw K H .non .none
 |bl (b:Bool):Dw K H (.bl b) (.bool b)
 |int (i:Int):Dw K H (.int i) (.int i)
 |str (x:Str):Dw K H (.str x) (.str x)
 |byt (b:Array UInt8):Dw K H (.byt b) (.bytes b.toList)
 |lst {a:Addr}{xs:List V}{ds:List WData} :cK K H a xs->gO K H xs ds->Dw K H (.ref a) (.list ds)
 |tup {a:Addr}{xs:List V}{ds:List WData} :SqT K H a xs->gO K H xs ds->Dw K H (.ref a) (.tuple ds)
inductive gO (K:PySem.W.Frag) (H:Hp):List V->List WData->Prop
 |nil:gO K H [] []
 |cons {v:V}{vs:List V}{d:WData}{ds:List WData} :Dw K H v d->gO K H vs ds->gO K H (v::vs) (d::ds)
end
theorem dw_ints {K:PySem.W.Frag}{H:Hp} : ∀ns:List Int,gO K H (ns.map V.int) (ns.map WData.int)
 |[]=> .nil
 |n::r=> .cons (.int n) (dw_ints r)
theorem ints_dw {K:PySem.W.Frag}{H:Hp} : ∀(ns:List Int) (xs:List V),gO K H xs (ns.map WData.int)->xs=ns.map V.int
 |[],xs,h=>by
  cases h
  rfl
 |n::r,xs,h=>by
  cases h with
  |cons h1 h2=>
   cases h1
   rw[ints_dw r _ h2]<;>rfl
section
variable {P:Program}{w:World}{K:PySem.W.Frag}{H:Hp}{h:Heap}{R:PySem.W.WRecords}{cl:Str->Option Addr}
theorem sqL_at {a:Addr}{xs:List V}(hok:gP P w H h) (KX:K.In h) (q:cK K H a xs): ∃(its:List Value) (o:Obj) (n:Nat),bL xs its/\h.get? a=some o/\o.cls= .type "list"/\o.data= .seq its.toArray n:=by
 rcases q with q|⟨o,its,n,e,hc,_,hd,_,hv⟩
 ·obtain⟨_,its,n,hv,e⟩:=(show cE P w H h a [085] from q.ok hok)
  exact⟨its,_,n,hv,e,rfl,rfl⟩
 ·exact⟨its.toList,o,n,hv,KX _ _ e,hc,by simp [hd]⟩
theorem sqT_at {a:Addr}{xs:List V}(hok:gP P w H h) (KX:K.In h) (q:SqT K H a xs): ∃(its:List Value) (o:Obj) (n:Nat),bL xs its/\h.get? a=some o/\o.cls= .type "tuple"/\o.data= .seq its.toArray n:=by
 rcases q with q|⟨o,its,n,e,hc,hd,_,hv⟩
 ·obtain⟨_,its,hv,o,e,hc,n,hd⟩:=(show cE P w H h a (.tup xs) from q.ok hok)
  exact⟨its,o,n,hv,e,hc,hd⟩
 ·exact⟨its.toList,o,n,hv,KX _ _ e,hc,by simp [hd]⟩
mutual
theorem Dw.reads (hok:gP P w H h) (KX:K.In h): ∀(d:WData) (v:V) (u:Value),Dw K H v d->bE v u-> ∃as,ReadsW R cl h u d as
 | .none,_,_,x,r=>by
  cases x
  cases r
  exact⟨_,ReadsW.none⟩
 | .bool b,_,_,x,r=>by
  cases x
  cases r
  exact⟨_,ReadsW.bool b⟩
 | .int i,_,_,x,r=>by
  cases x
  obtain⟨t,rfl⟩:=r
  exact⟨_,ReadsW.int i t⟩
 | .str s,_,_,x,r=>by
  cases x
  obtain⟨t,rfl⟩:=r
  exact⟨_,ReadsW.str s t⟩
 | .bytes b,_,_,x,r=>by
  cases x
  obtain⟨t,rfl⟩:=r
  exact⟨_,ReadsW.bytes _ t⟩
 | .list ds,_,_,x,r=>by
  cases x with
  |lst hs ha=>
   cases r
   obtain⟨its,o,n,rv,ho,hc,hd⟩:=sqL_at hok KX hs
   obtain⟨as,hr⟩:=Dw.readsAll hok KX ds _ its ha rv
   exact⟨_,ReadsW.list ho hc hd hr⟩
 | .tuple ds,_,_,x,r=>by
  cases x with
  |tup hs ha=>
   cases r
   obtain⟨its,o,n,rv,ho,hc,hd⟩:=sqT_at hok KX hs
   obtain⟨as,hr⟩:=Dw.readsAll hok KX ds _ its ha rv
   exact⟨_,ReadsW.tuple ho hc hd hr⟩
 | .float _,_,_,x,_=>by cases x
 | .dict _,_,_,x,_=>by cases x
 | .bytearray _,_,_,x,_=>by cases x
 | .set _,_,_,x,_=>by cases x
 | .frozenset _,_,_,x,_=>by cases x
 | .obj _ _,_,_,x,_=>by cases x
theorem Dw.readsAll (hok:gP P w H h) (KX:K.In h): ∀(ds:List WData) (vs:List V) (us:List Value),gO K H vs ds->bL vs us-> ∃as,ReadsAllW R cl h us ds as
 |[],_,_,x,r=>by
  cases x
  cases r
  exact⟨_,ReadsAllW.nil⟩
 |d::ds,_,_,x,r=>by
  cases x with
  |cons h1 h2=>
   cases r with
   |cons r1 r2=>
    obtain⟨as,q1⟩:=Dw.reads hok KX d _ _ h1 r1
    obtain⟨bs,q2⟩:=Dw.readsAll hok KX ds _ _ h2 r2
    exact⟨_,ReadsAllW.cons q1 q2⟩
end
end
mutual
def plW:WData->Bool
 | .none=>true
 | .bool _=>true
 | .int _=>true
 | .str _=>true
 | .bytes _=>true
 | .list xs=>ub_ xs
 | .tuple xs=>ub_ xs
 |_=>false
def ub_:List WData->Bool
 |[]=>true
 |x::r=>plW x&&ub_ r
end
theorem j4c_ {α:Type}{f:α->WData}(h: ∀a,plW (f a)=true): ∀l:List α,ub_ (l.map f)=true
 |[]=>rfl
 |x::r=>by
  show(plW (f x)&&ub_ (r.map f))=true
  rw[h x,j4c_ h r]<;>rfl
theorem gU: ∀(c:Codec) (a:c.denote),plW (c.enc a)=true
 | .unit,_=>rfl
 | .bool,_=>rfl
 | .int _ _,_=>rfl
 | .nat _ _,_=>rfl
 | .u8,_=>rfl
 | .bytes _ _,_=>rfl
 | .text _ _ _ _,_=>rfl
 | .list _ _ c,a=>j4c_ (fun x=>gU c x) a
 | .pair c d,a=>by
  show(plW (c.enc a.1)&&(plW (d.enc a.2)&&true))=true
  rw[gU c a.1,gU d a.2]<;>rfl
 | .triple c d e,a=>by
  show(plW (c.enc a.1)&&(plW (d.enc a.2.1)&&(plW (e.enc a.2.2)&&true)))=true
  rw[gU c a.1,gU d a.2.1,gU e a.2.2]<;>rfl
 | .option c,none=>rfl
 | .option c,some x=>gU c x
theorem j25_: ∀(cs:List Codec) (a:Codec.denoteAll cs),ub_ (Codec.encAll cs a)=true
 |[],_=>rfl
 |c::cs,a=>by
  show(plW (c.enc a.1)&&ub_ (Codec.encAll cs a.2))=true
  rw[gU c a.1,j25_ cs a.2]<;>rfl
theorem jm_: ∀ {xs:List WData}{d:WData},d∈xs->d.weight<=WData.weightAll xs
 |[],d,h=>absurd h (by simp)
 |x::r,d,h=>by
  show d.weight<=x.weight+1+WData.weightAll r
  rcases List.mem_cons.mp h with e|m
  ·rw[e]
   lia
  ·have z:=jm_ m
   lia
def toV:Value->V
 | .none=> .non
 | .bool b=> .bl b
 | .int i _=> .int i
 | .str x _=> .str x
 | .bytes b _=> .byt b
 | .ref a=> .ref a
 |_=> .non
def OkU (A:List Addr):Value->Prop
 | .none=>True
 | .bool _=>True
 | .int _ _=>True
 | .str _ _=>True
 | .bytes _ _=>True
 | .ref a=>a∈A
 |_=>False
theorem OkU.mono {A B:List Addr}(h: ∀a∈A,a∈B): ∀ {u:Value},OkU A u->OkU B u:=fun {u} x=>by
 cases u with
 |ref a=>exact h a x
 |none=>trivial
 |bool b=>trivial
 |int i t=>trivial
 |str s t=>trivial
 |bytes b t=>trivial
 |_=>exact False.elim x
theorem relV_toV {A:List Addr}{u:Value}(x:OkU A u):bE (toV u) u:=by
 cases u with
 |ref a=>rfl
 |none=>rfl
 |bool b=>rfl
 |int i t=>exact⟨t,rfl⟩
 |str s t=>exact⟨t,rfl⟩
 |bytes b t=>exact⟨t,rfl⟩
 |_=>exact False.elim x
theorem gz {A:List Addr} : ∀ {vs:List Value},(∀u∈vs,OkU A u)->bL (vs.map toV) vs
 |[],_=> .nil
 |u::r,h=> .cons (relV_toV (h u (List.mem_cons_self ..))) (gz fun x hx=>h x (List.mem_cons_of_mem _ hx))
def gM (h:Heap) (A:List Addr) (a:Addr):Prop:= ∃vs:List Value,vs.length<=sizeLine/\(∀u∈vs,OkU A u)/\
 (h.get? a=some { cls:= .type "list",data:= .seq vs.toArray } \/h.get? a=some { cls:= .type "tuple",data:= .seq vs.toArray })
theorem gM.mono {h:Heap}{A B:List Addr}{a:Addr}(k: ∀a∈A,a∈B) (x:gM h A a):gM h B a:=by
 obtain⟨vs,h1,h2,h3⟩:=x
 exact⟨vs,h1,fun u hu=>(h2 u hu).mono k,h3⟩
theorem fu {P:Params}{h:Heap} : ∀ {vs:List Value}{ds:List WData},WellAll P h vs ds->vs.length=ds.length
 |_,_, .nil=>rfl
 |_,_, .cons _ b=>by
  show _+1=_+1
  rw[fu b]
theorem j1x_ {P:Params}{h:Heap}{v:Value}{ds:List WData}(x:Well P h v (.list ds)): ∃(a:Addr) (vs:List Value),v= .ref a/\h.get? a=some { cls:= .type "list",data:= .seq vs.toArray } /\WellAll P h vs ds:=by
 cases x with
 |list ho hall=>exact⟨_,_,rfl,ho,hall⟩
theorem j03_ {P:Params}{h:Heap}{v:Value}{ds:List WData}(x:Well P h v (.tuple ds)): ∃(a:Addr) (vs:List Value),v= .ref a/\h.get? a=some { cls:= .type "tuple",data:= .seq vs.toArray } /\WellAll P h vs ds:=by
 cases x with
 |tuple ho hall=>exact⟨_,_,rfl,ho,hall⟩
theorem j1i_ {P:Params}{h:Heap}{us:List Value}{d:WData}{ds:List WData}(x:WellAll P h us (d::ds)): ∃(v:Value) (vs:List Value),us=v::vs/\Well P h v d/\WellAll P h vs ds:=by
 cases x with
 |cons a b=>exact⟨_,_,rfl,a,b⟩
theorem line_of {n:Nat}(h:n<=1048576):n<=sizeLine:=Nat.le_trans h [06]
section
variable {P:Params}{h:Heap}
mutual
theorem area_one: ∀(d:WData) (v:Value),Well P h v d->plW d=true->d.weight<=1048576-> ∃A:List Addr,OkU A v/\ ∀a∈A,gM h A a
 | .none,_,x,_,_=>by
  cases x
  exact [0003]
 | .bool b,_,x,_,_=>by
  cases x
  exact [0003]
 | .int i,_,x,_,_=>by
  cases x
  exact [0003]
 | .str s,_,x,_,_=>by
  cases x
  exact [0003]
 | .bytes b,_,x,_,_=>by
  cases x
  exact [0003]
 | .list ds,_,x,p,z=>by
  obtain⟨a,vs,rfl,ho,hall⟩:=j1x_ x
  have z2:WData.weightAll ds<=1048576:=z
  obtain⟨A,h1,h2⟩:=yq_ ds _ hall p fun d hd=>Nat.le_trans (jm_ hd) z2
  have k: ∀b∈A,b∈a::A:=fun b hb=>List.mem_cons_of_mem _ hb
  refine⟨a::A,List.mem_cons_self ..,fun b hb=>?_⟩
  rcases List.mem_cons.mp hb with e|m
  ·rw[e]
   exact⟨vs,line_of (by rw[fu hall];exact Nat.le_trans (PySem.W.length_le_weightAllW ds) z2),fun u hu=>(h1 u hu).mono k, .inl ho⟩
  ·exact(h2 b m).mono k
 | .tuple ds,_,x,p,z=>by
  obtain⟨a,vs,rfl,ho,hall⟩:=j03_ x
  have z2:WData.weightAll ds<=1048576:=z
  obtain⟨A,h1,h2⟩:=yq_ ds _ hall p fun d hd=>Nat.le_trans (jm_ hd) z2
  have k: ∀b∈A,b∈a::A:=fun b hb=>List.mem_cons_of_mem _ hb
  refine⟨a::A,List.mem_cons_self ..,fun b hb=>?_⟩
  rcases List.mem_cons.mp hb with e|m
  ·rw[e]
   exact⟨vs,line_of (by rw[fu hall];exact Nat.le_trans (PySem.W.length_le_weightAllW ds) z2),fun u hu=>(h1 u hu).mono k, .inr ho⟩
  ·exact(h2 b m).mono k
 | .float _,_,_,p,_=>Bool.noConfusion (show false=true from p)
 | .dict _,_,_,p,_=>Bool.noConfusion (show false=true from p)
 | .bytearray _,_,_,p,_=>Bool.noConfusion (show false=true from p)
 | .set _,_,_,p,_=>Bool.noConfusion (show false=true from p)
 | .frozenset _,_,_,p,_=>Bool.noConfusion (show false=true from p)
 | .obj _ _,_,_,p,_=>Bool.noConfusion (show false=true from p)
theorem yq_: ∀(ds:List WData) (vs:List Value),WellAll P h vs ds->ub_ ds=true->(∀d∈ds,d.weight<=1048576)-> ∃A:List Addr,(∀u∈vs,OkU A u)/\ ∀a∈A,gM h A a
 |[],_,x,_,_=>by
  cases x
  exact⟨[],fun u m=>absurd m [022],fun a m=>absurd m [022]⟩
 |d::ds,_,x,p,z=>by
  obtain⟨v,vs,rfl,x1,x2⟩:=j1i_ x
  have q:plW d=true/\ub_ ds=true:=Bool.and_eq_true_iff.mp p
  obtain⟨A,a1,a2⟩:=area_one d v x1 q.1 (z d [076])
  obtain⟨B,b1,b2⟩:=yq_ ds vs x2 q.2 fun e he=>z e (List.mem_cons_of_mem _ he)
  have kA: ∀b∈A,b∈A++B:=fun b hb=>List.mem_append.mpr (.inl hb)
  have kB: ∀b∈B,b∈A++B:=fun b hb=>List.mem_append.mpr (.inr hb)
  refine⟨A++B,fun u hu=>?_,fun b hb=>?_⟩
  ·rcases List.mem_cons.mp hu with e|m
   ·rw[e]
    exact a1.mono kA
   ·exact(b1 u m).mono kB
  ·rcases List.mem_append.mp hb with m|m
   ·exact(a2 b m).mono kA
   ·exact(b2 b m).mono kB
end
end
def hoOf (o:Obj):Option HO:=match o.data with
 | .seq vs _=>if(o.cls == Value.type "list")=true then some (.frz o (.lst (vs.toList.map toV))) else some (.frz o (.tup (vs.toList.map toV)))
 |_=>none
def gJ (K:PySem.W.Frag) (h:Heap) (A:List Addr):Hp:=fun b=>if b∈A then(if(K.lookup b).isNone=true then(h.get? b).bind hoOf else none) else none
def OnlyF (H:Hp):Prop:= ∀b,H b=none\/ ∃o u,H b=some (.frz o u)
theorem j3y_ (vs:List Value):hoOf { cls:= .type "list",data:= .seq vs.toArray } =some (.frz { cls:= .type "list",data:= .seq vs.toArray } (.lst (vs.map toV))):=by
 show(if(Value.type "list" == Value.type "list")=true then some (HO.frz { cls:= .type "list",data:= .seq vs.toArray } (.lst (vs.toArray.toList.map toV))) else some (HO.frz { cls:= .type "list",data:= .seq vs.toArray } (.tup (vs.toArray.toList.map toV))))=_
 rw[if_pos (beq_self_eq_true _)]
theorem j4t_ (vs:List Value):hoOf { cls:= .type "tuple",data:= .seq vs.toArray } =some (.frz { cls:= .type "tuple",data:= .seq vs.toArray } (.tup (vs.map toV))):=by
 show(if(Value.type "tuple" == Value.type "list")=true then some (HO.frz { cls:= .type "tuple",data:= .seq vs.toArray } (.lst (vs.toArray.toList.map toV))) else some (HO.frz { cls:= .type "tuple",data:= .seq vs.toArray } (.tup (vs.toArray.toList.map toV))))=_
 rw[if_neg [06]]
section
variable {P:Program}{w:World}{K:PySem.W.Frag}{h:Heap}{A:List Addr}
theorem uq_ {b:Addr}{o:Obj}(hb:b∈A) (hk:K.lookup b=none) (e:h.get? b=some o):gJ K h A b=hoOf o:=by
 unfold gJ
 rw[if_pos hb,hk,if_pos (show(none:Option Obj).isNone=true from rfl),e]<;>rfl
theorem of_argH {b:Addr}{u:HO}(q:gJ K h A b=some u):b∈A/\K.lookup b=none:=by
 unfold gJ at q
 by_cases hb:b∈A
 ·rw[if_pos hb] at q
  cases hk:K.lookup b with
  |none=>exact⟨hb,rfl⟩
  |some o=>
   rw[hk,if_neg [022]] at q
   cases q
 ·rw[if_neg hb] at q
  cases q
theorem uv_ (ar: ∀a∈A,gM h A a) {b:Addr}{u:HO}(q:gJ K h A b=some u):K.lookup b=none/\ ∃vs:List Value,vs.length<=sizeLine/\(∀u∈vs,OkU A u)/\
  ((h.get? b=some { cls:= .type "list",data:= .seq vs.toArray } /\u= .frz { cls:= .type "list",data:= .seq vs.toArray } (.lst (vs.map toV)))\/
    (h.get? b=some { cls:= .type "tuple",data:= .seq vs.toArray } /\u= .frz { cls:= .type "tuple",data:= .seq vs.toArray } (.tup (vs.map toV)))):=by
 obtain⟨hb,hk⟩:=of_argH q
 obtain⟨vs,h1,h2,h3⟩:=ar b hb
 refine⟨hk,vs,h1,h2,?_⟩
 rcases h3 with e|e
 ·rw[uq_ hb hk e,j3y_] at q
  exact .inl ⟨e,(Option.some.inj q).symm⟩
 ·rw[uq_ hb hk e,j4t_] at q
  exact .inr ⟨e,(Option.some.inj q).symm⟩
theorem j6x_ (ar: ∀a∈A,gM h A a):OnlyF (gJ K h A):=fun b=>by
 cases q:gJ K h A b with
 |none=>exact .inl rfl
 |some u=>
  obtain⟨_,vs,_,_,⟨_,e⟩|⟨_,e⟩⟩:=uv_ ar q
  ·exact .inr ⟨_,_,by rw[e]⟩
  ·exact .inr ⟨_,_,by rw[e]⟩
theorem argH_ok (ar: ∀a∈A,gM h A a):gP P w (gJ K h A) h:=fun b u q=>by
 obtain⟨_,vs,h1,h2,⟨e,rfl⟩|⟨e,rfl⟩⟩:=uv_ ar q
 ·exact⟨e,by rw[List.length_map];exact h1,vs,_,gz h2,e⟩
 ·exact⟨e,by rw[List.length_map];exact h1,vs,gz h2,_,e,rfl,_,rfl⟩
theorem ut_ {c c':Value}{vs us:List Value}(e:(some { cls:=c,data:= .seq vs.toArray } :Option Obj)=some { cls:=c',data:= .seq us.toArray }):c=c'/\vs=us:=by
 have e1:=Option.some.inj e
 have e2:c=c':=congrArg Obj.cls e1
 have e3:Data.seq vs.toArray=Data.seq us.toArray:=congrArg Obj.data e1
 injection e3 with e4
 refine⟨e2,?_⟩
 have e5:=congrArg Array.toList e4
 simpa using e5
theorem argL (KX:K.In h) (ar: ∀a∈A,gM h A a) {a:Addr}{vs:List Value}(ha:a∈A) (e:h.get? a=some { cls:= .type "list",data:= .seq vs.toArray }):(∀u∈vs,OkU A u)/\cK K (gJ K h A) a (vs.map toV):=by
 obtain⟨us,h1,h2,h3⟩:=ar a ha
 have hu:us=vs:=by
  rcases h3 with q|q
  ·rw[e] at q
   exact(ut_ q).2.symm
  ·rw[e] at q
   exact absurd (Value.type.inj (ut_ q).1) [06]
 subst hu
 refine⟨h2,?_⟩
 cases hk:K.lookup a with
 |none=>exact .inl (.inr ⟨_,by rw[uq_ ha hk e,j3y_]⟩)
 |some o=>
  have e2:=KX a o hk
  rw[e] at e2
  obtain rfl:=Option.some.inj e2
  exact .inr ⟨_,us.toArray,_,hk,rfl,rfl,rfl,by rw[List.size_toArray];exact h1,by simpa using gz h2⟩
theorem argT (KX:K.In h) (ar: ∀a∈A,gM h A a) {a:Addr}{vs:List Value}(ha:a∈A) (e:h.get? a=some { cls:= .type "tuple",data:= .seq vs.toArray }):(∀u∈vs,OkU A u)/\SqT K (gJ K h A) a (vs.map toV):=by
 obtain⟨us,h1,h2,h3⟩:=ar a ha
 have hu:us=vs:=by
  rcases h3 with q|q
  ·rw[e] at q
   exact absurd (Value.type.inj (ut_ q).1) [06]
  ·rw[e] at q
   exact(ut_ q).2.symm
 subst hu
 refine⟨h2,?_⟩
 cases hk:K.lookup a with
 |none=>exact .inl (.inr ⟨_,by rw[uq_ ha hk e,j4t_]⟩)
 |some o=>
  have e2:=KX a o hk
  rw[e] at e2
  obtain rfl:=Option.some.inj e2
  exact .inr ⟨_,us.toArray,_,hk,rfl,rfl,by rw[List.size_toArray];exact h1,by simpa using gz h2⟩
mutual
theorem dw_one {Pm:Params}(KX:K.In h) (ar: ∀a∈A,gM h A a): ∀(d:WData) (v:Value),Well Pm h v d->plW d=true->OkU A v->Dw K (gJ K h A) (toV v) d
 | .none,_,x,_,_=>by
  cases x
  exact .non
 | .bool b,_,x,_,_=>by
  cases x
  exact .bl b
 | .int i,_,x,_,_=>by
  cases x
  exact .int i
 | .str s,_,x,_,_=>by
  cases x
  exact .str s
 | .bytes b,_,x,_,_=>by
  cases x
  have z:=Dw.byt (K:=K) (H:=gJ K h A) b.toArray
  exact z
 | .list ds,_,x,p,hu=>by
  obtain⟨a,vs,rfl,ho,hall⟩:=j1x_ x
  obtain⟨h2,hs⟩:=argL KX ar hu ho
  exact .lst hs (j3e_ KX ar ds _ hall p h2)
 | .tuple ds,_,x,p,hu=>by
  obtain⟨a,vs,rfl,ho,hall⟩:=j03_ x
  obtain⟨h2,hs⟩:=argT KX ar hu ho
  exact .tup hs (j3e_ KX ar ds _ hall p h2)
 | .float _,_,_,p,_=>Bool.noConfusion (show false=true from p)
 | .dict _,_,_,p,_=>Bool.noConfusion (show false=true from p)
 | .bytearray _,_,_,p,_=>Bool.noConfusion (show false=true from p)
 | .set _,_,_,p,_=>Bool.noConfusion (show false=true from p)
 | .frozenset _,_,_,p,_=>Bool.noConfusion (show false=true from p)
 | .obj _ _,_,_,p,_=>Bool.noConfusion (show false=true from p)
theorem j3e_ {Pm:Params}(KX:K.In h) (ar: ∀a∈A,gM h A a): ∀(ds:List WData) (vs:List Value),WellAll Pm h vs ds->ub_ ds=true->(∀u∈vs,OkU A u)->gO K (gJ K h A) (vs.map toV) ds
 |[],_,x,_,_=>by
  cases x
  exact .nil
 |d::ds,_,x,p,hu=>by
  obtain⟨v,vs,rfl,x1,x2⟩:=j1i_ x
  have q:plW d=true/\ub_ ds=true:=Bool.and_eq_true_iff.mp p
  exact .cons (dw_one KX ar d v x1 q.1 (hu _ [076])) (j3e_ KX ar ds vs x2 q.2 fun u m=>hu u (List.mem_cons_of_mem _ m))
end
end
theorem j79_ {P:Program}{w:World}{K:PySem.W.Frag}{mg mb:Str->Option Value}{CX:CXT}{k:Nat}{fa:Addr}{fd:FuncData}{ps:List Str}{sp:Sp}{s₁:Shared}{vals:List Value}{ds:List WData}{R:PySem.W.WRecords}{cl:Str->Option Addr}{d0:WData}
  (KX:K.In s₁.heap) (hns:s₁.heap.Ns mainGlobals mg) (hb:s₁.heap.Ns builtinsNs mb) (hbb: ∀x:Str,x≠"__name__"->mb x=bootBuiltins x) (hlim:s₁.heap.NoLimit) (hg:s₁.gens= #[])
  (hwl:WellAll w.params s₁.heap vals ds) (hpl:ub_ ds=true) (hwt: ∀d∈ds,d.weight<=1048576) (hr:dY k callerA)
  (F: ∀base:Heap,K.In base->base.Ns mainGlobals mg->aJ P w K mg base CX k fa fd ps sp) (hbind: ∀(s:Shared) (us:List Value),us.length=ps.length->BindsTo s fd ⟨us,[]⟩ [028]) (hlen:ds.length=ps.length)
  (hsp: ∀(H:Hp) (xs:List V),OnlyF H->gO K H xs ds->sp xs H (fun v H'=>Dw K H' v d0) fun _ _ _=>False)
  (hCX: ∀H e s',CX [] H s₁ (fun _ _ _=>False) e s'->False):
  codeAny (model P w) callerA (.call (.ref fa) ⟨vals,[]⟩) (fun r s'=> ∃u as,r= .ok (.ret u)/\ReadsW R cl s'.heap u d0 as/\OldK s₁.heap s'.heap/\s'.os=s₁.os/\AllBare s'.gens) s₁:=by
 obtain⟨A,ho,ar⟩:=yq_ ds vals hwl hpl hwt
 have hO:OnlyF (gJ K s₁.heap A):=j6x_ ar
 have hok:gP P w (gJ K s₁.heap A) s₁.heap:=argH_ok ar
 have hS:=j3e_ KX ar ds vals hwl hpl ho
 have hV:=gz ho
 have hK: ∀b u,gJ K s₁.heap A b=some u->K.lookup b=none:=fun b u q=>(uv_ ar q).1
 have noA: ∀ {b:Addr}{o:Obj}{es:Array DictEntry}{ep:Nat},s₁.heap.get? b=some o->o.data= .dict es ep->gJ K s₁.heap A b=none:=fun {b o es ep} e d=>by
  cases q:gJ K s₁.heap A b with
  |none=>rfl
  |some u=>
   obtain⟨_,vs,_,_,⟨e2,_⟩|⟨e2,_⟩⟩:=uv_ ar q
   ·rw[e2] at e
    cases e
    have d':Data.seq vs.toArray _=Data.dict es ep:=d
    cases d'
   ·rw[e2] at e
    cases e
    have d':Data.seq vs.toArray _=Data.dict es ep:=d
    cases d'
 generalize gJ K s₁.heap A=H at hO hok hS hK noA
 have base_of: ∀ {b:Addr}{o:Obj},s₁.heap.get? b=some o->H b=none->(hidT s₁.heap H).get? b=some o:=fun e n=>hidT_get e n
 have nsK: ∀ {b:Addr}{m:Str->Option Value},s₁.heap.Ns b m->(hidT s₁.heap H).Ns b m:=fun {b m} ⟨o,es,ep,e,d,r⟩=>⟨o,es,ep,base_of e (noA e d),d,r⟩
 have nK: ∀b o,K.lookup b=some o->H b=none:=fun b o e=>by
  cases q:H b with
  |none=>rfl
  |some u=>
   rw[hK b u q] at e
   cases e
 have hKb:K.In (hidT s₁.heap H):=fun b o e=>base_of (KX b o e) (nK b o e)
 have hM:Mod K mg (hidT s₁.heap H):=⟨hKb,nsK hns,⟨mb,nsK hb,hbb⟩,let ⟨mc,h1,h2⟩:=hlim;⟨mc,nsK h1,h2⟩⟩
 have e0:Env0 P w K mg (hidT s₁.heap H) callerA [] s₁ H:=⟨rfl,hM,fun b o e=>of_hidT e,Nat.le_of_eq (j6r_ _ _),trivial,fun b hb=>absurd (show b∈([]:List Addr) from hb) [022],hok, .of_eq hg⟩
 have hl:vals.length=ps.length:=by rw[fu hwl];exact hlen
 refine codeAny_mono ((F _ hKb (nsK hns)).run callerA [] s₁ H ⟨vals,[]⟩ vals (vals.map toV) _ _ hr e0 (hbind s₁ vals hl) hV (hsp H _ hO hS)) fun r s' x=>?_
 cases r with
 |error e=>exact(hCX H e s' x).elim
 |ok fl=>
  cases fl with
  |next=>exact False.elim x
  |brk=>exact False.elim x
  |cont=>exact False.elim x
  |ret u=>
   obtain⟨v,H',os,bare,un,hok',r',q⟩:=x
   have kept: ∀b o,s₁.heap.get? b=some o->s'.heap.get? b=some o:=fun b o e=>by
    cases q2:H b with
    |none=>exact un.keep b o e q2 (by intro z;exact absurd (show b∈([]:List Addr) from z) (by simp)) (by simp)
    |some u2=>
     rcases hO b with z|⟨ob,u3,z⟩
     ·rw[q2] at z
      cases z
     ·have z2:=un.frzs b ob _ z
      obtain⟨e1,_⟩:=hok b _ z
      obtain⟨e2,_⟩:=hok' b _ z2
      rw[e] at e1
      cases e1
      exact e2
   have KX':K.In s'.heap:=fun b o e=>kept b o (KX b o e)
   obtain⟨as,hrd⟩:=Dw.reads (R:=R) (cl:=cl) hok' KX' d0 v u q r'
   exact⟨u,as,rfl,hrd,OldK.of_keep kept,os,bare⟩
theorem j0s_ {ds:List WData}(h:WData.layableAll ds=true): ∀d∈ds,d.weight<=1048576:=fun d hd=>
 (PySem.W.layableW_iff.mp (List.all_eq_true.mp h d hd)).2.2
theorem wv_: ∀(cs:List Codec) (a:Codec.denoteAll cs),(Codec.encAll cs a).length=cs.length
 |[],_=>rfl
 |c::cs,a=>by
  show(Codec.encAll cs a.2).length+1=cs.length+1
  rw[wv_ cs a.2]
theorem j7i_ {r:OpenSpec}{k:Nat}{q:Program}{loose:List Str}{XP:(Str->Option Value)->Heap->Prop}{YP:World->Heap->Prop}{d:DefRec}{K:Params->PySem.W.Frag}{CX:World->CXT}{ps:List Str}{sp:World->Sp}
  (hwell:r.wellSaid=true) (hdf:d.params.defaults=[]) (hlen:r.args.length=ps.length) (hr:dY k callerA)
  (hY: ∀(w:World) (h:Heap),YP w h->[084].In h)
  (F: ∀(w:World) (mg:Str->Option Value) (fa:Addr) (h:Heap),YP w h->[084].In h->h.Ns mainGlobals mg->mg d.name=some (.ref fa)->
   ∃fd:FuncData,(∀(s:Shared) (us:List Value),us.length=ps.length->BindsTo s fd ⟨us,[]⟩ [028])/\
    ∀base:Heap,[084].In base->base.Ns mainGlobals mg->aJ r.prog w [084] mg base (CX w) k fa fd ps (sp w))
  (hsp: ∀(w:World) (H:Hp) (xs:List V) (a:Codec.denoteAll r.args),OnlyF H->Codec.withinAll r.args a=true->Codec.app r.args r.asked a=true->gO [084] H xs (Codec.encAll r.args a)->
   sp w xs H (fun v H'=>Dw [084] H' v (r.ret.enc (Codec.app r.args r.f a))) fun _ _ _=>False)
  (hCX: ∀(w:World) (H:Hp) (s:Shared) (e:Value) (s':Shared),CX w [] H s (fun _ _ _=>False) e s'->False):
  PySem.W.WalkOS q loose XP YP r d [] (fun f vs=>PySem.call f vs):=by
 intro w s_0 s₁ mg mb G Y fa o pm cd doc dV kV ho hd hcd hD hmg hg args vals as hpre hlay hrd hwl hlo
 obtain⟨a,e1,e2⟩:=PySem.W.os_pre_some hpre
 obtain⟨e3,hwi⟩:=Codec.encAll_of_decAll r.args args a e1
 subst e3
 have KX:=hY w _ Y
 obtain⟨fd,hb,hF⟩:=F w mg fa _ Y KX G.T.g hmg
 refine PySem.W.enter_call (codeAny_mono (j79_ (R:=[]) (cl:=classAt s_0.heap) (d0:=r.ret.enc (Codec.app r.args r.f a)) KX G.T.g G.T.b G.T.builtins G.T.nolimit hg hwl (j25_ _ _) (j0s_ hlay) hr hF hb (by rw[wv_];exact hlen)
  (fun H xs hO hS=>hsp w H xs a hO hwi e2 hS) fun H e s'=>hCX w H s₁ e s') fun r' s' hq=>?_)
 obtain⟨u,as',rfl,h1,h2,h3,h4⟩:=hq
 exact⟨.inl ⟨u,_,as',rfl,fun _=>rfl,h1,(OpenSpec.post_iff hwell hwi _ _).mpr rfl,fun z=>Bool.noConfusion (show false=true from z)⟩,h2,h3,h4⟩
theorem j68_ {r:OpenSpec}{k:Nat}{q:Program}{loose:List Str}{XP:(Str->Option Value)->Heap->Prop}{YP:World->Heap->Prop}{d:DefRec}{K:Params->PySem.W.Frag}{CX:CXT}{ps:List Str}{sp:PySem.W.Frag->Sp}
  (hwell:r.wellSaid=true) (hdf:d.params.defaults=[]) (hlen:r.args.length=ps.length) (hr:dY k callerA)
  (hY: ∀(w:World) (h:Heap),YP w h->[084].In h)
  (F: ∀(w:World) (mg:Str->Option Value) (fa:Addr) (h:Heap),YP w h->[084].In h->h.Ns mainGlobals mg->mg d.name=some (.ref fa)->
   ∃fd:FuncData,(∀(s:Shared) (us:List Value),us.length=ps.length->BindsTo s fd ⟨us,[]⟩ [028])/\
    ∀base:Heap,[084].In base->base.Ns mainGlobals mg->aJ r.prog w [084] mg base CX k fa fd ps (sp [084]))
  (hsp: ∀(K:PySem.W.Frag) (H:Hp) (xs:List V) (a:Codec.denoteAll r.args),OnlyF H->Codec.withinAll r.args a=true->Codec.app r.args r.asked a=true->gO K H xs (Codec.encAll r.args a)->
   sp K xs H (fun v H'=>Dw K H' v (r.ret.enc (Codec.app r.args r.f a))) fun _ _ _=>False)
  (hCX: ∀(H:Hp) (s:Shared) (e:Value) (s':Shared),CX [] H s (fun _ _ _=>False) e s'->False):
  PySem.W.WalkOS q loose XP YP r d [] (fun f vs=>PySem.call f vs):=
 j7i_ (K:=K) (CX:=fun _=>CX) (sp:=fun w=>sp [084]) hwell hdf hlen hr hY F (fun w H xs a h1 h2 h3 h4=>hsp [084] H xs a h1 h2 h3 h4) fun _ H s e s'=>hCX H s e s'
end L2
end
set_option Elab.async false
set_option linter.all false
set_option maxRecDepth 100000
set_option maxHeartbeats 4000000
namespace OS
open Vbemac
def b6 (c:UInt8):Bool:=letter c||digit c
def eJ (c:UInt8):Bool:=c !=10
def bw (p:UInt8->Bool) (bs:Bytes) (i:Nat):Nat:=i+((bs.drop i).takeWhile p).length
theorem eU {bs:Bytes}{i:Nat}{c:UInt8}(h:bs[i]?=some c):bs.drop i=c::bs.drop (i+1):=by
 obtain⟨hi,e⟩:=List.getElem?_eq_some_iff.mp h
 rw[List.drop_eq_getElem_cons hi,e]
theorem vb_ {p:UInt8->Bool}{bs:Bytes}{i:Nat}{c:UInt8}(h:bs[i]?=some c) (hp:p c=true):bw p bs i=bw p bs (i+1):=by
 unfold bw
 rw[eU h,List.takeWhile_cons,if_pos hp,List.length_cons]
 lia
theorem j0p_ {p:UInt8->Bool}{bs:Bytes}{i:Nat}{c:UInt8}(h:bs[i]?=some c) (hp:p c=false):bw p bs i=i:=by
 unfold bw
 rw[eU h,List.takeWhile_cons,if_neg (by rw[hp];exact Bool.false_ne_true)]
 rfl
theorem vk_ {p:UInt8->Bool}{bs:Bytes}{i:Nat}(h:bs.length<=i):bw p bs i=i:=by
 unfold bw
 rw[List.drop_eq_nil_of_le h]
 rfl
theorem j0m_ {p:UInt8->Bool}{bs:Bytes}{i:Nat}(h:i<=bs.length):bw p bs i<=bs.length:=by
 unfold bw
 have:=(List.takeWhile_sublist p (l:=bs.drop i)).length_le
 rw[List.length_drop] at this
 lia
def cO (bs:Bytes) (i j:Nat):Bytes:=(bs.drop i).take (j-i)
theorem tw_take {p:UInt8->Bool} : ∀l:Bytes,l.takeWhile p=l.take (l.takeWhile p).length
 |[]=>rfl
 |a::l=>by
  rw[List.takeWhile_cons]
  split
  ·rw[List.length_cons,List.take_succ_cons,<-tw_take l]
  ·rfl
theorem yh_ (p:UInt8->Bool) (bs:Bytes) (i:Nat):(bs.drop i).takeWhile p=cO bs i (bw p bs i):=by
 unfold cO bw
 rw[Nat.add_sub_cancel_left]
 exact tw_take _
theorem j0y_ (p:UInt8->Bool) (bs:Bytes) (i:Nat):(bs.drop i).drop ((bs.drop i).takeWhile p).length=bs.drop (bw p bs i):=by
 rw[List.drop_drop]
 rfl
theorem ib: ∀(w:Bytes) (p:Pos),(∀c∈w,c≠10)->moved p w=(p.1,p.2+w.length)
 |[],p,_=>rfl
 |c::w,p,h=>by
  show moved (advance p c) w=_
  rw[ib w _ fun d hd=>h d (List.mem_cons_of_mem _ hd)]
  unfold advance
  rw[if_neg (h c List.mem_cons_self),List.length_cons]
  show(p.1,p.2+1+w.length)=_
  rw[Nat.add_assoc,Nat.add_comm 1]
theorem j38_ {p:UInt8->Bool} : ∀(l:Bytes),∀c∈l.takeWhile p,p c=true
 |[],c,h=>nomatch h
 |a::l,c,h=>by
  rw[List.takeWhile_cons] at h
  split at h
  ·rename_i q
   rcases List.mem_cons.mp h with e|h
   ·rw[e];exact q
   ·exact j38_ l c h
  ·exact nomatch h
theorem wt_ {p:UInt8->Bool}(hp:p 10=false) (bs:Bytes) (i:Nat) (q:Pos):moved q ((bs.drop i).takeWhile p)=(q.1,q.2+(bw p bs i-i)):=by
 rw[ib _ _ fun c hc e=>by
  have:=j38_ _ c hc
  rw[e,hp] at this
  cases this]
 unfold bw
 rw[Nat.add_sub_cancel_left]
section
variable {bs:Bytes}{i k:Nat}{c:UInt8}{q:Pos}
theorem vq_ (h:bs[i]?=some c) (hb:blank c=true):lex (k+1) q (bs.drop i)=lex k (advance q c) (bs.drop (i+1)):=by
 rw[eU h,lex,if_pos hb]
theorem j3_ (h:bs[i]?=some c) (hb:blank c=false) (h35:c=35):
  lex (k+1) q (bs.drop i)=lex k (q.1,q.2+(bw eJ bs i-i)) (bs.drop (bw eJ bs i)):=by
 have e:=eU h
 have m:=wt_ (p:=eJ) rfl bs i q
 have d:=j0y_ eJ bs i
 rw[e] at m d
 rw[e,lex,if_neg (by rw[hb];exact Bool.false_ne_true),if_pos h35]
 show lex k (moved q ([030].takeWhile eJ)) ([030].drop ([030].takeWhile eJ).length)=_
 rw[m,d]
theorem vd_ (h:bs[i]?=some c) (hb:blank c=false) (h35: ¬c=35) (hl:letter c=true):
  lex (k+1) q (bs.drop i)=if 24<bw b6 bs i-i then [(.bad,q)] else(.word (cO bs i (bw b6 bs i)),q)::lex k (q.1,q.2+(bw b6 bs i-i)) (bs.drop (bw b6 bs i)):=by
 have e:=eU h
 have m:=wt_ (p:=b6) [06] bs i q
 have d:=j0y_ b6 bs i
 have t:=yh_ b6 bs i
 have n:((bs.drop i).takeWhile b6).length=bw b6 bs i-i:=by unfold bw;rw[Nat.add_sub_cancel_left]
 rw[e] at m d t n
 rw[e,lex,if_neg (by rw[hb];exact Bool.false_ne_true),if_neg h35,if_pos hl]
 show(if 24<([030].takeWhile b6).length then _ else(Tok.word ([030].takeWhile b6),q)::lex k (moved q ([030].takeWhile b6)) ([030].drop ([030].takeWhile b6).length))=_
 rw[m,d,n,t]
def glued (bs:Bytes) (j:Nat):Bool:=(bs[j]?).any letter
theorem j7g_ (bs:Bytes) (j:Nat):(bs.drop j).head?=bs[j]?:=List.head?_drop
theorem uk_ (h:bs[i]?=some c) (hb:blank c=false) (h35: ¬c=35) (hl:letter c=false) (hd:digit c=true):
  lex (k+1) q (bs.drop i)=if 18<bw digit bs i-i\/glued bs (bw digit bs i)=true then [(.bad,q)] else(.num (valueOf (cO bs i (bw digit bs i))),q)::lex k (q.1,q.2+(bw digit bs i-i)) (bs.drop (bw digit bs i)):=by
 have e:=eU h
 have m:=wt_ (p:=digit) [06] bs i q
 have d:=j0y_ digit bs i
 have t:=yh_ digit bs i
 have n:((bs.drop i).takeWhile digit).length=bw digit bs i-i:=by unfold bw;rw[Nat.add_sub_cancel_left]
 rw[e] at m d t n
 rw[e,lex,if_neg (by rw[hb];exact Bool.false_ne_true),if_neg h35,if_neg (by rw[hl];exact Bool.false_ne_true),if_pos hd]
 show(if 18<([030].takeWhile digit).length\/((([030].drop ([030].takeWhile digit).length).head?).any letter)=true then _
  else(Tok.num (valueOf ([030].takeWhile digit)),q)::lex k (moved q ([030].takeWhile digit)) ([030].drop ([030].takeWhile digit).length))=_
 rw[m,d,n,t,j7g_]
 rfl
theorem j18_ {n:Nat}{x:Bytes} : ∀(L:List Bytes),(∀s∈L,s.length=n)->L.find? (fun s=>x.take s.length == s)=if x.take n∈L then some (x.take n) else none
 |[],_=>by simp
 |a::L,h=>by
  have ha:=h a List.mem_cons_self
  have ih:=j18_ (n:=n) (x:=x) L fun s hs=>h s (List.mem_cons_of_mem _ hs)
  rw[List.find?_cons,ha]
  by_cases e:x.take n=a
  ·rw[show(x.take n == a)=true from by rw[e];exact beq_self_eq_true a,if_pos (by rw[e];exact List.mem_cons_self),e]
  ·rw[show(x.take n == a)=false from beq_eq_false_iff_ne.mpr e]
   show L.find? _=_
   rw[ih]
   by_cases m:x.take n∈L
   ·rw[if_pos m,if_pos (List.mem_cons_of_mem _ m)]
   ·rw[if_neg m,if_neg (fun z=>(List.mem_cons.mp z).elim e m)]
def TWOS:List Bytes:=SIGNS.take 7
def ONES:List Bytes:=SIGNS.drop 7
theorem fD:SIGNS=TWOS++ONES:=(List.take_append_drop 7 SIGNS).symm
theorem gY: ∀s∈TWOS,s.length=2:=by decide
theorem j0n_: ∀s∈ONES,s.length=1:=by decide
theorem j5u_: ∀s∈SIGNS,∀d∈s,d≠10:=by decide
def bK (bs:Bytes) (i:Nat):Nat:=if cO bs i (i+2)∈SIGNS then i+(cO bs i (i+2)).length else i+1
theorem gn (x:Bytes):x∈SIGNS ↔ x∈TWOS\/x∈ONES:=by rw[fD];exact List.mem_append
theorem j6s_ (h:bs[i]?=some c):(SIGNS.find? fun s=>(bs.drop i).take s.length == s)=if cO bs i (bK bs i)∈SIGNS then some (cO bs i (bK bs i)) else none:=by
 have e2:(bs.drop i).take 2=cO bs i (i+2):=by unfold cO;rw[Nat.add_sub_cancel_left]
 have e1:(bs.drop i).take 1=cO bs i (i+1):=by unfold cO;rw[Nat.add_sub_cancel_left]
 have l1:(cO bs i (i+1)).length=1:=by rw[<-e1,eU h];rfl
 rw[fD,List.find?_append,j18_ TWOS gY,j18_ ONES j0n_,e2,e1]
 by_cases m2:cO bs i (i+2)∈TWOS
 ·have n2:=gY _ m2
  have s2:cO bs i (i+2)∈SIGNS:=(gn _).mpr (.inl m2)
  have se:bK bs i=i+2:=by unfold bK;rw[if_pos s2,n2]
  rw[if_pos m2,se,<-fD,if_pos s2]
  rfl
 ·have se:bK bs i=i+1:=by
   unfold bK
   by_cases s2:cO bs i (i+2)∈SIGNS
   ·rw[if_pos s2,j0n_ _ (((gn _).mp s2).resolve_left m2)]
   ·rw[if_neg s2]
  have n1: ¬cO bs i (i+1)∈TWOS:=fun z=>by
   have:=gY _ z
   lia
  rw[if_neg m2,se,<-fD,Option.none_or]
  by_cases m1:cO bs i (i+1)∈ONES
  ·rw[if_pos m1,if_pos ((gn _).mpr (.inr m1))]
  ·rw[if_neg m1,if_neg fun z=>((gn _).mp z).elim n1 m1]
theorem j1h_ (h:bs[i]?=some c) (m:cO bs i (bK bs i)∈SIGNS):(cO bs i (bK bs i)).length=bK bs i-i:=by
 have e1:(cO bs i (i+1)).length=1:=by unfold cO;rw[Nat.add_sub_cancel_left,eU h];rfl
 unfold bK at m ⊢
 split
 ·rename_i s2
  rw[if_pos s2] at m
  rcases(gn _).mp s2 with z|z
  ·rw[gY _ z,gY _ z];lia
  ·rw[j0n_ _ z,e1];lia
 ·rw[e1];lia
theorem jy_ (h:bs[i]?=some c) (hb:blank c=false) (h35: ¬c=35) (hl:letter c=false) (hd:digit c=false):
  lex (k+1) q (bs.drop i)=if cO bs i (bK bs i)∈SIGNS then(.sign (cO bs i (bK bs i)),q)::lex k (q.1,q.2+(bK bs i-i)) (bs.drop (bK bs i)) else [(.bad,q)]:=by
 have f:=j6s_ h
 have e:=eU h
 have hle:i<=bK bs i:=by unfold bK;split<;>lia
 have dd: ∀n,(bs.drop i).drop n=bs.drop (i+n):=fun n=>List.drop_drop
 rw[e] at f
 rw[e,lex,if_neg (by rw[hb];exact Bool.false_ne_true),if_neg h35,if_neg (by rw[hl];exact Bool.false_ne_true),if_neg (by rw[hd];exact Bool.false_ne_true),f]
 by_cases m:cO bs i (bK bs i)∈SIGNS
 ·rw[if_pos m,if_pos m]
  show _::lex k (moved q (cO bs i (bK bs i))) ([030].drop (cO bs i (bK bs i)).length)=_
  rw[ib _ _ (j5u_ _ m),j1h_ h m,<-e,dd,show i+(bK bs i-i)=bK bs i by lia]
 ·rw[if_neg m,if_neg m]
theorem lex_end (h:bs.length<=i):lex (k+1) q (bs.drop i)=[(.eof,q)]:=by
 rw[List.drop_eq_nil_of_le h,lex]
end
end OS
namespace OS
open Vbemac
def W {α:Type}(p:P α) (t:Toks) (Qo:α->Toks->Prop) (Qe:Nat->Pos->Prop):Prop:=match p t with
 | .ok (a,r)=>Qo a r
 | .error e=>Qe e.1 e.2
section
variable {α β:Type}{p:P α}{f:α->P β}{t:Toks}{Qo Qo':α->Toks->Prop}{Qe Qe':Nat->Pos->Prop}{Ro:β->Toks->Prop}
theorem dJ {a:α}{r:Toks}(e:p t= .ok (a,r)):W p t Qo Qe=Qo a r:=by unfold W;rw[e]
theorem ux_ {e:Fault}(h:p t= .error e):W p t Qo Qe=Qe e.1 e.2:=by unfold W;rw[h]
theorem aK:W (p>>=f) t Ro Qe=W p t (fun a r=>W (f a) r Ro Qe) Qe:=by
 have e:(p>>=f) t=(match p t with
  | .error x=> .error x
  | .ok (a,r)=>f a r):=by
  show(StateT.bind p f) t=_
  rw[030]
  show(Except.bind (p t) _)=_
  cases p t with
  |error x=>rfl
  |ok z=>rfl
 unfold W
 rw[e]
 cases h:p t with
 |error x=>rfl
 |ok z=>rfl
theorem cD {a:α} :W (pure a:P α) t Qo Qe=Qo a t:=rfl
theorem W_give {a:α} :W (give a:P α) t Qo Qe=Qo a t:=rfl
theorem W_fail {n:Nat} :W (fail n:P α) t Qo Qe=Qe (if peek t= .bad then 1 else n) (place t):=rfl
theorem eL {Qo:Unit->Toks->Prop} :W next t Qo Qe=Qo () (t.drop 1):=rfl
theorem ql_ {c:Toks->Prop} [∀t,Decidable (c t)] {q:P α} :W (fun t=>if c t then p t else q t) t Qo Qe=if c t then W p t Qo Qe else W q t Qo Qe:=by
 unfold W
 by_cases h:c t
 ·dsimp only;rw[if_pos h,if_pos h]
 ·dsimp only;rw[if_neg h,if_neg h]
theorem W.mono (h:W p t Qo Qe) (ho: ∀a r,Qo a r->Qo' a r) (he: ∀n q,Qe n q->Qe' n q):W p t Qo' Qe':=by
 unfold W at h ⊢
 cases e:p t with
 |error x=>rw[e] at h;exact he _ _ h
 |ok z=>rw[e] at h;exact ho _ _ h
end
def bA {α:Type}(p:P α):Prop:= ∀t,peek t= .bad->p t= .error (1,place t)
def fN {α:Type}(p:P α):Prop:= ∀t,peek t= .bad->p t= .error (1,place t)\/ ∃a,p t= .ok (a,t)
theorem bA.resp {α:Type}{p:P α}(h:bA p):fN p:=fun t e=> .inl (h t e)
section
variable {α β:Type}{p:P α}{f:α->P β}{t:Toks}{Qo:α->Toks->Prop}{Qe:Nat->Pos->Prop}{Ro:β->Toks->Prop}
theorem bA.bind (h:bA p):bA (p>>=f):=fun t e=>by
 show(StateT.bind p f) t=_
 rw[030]
 rw[h t e]
 rfl
theorem fN.bind (h:fN p) (k: ∀a,fN (f a)):fN (p>>=f):=fun t e=>by
 show(StateT.bind p f) t=_\/ ∃a,(StateT.bind p f) t=_
 rw[030]
 rcases h t e with z|⟨a,z⟩
 ·rw[z];exact .inl rfl
 ·rw[z];exact k a t e
theorem fN.strict (h:fN p) (k: ∀a,bA (f a)):bA (p>>=f):=fun t e=>by
 show(StateT.bind p f) t=_
 rw[030]
 rcases h t e with z|⟨a,z⟩
 ·rw[z];rfl
 ·rw[z];exact k a t e
theorem bA.at_bad (h:bA p) (e:peek t= .bad) (w:W p t Qo Qe):Qe 1 (place t):=by
 rw[ux_ (h t e)] at w
 exact w
def W2 {α:Type}(p:P α) (t:Toks) (Qo:α->Toks->Prop) (Qe:Nat->Pos->Prop):Prop:=W p t (fun a r=>if peek r= .bad then Qe 1 (place r) else Qo a r) Qe
theorem W2.of (hs: ∀a,bA (f a)) (h:W (p>>=f) t Ro Qe):W2 p t (fun a r=>W (f a) r Ro Qe) Qe:=by
 rw[aK] at h
 refine h.mono (fun a r w=>?_) fun _ _ w=>w
 by_cases e:peek r= .bad
 ·rw[if_pos e];exact(hs a).at_bad e w
 ·rw[if_neg e];exact w
theorem fN.at_bad (h:fN p) (e:peek t= .bad) (w:W2 p t Qo Qe):Qe 1 (place t):=by
 unfold W2 at w
 rcases h t e with z|⟨a,z⟩
 ·rw[ux_ z] at w;exact w
 ·rw[dJ z,if_pos e] at w;exact w
theorem W2_bind:W2 (p>>=f) t Ro Qe=W p t (fun a r=>W2 (f a) r Ro Qe) Qe:=aK
theorem W2.of2 (hs: ∀a,fN (f a)) (h:W2 (p>>=f) t Ro Qe):W2 p t (fun a r=>W2 (f a) r Ro Qe) Qe:=by
 rw[W2_bind] at h
 refine h.mono (fun a r w=>?_) fun _ _ w=>w
 by_cases e:peek r= .bad
 ·rw[if_pos e];exact(hs a).at_bad e w
 ·rw[if_neg e];exact w
theorem W2.mono {Qo':α->Toks->Prop}{Qe':Nat->Pos->Prop}(h:W2 p t Qo Qe) (ho: ∀a r,peek r≠ .bad->Qo a r->Qo' a r) (he: ∀n q,Qe n q->Qe' n q):W2 p t Qo' Qe':=by
 unfold W2 at h ⊢
 refine h.mono (fun a r w=>?_) he
 by_cases e:peek r= .bad
 ·rw[if_pos e] at w ⊢; exact he _ _ w
 ·rw[if_neg e] at w ⊢; exact ho _ _ e w
end
theorem cF {t:Toks}(e:peek t= .bad) (w:String):isKey t w=false:=by unfold isKey;rw[e];rfl
theorem c7 {t:Toks}(e:peek t= .bad) (w:String):isSign t w=false:=by unfold isSign;rw[e];rfl
theorem a6 {α:Type}(n:Nat):bA (fail n:P α):=fun t e=>by unfold fail;rw[if_pos e]
theorem c9 (w:String):bA (key w):=fun t e=>by unfold key;rw[cF e];exact a6 2 t e
theorem bC (w:String):bA (sign w):=fun t e=>by unfold sign;rw[c7 e];exact a6 2 t e
theorem eG:bA anyName:=fun t e=>by unfold anyName;rw[e];exact a6 2 t e
theorem eD (K:Known):bA (newName K):=fun t e=>by unfold newName;rw[eG t e]
theorem qc_ (B:Blocks):bA (blockName B):=fun t e=>by unfold blockName;rw[eG t e]
theorem yx_ (B:Blocks):bA (knownBlock B):=fun t e=>by unfold knownBlock;rw[eG t e]
theorem u9_:bA side:=fun t e=>by unfold side;rw[cF e,cF e];exact a6 2 t e
theorem vz_ (B:Blocks):bA (maybeName B):=fun t e=>by
 unfold maybeName
 rw[cF e,cF e,if_neg [022],qc_ B t e]
theorem vx_ {α:Type}(a:α):fN (pure a:P α):=fun t _=> .inr ⟨a,rfl⟩
theorem j44_ (w:String):fN (ifSign w):=fun t e=>by unfold ifSign;rw[c7 e];exact .inr ⟨_,rfl⟩
theorem j4y_ (l:List String):fN (signOf l):=fun t e=>by unfold signOf;rw[e];exact .inr ⟨_,rfl⟩
theorem fB {α:Type}(w:String) (p:P α):fN (behind w p):=fun t e=>by unfold behind;rw[cF e];exact .inr ⟨_,rfl⟩
theorem hJ (k d:Nat) (K:Known):bA (primary k d K):=fun t e=>by
 cases k with
 |zero=>rw[primary];exact a6 6 t e
 |succ k=>rw[primary];simp only[e];exact a6 2 t e
theorem yk_ (k d:Nat) (K:Known):bA (unary k d K):=fun t e=>by
 cases k with
 |zero=>rw[unary];exact a6 6 t e
 |succ k=>rw[unary];simp only[c7 e,Bool.false_eq_true,if_false];exact hJ k d K t e
theorem j2r_ (k d:Nat) (K:Known):bA (times k d K):=by
 cases k with
 |zero=>rw[times];exact a6 6
 |succ k=>rw[times];exact(yk_ k d K).bind
theorem yf_ (k d:Nat) (K:Known):bA (added k d K):=by
 cases k with
 |zero=>rw[added];exact a6 6
 |succ k=>rw[added];exact(j2r_ k d K).bind
theorem uj_ (k d:Nat) (K:Known):bA (compared k d K):=by
 cases k with
 |zero=>rw[compared];exact a6 6
 |succ k=>rw[compared];exact(yf_ k d K).bind
theorem j58_ (k d:Nat) (K:Known):bA (ands k d K):=by
 cases k with
 |zero=>rw[ands];exact a6 6
 |succ k=>rw[ands];exact(uj_ k d K).bind
theorem qw_ (k d:Nat) (K:Known):bA (expr k d K):=fun t e=>by
 cases k with
 |zero=>rw[expr];exact a6 6 t e
 |succ k=>rw[expr];simp only[cF e,Bool.false_eq_true,if_false];exact(j58_ k d K).bind t e
theorem gq (k d:Nat) (K:Known) (n:Nat):bA (arguments k d K n):=fun t e=>by
 cases k with
 |zero=>rw[arguments];exact a6 6 t e
 |succ k=>rw[arguments];simp only[c7 e,Bool.false_eq_true,if_false];exact(qw_ k d K).bind t e
theorem iq (k d:Nat) (K:Known):fN (moreTimes k d K):=by
 cases k with
 |zero=>rw[moreTimes];exact(a6 6).resp
 |succ k=>
  rw[moreTimes]
  intro t e
  refine .inr ⟨.nil,?_⟩
  show(StateT.bind _ _) t=_
  unfold StateT.bind signOf
  rw[e]
  rfl
theorem ij (k d:Nat) (K:Known):fN (moreAdded k d K):=by
 cases k with
 |zero=>rw[moreAdded];exact(a6 6).resp
 |succ k=>
  rw[moreAdded]
  intro t e
  refine .inr ⟨.nil,?_⟩
  show(StateT.bind _ _) t=_
  unfold StateT.bind signOf
  rw[e]
  rfl
theorem va_ (k d:Nat) (K:Known):fN (moreAnd k d K):=by
 cases k with
 |zero=>rw[moreAnd];exact(a6 6).resp
 |succ k=>
  rw[moreAnd]
  intro t e
  refine .inr ⟨.nil,?_⟩
  show(StateT.bind _ _) t=_
  unfold StateT.bind ifSign
  rw[c7 e]
  rfl
theorem qv_ (k d:Nat) (K:Known):fN (moreOr k d K):=by
 cases k with
 |zero=>rw[moreOr];exact(a6 6).resp
 |succ k=>
  rw[moreOr]
  intro t e
  refine .inr ⟨.nil,?_⟩
  show(StateT.bind _ _) t=_
  unfold StateT.bind ifSign
  rw[c7 e]
  rfl
theorem qz_ (k d:Nat) (K:Known) (B:Blocks):bA (stmt k d K B):=fun t e=>by
 cases k with
 |zero=>rw[stmt];exact a6 6 t e
 |succ k=>rw[stmt];simp only[cF e,Bool.false_eq_true,if_false];exact u9_.bind t e
theorem vh_ (k d:Nat) (K:Known) (B:Blocks):bA (stmts k d K B):=fun t e=>by
 cases k with
 |zero=>rw[stmts];exact a6 6 t e
 |succ k=>rw[stmts];simp only[c7 e,Bool.false_eq_true,if_false];exact(qz_ k d K B).bind t e
theorem jf_ (k n:Nat) (K:Known):bA (params k n K):=fun t e=>by
 cases k with
 |zero=>rw[params];exact a6 6 t e
 |succ k=>
  rw[params]
  dsimp only
  by_cases h:n=0
  ·rw[if_pos h];exact a6 7 t e
  ·rw[if_neg h];exact(eD K).bind t e
theorem j5h_ (k:Nat) (K:Known) (n:Nat) (D:List Bytes):bA (tops k K n D):=fun t e=>by
 cases k with
 |zero=>rw[tops];exact a6 6 t e
 |succ k=>rw[tops];simp only[e,reduceCtorEq,if_false,cF e,Bool.false_eq_true];exact a6 2 t e
end OS
namespace OS
open Vbemac
open PySem (Str)
def yb_:Tok->Prop
 | .word w=>w≠[]/\ ∀c∈w,b6 c=true
 | .sign s=>s∈SIGNS
 |_=>True
def Mid (x:Tok×Pos):Prop:=x.1≠ .eof/\x.1≠ .bad/\yb_ x.1
def FinT (x:Tok×Pos):Prop:=x.1= .eof\/x.1= .bad
def gh (t:Toks):Prop:= ∃ini x,t=ini++[x]/\FinT x/\ ∀y∈ini,Mid y
theorem gh.one {x:Tok×Pos}(h:FinT x):gh [x]:=⟨[],x,rfl,h,fun _ z=>nomatch z⟩
theorem gh.cons {x:Tok×Pos}{t:Toks}(h:Mid x) (w:gh t):gh (x::t):=by
 obtain⟨ini,y,rfl,f,a⟩:=w
 refine⟨x::ini,y,rfl,f,fun z hz=>?_⟩
 rcases List.mem_cons.mp hz with e|hz
 ·rw[e];exact h
 ·exact a z hz
theorem gh.tail {x:Tok×Pos}{t:Toks}(w:gh (x::t)) (h: ¬FinT x):Mid x/\gh t:=by
 obtain⟨ini,y,e,f,a⟩:=w
 cases ini with
 |nil=>
  injection e with e1 e2
  exact absurd (e1▸f) h
 |cons z ini=>
  injection e with e1 e2
  exact⟨e1▸a z List.mem_cons_self,ini,y,e2,f,fun v hv=>a v (List.mem_cons_of_mem _ hv)⟩
theorem gh.ne {t:Toks}(w:gh t):t≠[]:=by
 obtain⟨ini,y,rfl,_⟩:=w
 simp
theorem f8: ∀(k:Nat) (q:Pos) (b:Bytes),gh (lex k q b)
 |0,q,b=>by rw[lex];exact .one (.inl rfl)
 |k+1,q,[]=>by rw[lex];exact .one (.inl rfl)
 |k+1,q,c::r=>by
  have z:(c::r)[0]?=some c:=rfl
  have d0:(c::r).drop 0=c::r:=rfl
  rw[<-d0]
  by_cases hb:blank c=true
  ·rw[vq_ z hb];exact f8 k _ _
  ·have hb:blank c=false:=by simpa using hb
   by_cases h35:c=35
   ·rw[j3_ z hb h35];exact f8 k _ _
   ·by_cases hl:letter c=true
    ·rw[vd_ z hb h35 hl]
     split
     ·exact .one (.inr rfl)
     ·refine .cons ⟨by simp,by simp,?_,?_⟩ (f8 k _ _)
      ·rw[<-yh_,d0,List.takeWhile_cons,if_pos (by unfold b6;rw[hl];rfl)]
       simp
      ·rw[<-yh_];exact j38_ _
    ·have hl:letter c=false:=by simpa using hl
     by_cases hd:digit c=true
     ·rw[uk_ z hb h35 hl hd]
      split
      ·exact .one (.inr rfl)
      ·exact .cons ⟨by simp,by simp,True.intro⟩ (f8 k _ _)
     ·have hd:digit c=false:=by simpa using hd
      rw[jy_ z hb h35 hl hd]
      split
      ·rename_i m
       exact .cons ⟨by simp,by simp,m⟩ (f8 k _ _)
      ·exact .one (.inr rfl)
theorem dD: ∀(k:Nat) (q:Pos) (b:Bytes),(lex k q b).length<=k+1
 |0,q,b=>by rw[lex];simp
 |k+1,q,[]=>by rw[lex];simp
 |k+1,q,c::r=>by
  have z:(c::r)[0]?=some c:=rfl
  have d0:(c::r).drop 0=c::r:=rfl
  rw[<-d0]
  by_cases hb:blank c=true
  ·rw[vq_ z hb];exact Nat.le_trans (dD k _ _) (by lia)
  ·have hb:blank c=false:=by simpa using hb
   by_cases h35:c=35
   ·rw[j3_ z hb h35];exact Nat.le_trans (dD k _ _) (by lia)
   ·by_cases hl:letter c=true
    ·rw[vd_ z hb h35 hl]
     split
     ·simp
     ·rw[List.length_cons];exact Nat.succ_le_succ (dD k _ _)
    ·have hl:letter c=false:=by simpa using hl
     by_cases hd:digit c=true
     ·rw[uk_ z hb h35 hl hd]
      split
      ·simp
      ·rw[List.length_cons];exact Nat.succ_le_succ (dD k _ _)
     ·have hd:digit c=false:=by simpa using hd
      rw[jy_ z hb h35 hl hd]
      split
      ·rw[List.length_cons];exact Nat.succ_le_succ (dD k _ _)
      ·simp
def sb (w:Bytes):Str:=⟨(w.map UInt8.toNat).toArray⟩
theorem fJ {a b:Bytes}(h:sb a=sb b):a=b:=by
 have e:(a.map UInt8.toNat).toArray=(b.map UInt8.toNat).toArray:=congrArg Str.cps h
 have e:a.map UInt8.toNat=b.map UInt8.toNat:=by simpa using e
 exact List.map_inj_right (fun x y q=>UInt8.toNat_inj.mp q) |>.mp e
def qb_:Str:=⟨#[47,114,101,115,116]⟩
def cX (s:Bytes):Str:=if s=[37] then qb_ else sb s
theorem j20_:qb_=sb [47,114,101,115,116]:=rfl
theorem sgn_inj: ∀a∈SIGNS,∀b∈SIGNS,cX a=cX b->a=b:=by decide+kernel
theorem j6v_: ∀a∈SIGNS,∀c,(cX a).cps[0]?=some c-> ∀d:Nat,d<256->d=c->b6 (UInt8.ofNat d)=false:=by
 have h: ∀a∈SIGNS,∀d:Nat,d<256->(cX a).cps[0]?=some d->b6 (UInt8.ofNat d)=false:=by decide+kernel
 intro a ha c hc d hd e
 subst e
 exact h a ha d hd hc
theorem j4i_ {w s:Bytes}(h0:w≠[]) (hw: ∀c∈w,b6 c=true) (hs:s∈SIGNS):sb w≠cX s:=fun e=>by
 obtain⟨c,r,rfl⟩: ∃c r,w=c::r:=by cases w with|nil=>exact absurd rfl h0|cons c r=>exact⟨c,r,rfl⟩
 have f:=j6v_ s hs c.toNat (by rw[<-e];rfl) c.toNat (UInt8.toNat_lt c) rfl
 rw[UInt8.ofNat_toNat,hw c List.mem_cons_self] at f
 cases f
def tokStr:Tok->Option Str
 | .word w=>some (sb w)
 | .sign s=>some (cX s)
 | .num _=>none
 | .eof=>some (sb [])
 | .bad=>some (sb [])
def dP (x:Str) (w:Bytes):Prop:=x=sb w/\w≠[]/\ ∀c∈w,b6 c=true
def gF (x:Str) (s:Bytes):Prop:=x=cX s/\s∈SIGNS
theorem sgn_ne: ∀s∈SIGNS,cX s≠sb []:=by decide+kernel
theorem tok_word {k:Tok}(ok:yb_ k) {x:Str}{w:Bytes}(h:dP x w):tokStr k=some x ↔ k= .word w:=by
 obtain⟨rfl,h0,h1⟩:=h
 constructor
 ·intro e
  cases k with
  |word v=>exact congrArg Tok.word (fJ (Option.some.inj e))
  |sign s=>exact absurd (Option.some.inj e).symm (j4i_ h0 h1 ok)
  |num n=>cases e
  |eof=>exact absurd (fJ (Option.some.inj e)).symm h0
  |bad=>exact absurd (fJ (Option.some.inj e)).symm h0
 ·intro e;subst e;rfl
theorem j4q_ {k:Tok}(ok:yb_ k) {x:Str}{s:Bytes}(h:gF x s):tokStr k=some x ↔ k= .sign s:=by
 obtain⟨rfl,hs⟩:=h
 constructor
 ·intro e
  cases k with
  |word v=>exact absurd (Option.some.inj e) (j4i_ ok.1 ok.2 hs)
  |sign r=>exact congrArg Tok.sign (sgn_inj r ok s hs (Option.some.inj e))
  |num n=>cases e
  |eof=>exact absurd (Option.some.inj e).symm (sgn_ne s hs)
  |bad=>exact absurd (Option.some.inj e).symm (sgn_ne s hs)
 ·intro e;subst e;rfl
end OS
namespace OS
open Vbemac
def ors (f d:Nat) (Kn:Vbemac.Known):Vbemac.P Vbemac.Exp:=do
 let x<-ands f d Kn
 let l<-moreOr f d Kn
 return (match l with
  | .nil=>x
  |l=> .either x l)
abbrev Pairs:=List (Bytes×Exp)
def exL:Pairs->Exps->Exps
 |[],l=>l
 |x::r,l=> .cons x.2 (exL r l)
def exR:Pairs->Rest->Rest
 |[],l=>l
 |x::r,l=> .cons x.1 x.2 (exR r l)
theorem j4m_ {es:Pairs}{x:Bytes×Exp}{l:Exps} :exL (es++[x]) l=exL es (.cons x.2 l):=by
 induction es with
 |nil=>rfl
 |cons y r ih=>show Exps.cons y.2 (exL (r++[x]) l)=_;rw[ih];rfl
theorem j5e_ {es:Pairs}{x:Bytes×Exp}{l:Rest} :exR (es++[x]) l=exR es (.cons x.1 x.2 l):=by
 induction es with
 |nil=>rfl
 |cons y r ih=>show Rest.cons y.1 y.2 (exR (r++[x]) l)=_;rw[ih];rfl
section
variable {α β:Type}{p p':P α}{t t':Toks}{Qo:α->Toks->Prop}{Qe:Nat->Pos->Prop}
theorem W2_as (e:p t=p' t') (h:W2 p t Qo Qe):W2 p' t' Qo Qe:=by
 unfold W2 W at h ⊢
 rw[<-e]
 exact h
theorem wj_ {x:α}{r:Toks}(e:p t= .ok (x,r)) (nb:peek r≠ .bad) (h:W2 p t Qo Qe):Qo x r:=by
 unfold W2 at h
 rw[dJ e,if_neg nb] at h
 exact h
theorem e7 {γ:Type}{q:P β}{g:α->β->γ}{Ro:γ->Toks->Prop}(hr:fN q) (h:W2 (p>>=fun x=>q>>=fun l=>pure (g x l)) t Ro Qe):W2 p t (fun x r=>W2 q r (fun l r2=>Ro (g x l) r2) Qe) Qe:=by
 have h:=W2.of2 (fun x=>hr.bind fun l=>vx_ _) h
 refine h.mono (fun x r nb w=>?_) fun _ _ z=>z
 rw[W2_bind] at w
 exact w
end
structure ChL (p sub:Nat->Nat->Known->P Exp) (c c':Nat) (sg:List Bytes) (once:Bool) (res:Exp->Pairs->Exp) where
 G:Nat->Known->Exp->Pairs->Toks->(Exp->Toks->Prop)->(Nat->Pos->Prop)->Prop
 start: ∀ {fuel d:Nat}{Kn:Known}{t:Toks}{Ro:Exp->Toks->Prop}{Qe:Nat->Pos->Prop},16*t.length+c<=fuel->W2 (p fuel d Kn) t Ro Qe->
  ∃f,16*t.length+c'<=f/\W2 (sub f d Kn) t (fun e t'=>t'.length<=t.length->G d Kn e [] t' Ro Qe) Qe
 stop: ∀ {d:Nat}{Kn:Known}{e:Exp}{es:Pairs}{t:Toks}{Ro:Exp->Toks->Prop}{Qe:Nat->Pos->Prop},G d Kn e es t Ro Qe->peek t≠ .bad->(once=true/\es≠[]\/ ∀op,peek t= .sign op->op∉sg)->Ro (res e es) t
 go: ∀ {d:Nat}{Kn:Known}{e:Exp}{es:Pairs}{x:Tok×Pos}{t:Toks}{op:Bytes}{Ro:Exp->Toks->Prop}{Qe:Nat->Pos->Prop},G d Kn e es (x::t) Ro Qe->(once=true->es=[])->x.1= .sign op->op∈sg->
  ∃f,16*t.length+c'<=f/\W2 (sub f d Kn) t (fun e2 t'=>t'.length<=t.length->G d Kn e (es++[(op,e2)]) t' Ro Qe) Qe
def eith (e:Exp):Exps->Exp
 | .nil=>e
 |l=> .either e l
def bth (e:Exp):Exps->Exp
 | .nil=>e
 |l=> .both e l
def sms (e:Exp):Rest->Exp
 | .nil=>e
 |l=> .sums e l
def prs (e:Exp):Rest->Exp
 | .nil=>e
 |l=> .prods e l
def S0:List Bytes:=[text "||"]
def S1:List Bytes:=[text "&&"]
def S2:List Bytes:=["==","!=","<=",">=","<",">"].map text
def S3:List Bytes:=["+","-"].map text
def S4:List Bytes:=["*","/","%"].map text
theorem ors_as {f d:Nat}{Kn:Known} :ors f d Kn=(ands f d Kn>>=fun x=>moreOr f d Kn>>=fun l=>pure (eith x l):P Exp):=by
 unfold ors
 congr 1
theorem ands_as {f d:Nat}{Kn:Known} :ands (f+1) d Kn=(compared f d Kn>>=fun x=>moreAnd f d Kn>>=fun l=>pure (bth x l):P Exp):=by
 rw[ands]
 congr 1
theorem added_as {f d:Nat}{Kn:Known} :added (f+1) d Kn=(times f d Kn>>=fun x=>moreAdded f d Kn>>=fun l=>pure (sms x l):P Exp):=by
 rw[added]
 congr 1
theorem times_as {f d:Nat}{Kn:Known} :times (f+1) d Kn=(unary f d Kn>>=fun x=>moreTimes f d Kn>>=fun l=>pure (prs x l):P Exp):=by
 rw[times]
 congr 1
theorem j0w_ {t:Toks}{s:String}{l:List Bytes}(h: ∀op,peek t= .sign op->op∉l) (m:text s∈l):isSign t s=false:=by
 unfold isSign
 rw[beq_eq_false_iff_ne]
 exact fun z=>h _ z m
theorem jl_ {t:Toks}{l:List String}(h: ∀op,peek t= .sign op->op∉l.map text):signOf l t= .ok (none,t):=by
 unfold signOf
 cases e:peek t with
 |sign s=>
  dsimp only
  rw[if_neg (by rw[List.contains_iff_mem];exact h s e)]
 |_=>rfl
theorem q0_ {x:Tok×Pos}{t:Toks}{l:List String}{op:Bytes}(e:x.1= .sign op) (h:op∈l.map text):signOf l (x::t)= .ok (some op,t):=by
 unfold signOf
 have e:peek (x::t)= .sign op:=e
 rw[e]
 dsimp only
 rw[if_pos (by rw[List.contains_iff_mem];exact h)]
 rfl
theorem j64_ {f d:Nat}{Kn:Known}{t:Toks}(h:isSign t "||"=false):moreOr (f+1) d Kn t= .ok (.nil,t):=by
 rw[moreOr]
 show(StateT.bind (ifSign "||") _) t=_
 unfold StateT.bind ifSign
 rw[h]
 rfl
theorem j46_ {f d:Nat}{Kn:Known}{t:Toks}(h:isSign t "&&"=false):moreAnd (f+1) d Kn t= .ok (.nil,t):=by
 rw[moreAnd]
 show(StateT.bind (ifSign "&&") _) t=_
 unfold StateT.bind ifSign
 rw[h]
 rfl
theorem j75_ {f d:Nat}{Kn:Known}{x:Tok×Pos}{t:Toks}(h:isSign (x::t) "||"=true):moreOr (f+1) d Kn (x::t)=(ands f d Kn>>=fun a=>moreOr f d Kn>>=fun l=>pure (.cons a l):P Exps) t:=by
 rw[moreOr]
 show(StateT.bind (ifSign "||") _) (x::t)=_
 unfold StateT.bind ifSign
 rw[h]
 rfl
theorem j5n_ {f d:Nat}{Kn:Known}{x:Tok×Pos}{t:Toks}(h:isSign (x::t) "&&"=true):moreAnd (f+1) d Kn (x::t)=(compared f d Kn>>=fun a=>moreAnd f d Kn>>=fun l=>pure (.cons a l):P Exps) t:=by
 rw[moreAnd]
 show(StateT.bind (ifSign "&&") _) (x::t)=_
 unfold StateT.bind ifSign
 rw[h]
 rfl
theorem j19_ {f d:Nat}{Kn:Known}{t:Toks}(h: ∀op,peek t= .sign op->op∉S3):moreAdded (f+1) d Kn t= .ok (.nil,t):=by
 rw[moreAdded]
 show(StateT.bind (signOf ["+","-"]) _) t=_
 rw[030]
 rw[jl_ h]
 rfl
theorem j1d_ {f d:Nat}{Kn:Known}{t:Toks}(h: ∀op,peek t= .sign op->op∉S4):moreTimes (f+1) d Kn t= .ok (.nil,t):=by
 rw[moreTimes]
 show(StateT.bind (signOf ["*","/","%"]) _) t=_
 rw[030]
 rw[jl_ h]
 rfl
theorem j2i_ {f d:Nat}{Kn:Known}{x:Tok×Pos}{t:Toks}{op:Bytes}(e:x.1= .sign op) (h:op∈S3):moreAdded (f+1) d Kn (x::t)=(times f d Kn>>=fun a=>moreAdded f d Kn>>=fun l=>pure (.cons op a l):P Rest) t:=by
 rw[moreAdded]
 show(StateT.bind (signOf ["+","-"]) _) (x::t)=_
 rw[030]
 rw[q0_ e h]
 rfl
theorem j2c_ {f d:Nat}{Kn:Known}{x:Tok×Pos}{t:Toks}{op:Bytes}(e:x.1= .sign op) (h:op∈S4):moreTimes (f+1) d Kn (x::t)=(unary f d Kn>>=fun a=>moreTimes f d Kn>>=fun l=>pure (.cons op a l):P Rest) t:=by
 rw[moreTimes]
 show(StateT.bind (signOf ["*","/","%"]) _) (x::t)=_
 rw[030]
 rw[q0_ e h]
 rfl
def wq_ (f d:Nat) (Kn:Known) (a:Exp):P Exp:=signOf ["==","!=","<=",">=","<",">"]>>=fun s=>match s with
 |none=>pure a
 |some op=>added f d Kn>>=fun b=>pure (.cmp op a b)
theorem j4v_ {f d:Nat}{Kn:Known} :compared (f+1) d Kn=(added f d Kn>>=fun x=>wq_ f d Kn x:P Exp):=by
 rw[compared]
 rfl
theorem j62_ (f d:Nat) (Kn:Known) (a:Exp):fN (wq_ f d Kn a):=(j4y_ _).bind fun s=>by
 cases s with
 |none=>exact vx_ _
 |some op=>exact(yf_ f d Kn).bind.resp
theorem j7q_ {f d:Nat}{Kn:Known}{a:Exp}{t:Toks}(h: ∀op,peek t= .sign op->op∉S2):wq_ f d Kn a t= .ok (a,t):=by
 unfold wq_
 show(StateT.bind (signOf ["==","!=","<=",">=","<",">"]) _) t=_
 rw[030]
 rw[jl_ h]
 rfl
theorem cmpGo_is {f d:Nat}{Kn:Known}{a:Exp}{x:Tok×Pos}{t:Toks}{op:Bytes}(e:x.1= .sign op) (h:op∈S2):wq_ f d Kn a (x::t)=(added f d Kn>>=fun b=>pure (.cmp op a b):P Exp) t:=by
 unfold wq_
 show(StateT.bind (signOf ["==","!=","<=",">=","<",">"]) _) (x::t)=_
 rw[030]
 rw[q0_ e h]
 rfl
theorem sign_in {x:Tok×Pos}{t:Toks}{op:Bytes}{s:String}(e:x.1= .sign op) (h:op∈[text s]):isSign (x::t) s=true:=by
 unfold isSign
 obtain rfl:=List.mem_singleton.mp h
 exact beq_iff_eq.mpr e
def chOr:ChL ors ands 11 11 S0 false (fun e es=>eith e (exL es .nil)) where
 G d Kn e es t Ro Qe:= ∃f,16*t.length+11<=f/\W2 (moreOr f d Kn) t (fun l t'=>Ro (eith e (exL es l)) t') Qe
 start {fuel d Kn t Ro Qe} hf h:=by
  rw[ors_as] at h
  exact⟨fuel,hf,(e7 (qv_ fuel d Kn) h).mono (fun e t' nb w l=>⟨fuel,by lia,w⟩) fun _ _ z=>z⟩
 stop {d Kn e es t Ro Qe} g nb h:=by
  rw[036]
  rw[011]
  rcases h with⟨h,_⟩|h
  ·cases h
  ·have z:=wj_ (j64_ (j0w_ h (List.mem_singleton.mpr rfl))) nb w
   exact z
 go {d Kn e es x t op Ro Qe} g _ e1 h:=by
  rw[036]
  rw[021]
  rw[011]
  have w:=W2_as (j75_ (sign_in e1 h)) w
  refine⟨f,by lia,(e7 (qv_ f d Kn) w).mono (fun e2 t' nb w l=>⟨f,by lia,?_⟩) fun _ _ z=>z⟩
  simp only[j4m_]
  exact w
def chAnd:ChL ands compared 11 10 S1 false (fun e es=>bth e (exL es .nil)) where
 G d Kn e es t Ro Qe:= ∃f,16*t.length+10<=f/\W2 (moreAnd f d Kn) t (fun l t'=>Ro (bth e (exL es l)) t') Qe
 start {fuel d Kn t Ro Qe} hf h:=by
  obtain⟨f,rfl⟩: ∃f',fuel=f'+1:=[021]
  rw[ands_as] at h
  exact⟨f,by lia,(e7 (va_ f d Kn) h).mono (fun e t' nb w l=>⟨f,by lia,w⟩) fun _ _ z=>z⟩
 stop {d Kn e es t Ro Qe} g nb h:=by
  rw[036]
  rw[011]
  rcases h with⟨h,_⟩|h
  ·cases h
  ·have z:=wj_ (j46_ (j0w_ h (List.mem_singleton.mpr rfl))) nb w
   exact z
 go {d Kn e es x t op Ro Qe} g _ e1 h:=by
  rw[036]
  rw[021]
  rw[011]
  have w:=W2_as (j5n_ (sign_in e1 h)) w
  refine⟨f,by lia,(e7 (va_ f d Kn) w).mono (fun e2 t' nb w l=>⟨f,by lia,?_⟩) fun _ _ z=>z⟩
  simp only[j4m_]
  exact w
def chAdd:ChL added times 9 8 S3 false (fun e es=>sms e (exR es .nil)) where
 G d Kn e es t Ro Qe:= ∃f,16*t.length+8<=f/\W2 (moreAdded f d Kn) t (fun l t'=>Ro (sms e (exR es l)) t') Qe
 start {fuel d Kn t Ro Qe} hf h:=by
  obtain⟨f,rfl⟩: ∃f',fuel=f'+1:=[021]
  rw[added_as] at h
  exact⟨f,by lia,(e7 (ij f d Kn) h).mono (fun e t' nb w l=>⟨f,by lia,w⟩) fun _ _ z=>z⟩
 stop {d Kn e es t Ro Qe} g nb h:=by
  rw[036]
  rw[011]
  rcases h with⟨h,_⟩|h
  ·cases h
  ·have z:=wj_ (j19_ h) nb w
   exact z
 go {d Kn e es x t op Ro Qe} g _ e1 h:=by
  rw[036]
  rw[021]
  rw[011]
  have w:=W2_as (j2i_ e1 h) w
  refine⟨f,by lia,(e7 (ij f d Kn) w).mono (fun e2 t' nb w l=>⟨f,by lia,?_⟩) fun _ _ z=>z⟩
  simp only[j5e_]
  exact w
def chMul:ChL times unary 8 7 S4 false (fun e es=>prs e (exR es .nil)) where
 G d Kn e es t Ro Qe:= ∃f,16*t.length+7<=f/\W2 (moreTimes f d Kn) t (fun l t'=>Ro (prs e (exR es l)) t') Qe
 start {fuel d Kn t Ro Qe} hf h:=by
  obtain⟨f,rfl⟩: ∃f',fuel=f'+1:=[021]
  rw[times_as] at h
  exact⟨f,by lia,(e7 (iq f d Kn) h).mono (fun e t' nb w l=>⟨f,by lia,w⟩) fun _ _ z=>z⟩
 stop {d Kn e es t Ro Qe} g nb h:=by
  rw[036]
  rw[011]
  rcases h with⟨h,_⟩|h
  ·cases h
  ·have z:=wj_ (j1d_ h) nb w
   exact z
 go {d Kn e es x t op Ro Qe} g _ e1 h:=by
  rw[036]
  rw[021]
  rw[011]
  have w:=W2_as (j2c_ e1 h) w
  refine⟨f,by lia,(e7 (iq f d Kn) w).mono (fun e2 t' nb w l=>⟨f,by lia,?_⟩) fun _ _ z=>z⟩
  simp only[j5e_]
  exact w
def cmpR (e:Exp):Pairs->Exp
 |[(op,b)]=> .cmp op e b
 |_=>e
def cmpG (d:Nat) (Kn:Known) (e:Exp) (es:Pairs) (t:Toks) (Ro:Exp->Toks->Prop) (Qe:Nat->Pos->Prop):Prop:=match es with
 |[]=> ∃f,16*t.length+9<=f/\W2 (wq_ f d Kn e) t Ro Qe
 |[(op,b)]=>Ro (.cmp op e b) t
 |_=>False
def chCmp:ChL compared added 10 9 S2 true cmpR where
 G:=cmpG
 start {fuel d Kn t Ro Qe} hf h:=by
  obtain⟨f,rfl⟩: ∃f',fuel=f'+1:=[021]
  rw[j4v_] at h
  exact⟨f,by lia,(W2.of2 (fun x=>j62_ f d Kn x) h).mono (fun e t' nb w l=>⟨f,by lia,w⟩) fun _ _ z=>z⟩
 stop {d Kn e es t Ro Qe} g nb h:=by
  match es,g,h with
  |[],⟨f,hf,w⟩,h=>
   rcases h with⟨_,h⟩|h
   ·exact absurd rfl h
   ·exact wj_ (j7q_ h) nb w
  |[(op,b)],g,h=>exact g
  |_::_::_,g,h=>exact g.elim
 go {d Kn e es x t op Ro Qe} g h0 e1 h:=by
  obtain rfl:=h0 rfl
  rw[036]
  rw[021]
  have w:=W2_as (cmpGo_is e1 h) w
  have w:=W2.of2 (fun b=>vx_ _) w
  refine⟨f,by lia,w.mono (fun e2 t' nb w l=>?_) fun _ _ z=>z⟩
  exact wj_ (p:=pure (.cmp op e e2)) (t:=t') rfl nb w
end OS
namespace OS
open Vbemac
def cU (f e:Nat) (K:Known) (m:Nat):P Exps:=fun u=>
 if m=0 then(if isSign u ","=true then fail 5 u else(sign ")">>=fun _=>pure .nil:P Exps) u)
 else(if isSign u ")"=true then fail 5 u else(sign ",">>=fun _=>arguments f e K m:P Exps) u)
def ofL:List Exp->Exps->Exps
 |[],l=>l
 |e::r,l=> .cons e (ofL r l)
theorem ofL_snoc {es:List Exp}{x:Exp}{l:Exps} :ofL (es++[x]) l=ofL es (.cons x l):=by
 induction es with
 |nil=>rfl
 |cons y r ih=>show Exps.cons y (ofL (r++[x]) l)=_;rw[ih];rfl
section
variable {α:Type}{p p':P α}{t t':Toks}{Qo:α->Toks->Prop}{Qe:Nat->Pos->Prop}
theorem du (e:p t=p' t') (h:W p t Qo Qe):W p' t' Qo Qe:=by
 unfold W at h ⊢
 rw[<-e]
 exact h
end
theorem j2d_ {f e n:Nat}{K:Known}{t:Toks}{Ro:Exps->Toks->Prop}{Qe:Nat->Pos->Prop}(hn:1<=n) (hc:isSign t ")"=false) (h:W (arguments (f+1) e K n) t Ro Qe):
  W (expr f e K) t (fun a t'=>W (cU f e K (n-1)) t' (fun l t2=>Ro (.cons a l) t2) Qe) Qe:=by
 rw[arguments] at h
 have h:W (expr f e K>>=fun a=>(if n<=1 then(fun u=>if isSign u ","=true then fail 5 u else(sign ")">>=fun _=>pure (.cons a .nil):P Exps) u)
   else(fun u=>if isSign u ")"=true then fail 5 u else(sign ",">>=fun _=>arguments f e K (n-1)>>=fun l=>pure (.cons a l):P Exps) u):P Exps)) t Ro Qe:=du (by
    show(if isSign t ")"=true then _ else _)=_
    rw[if_neg (by rw[hc];exact Bool.false_ne_true)]) h
 rw[aK] at h
 refine h.mono (fun a u w=>?_) fun _ _ z=>z
 by_cases n1:n<=1
 ·rw[if_pos n1] at w
  have n0:n-1=0:=by lia
  by_cases c:isSign u ","=true
  ·have w:W (fail 5:P Exps) u Ro Qe:=du (by show(if isSign u ","=true then _ else _)=_;rw[if_pos c]) w
   exact du (p:=(fail 5:P Exps)) (t:=u) (by unfold cU;rw[if_pos n0,if_pos c]) w
  ·have w:W (sign ")">>=fun _=>pure (.cons a .nil):P Exps) u Ro Qe:=du (by show(if isSign u ","=true then _ else _)=_;rw[if_neg c]) w
   refine du (p:=(sign ")">>=fun _=>pure .nil:P Exps)) (t:=u) (by unfold cU;rw[if_pos n0,if_neg c]) ?_
   rw[aK] at w ⊢
   exact w
 ·rw[if_neg n1] at w
  have n0: ¬n-1=0:=by lia
  by_cases c:isSign u ")"=true
  ·have w:W (fail 5:P Exps) u Ro Qe:=du (by show(if isSign u ")"=true then _ else _)=_;rw[if_pos c]) w
   exact du (p:=(fail 5:P Exps)) (t:=u) (by unfold cU;rw[if_neg n0,if_pos c]) w
  ·have w:W (sign ",">>=fun _=>arguments f e K (n-1)>>=fun l=>pure (.cons a l):P Exps) u Ro Qe:=du (by show(if isSign u ")"=true then _ else _)=_;rw[if_neg c]) w
   refine du (p:=(sign ",">>=fun _=>arguments f e K (n-1):P Exps)) (t:=u) (by unfold cU;rw[if_neg n0,if_neg c]) ?_
   rw[aK] at w ⊢
   refine w.mono (fun _ r w=>?_) fun _ _ z=>z
   rw[aK] at w
   exact w
theorem e8 (f e:Nat) (K:Known) (m:Nat):bA (cU f e K m):=fun t h=>by
 unfold cU
 rw[c7 h,c7 h]
 by_cases c:m=0
 ·rw[if_pos c,if_neg Bool.false_ne_true]
  exact(bC ")").bind t h
 ·rw[if_neg c,if_neg Bool.false_ne_true]
  exact(bC ",").bind t h
theorem j2s_ {f d:Nat}{Kn:Known}{u:Bytes}{xp:Pos}{t:Toks}{g:Bytes×Nat}(hs:u≠text "sum") (hk:KEYS.contains u=false) (hf:Kn.funs.find? (fun f=>f.1 == u)=some g):
  primary (f+1) d Kn ((.word u,xp)::t)=(deeper d>>=fun e=>next>>=fun _=>sign "(">>=fun _=>(if g.2=0 then(sign ")">>=fun _=>pure (.call u .nil)) else(arguments f e Kn g.2>>=fun l=>pure (.call u l))):P Exp) ((.word u,xp)::t):=by
 rw[primary]
 show(if u=text "sum" then _ else _)=_
 rw[if_neg hs,if_neg (by rw[hk];exact Bool.false_ne_true)]
 simp only[hf]
end OS
namespace OS
open Vbemac
section
variable {α β:Type}{p:P α}{f:α->P β}{t:Toks}{Qo:α->Toks->Prop}{Qe:Nat->Pos->Prop}{Ro:β->Toks->Prop}
def W3 (p:P α) (t:Toks) (Qo:α->Toks->Prop) (Qe:Nat->Pos->Prop):Prop:=W p t (fun a r=>(peek r= .bad->Qe 1 (place r))/\Qo a r) Qe
theorem W3.of (hs: ∀a,bA (f a)) (h:W (p>>=f) t Ro Qe):W3 p t (fun a r=>W (f a) r Ro Qe) Qe:=by
 rw[aK] at h
 exact h.mono (fun a r w=>⟨fun e=>(hs a).at_bad e w,w⟩) fun _ _ w=>w
theorem W3.w (h:W3 p t Qo Qe):W p t Qo Qe:=W.mono h (fun a r w=>w.2) fun _ _ z=>z
theorem W3_as {p':P α}{t':Toks}(e:p t=p' t') (h:W3 p t Qo Qe):W3 p' t' Qo Qe:=by
 unfold W3 W at h ⊢
 rw[<-e]
 exact h
end
section
variable {k d:Nat}{K:Known}{B:Blocks}{t:Toks}
theorem j3o_ (h:isKey t "let"=true):stmt (k+1) d K B t=(next>>=fun _=>newName K>>=fun x=>sign "=">>=fun _=>expr k DEEP K>>=fun e=>sign ";">>=fun _=>pure (.bind x e,K.with x,B):P (Stmt×Known×Blocks)) t:=by
 rw[stmt]
 show(if isKey t "let"=true then _ else _)=_
 rw[if_pos h]
theorem j4d_ (h1:isKey t "let"=false) (h:isKey t "for"=true):stmt (k+1) d K B t=(deeper d>>=fun n=>next>>=fun _=>newName K>>=fun x=>key "in">>=fun _=>expr k DEEP K>>=fun lo=>sign "..">>=fun _=>expr k DEEP K>>=fun hi=>
  sign "{">>=fun _=>stmts k n [086] B>>=fun l=>pure (.loop x lo hi l.1,K,l.2):P (Stmt×Known×Blocks)) t:=by
 rw[stmt]
 show(if isKey t "let"=true then _ else if isKey t "for"=true then _ else _)=_
 rw[if_neg [035],if_pos h]
def condGo (k n:Nat) (K:Known) (c:Exp) (a:Stmts×Blocks):P (Stmt×Known×Blocks):=ifKey "else">>=fun m=>(if m=true then(sign "{">>=fun _=>stmts k n K a.2>>=fun b=>pure (.cond c a.1 b.1,K,b.2)) else pure (.cond c a.1 .nil,K,a.2))
theorem stmt_if (h1:isKey t "let"=false) (h2:isKey t "for"=false) (h:isKey t "if"=true):stmt (k+1) d K B t=(deeper d>>=fun n=>next>>=fun _=>expr k DEEP K>>=fun c=>sign "{">>=fun _=>stmts k n K B>>=fun a=>condGo k n K c a:P (Stmt×Known×Blocks)) t:=by
 rw[stmt]
 show(if isKey t "let"=true then _ else if isKey t "for"=true then _ else if isKey t "if"=true then _ else _)=_
 rw[if_neg [035],if_neg [080],if_pos h]
 rfl
def moreB (m:Option Bytes) (B:Blocks):Blocks:=match m with
 |some w=>w::B
 |none=>B
theorem j0c_ (h1:isKey t "let"=false) (h2:isKey t "for"=false) (h3:isKey t "if"=false) (h:isKey t "block"=true):stmt (k+1) d K B t=(next>>=fun _=>maybeName B>>=fun m=>side>>=fun buy=>key "zone">>=fun _=>expr k DEEP K>>=fun z=>
  key "price">>=fun _=>expr k DEEP K>>=fun p=>key "amount">>=fun _=>newName K>>=fun x=>sign ":">>=fun _=>expr k DEEP [086]>>=fun q=>behind "under" (knownBlock B)>>=fun u=>behind "group" (expr k DEEP K)>>=fun g=>sign ";">>=fun _=>
  pure (.block m buy z p x q u g,K,moreB m B):P (Stmt×Known×Blocks)) t:=by
 rw[stmt]
 show(if isKey t "let"=true then _ else if isKey t "for"=true then _ else if isKey t "if"=true then _ else if isKey t "block"=true then _ else _)=_
 rw[if_neg [035],if_neg [080],if_neg (by rw[h3];exact Bool.false_ne_true),if_pos h]
 rfl
theorem j1l_ (h1:isKey t "let"=false) (h2:isKey t "for"=false) (h3:isKey t "if"=false) (h4:isKey t "block"=false):stmt (k+1) d K B t=(side>>=fun buy=>key "zone">>=fun _=>expr k DEEP K>>=fun z=>
  key "quarter">>=fun _=>expr k DEEP K>>=fun q=>key "price">>=fun _=>expr k DEEP K>>=fun p=>behind "to" (expr k DEEP K)>>=fun top=>key "amount">>=fun _=>expr k DEEP K>>=fun a=>sign ";">>=fun _=>
  pure (.step buy z q p top a,K,B):P (Stmt×Known×Blocks)) t:=by
 rw[stmt]
 show(if isKey t "let"=true then _ else if isKey t "for"=true then _ else if isKey t "if"=true then _ else if isKey t "block"=true then _ else _)=_
 rw[if_neg [035],if_neg [080],if_neg (by rw[h3];exact Bool.false_ne_true),if_neg (by rw[h4];exact Bool.false_ne_true)]
theorem j6g_ (h:isSign t "}"=true):stmts (k+1) d K B t= .ok ((.nil,B),t.drop 1):=by
 rw[stmts]
 show(if isSign t "}"=true then _ else _)=_
 rw[if_pos h]
theorem stmts_go (h:isSign t "}"=false):stmts (k+1) d K B t=(stmt k d K B>>=fun s=>stmts k d s.2.1 s.2.2>>=fun l=>pure (.cons s.1 l.1,l.2):P (Stmts×Blocks)) t:=by
 rw[stmts]
 show(if isSign t "}"=true then _ else _)=_
 rw[if_neg [0014]]
end
section
variable {k n:Nat}{K:Known}{D:List Bytes}{t:Toks}
theorem j73_ (h:n≠0):params (k+1) n K t=(newName K>>=fun x=>ifSign ",">>=fun m=>(if m=true then(params k (n-1) [086]>>=fun l=>pure (x::l)) else(sign ")">>=fun _=>pure [x])):P (List Bytes)) t:=by
 rw[params]
 show(if n=0 then _ else _)=_
 rw[if_neg h]
theorem j5l_ (h:n=0):params (k+1) n K t=fail 7 t:=by
 rw[params]
 show(if n=0 then _ else _)=_
 rw[if_pos h]
theorem tops_end (h:peek t= .eof):tops (k+1) K n D t= .ok ([],t):=by
 rw[tops]
 show(if peek t= .eof then _ else _)=_
 rw[if_pos h]
theorem j5m_ (h0:peek t≠ .eof) (h:isKey t "const"=true):tops (k+1) K n D t=(next>>=fun _=>newName K>>=fun x=>sign "=">>=fun _=>expr k DEEP K>>=fun e=>sign ";">>=fun _=>tops k [086] n D>>=fun l=>pure (.const x e::l):P Sheet) t:=by
 rw[tops]
 show(if peek t= .eof then _ else if isKey t "const"=true then _ else _)=_
 rw[if_neg h0,if_pos h]
theorem tops_fun (h0:peek t≠ .eof) (h1:isKey t "const"=false) (h:isKey t "fun"=true) (hn:n≠0):tops (k+1) K n D t=(next>>=fun _=>newName K>>=fun x=>sign "(">>=fun _=>ifSign ")">>=fun none_=>
  (if none_=true then give [] else params k PARAMS [086])>>=fun ps=>sign "=">>=fun _=>expr k DEEP { K with values:=ps++K.values } >>=fun e=>sign ";">>=fun _=>tops k { K with funs:=(x,ps.length)::K.funs } (n-1) D>>=fun l=>pure (.func x ps e::l):P Sheet) t:=by
 rw[tops]
 show(if peek t= .eof then _ else if isKey t "const"=true then _ else if isKey t "fun"=true then(if n=0 then _ else _) else _)=_
 rw[if_neg h0,if_neg [035],if_pos h,if_neg hn]
theorem j7d_ (h0:peek t≠ .eof) (h1:isKey t "const"=false) (h:isKey t "fun"=true) (hn:n=0):tops (k+1) K n D t=fail 7 t:=by
 rw[tops]
 show(if peek t= .eof then _ else if isKey t "const"=true then _ else if isKey t "fun"=true then(if n=0 then _ else _) else _)=_
 rw[if_neg h0,if_neg [035],if_pos h,if_pos hn]
def dN (D:List Bytes):P Bytes:=fun u=>match anyName u with
 | .error e=> .error e
 | .ok (w,r)=>if D.contains w=true then fail 4 u else .ok (w,r)
theorem j6u_ (h0:peek t≠ .eof) (h1:isKey t "const"=false) (h2:isKey t "fun"=false) (h:isKey t "desk"=true):tops (k+1) K n D t=(next>>=fun _=>dN D>>=fun x=>sign "{">>=fun _=>stmts k NEST K []>>=fun l=>tops k K n (x::D)>>=fun r=>pure (.desk x l.1::r):P Sheet) t:=by
 rw[tops]
 show(if peek t= .eof then _ else if isKey t "const"=true then _ else if isKey t "fun"=true then _ else if isKey t "desk"=true then _ else _)=_
 rw[if_neg h0,if_neg [035],if_neg [080],if_pos h]
 rfl
theorem j6i_ (h0:peek t≠ .eof) (h1:isKey t "const"=false) (h2:isKey t "fun"=false) (h:isKey t "desk"=false):tops (k+1) K n D t=fail 2 t:=by
 rw[tops]
 show(if peek t= .eof then _ else if isKey t "const"=true then _ else if isKey t "fun"=true then _ else if isKey t "desk"=true then _ else _)=_
 rw[if_neg h0,if_neg [035],if_neg [080],if_neg [0014]]
theorem ud_ (D:List Bytes):bA (dN D):=fun t e=>by unfold dN;rw[eG t e]
end
end OS
namespace OS
open Vbemac
section
variable {α:Type}{p:P α}{t:Toks}{Q1 Q2:α->Toks->Prop}{E1 E2:Nat->Pos->Prop}
theorem W_and (h1:W p t Q1 E1) (h2:W p t Q2 E2):W p t (fun a r=>Q1 a r/\Q2 a r) (fun n q=>E1 n q/\E2 n q):=by
 unfold W at h1 h2 ⊢
 cases e:p t with
 |error x=>rw[e] at h1 h2;exact⟨h1,h2⟩
 |ok z=>rw[e] at h1 h2;exact⟨h1,h2⟩
theorem W_true:W p t (fun _ _=>True) (fun _ _=>True):=by
 unfold W
 cases p t<;>exact True.intro
end
def letOf:Stmt->Option Bytes
 | .bind x _=>some x
 |_=>none
def KnOk (K:Known) (s:Stmt) (K':Known):Prop:=match letOf s with
 |some x=>K'=K.with x/\K.taken x=false
 |none=>K'=K
theorem j74_ {K:Known}{t:Toks} :W (newName K) t (fun x _=>K.taken x=false) (fun _ _=>True):=by
 unfold W newName
 cases anyName t with
 |error e=>exact True.intro
 |ok z=>
  obtain⟨w,r⟩:=z
  dsimp only
  by_cases h:K.taken w=true
  ·rw[if_pos h];exact True.intro
  ·rw[if_neg h]
   show K.taken w=false
   exact Bool.eq_false_iff.mpr h
section
variable {α β:Type}{p:P α}{f:α->P β}{t:Toks}{Ro:β->Toks->Prop}
theorem bn (h: ∀a r,W (f a) r Ro (fun _ _=>True)):W (p>>=f) t Ro (fun _ _=>True):=by
 rw[aK]
 exact W_true.mono (fun a r _=>h a r) fun _ _ z=>z
end
theorem stmt_kn (k d:Nat) (K:Known) (B:Blocks) (t:Toks):W (stmt k d K B) t (fun s _=>KnOk K s.1 s.2.1) (fun _ _=>True):=by
 cases k with
 |zero=>rw[stmt];exact True.intro
 |succ k=>
  cases h1:isKey t "let" with
  |true=>
   refine du (j3o_ h1).symm (bn fun _ _=>?_)
   rw[aK]
   refine j74_.mono (fun x _ hx=>?_) fun _ _ z=>z
   exact bn fun _ _=>bn fun _ _=>bn fun _ _=>⟨rfl,hx⟩
  |false=>
   cases h2:isKey t "for" with
   |true=>
    refine du (j4d_ h1 h2).symm ?_
    exact bn fun _ _=>bn fun _ _=>bn fun _ _=>bn fun _ _=>bn fun _ _=>bn fun _ _=>bn fun _ _=>bn fun _ _=>bn fun _ _=>rfl
   |false=>
    cases h3:isKey t "if" with
    |true=>
     refine du (stmt_if h1 h2 h3).symm ?_
     refine bn fun _ _=>bn fun _ _=>bn fun _ _=>bn fun _ _=>bn fun _ _=>?_
     unfold condGo
     refine bn fun m _=>?_
     cases m with
     |true=>
      rw[if_pos rfl]
      exact bn fun _ _=>bn fun _ _=>rfl
     |false=>
      rw[if_neg Bool.false_ne_true]
      exact rfl
    |false=>
     cases h4:isKey t "block" with
     |true=>
      refine du (j0c_ h1 h2 h3 h4).symm ?_
      exact bn fun _ _=>bn fun _ _=>bn fun _ _=>bn fun _ _=>bn fun _ _=>bn fun _ _=>bn fun _ _=>bn fun _ _=>bn fun _ _=>bn fun _ _=>bn fun _ _=>bn fun _ _=>bn fun _ _=>bn fun _ _=>rfl
     |false=>
      refine du (j1l_ h1 h2 h3 h4).symm ?_
      exact bn fun _ _=>bn fun _ _=>bn fun _ _=>bn fun _ _=>bn fun _ _=>bn fun _ _=>bn fun _ _=>bn fun _ _=>bn fun _ _=>bn fun _ _=>bn fun _ _=>rfl
def jt_ (ss:List Stmt):List Bytes:=ss.filterMap letOf
def toS:List Stmt->Stmts->Stmts
 |[],l=>l
 |s::r,l=> .cons s (toS r l)
theorem toS_snoc {ss:List Stmt}{x:Stmt}{l:Stmts} :toS (ss++[x]) l=toS ss (.cons x l):=by
 induction ss with
 |nil=>rfl
 |cons y r ih=>show Stmts.cons y (toS (r++[x]) l)=_;rw[ih];rfl
structure jq_ (K:Known) (ss:List Stmt) (K':Known):Prop where
 funs:K'.funs=K.funs
 vals:K'.values=(jt_ ss).reverse++K.values
 nodup:(jt_ ss).Nodup
 free: ∀x∈jt_ ss,x∉K.values
theorem jq_.nil {K:Known} :jq_ K [] K:=⟨rfl,rfl,List.nodup_nil,fun _ z=>nomatch z⟩
theorem jq_.snoc {K K1 K2:Known}{ss:List Stmt}{s:Stmt}(h:jq_ K ss K1) (h2:KnOk K1 s K2):jq_ K (ss++[s]) K2:=by
 unfold KnOk at h2
 cases e:letOf s with
 |none=>
  rw[e] at h2
  have h2:K2=K1:=h2
  have:jt_ (ss++[s])=jt_ ss:=by unfold jt_;rw[List.filterMap_append];simp [e]
  rw[h2]
  exact⟨h.funs,by rw[this];exact h.vals,by rw[this];exact h.nodup,by rw[this];exact h.free⟩
 |some x=>
  rw[e] at h2
  obtain⟨rfl,ht⟩:=h2
  have:jt_ (ss++[s])=jt_ ss++[x]:=by unfold jt_;rw[List.filterMap_append];simp [e]
  unfold Known.taken at ht
  rw[Bool.or_eq_false_iff] at ht
  have nc:x∉K1.values:=fun z=>by rw[List.contains_iff_mem.mpr z] at ht;cases ht.1
  rw[h.vals] at nc
  refine⟨h.funs,?_,?_,?_⟩
  ·rw[this]
   show x::K1.values=_
   rw[h.vals,List.reverse_append]
   rfl
  ·rw[this,List.nodup_append]
   refine⟨h.nodup,List.nodup_cons.mpr ⟨List.not_mem_nil,List.nodup_nil⟩,fun a ha b hb=>?_⟩
   rw[List.mem_singleton.mp hb]
   intro z
   exact nc (List.mem_append.mpr (.inl (List.mem_reverse.mpr (by rw[<-z];exact ha))))
  ·rw[this]
   intro y hy z
   rcases List.mem_append.mp hy with hy|hy
   ·exact h.free y hy z
   ·rw[List.mem_singleton.mp hy] at z
    exact nc (List.mem_append.mpr (.inr z))
end OS
namespace OS
open Vbemac
abbrev ip:=Top×Known×Nat×List Bytes
def funP (k:Nat) (K:Known) (n:Nat) (D:List Bytes):P ip:=newName K>>=fun x=>sign "(">>=fun _=>ifSign ")">>=fun none_=>(if none_=true then give [] else params k PARAMS [086])>>=fun ps=>sign "=">>=fun _=>
 expr k DEEP { K with values:=ps++K.values } >>=fun e=>sign ";">>=fun _=>pure (.func x ps e,{ K with funs:=(x,ps.length)::K.funs },n-1,D)
def j02_ (k:Nat) (K:Known) (n:Nat) (D:List Bytes):P ip:=newName K>>=fun x=>sign "=">>=fun _=>expr k DEEP K>>=fun e=>sign ";">>=fun _=>pure (.const x e,K.with x,n,D)
def deskP (k:Nat) (K:Known) (n:Nat) (D:List Bytes):P ip:=dN D>>=fun x=>sign "{">>=fun _=>stmts k NEST K []>>=fun l=>pure (.desk x l.1,K,n,x::D)
def vg_ (k:Nat) (K:Known) (n:Nat) (D:List Bytes):P ip:=fun t=>
 if isKey t "const"=true then(next>>=fun _=>j02_ k K n D:P ip) t
 else if isKey t "fun"=true then(if n=0 then fail 7 t else(next>>=fun _=>funP k K n D:P ip) t)
 else if isKey t "desk"=true then(next>>=fun _=>deskP k K n D:P ip) t
 else fail 2 t
theorem j4u_ (k:Nat) (K:Known) (n:Nat) (D:List Bytes):bA (vg_ k K n D):=fun t e=>by
 unfold vg_
 rw[cF e,cF e,cF e,if_neg Bool.false_ne_true,if_neg Bool.false_ne_true,if_neg Bool.false_ne_true]
 exact a6 2 t e
theorem tops_go {k:Nat}{K:Known}{n:Nat}{D:List Bytes}{t:Toks}{Ro:Sheet->Toks->Prop}{Qe:Nat->Pos->Prop}(h0:peek t≠ .eof) (h:W (tops (k+1) K n D) t Ro Qe):
  W (vg_ k K n D) t (fun x t'=>W (tops k x.2.1 x.2.2.1 x.2.2.2) t' (fun l t2=>Ro (x.1::l) t2) Qe) Qe:=by
 cases h1:isKey t "const" with
 |true=>
  have h:=du (j5m_ h0 h1) h
  refine du (p:=(next>>=fun _=>j02_ k K n D:P ip)) (t:=t) (by unfold vg_;rw[if_pos h1]) ?_
  unfold j02_
  simp only[aK,cD] at h ⊢
  exact h
 |false=>
  have c1: ¬isKey t "const"=true:=by rw[h1];exact Bool.false_ne_true
  cases h2:isKey t "fun" with
  |true=>
   by_cases hn:n=0
   ·have h:W (fail 7:P Sheet) t Ro Qe:=du (j7d_ h0 h1 h2 hn) h
    exact du (p:=(fail 7:P ip)) (t:=t) (by unfold vg_;rw[if_neg c1,if_pos h2,if_pos hn]) h
   ·have h:=du (tops_fun h0 h1 h2 hn) h
    refine du (p:=(next>>=fun _=>funP k K n D:P ip)) (t:=t) (by unfold vg_;rw[if_neg c1,if_pos h2,if_neg hn]) ?_
    unfold funP
    simp only[aK,cD] at h ⊢
    exact h
  |false=>
   have c2: ¬isKey t "fun"=true:=by rw[h2];exact Bool.false_ne_true
   cases h3:isKey t "desk" with
   |true=>
    have h:=du (j6u_ h0 h1 h2 h3) h
    refine du (p:=(next>>=fun _=>deskP k K n D:P ip)) (t:=t) (by unfold vg_;rw[if_neg c1,if_neg c2,if_pos h3]) ?_
    unfold deskP
    simp only[aK,cD] at h ⊢
    exact h
   |false=>
    have h:W (fail 2:P Sheet) t Ro Qe:=du (j6i_ h0 h1 h2 h3) h
    exact du (p:=(fail 2:P ip)) (t:=t) (by unfold vg_;rw[if_neg c1,if_neg c2,if_neg (by rw[h3];exact Bool.false_ne_true)]) h
end OS
namespace OS
open PySem
structure Left (l:List Addr) (ch:List Addr) (a:Addr) (oe:Obj) (h h':Heap):Prop where
 keep: ∀b o,b∉l->b∉ch->h.get? b=some o->h'.get? b=some o
 slot: ∀b o,b∈l->b∉ch->h.get? b=some o-> ∃sl,h'.get? b=some { o with slots:=sl }
 there: ∀b o,h.get? b=some o-> ∃u,h'.get? b=some u
 fly: ∃vs T oT ts,h'.get? a=some ⟨oe.cls,oe.dict, .fields vs,oe.slots⟩/\vs[1]?=some (.ref T)/\h.objs.size<=T/\T≠a/\h'.get? T=some oT/\oT.data= .fields ts/\ts[3]?=some .none
theorem j2l_ {o:Obj}{vs:Array Value}(hd:o.data= .fields vs) (f:Array Value->Array Value):o.mapFields f=⟨o.cls,o.dict, .fields (f vs),o.slots⟩:=by
 obtain⟨c,d,dt,sl⟩:=o
 cases hd
 rfl
section
variable {M:Model}{A:Around}{E:Value->Shared->Prop}{s:Shared}{base:Heap}{env:Env}{outer:List Env}{L a:Addr}{oe:Obj}{vs:Array Value}{Q:Unit->Shared->Prop}
theorem j07_ {head:Value}{hadNext:Bool}(hfr:A.frames=some (env::outer)) (hl:s.heap.FunFrames base (env::outer)) (hf:env.frame=some L)
  (he:s.heap.get? a=some oe) (hd:oe.data= .fields vs) (hsz:1<vs.size)
  (h: ∀h',Left ((env::outer).filterMap (·.frame)) [a] a oe s.heap h'->Q () { s with heap:=h' }):
  wpAny M A (frameOf env>>=fun x=>entryPlaceOf L hadNext>>=fun pl=>EntryCells.newEntry head x .none (rawInt L) .none pl>>=fun b=>setField (.ref a) 1 b) (fun _ s'=>wpAny M A (setFlight (.ref a) none) Q E s') E s:=by
 have na:a∉(env::outer).filterMap (·.frame):=fun hm=>by
  obtain⟨_,o,ho,hn⟩:=hl.mem hm
  rw[he] at ho
  cases ho
  exact hn vs hd
 refine wpAny_bind (wpAny_frameOf_fun hfr hl hf fun h1 S=>wpAny_bind (wpAny_entryPlaceOf fun pl hpl=>?_))
 unfold EntryCells.newEntry newFields
 refine wpAny_bind (wpAny_newObj_type ?_ (hpl.sizeOk5 _ _ _ _ _))
 have e1:h1.get? a=some oe:=(S.2.1 a na).trans he
 generalize ht:({ cls:= .type "traceback",dict:=none,data:= .fields ([head, .ref L, .none,rawInt L, .none]++(if pl.isEmpty then List.replicate 6 Value.none else pl)).toArray } :Obj)=tb
 have td:tb.data= .fields ([head, .ref L, .none,rawInt L, .none]++(if pl.isEmpty then List.replicate 6 Value.none else pl)).toArray:=by rw[<-ht]
 have tf:tb.isFreed=false:=Obj.isFreed_of_fields td
 have e2:(h1.push tb).get? a=some oe:=Heap.get?_push_of_some tb e1
 refine wpAny_setField e2 hd hsz ?_
 have ne:h1.objs.size≠a:=Nat.ne_of_gt (Heap.lt_size e1)
 have hd3:=Obj.data_mapFields hd (·.setIfInBounds 1 (Value.ref h1.objs.size))
 have e3:=Heap.get?_update_self (Obj.mapFields (·.setIfInBounds 1 (Value.ref h1.objs.size))) e2 (Obj.isFreed_of_fields hd3)
 have t3:((h1.push tb).update a (Obj.mapFields (·.setIfInBounds 1 (Value.ref h1.objs.size)))).get? h1.objs.size=some tb:=
  (Heap.get?_update_other (h1.push tb) _ (Ne.symm ne)).trans (Heap.get?_push_size h1 tf)
 unfold setFlight
 refine wpAny_bind (wpAny_field e3 hd3 (x:= .ref h1.objs.size) (by simp [hsz]) ?_)
 rw[if_pos (show(Value.ref h1.objs.size !=Value.none)=true from by simp)]
 have sz3:3<([head, .ref L, .none,rawInt L, .none]++(if pl.isEmpty then List.replicate 6 Value.none else pl)).toArray.size:=by
  simp only[List.size_toArray,List.length_append,List.length_cons,List.length_nil]
  lia
 refine wpAny_setField t3 td sz3 (h _ ?_)
 have other: ∀b,b≠a->b≠h1.objs.size-> ∀f,(((h1.push tb).update a (Obj.mapFields (·.setIfInBounds 1 (Value.ref h1.objs.size)))).update h1.objs.size f).get? b=(h1.push tb).get? b:=fun b x y f=>by
  rw[Heap.get?_update_other _ _ (Ne.symm y),Heap.get?_update_other _ _ (Ne.symm x)]
 have old: ∀b o,s.heap.get? b=some o->b≠h1.objs.size:=fun b o q=>by
  rw[S.1]
  exact Nat.ne_of_lt (Heap.lt_size q)
 have d4:=Obj.data_mapFields td (·.setIfInBounds 3 ((none:Option Addr).elim Value.none fun f=>rawInt f))
 have t4:=Heap.get?_update_self (Obj.mapFields (·.setIfInBounds 3 ((none:Option Addr).elim Value.none fun f=>rawInt f))) t3 (Obj.isFreed_of_fields d4)
 have a4:(((h1.push tb).update a (Obj.mapFields (·.setIfInBounds 1 (Value.ref h1.objs.size)))).update h1.objs.size (Obj.mapFields (·.setIfInBounds 3 ((none:Option Addr).elim Value.none fun f=>rawInt f)))).get? a=some ⟨oe.cls,oe.dict, .fields (vs.setIfInBounds 1 (Value.ref h1.objs.size)),oe.slots⟩:=by
  rw[Heap.get?_update_other _ _ ne,e3,j2l_ hd]
 refine⟨fun b o nl nc q=>?_,fun b o hb nc q=>?_,fun b o q=>?_,?_⟩
 ·rw[other b (fun z=>nc (by rw[z];exact List.mem_cons_self)) (old b o q)]
  exact Heap.get?_push_of_some tb ((S.2.1 b nl).trans q)
 ·obtain⟨sl,z⟩:=S.2.2 b o q
  exact⟨sl,by rw[other b (fun y=>nc (by rw[y];exact List.mem_cons_self)) (old b o q)];exact Heap.get?_push_of_some tb z⟩
 ·by_cases ba:b=a
  ·rw[ba];exact⟨_,a4⟩
  ·obtain⟨sl,z⟩:=S.2.2 b o q
   exact⟨_,by rw[other b ba (old b o q)];exact Heap.get?_push_of_some tb z⟩
 ·refine⟨_,h1.objs.size,_,_,a4,by simp [hsz],Nat.le_of_eq S.1.symm,ne,t4,d4,?_⟩
  simp
theorem j6t_ (hfr:A.frames=some (env::outer)) (hl:s.heap.FunFrames base (env::outer)) (hf:env.frame=some L)
  (he:s.heap.get? a=some oe) (hd:oe.data= .fields vs) (h1:vs[1]?=some .none)
  (h: ∀h',Left ((env::outer).filterMap (·.frame)) [a] a oe s.heap h'->Q () { s with heap:=h' }):wpAny M A (leaving env (.ref a)) Q E s:=by
 unfold leaving noteFrame
 simp only[hf]
 refine wpAny_bind (wpAny_bind (wpAny_field he hd h1 ?_))
 rw[if_neg [06]]
 exact j07_ hfr hl hf he hd (Array.getElem?_eq_some_iff.mp h1).1 h
theorem look_on {T:Addr}{oT:Obj}{ts:Array Value}(hfr:A.frames=some (env::outer)) (hl:s.heap.FunFrames base (env::outer)) (hf:env.frame=some L)
  (he:s.heap.get? a=some oe) (hd:oe.data= .fields vs) (h1:vs[1]?=some (.ref T)) (ne:T≠a) (hT:s.heap.get? T=some oT) (hdT:oT.data= .fields ts) (h3:ts[3]?=some .none)
  (h: ∀h',Left ((env::outer).filterMap (·.frame)) [a,T] a oe s.heap h'->Q () { s with heap:=h' }):wpAny M A (noteFrame (.ref a) env) (fun _ s'=>wpAny M A (setFlight (.ref a) none) Q E s') E s:=by
 unfold noteFrame
 simp only[hf]
 refine wpAny_bind (wpAny_field he hd h1 ?_)
 rw[if_pos (show(Value.ref T !=Value.none)=true from by simp)]
 refine wpAny_bind (wpAny_field hT hdT h3 ?_)
 rw[if_neg (show¬((Value.none == rawInt L)=true) from by simp [rawInt])]
 refine wpAny_bind (wpAny_setField hT hdT (Array.getElem?_eq_some_iff.mp h3).1 ?_)
 have other: ∀b,b≠T->(s.heap.update T (Obj.mapFields (·.setIfInBounds 3 Value.none))).get? b=s.heap.get? b:=fun b hb=>Heap.get?_update_other _ _ (Ne.symm hb)
 have nT:T∉(env::outer).filterMap (·.frame):=fun hm=>by
  obtain⟨_,o,ho,hn⟩:=hl.mem hm
  rw[hT] at ho
  cases ho
  exact hn ts hdT
 have sT:=Heap.get?_update_self (Obj.mapFields (·.setIfInBounds 3 Value.none)) hT (Obj.isFreed_of_fields (Obj.data_mapFields hdT _))
 refine j07_ (s:= { s with heap:=s.heap.update T (Obj.mapFields (·.setIfInBounds 3 Value.none)) }) hfr (hl.of_keeps fun b o hb hn=>⟨o,(other b fun q=>by rw[q,hT] at hb;cases hb;exact hn ts hdT).trans hb,rfl⟩) hf ((other a (Ne.symm ne)).trans he) hd (Array.getElem?_eq_some_iff.mp h1).1 fun h' X=>h h' ?_
 have size:(s.heap.update T (Obj.mapFields (·.setIfInBounds 3 Value.none))).objs.size=s.heap.objs.size:=Heap.size_after_update ..
 refine⟨fun b o nl nc q=>X.keep b o nl (fun z=>nc (by rcases List.mem_cons.mp z with z|z;rw[z];exact List.mem_cons_self;cases z)) ((other b fun z=>nc (by rw[z];simp)).trans q),
  fun b o hb nc q=>X.slot b o hb (fun z=>nc (by rcases List.mem_cons.mp z with z|z;rw[z];exact List.mem_cons_self;cases z)) ((other b fun z=>nc (by rw[z];simp)).trans q),fun b o q=>?_,?_⟩
 ·by_cases bT:b=T
  ·rw[bT];exact X.there T _ sT
  ·exact X.there b o ((other b bT).trans q)
 ·obtain⟨ws,T',oT',ts',x1,x2,x3,x4⟩:=X.fly
  exact⟨ws,T',oT',ts',x1,x2,by rw[<-size];exact x3,x4⟩
theorem leave_on {T:Addr}{oT:Obj}{ts:Array Value}(hfr:A.frames=some (env::outer)) (hl:s.heap.FunFrames base (env::outer)) (hf:env.frame=some L)
  (he:s.heap.get? a=some oe) (hd:oe.data= .fields vs) (h1:vs[1]?=some (.ref T)) (ne:T≠a) (hT:s.heap.get? T=some oT) (hdT:oT.data= .fields ts) (h3:ts[3]?=some .none)
  (h: ∀h',Left ((env::outer).filterMap (·.frame)) [a,T] a oe s.heap h'->Q () { s with heap:=h' }):wpAny M A (leaving env (.ref a)) Q E s:=by
 unfold leaving
 exact wpAny_bind (look_on hfr hl hf he hd h1 ne hT hdT h3 h)
end
end OS
namespace OS
open PySem
section
variable {prog:Program}{w:World}{A:Around}{E:Value->Shared->Prop}{h:Heap}{g:Array GenState}{d:Drawn}{t:Nat}{os:OsState}
variable {nm q:Str}{C N:Addr}{bs bm bmB:List Value}{hdct:Bool}{sn:List Str}{sub:List Value}{ab:Bool}{col:Option Bool}{dd:Option Addr}{k0 k1 k2 k3 k5:Option Value}{B newId initId:String}
def LA (h:Heap) (l:List Value) (name:Str) (y:Option Value):Prop:= ∀(M:Model) (A:Around) (E:Value->Shared->Prop) (g:Array GenState) (d:Drawn) (t:Nat) (os:OsState) (Q:Option Value->Shared->Prop),Q y ⟨h,g,d,t,os⟩->wpAny M A (lookupAlong l name) Q E ⟨h,g,d,t,os⟩
theorem LA.of {l:List Value}{name:Str}{y:Option Value}(m:mroOf (.type B)=pure l) (k:typeLookup (.type B) name=pure y):LA h l name y:=by
 rw[typeLookup_eq,m] at k
 intro M A E g d t os Q q
 rw[show lookupAlong l name=pure y from k]
 exact wpAny_pure q
theorem LA.own {a:Addr}{c0:Value}{da:Option Addr}{cd:ClassData}{sl:Array (Option Value)}{mA:Str->Option Value}{l:List Value}{name:Str}{y:Option Value}(o:h.get? a=some ⟨c0,da, .cls cd,sl⟩) (n:h.Ns cd.ns mA) (z:mA name=none) (k:LA h l name y):LA h (.ref a::l) name y:=by
 intro M A E g d t os Q q
 rw[lookupAlong_cons]
 refine wpAny_bind (wpAny_classOwn_cls o n ?_)
 rw[z]
 exact k M A E g d t os Q q
theorem gG {M:Model}{name:Str}{mN:Str->Option Value}{y:Option Value}{Q:Option Value->Shared->Prop}(hC:h.get? C=some [039]) (n:h.Ns N mN) (k:mN name=none->LA h bm name y)
  (q:Q (match mN name with|some v=>some v|none=>y) ⟨h,g,d,t,os⟩):wpAny M A (typeLookup (.ref C) name) Q E ⟨h,g,d,t,os⟩:=by
 rw[typeLookup_eq]
 refine wpAny_bind (wpAny_mroOf_exc hC ?_)
 rw[lookupAlong_cons]
 refine wpAny_bind (wpAny_classOwn_exc hC n ?_)
 cases z:mN name with
 |some v=>rw[z] at q;exact wpAny_pure q
 |none=>rw[z] at q;exact k z M A E g d t os Q q
abbrev dn (C T:Addr):Obj:= { cls:= .ref C,data:= .fields #[.ref T, .none, .none, .none, .bool false, .none] }
abbrev eF (l:List Value):Obj:= { cls:= .type "tuple",data:= .seq l.toArray }
def InitEnd (x:Addr) (Q:Value->Shared->Prop) (E:Value->Shared->Prop) (r:Result) (s':Shared):Prop:=match r with
 | .ok (.ret v)=>v= .none/\Q (.ref x) s'
 | .ok _=>False
 | .error e=>E e s'
structure Up (bm l:List Value) (B:String):Prop where
 b:l.contains (.type B)=true
 a:l.contains (.type "AttributeError")=false
 n:l.contains (.type "NameError")=false
theorem new_look (F:ExcBaseFacts B newId initId bmB) {M:Model}(U:Up bm (.ref C::bm) B) {rest:List Value}{Q:Unit->Shared->Prop}(hC:h.get? C=some [039]) (z:Q () ⟨h,g,d,t,os⟩):wpAny M A (checkBuiltinCall newId ⟨.ref C::rest,[]⟩) Q E ⟨h,g,d,t,os⟩:=by
 have u:=U.b
 have st:=F.noStar
 simp only[F.newRow,F.newSplit,F.newKind,checkBuiltinCall]
 repeat (first|(refine wpAny_isSubtype_exc hC ?_;rw[u])|refine wpAny_loadPart_at hC ?_|refine wpAny_madeBy_exc hC ?_|refine wpAny_staticBase_exc hC ?_|simp only[bne_self_eq_false,Bool.false_eq_true,if_false]|wp_step)
 exact z
theorem new_made (F:ExcBaseFacts B newId initId bmB) (U:Up bm (.ref C::bm) B) {rest:List Value}{R:Result->Shared->Prop}(hC:h.get? C=some [039]) (z:R (.ok (.ret (.ref (h.objs.size+1)))) ⟨(h.push (eF rest)).push (dn C h.objs.size),g,d,t,os⟩) (hrest:rest.length<=sizeLine):
  codeAny (model prog w) A (.builtin newId ⟨.ref C::rest,[]⟩) R ⟨h,g,d,t,os⟩:=by
 have hends:=F.ends
 have u1:=U.b
 have u2:=U.a
 have u3:=U.n
 refine codeAny_builtinAt F.entry ?_
 unfold Builtin.«BaseException.__new__»
 refine wpAt_bind ?_
 show wpAt _ _ _ (stack>>=_) _ _ _
 refine wpAt_bind (wpAt_stack fun _ _=>wpAt_of_wpAny ?_)
 wp_walk
 refine wpAt_of_wpAny ?_
 rw[F.owner]
 repeat (first|(with_reducible refine wpAny_isSubtype_exc hC ?_;first|rw[u1]|rw[u2]|rw[u3])|with_reducible refine wpAny_madeHere_exc F.canon hC ?_|with_reducible refine wpAny_loadPart_at hC ?_|wp_step)
 show R _ _
 rw[Heap.size_push]
 exact z
theorem j6j_ (F:ExcBaseFacts B newId initId bmB) (U:Up bm (.ref C::bm) B) {M:Model}{e:Addr}{oe:Obj}{rest:List Value}{Q:Unit->Shared->Prop}
  (hC:h.get? C=some [039]) (he:h.get? e=some oe) (hcls:oe.cls= .ref C) (z:Q () ⟨h,g,d,t,os⟩):wpAny M A (checkBuiltinCall initId ⟨.ref e::rest,[]⟩) Q E ⟨h,g,d,t,os⟩:=by
 have u:=U.b
 have st:=F.noStar
 simp only[F.initRow,F.initSplit,F.initKind,checkBuiltinCall]
 repeat (first|(with_reducible refine wpAny_isSubtype_exc hC ?_;rw[u])|(with_reducible refine wpAny_loadPart_at he ?_;rw[hcls])|with_reducible refine wpAny_loadPart_at hC ?_|wp_step)
 refine wpAny_onRaise ?_
 rw[show∀(a b:String) (n:Nat),Bind.check ⟨.positional,"*",B, .self,[⟨"args", .varPos,false⟩]⟩ a b n (List.map (fun x=>x.1) ({ pos:=Value.ref e::rest } :Args).kw)=pure () from fun _ _ _=>check_star_args _ _ _ _ _ _]
 exact wpAny_pure z
theorem j1g_ (F:ExcBaseFacts B newId initId bmB) (U:Up bm (.ref C::bm) B) {mN:Str->Option Value}{rest:List Value}{fI:Addr}{oI:Obj}{Q:Fin->Shared->Prop}
  (hC:h.get? C=some [039]) (hn:h.Ns N mN) (hni:mN "__init__"=some (.ref fI)) (hI:h.get? fI=some oI) (hIc:oI.cls= .type "function")
  (hq:codeAny (model prog w) A (.call (.ref fI) ⟨.ref (h.objs.size+1)::rest,[]⟩) (InitEnd (h.objs.size+1) (fun v s'=>Q (.done (.ret v)) s') E) ⟨(h.push (eF rest)).push (dn C h.objs.size),g,d,t,os⟩)
  (hrest:rest.length<=sizeLine):
  wpAny (model prog w) A (Builtin.«type.__call__» ⟨.ref C::rest,[]⟩) Q E ⟨h,g,d,t,os⟩:=by
 repeat (first|with_reducible refine wpAny_loadPart_at hC ?_|with_reducible refine wpAny_madeBy_exc hC ?_|wp_step)
 refine codeAny_call_builtin_code (Code.quiet_builtin _ F.quiet) (new_look F U hC ?_)
 refine new_made F U hC ?_ hrest
 show wpAny _ _ _ _ _ _
 have c1:((h.push (eF rest)).push (dn C h.objs.size)).get? C=some [039]:=Heap.get?_push_of_some _ (Heap.get?_push_of_some _ hC)
 have n1:((h.push (eF rest)).push (dn C h.objs.size)).Ns N mN:=
  let ⟨o,es,ep,e,r⟩:=hn;⟨o,es,ep,Heap.get?_push_of_some _ (Heap.get?_push_of_some _ e),r⟩
 have i1:((h.push (eF rest)).push (dn C h.objs.size)).get? fI=some oI:=Heap.get?_push_of_some _ (Heap.get?_push_of_some _ hI)
 have e1:((h.push (eF rest)).push (dn C h.objs.size)).get? (h.objs.size+1)=some (dn C h.objs.size):=by heap_get
 have hcC:(Value.ref C::bm).contains (.ref C)=true:=by simp
 unfold isInstance
 repeat (first|with_reducible refine wpAny_loadPart_at e1 ?_|(with_reducible refine wpAny_isSubtype_exc c1 ?_;rw[hcC])|wp_step)
 show wpAny _ _ (typeLookup (.ref C) _) _ _ _
 refine gG (y:=none) c1 n1 (fun z=>by rw[hni] at z;cases z) ?_
 rw[hni]
 refine wpAny_holding ?_
 unfold bindSpecial
 refine wpAny_bind (wpAny_bind ?_)
 have hT:(⟨(h.push (eF rest)).push (dn C h.objs.size),g,d,t,os⟩:Shared).TypeIs (.ref fI) "function":=⟨_,i1,hIc⟩
 refine wpAny_typeOf hT (wpAny_pure (wpAny_bind (wpAny_call (codeAny_mono hq fun r s' z=>?_))))
 rcases r with e|(v|_|_|_)
 ·exact z
 ·exact z.elim
 ·exact z.elim
 ·exact z.elim
 ·obtain⟨rfl,z⟩:=z
  exact wpAny_pure (wpAny_pure z)
theorem call_own (F:ExcBaseFacts B newId initId bmB) (U:Up bm (.ref C::bm) B) {mN:Str->Option Value}{rest:List Value}{fI:Addr}{oI:Obj}{R:Result->Shared->Prop}
  (hC:h.get? C=some [039]) (hn:h.Ns N mN) (hni:mN "__init__"=some (.ref fI)) (hI:h.get? fI=some oI) (hIc:oI.cls= .type "function")
  (hq:codeAny (model prog w) (A.under (.builtin "type.__call__" ⟨.ref C::rest,[]⟩)) (.call (.ref fI) ⟨.ref (h.objs.size+1)::rest,[]⟩) (InitEnd (h.objs.size+1) (fun v s'=>R (.ok (.ret v)) s') (fun e s'=>R (.error e) s')) ⟨(h.push (eF rest)).push (dn C h.objs.size),g,d,t,os⟩)
  (hrest:rest.length<=sizeLine):
  codeAny (model prog w) A (.call (.ref C) ⟨rest,[]⟩) R ⟨h,g,d,t,os⟩:=by
 have f1:=tc_lookup
 have f2:=tc_bind (.ref C)
 have hT:(⟨h,g,d,t,os⟩:Shared).TypeIs (.ref C) "type":=⟨_,hC,rfl⟩
 refine codeAny_of_tree ?_
 show wpAny _ _ (callAny (.ref C) _) _ _ _
 repeat (any_goals (first|assumption|with_reducible refine wpAny_loadPart_at hC ?_|wp_step))
 refine⟨rfl,?_⟩
 refine codeAny_call_builtin_at (Code.quiet_builtin _ [02]) entry_typeCall (wpAny_check_type_call_sub hC (j1g_ F U hC hn hni hI hIc ?_ hrest))
 exact hq
theorem j6y_ (F:ExcBaseFacts B newId initId bmB) (U:Up bm (.ref C::bm) B) {e T:Addr}{R:Result->Shared->Prop}
  (hC:h.get? C=some [039]) (he:h.get? e=some (dn C T))
  (hq:R (.ok (.ret .none)) ⟨(h.push (eF [])).update e (Obj.mapFields (·.setIfInBounds 0 (.ref h.objs.size))),g,d,t,os⟩):
  codeAny (model prog w) A (.call (.builtin initId) ⟨[.ref e],[]⟩) R ⟨h,g,d,t,os⟩:=by
 refine codeAny_call_builtin F.init.plain F.initEntry (j6j_ F U hC he rfl ?_)
 unfold Builtin.«BaseException.__init__»
 wp_walk
 exact hq
end
abbrev dj:List Value:=[.type "Exception", .type "BaseException", .type "object"]
theorem lk_ga:typeLookup [042] "__getattribute__"=pure (some (.builtin "BaseException.__getattribute__")):=by rw[typeLookup_type,builtinLookup_eq_fast];kernel_rfl
theorem lk_gh:typeLookup [042] "__getattr__"=pure none:=by rw[typeLookup_type,builtinLookup_eq_fast];kernel_rfl
theorem slot_ga:Slot "Exception" "__getattribute__" "BaseException.__getattribute__":=
 .of (owner:="BaseException") (n:="__getattribute__") (by rw[typeLookup_type,builtinLookup_eq_fast];kernel_rfl) [02] [02] [02]
  (by first|exact .inl [02]|exact .inr [02]) (by rw[isSubtype_type];kernel_rfl)
section
open Builtin Builtin.ObjectAttr
variable {prog:Program}{w:World}{A:Around}{E:Value->Shared->Prop}{h:Heap}{g:Array GenState}{d:Drawn}{t:Nat}{os:OsState}
variable {nm q:Str}{C N x:Addr}{bs bm:List Value}{sn:List Str}{sub:List Value}{ab:Bool}{col:Option Bool}{dd:Option Addr}{k0 k1 k2 k3 k5:Option Value}{newId:String}
 {mN mA:Str->Option Value}{name:Str}{v:Value}
theorem j6d_ {tk:Tok}{Q:PySem.Fin->Shared->Prop}
  (hC:h.get? C=some (excClassObj nm q C N bs bm true sn sub ab col dd k0 k1 k2 k3 k5 newId)) (hn:h.Ns N mN) (hna:mN name=none)
  (hB:LA h bm name none) (I:h.Inst x C mA) (hv:mA name=some v) (hq:Q (.done (.ret v)) ⟨h,g,d,t,os⟩):
  wpAny (model prog w) A (Builtin.«object.__getattribute__» ⟨[.ref x, .str name tk],[]⟩) Q E ⟨h,g,d,t,os⟩:=by
 obtain⟨o,hx,hc,hnc,hd⟩:=I
 rcases hd with⟨_,hmA⟩|⟨dx,hdx,hne,hns⟩
 ·rw[hmA name] at hv;cases hv
 unfold Builtin.«object.__getattribute__»
 repeat (first|(with_reducible refine wpAny_loadPart_at hx ?_;rw[hc])|(with_reducible refine gG hC hn (fun _=>hB) ?_;rw[hna])|wp_step)
 split
 ·rename_i c hcd
  exact absurd hcd (hnc c)
 unfold instanceDict
 repeat (first|(with_reducible refine wpAny_loadPart_at hx ?_;rw[hc])|with_reducible refine wpAny_loadPart_at hC ?_|wp_step)
 rw[hdx]
 repeat (first|(with_reducible refine wpAny_nsGet hns.ns ?_;rw[hv])|wp_step)
 exact hq
theorem j7k_ {M:Model}(hcB:(Value.ref C::bm).contains (.type "BaseException")=true) {o:Obj}{gR:Value}{Q:Unit->Shared->Prop}(hC:h.get? C=some (excClassObj nm q C N bs bm true sn sub ab col dd k0 k1 k2 k3 k5 newId))
  (hx:h.get? x=some o) (hc:o.cls= .ref C) (hq:Q () ⟨h,g,d,t,os⟩):wpAny M A (checkBuiltinCall "BaseException.__getattribute__" ⟨[.ref x,gR],[]⟩) Q E ⟨h,g,d,t,os⟩:=by
 have hk:builtinKind "BaseException.__getattribute__"=some .slot:=by decide+kernel
 have hsplit:splitId "BaseException.__getattribute__"=some ("BaseException","__getattribute__"):=by decide+kernel
 have ha:=PySem.F.args_bexc_ga (.ref x) gR
 simp only[checkBuiltinCall,hk,hsplit]
 refine wpAny_bind ?_
 unfold isInstance
 repeat (first|(with_reducible refine wpAny_loadPart_at hx ?_;rw[hc])|(with_reducible refine wpAny_isSubtype_exc hC ?_;rw[hcB])|wp_step)
 exact hq
theorem exc_get (hcB:(Value.ref C::bm).contains (.type "BaseException")=true) (l1:LA h bm "__getattribute__" (some (.builtin "BaseException.__getattribute__"))) (l2:LA h bm "__getattr__" none) {expr:Bool}{Q:Value->Shared->Prop}
  (hC:h.get? C=some (excClassObj nm q C N bs bm true sn sub ab col dd k0 k1 k2 k3 k5 newId)) (hn:h.Ns N mN) (hng:mN "__getattribute__"=none) (hnh:mN "__getattr__"=none) (hna:mN name=none)
  (hB:LA h bm name none) (I:h.Inst x C mA) (hv:mA name=some v) (hh:handedOut v=pure v) (hq:Q v ⟨h,g,d,t+1,os⟩):
  wpAny (model prog w) A (getAttr (.ref x) name expr) Q E ⟨h,g,d,t,os⟩:=by
 obtain⟨o,hx,hc,_⟩:=id I
 have f3:=slot_ga.bind (.ref x)
 have hx0:(expr&&onTheHeap (Value.builtin "BaseException.__getattribute__"))=false:=by cases expr<;>rfl
 have hx2:(Value.builtin "BaseException.__getattribute__" == Value.builtin "object.__getattribute__")=false:=by decide+kernel
 have hx1:(onTheHeap (Value.ref C)&&Value.builtin "BaseException.__getattribute__" == Value.builtin "object.__getattribute__")=false:=by rw[hx2];rfl
 have hx3:onTheHeap (Value.ref C)=true:=rfl
 unfold getAttr getAttrBy
 repeat (any_goals (first|assumption|(with_reducible refine wpAny_loadPart_at hx ?_;rw[hc])|(with_reducible refine gG hC hn (fun _=>l1) ?_;rw[hng])|(with_reducible refine gG hC hn (fun _=>l2) ?_;rw[hnh])|wp_step))
 exact codeAny_call_builtin slot_ga.plain PySem.F.entry_bexc_ga (j7k_ hcB hC hx hc (j6d_ hC hn hna hB I hv (by show wpAny _ _ (handedOut v) _ _ _;rw[hh];exact wpAny_pure hq)))
end
end OS
namespace OS
open PySem
section
open Builtin Builtin.ObjectAttr
variable {prog:Program}{w:World}{A:Around}{E:Value->Shared->Prop}{h:Heap}{g:Array GenState}{d:Drawn}{t:Nat}{os:OsState}
variable {nm q:Str}{C N x R:Addr}{bs bm:List Value}{sn:List Str}{sub:List Value}{ab:Bool}{col:Option Bool}{dd:Option Addr}{k0 k1 k2 k3 k5:Option Value}{newId:String}
 {mN mA:Str->Option Value}{name:Str}{v:Value}{o:Obj}{vs:Array Value}{sa owner B:String}
theorem sa_look {M:Model}{y:Value}{Q:Unit->Shared->Prop}(SF:StoreFacts B bm sa owner) (hC:h.get? C=some [0015]) (hx:h.get? x=some o) (hc:o.cls= .ref C) (z:Q () ⟨h,g,d,t,os⟩):
  wpAny M A (checkBuiltinCall sa ⟨[.ref x,y,v],[]⟩) Q E ⟨h,g,d,t,os⟩:=by
 have u:(Value.ref C:: .ref R::bm).contains (.type owner)=true:=by rw[List.contains_cons,List.contains_cons,SF.hasOwner,Bool.or_true,Bool.or_true]
 have ha:=SF.args (.ref x) y v
 simp only[SF.split,SF.kind,checkBuiltinCall]
 refine wpAny_bind ?_
 unfold isInstance
 repeat (first|(with_reducible refine wpAny_isSubtype_exc hC ?_;rw[u])|(with_reducible refine wpAny_loadPart_at hx ?_;rw[hc])|wp_step)
 cases hs:Manifest.signature? sa with
 |none=>exact wpAny_pure z
 |some r=>
  simp only[argsOk,hs] at ha
  show wpAny M A (Bind.checkArgs sa r ⟨[.ref x,y,v],[]⟩) Q E _
  rw[show Bind.checkArgs sa r ⟨[.ref x,y,v],[]⟩=pure () from ha]
  exact wpAny_pure z
theorem exc_put0 {tk:Tok}{Q:PySem.Fin->Shared->Prop}(SF:StoreFacts B bm sa owner) (hC:h.get? C=some [0015]) (hn:h.Ns N mN) (hna:mN name=none)
  (hB:LA h (.ref R::bm) name none) (hx:h.get? x=some o) (hc:o.cls= .ref C) (hdn:o.dict=none) (hfd:o.data= .fields vs)
  (hq: ∀h' tk',(∀b ob,b≠x->h.get? b=some ob->h'.get? b=some ob)->h'.get? x=some ⟨o.cls,some h.objs.size,o.data,o.slots⟩->h'.Ns1 h.objs.size (fun y=>if y=name then some v else none)->
   Q (.done (.ret .none)) ⟨h',g,d,tk',os⟩):
  wpAny (model prog w) A (Builtin.«object.__setattr__» ⟨[.ref x, .str name tk,v],[]⟩) Q E ⟨h,g,d,t,os⟩:=by
 have hpass:=SF.passes (.ref x)
 unfold Builtin.«object.__setattr__»
 repeat (first|rw[refuse_eq]|(rw[refuseLoop_ref,refuseLoop_ref,hpass])|(with_reducible refine wpAny_loadPart_at hx ?_;rw[hc])|with_reducible refine wpAny_mroOf_exc hC ?_|(with_reducible refine gG hC hn (fun _=>hB) ?_;rw[hna])|wp_step)
 rw[hdn,if_neg (by simp [typeHasDict])]
 split
 ·rename_i z
  cases z
 split
 ·rename_i c z
  rw[hfd] at z
  cases z
 ·have x1:(h.push { cls:= .type "dict",data:= .dict #[] }).get? x=some o:=Heap.get?_push_of_some _ hx
  have ne:x≠h.objs.size:=Nat.ne_of_lt (Heap.lt_size hx)
  refine wpAny_bind (wpAny_alloc' ?_)
  refine wpAny_bind (wpAny_update' x1 ?_)
  refine wpAny_pure ?_
  have hgd:((h.push { cls:= .type "dict",data:= .dict #[] }).update x fun o=> { cls:=o.cls,dict:=some h.objs.size,data:=o.data,slots:=o.slots }).get? h.objs.size
    =some { cls:= .type "dict",data:= .dict #[] } :=
   (Heap.get?_update_ne _ _ _ _ ne.symm).trans (Heap.get?_push_at rfl rfl)
  have hnd:((h.push { cls:= .type "dict",data:= .dict #[] }).update x fun o=> { cls:=o.cls,dict:=some h.objs.size,data:=o.data,slots:=o.slots }).Ns h.objs.size (fun _=>none):=
   ⟨_, #[],_,hgd,rfl,fun e he=>absurd he [022],fun _=>rfl⟩
  show wpAny _ _ (storeInDict h.objs.size (.str name tk) name v) _ _ _
  unfold storeInDict newKeyGuard
  refine wpAny_bind (wpAny_pure (wpAny_bind (wpAny_nsSet1 (Heap.Ns1.of_empty hnd) fun h' hn' hs=>?_)))
  obtain⟨oD,esD,epD,hoD,hdD,hcD⟩:=hn'.count (Within.cons name v Within.nil)
  refine wpAny_bind (wpAny_lookBehind hoD (by rw[hdD];exact pastItsLine_dict (Nat.le_trans hcD (by rw[List.length_cons,List.length_nil,sizeLine_eq];lia))) ?_)
  wp_walk
  refine hq h' _ (fun b ob hb e=>?_) ?_ hn'
  ·exact(hs.2 b (Nat.ne_of_lt [031])).trans ((Heap.get?_update_ne _ _ _ _ hb).trans (Heap.get?_push_of_some _ e))
  ·refine(hs.2 x ne).trans (Heap.get?_update_self _ x1 ?_)
   have hfr:=(Heap.get?_some_iff.mp hx).2
   obtain⟨oc,od,odt,osl⟩:=o
   cases odt<;>first|rfl|exact hfr
theorem exc_put1 {tk:Tok}{dx:Addr}{ns:List Str}{Q:PySem.Fin->Shared->Prop}(SF:StoreFacts B bm sa owner) (hC:h.get? C=some [0015]) (hn:h.Ns N mN) (hna:mN name=none)
  (hB:LA h (.ref R::bm) name none) (hx:h.get? x=some o) (hc:o.cls= .ref C) (hdx:o.dict=some dx) (hd:h.Ns1 dx mA) (hw:Within mA ns) (hsz:ns.length<=1000)
  (hq: ∀h' tk',(∀b ob,b≠dx->h.get? b=some ob->h'.get? b=some ob)->h'.Ns1 dx (fun y=>if y=name then some v else mA y)->Q (.done (.ret .none)) ⟨h',g,d,tk',os⟩):
  wpAny (model prog w) A (Builtin.«object.__setattr__» ⟨[.ref x, .str name tk,v],[]⟩) Q E ⟨h,g,d,t,os⟩:=by
 have hpass:=SF.passes (.ref x)
 unfold Builtin.«object.__setattr__»
 repeat (first|rw[refuse_eq]|(rw[refuseLoop_ref,refuseLoop_ref,hpass])|(with_reducible refine wpAny_loadPart_at hx ?_;rw[hc])|with_reducible refine wpAny_mroOf_exc hC ?_|(with_reducible refine gG hC hn (fun _=>hB) ?_;rw[hna])|wp_step)
 rw[hdx]
 refine wpAny_pure ?_
 show wpAny _ _ (storeInDict dx (.str name tk) name v) _ _ _
 unfold storeInDict newKeyGuard
 refine wpAny_bind (wpAny_pure (wpAny_bind (wpAny_nsSet1 hd fun h' n' hs=>?_)))
 obtain⟨o1,es1,ep1,h1,d1,c1⟩:=n'.count (Within.cons name v hw)
 refine wpAny_bind (wpAny_lookBehind h1 (by rw[d1];exact pastItsLine_dict (Nat.le_trans c1 (by rw[List.length_cons,sizeLine_eq];lia))) ?_)
 wp_walk
 exact hq h' _ (fun b ob hb e=>(hs.2 b hb).trans e) n'
theorem exc_set {Q:Unit->Shared->Prop}(SF:StoreFacts B bm sa owner) (hC:h.get? C=some [0015]) (hn:h.Ns N mN) (hns:mN "__setattr__"=none) (l:LA h (.ref R::bm) "__setattr__" (some (.builtin sa))) (hx:h.get? x=some o) (hc:o.cls= .ref C)
  (hq: ∀tk t,wpAny (model prog w) A.in1 (Builtin.«object.__setattr__» ⟨[.ref x, .str name tk,v],[]⟩) (fun f s'=>f= .done (.ret .none)/\Q () s') (fun _ _=>False) ⟨h,g,d,t,os⟩):
  wpAny (model prog w) A (setAttr (.ref x) name v) Q E ⟨h,g,d,t,os⟩:=by
 have f3:=SF.slot.bind (.ref x)
 unfold setAttr callSpecial? specialOf
 repeat (any_goals (first|assumption|(with_reducible refine wpAny_loadPart_at hx ?_;rw[hc])|(with_reducible refine gG hC hn (fun _=>l) ?_;rw[hns])|wp_step))
 refine codeAny_call_builtin SF.slot.plain SF.entry (sa_look SF hC hx hc (wpAny_mono (hq _ _) (fun f s' z=>?_) fun _ _ z=>z.elim))
 obtain⟨rfl,z⟩:=z
 repeat (any_goals (first|assumption|wp_step))
end
end OS
namespace OS
open PySem PySem.Spec L2
open PyProof.Rows hiding St
def del (H:Hp) (ch:List Addr):Hp:=fun b=>if b∈ch then none else H b
theorem eV {H:Hp}{ch:List Addr}{b:Addr}(h:b∉ch):del H ch b=H b:=if_neg h
theorem j0r_ {H:Hp}{ch:List Addr}{b:Addr}(h:b∈ch):del H ch b=none:=if_pos h
theorem del_same {H:Hp}{ch:List Addr}(h: ∀b∈ch,H b=none):del H ch=H:=by
 funext b
 by_cases hb:b∈ch
 ·rw[j0r_ hb,h b hb]
 ·exact eV hb
theorem left_un {X:Cx}{pins:List [001]}{σ:St}{H:Hp}{s:Shared}{ch:List Addr}{a:Addr}{oe:Obj}{h':Heap}(I:aV X pins σ H s) (hex:X.ex=[])
  (L:Left (frs X.stack) ch a oe s.heap h') (hch: ∀b∈ch,X.s_0.heap.objs.size<=b) (htr: ∀b∈ch,H b=none\/ ∃φ,H b=some (.ext φ)):
  Un X.fs [] X.H_0 (del H ch) X.s_0.heap h'/\gP X.prog X.w (del H ch) h':=by
 have old: ∀b o,X.s_0.heap.get? b=some o->b∉ch:=fun b o e hb=>absurd (Nat.lt_of_lt_of_le [031] (hch b hb)) [048]
 have nex: ∀b,b∉X.ex:=fun b hb=>by rw[hex] at hb;exact nomatch hb
 have nst: ∀b o,X.s_0.heap.get? b=some o->b∉X.fs->b∉frs X.stack:=fun b o e hb hs=>by
  rcases List.mem_cons.mp (I.stkSub b hs) with z|z
  ·rw[z] at e
   exact absurd [054] [048]
  ·exact hb z
 have trk: ∀b u,H b=some u->(∀φ,u≠ .ext φ)->b∉ch:=fun b u e ne hb=>by
  rcases htr b hb with z|⟨φ,z⟩
  ·rw[e] at z;cases z
  ·rw[e] at z;exact ne φ (Option.some.inj z)
 have fin: ∀b,b∈X.fs->b∈frs X.stack:=fun b hb=>by
  rcases I.ok.stk with e|⟨e,hf⟩
  ·rw[e];exact hb
  ·rw[e];unfold frs;rw[List.filterMap_cons,hf];exact List.mem_cons_of_mem _ hb
 refine⟨⟨fun b o e n hb _=>?_,fun b o e n hb _=>?_,fun b o e n _=>?_,fun b o e _=>?_,fun b xs e=>?_,fun b o u e=>?_,fun b ps e=>?_⟩,fun x u q=>?_⟩
 ·exact L.keep b o (nst b o e hb) (old b o e) (I.base.keep b o e n hb (nex b))
 ·obtain⟨sl,z⟩:=I.base.slot b o e n hb (nex b)
  obtain⟨sl',z'⟩:=L.slot b _ (fin b hb) (old b o e) z
  exact⟨sl',z'⟩
 ·rw[eV (old b o e)]
  exact I.base.free b o e n (nex b)
 ·obtain⟨o',z⟩:=I.base.there b o e (nex b)
  exact L.there b o' z
 ·have z:=I.base.tups b xs e
  rw[eV (trk b _ z fun φ y=>nomatch y)]
  exact z
 ·have z:=I.base.frzs b o u e
  rw[eV (trk b _ z fun φ y=>nomatch y)]
  exact z
 ·obtain⟨more,z⟩:=I.base.tbls b ps e
  exact⟨more,by rw[eV (trk b _ z fun φ y=>nomatch y)];exact z⟩
 ·have hx:x∉ch:=fun z=>by rw[j0r_ z] at q;cases q
  rw[eV hx] at q
  refine(I.hok x u q).stay (fun b v hb e=>?_) (fun b e=>?_) fun b xs e=>?_
  ·refine L.keep b v (fun z=>?_) (fun z=>?_) e
   ·have y:=I.stkFree b z
    rcases hb with rfl|hb
    ·rw[q] at y;cases y
    ·rw[hb] at y;cases y
   ·rcases hb with rfl|hb
    ·exact hx z
    ·exact trk b _ hb (fun φ y=>nomatch y) z
  ·rw[eV (trk b _ e fun φ y=>nomatch y)];exact e
  ·rw[eV (trk b _ e fun φ y=>nomatch y)];exact e
def FlyAt (C d a:Addr) (n:Nat) (H:Hp) (h:Heap):Prop:= ∃oe vs T oT ts,h.get? a=some oe/\oe.cls= .ref C/\oe.dict=some d/\oe.data= .fields vs/\vs[1]?=some (.ref T)/\n<=T/\T≠a/\H T=none/\
 h.get? T=some oT/\oT.data= .fields ts/\ts[3]?=some .none
def cH (P:Program) (w:World):CXT:=fun outer H s E e s'=> ∃(C a d:Addr) (H':Hp),e= .ref a/\s'.os=s.os/\AllBare s'.gens/\Un (frs outer) [] H H' s.heap s'.heap/\gP P w H' s'.heap/\
 s.heap.objs.size<=a/\H' a=none/\FlyAt C d a s.heap.objs.size H' s'.heap/\E (.ref C) (some d) H'
section
variable {P:Program}{w:World}{K:PySem.W.Frag}{mg:Str->Option Value}{base:Heap}{N:List Str}{qual:Str}{scope:Scope}{f:Addr}{cd:Value}{A:Around}{outer:List Env}{s0:Shared}{H0:Hp}{E:XK}{C:Addr}{CX:CXT}
theorem j53_ {pins:List [001]}{σ:St}{H:Hp}{s:Shared}{ch:List Addr}{a d:Addr}{oe:Obj}{h':Heap}(I:aV (cxOf CX P w K mg base N qual scope f cd A outer s0 H0 E) pins σ H s)
  (L:Left (frs (envOfC qual scope s0.heap.objs.size f cd::outer)) ch a oe s.heap h') (hch: ∀b∈ch,s0.heap.objs.size<=b) (htr: ∀b∈ch,H b=none\/ ∃φ,H b=some (.ext φ)) (ha:a∈ch)
  (hc:oe.cls= .ref C) (hd:oe.dict=some d) (hE:E (.ref C) (some d) (del H ch)):cH P w outer H0 s0 E (.ref a) { s with heap:=h' } :=by
 obtain⟨u,k⟩:=left_un I rfl L hch htr
 obtain⟨vs,T,oT,ts,x1,x2,x3,x4,x5,x6,x7⟩:=L.fly
 refine⟨C,a,d,del H ch,rfl,I.os,I.bare,u,k,hch a ha,j0r_ ha,⟨_,vs,T,oT,ts,x1,hc,hd,rfl,x2,Nat.le_trans I.sz x3,x4,?_,x5,x6,x7⟩,hE⟩
 have z:=I.hok.fresh x3
 by_cases hT:T∈ch
 ·exact j0r_ hT
 ·rw[eV hT];exact z
theorem aj:gj (cH P w) (cxOf (cH P w) P w K mg base N qual scope f cd A outer s0 H0 E) E:=by
 intro pins σ H s e s' I h
 obtain⟨C,a,d,H',rfl,os,bare,un,hok,za,ha,⟨oe,vs,T,oT,ts,x1,x2,x3,x4,x5,x6,x7,x8,x9,x10,x11⟩,hE⟩:=h
 have J:=I.call' (ch:=[]) os un hok bare (fun b z=>nomatch z)
 have sz:=I.sz
 have ck: ∀b∈[a,T],H' b=none:=fun b hb=>by
  rcases List.mem_cons.mp hb with z|z
  ·rw[z];exact ha
  ·rw[List.mem_singleton.mp z];exact x8
 refine leave_on (base:=base) J.ok.frames J.stack rfl x1 x4 x5 x7 x9 x10 x11 fun h' L=>?_
 refine j53_ J L (fun b hb=>?_) (fun b hb=> .inl (ck b hb)) List.mem_cons_self x2 x3 (by rw[del_same ck];exact hE)
 rcases List.mem_cons.mp hb with z|z
 ·rw[z];exact Nat.le_trans sz za
 ·rw[List.mem_singleton.mp z];exact Nat.le_trans sz x6
end
end OS
namespace OS
open PySem PySem.Spec L2
open PyProof.Rows hiding St
theorem fh {P:Program}{w:World}{K:PySem.W.Frag}{mg:Str->Option Value}{base:Heap}{x qual:Str}{st:Stmt}{f:Addr}{fd:FuncData}{N ps:List Str}{k:Nat}{sp:Sp}(F:Fun K x qual st f fd)
  (S:aw N ps (ak st)) (len: ∀vs H Q E,sp vs H Q E->vs.length=ps.length)
  (hbody: ∀(cdv:Value) (A:Around) (outer:List Env) (s:Shared) (H:Hp) (vs:List V) (Q:VK) (E:XK),dY k (A.deeper (envOfC qual (ak st) s.heap.objs.size f cdv))->sp vs H Q E->
   Bd (cxOf (cH P w) P w K mg base N qual (ak st) f cdv A outer s H E) (eT st) { nx:=fun _ H'=>Q .non H',rt:=Q } (start N vs) H):aJ P w K mg base (cH P w) (k+1) f fd ps sp:=by
 obtain⟨oc,od,kV,doc,pm,an,cdv,ct,osl,rfl,lk,hcd⟩:=F.ex
 exact fn_of lk hcd S len fun A outer s H vs Q E hr hsp=>hbody cdv A outer s H vs Q E hr hsp
def dh:List Str:=["__getattribute__","__getattr__","__setattr__","number","kind","line","column"]
def XO (h:Heap) (C N:Addr) (bm:List Value):Prop:= ∃(nm q:Str) (bs:List Value) (sn:List Str) (sub:List Value) (ab:Bool) (col:Option Bool) (dd:Option Addr) (k0 k1 k2 k3 k5:Option Value),h.get? C=some (excClassObj nm q C N bs bm true sn sub ab col dd k0 k1 k2 k3 k5 "Exception.__new__")
def XAt (h:Heap) (R C fI:Addr):Prop:= ∃(N:Addr) (mN:Str->Option Value) (oI:Obj) (NR:Addr) (mR:Str->Option Value),XO h C N (.ref R::dj)/\h.Ns N mN/\mN "__init__"=some (.ref fI)/\(∀n∈dh,mN n=none)/\h.get? fI=some oI/\oI.cls= .type "function"/\
 XO h R NR dj/\h.Ns NR mR/\ ∀n∈dh,mR n=none
structure gm (K:PySem.W.Frag) (R C fI:Addr):Prop where
 at_: ∀h:Heap,K.In h->XAt h R C fI
 kp:PySem.W.keepIn K (.ref C)=true
theorem up_R {R C:Addr} :Up (.ref R::dj) (.ref C:: .ref R::dj) "Exception":=
 ⟨by rw[List.contains_cons,List.contains_cons];rfl,by rw[List.contains_cons,List.contains_cons];rfl,by rw[List.contains_cons,List.contains_cons];rfl⟩
theorem base_R {R C:Addr} :(Value.ref C:: .ref R::dj).contains (.type "BaseException")=true:=by rw[List.contains_cons,List.contains_cons];rfl
theorem j23_ {M:Model}{A:Around}{E:Value->Shared->Prop}{s:Shared}{env:Env}{y:Sem Value}{Q:Flow->Shared->Prop}(hh:A.handled=none)
  (H:wpAny M A y (fun v s1=> ∃e oe vs R C fI,v= .ref e/\XAt s1.heap R C fI/\s1.heap.get? e=some oe/\oe.cls= .ref C/\oe.data= .fields vs/\vs[1]?=some .none/\E (.ref e) s1) E s):
  wpAny M A (raiseStmt env (some y) none) Q E s:=by
 unfold raiseStmt
 refine wpAny_bind (wpAny_mono H (fun v s1 h1=>?_) fun _ _ x=>x)
 obtain⟨e,oe,vs,R,C,fI,rfl,⟨Nn,mN,oI,NR,mR,⟨nm,q,bs,sn,sub,ab,col,dd,k0,k1,k2,k3,k5,hC⟩,_⟩,he,hc,hd,h1,hE⟩:=h1
 have hcB:=base_R (R:=R) (C:=C)
 obtain⟨hp,g,d,tk,os⟩:=s1
 repeat (first|(with_reducible refine wpAny_loadPart_at he ?_;rw[hc])|with_reducible refine wpAny_loadPart_at hC ?_|(with_reducible refine wpAny_isSubtype_exc hC ?_;rw[hcB])|with_reducible refine wpAny_field he hd h1 ?_|wp_step)
 exact wpAny_raiseNew_none hh hE
def xraw (C p:Addr):HO:= .ext fun h=> ∃T,h.get? p=some (dn C T)
def yt_ (C d p:Addr):HO:= .ext fun h=> ∃o vs,h.get? p=some o/\o.cls= .ref C/\o.dict=some d/\o.data= .fields vs/\vs[1]?=some .none
def cQ (d:Addr) (fs:List (Str×V)):HO:= .ext fun h=> ∃mA,h.Ns1 d mA/\(∀f,gi (fs.lookup f) (mA f))/\PySem.Within mA (fs.map (·.1))
def js_ (C:Addr) (g:List V->List (Str×V)->Prop):Sp:=fun vs H Q _=> ∃(p:Addr) (us:List V) (fs:List (Str×V)),vs= .ref p::us/\g us fs/\H p=some (xraw C p)/\
 ∀d,H d=none->Q .non (bg (bg H d (cQ d fs)) p (yt_ C d p))
def tRaise (C:Addr) (g:List V->List (Str×V)->Prop) (E:XK) (t:TA):TS:=fun _ σ H=>t σ H fun vs H1=>vs.length<=9/\ ∃fs,g vs fs/\ ∀d,H1 d=none->E (.ref C) (some d) (bg H1 d (cQ d fs))
def j27_ (X:Cx) (E:XK):Prop:= ∀(pins:List [001]) (σ:St) (H:Hp) (s:Shared) (C d a:Addr),aV X pins σ H s->H a=some (yt_ C d a)->X.s_0.heap.objs.size<=a->E (.ref C) (some d) (del H [a])->X.xe (.ref a) s
theorem j0l_ {P:Program}{w:World}{K:PySem.W.Frag}{mg:Str->Option Value}{base:Heap}{N:List Str}{qual:Str}{scope:Scope}{f:Addr}{cd:Value}{A:Around}{outer:List Env}{s0:Shared}{H0:Hp}{E:XK} :j27_ (cxOf (cH P w) P w K mg base N qual scope f cd A outer s0 H0 E) E:=by
 intro pins σ H s C d a I h z hE
 obtain⟨⟨o,ws,x1,x2,x3,x4,x5⟩,_⟩:=I.hok _ _ h
 refine j6t_ (base:=base) I.ok.frames I.stack rfl x1 x4 x5 fun h' L=>?_
 refine j53_ I L (fun b hb=>?_) (fun b hb=>?_) List.mem_cons_self x2 x3 hE
 ·rw[List.mem_singleton.mp hb]
  exact z
 ·rw[List.mem_singleton.mp hb]
  exact .inr ⟨_,h⟩
section
variable {X:Cx}{E:XK}{R C:Addr}{k:Nat}{fI:Addr}{fdI:FuncData}{ps:List Str}{x:Str}{np cpos pos:Pos}{e:Expr}{es:List Expr}{t:TA}{g:List V->List (Str×V)->Prop}
theorem j0a_ {pins:List [001]}{σ:St}{H1:Hp}{s1:Shared}{vs:List V}{us:List Value}{fs:List (Str×V)}(XR:j27_ X E) (XC:gm X.K R C fI) (F:aJ X.prog X.w X.K X.mg X.base dE k fI fdI ps (js_ C g)) (hr:dY (k+1) X.A) (hb:gN X.K fdI ps [])
  (I1:aV X pins σ H1 s1) (r:bL vs us) (lv:vs.length<=9) (hg:g vs fs) (qE: ∀d,H1 d=none->E (.ref C) (some d) (bg H1 d (cQ d fs))):
  wpAny (model X.prog X.w) X.A (call (.ref C) us) (fun v s1=> ∃e oe vs R C fI,v= .ref e/\XAt s1.heap R C fI/\s1.heap.get? e=some oe/\oe.cls= .ref C/\oe.data= .fields vs/\vs[1]?=some .none/\X.xe (.ref e) s1) X.xe s1:=by
 obtain⟨h1,g1,d1,t1,os1⟩:=s1
 obtain⟨Nn,mN,oI,NR,mR,⟨nm,q,bs,sn,sub,ab,col,dd,k0,k1,k2,k3,k5,hC⟩,hn,hni,hqN,hI,hIc,_⟩:=XC.at_ h1 I1.kIn
 have lu:us.length<=9:=by rw[<-r.length];exact lv
 have fr:H1 (h1.objs.size+1)=none:=I1.hok.fresh (Nat.le_succ _)
 have ge:((h1.push (eF us)).push (dn C h1.objs.size)).get? (h1.objs.size+1)=some (dn C h1.objs.size):=by heap_get
 have I2:aV X pins σ (bg H1 (h1.objs.size+1) (xraw C (h1.objs.size+1))) ⟨(h1.push (eF us)).push (dn C h1.objs.size),g1,d1,t1,os1⟩:=
  I1.laid (t':=t1) (fun b u z=>Heap.get?_push_of_some _ (Heap.get?_push_of_some _ z)) (Nat.le_succ _) ⟨⟨_,ge⟩,⟨_,ge⟩,fun _ _ ⟨T,z⟩ y=>⟨T,y _ z⟩⟩
 have r2:bL (V.ref (h1.objs.size+1)::vs) (Value.ref (h1.objs.size+1)::us):= .cons rfl r
 have hsp:js_ C g (V.ref (h1.objs.size+1)::vs) (bg H1 (h1.objs.size+1) (xraw C (h1.objs.size+1)))
   (fun v H'=>v= .non/\ ∃d,(bg H1 (h1.objs.size+1) (xraw C (h1.objs.size+1))) d=none/\H'=bg (bg (bg H1 (h1.objs.size+1) (xraw C (h1.objs.size+1))) d (cQ d fs)) (h1.objs.size+1) (yt_ C d (h1.objs.size+1))) E0:=
  ⟨_,vs,fs,rfl,hg,ah,fun d hd=>⟨rfl,d,hd,rfl⟩⟩
 have hl:(Value.ref (h1.objs.size+1)::us++[]).length=ps.length:=by
  have z:=r2.length
  rw[F.len _ _ _ _ hsp] at z
  rw[List.append_nil]
  exact z.symm
 have bb:=hb ⟨(h1.push (eF us)).push (dn C h1.objs.size),g1,d1,t1,os1⟩ (Value.ref (h1.objs.size+1)::us) I2.kIn hl
 rw[List.append_nil] at bb
 refine wpAny_call (call_own PySem.F.excBase_Exception up_R hC hn hni hI hIc (codeAny_mono (F.run _ X.stack _ _ ⟨Value.ref (h1.objs.size+1)::us,[]⟩ (Value.ref (h1.objs.size+1)::us) _ _ E0 (hr.make C us []) (I2.env0.make C us []) bb r2 hsp) fun r s' hq'=>?_) (by rw[sizeLine_eq];lia))
 cases r with
 |error e=>exact hq'.elim
 |ok fl=>
  cases fl with
  |next=>exact hq'.elim
  |brk=>exact hq'.elim
  |cont=>exact hq'.elim
  |ret u=>
   obtain⟨v,H',I3,rv,ev,d,hd,eH⟩:=I2.after hq'
   subst ev
   have np:d≠h1.objs.size+1:=fun z=>by rw[z,ah] at hd;cases hd
   rw[ag np] at hd
   have at3:H' (h1.objs.size+1)=some (yt_ C d (h1.objs.size+1)):=by rw[eH];exact ah
   obtain⟨⟨o,ws,x1,x2,x3,x4,x5⟩,_⟩:=I3.hok _ _ at3
   refine⟨rv,_,o,ws,R,C,fI,rfl,XC.at_ _ I3.kIn,x1,x2,x4,x5,XR pins σ H' _ C d _ I3 at3 (Nat.le_trans I1.sz (Nat.le_succ _)) ?_⟩
   have z:del H' [h1.objs.size+1]=bg H1 d (cQ d fs):=by
    funext b
    by_cases hb:b=h1.objs.size+1
    ·rw[j0r_ (by rw[hb];exact List.mem_cons_self),hb,ag np.symm,fr]
    ·rw[eV (by simpa using hb),eH,ag hb]
     by_cases hbd:b=d
     ·rw[hbd,ah,ah]
     ·rw[ag hbd,ag hbd,ag hb]
   rw[z]
   exact qE d hd
theorem j47_ (XR:j27_ X E) (XC:gm X.K R C fI) (F:aJ X.prog X.w X.K X.mg X.base dE k fI fdI ps (js_ C g)) (hr:dY (k+1) X.A) (hg:Gl X x) (hm:X.mg x=some (.ref C)) (hb:gN X.K fdI ps []) (ha:PA X (e::es) t)
  (hdb:[018]=false:=by decide) (he:starEach (e::es) X.env=[032]::starEach es X.env:=by rfl) (hpl:(backTo cpos [057]).any (·.1)=false:=by rfl):
  PS X (.Raise (some (.Call (.Name x np) (e::es) [] cpos)) none pos) (tRaise C g E t):=by
 rw[09]
 rw[arm_exec_Raise]
 refine wpAny_bind (wpAny_standAt (j23_ hr.hd (wpAny_bind (cJ ?_ fun v s1 hv=>wpAny_bind (wpAny_standAt (wpAny_pure hv))))))
 refine wpAny_Call_Name_kw (gE I hg hm ?_ hdb)
 refine PySem.W.callWith_K (h₀:=X.base) I.ok.mod.kin XC.kp (cJ (ha cpos pins s σ H _ I h) fun us s1 z=>?_) he hpl
 obtain⟨vs,H1,I1,r,lv,fs,hgv,qE⟩:=z
 exact⟨I1.kIn,j0a_ XR XC F hr hb I1 r lv hgv qE⟩
theorem j6e_ (XR:j27_ X E) (XC:gm X.K R C fI) (F:aJ X.prog X.w X.K X.mg X.base dE k fI fdI ps (js_ C g)) (hr:dY (k+1) X.A) (hg:Gl X x) (hm:X.mg x=some (.ref C)) (hb:gN X.K fdI ps [])
  (hdb:[018]=false:=by decide):PS X (.Raise (some (.Call (.Name x np) [] [] cpos)) none pos) (tRaise C g E jx_):=by
 rw[09]
 obtain⟨lv,fs,hgv,qE⟩:=h
 rw[arm_exec_Raise]
 refine wpAny_bind (wpAny_standAt (j23_ hr.hd (wpAny_bind (cJ ?_ fun v s1 hv=>wpAny_bind (wpAny_standAt (wpAny_pure hv))))))
 refine wpAny_Call_Name_kw (gE I hg hm ?_ hdb)
 exact PySem.W.callWith_K0 (I.kIn) XC.kp (j0a_ XR XC F hr hb I .nil lv hgv qE)
end
end OS
namespace OS
open PySem PySem.Spec L2
open PyProof.Rows hiding St
theorem fc_init (K:PySem.W.Frag):PySem.W.findCls K [042] (.type "type") "__init__"=some (.val (.builtin "Exception.__init__")):=by kernel_rfl
theorem ty_exc:typeOf [042]=pure (.type "type"):=by kernel_rfl
theorem stub_exc:Manifest.isStub "Exception"=false:=by decide+kernel
theorem boot_exc:bootBuiltins "Exception"=some [042]:=by decide+kernel
theorem upd_id {H:Hp}{a:Addr}{o:HO}(h:H a=some o):bg H a o=H:=by
 funext b
 by_cases e:b=a
 ·rw[e,ah,h]
 ·exact ag e
section
variable {X:Cx}{R C fI:Addr}{i:Nat}{x:Str}{p1 p2 apos cpos pos:Pos}
def tExcInit (C:Addr) (i:Nat):TS:=fun D σ H=> ∃p,σ[i]?=some (some (.ref p))/\H p=some (xraw C p)/\D.nx σ H
theorem j5v_ (XC:gm X.K R C fI) (hg:Gl X "Exception") (hm:X.mg "Exception"=none) (hx:PE X (.Name x p2) (d9 i))
  (hst:starEach [.Name x p2] X.env=[(false,eval (.Name x p2) X.env)]:=by rfl) (hs:swapsWith (.Call (.Attribute (.Name "Exception" p1) "__init__" apos) [.Name x p2] [] cpos) none pos.line X.env=pure false:=by rfl)
  {pl:Sem Bool}(ht:eval (.Call (.Attribute (.Name "Exception" p1) "__init__" apos) [.Name x p2] [] cpos) X.env=(do
   let ov<-eval (.Name "Exception" p1) X.env
   standAt apos.atName
   let (f,first)<-holding [ov] (getMethod ov "__init__" pl)
   callWith cpos f first (backTo cpos (starEach [.Name x p2] X.env)) (backToKw cpos [0022])):=by rfl):
  PS X (.Expr (.Call (.Attribute (.Name "Exception" p1) "__init__" apos) [.Name x p2] [] cpos) pos) (tExcInit C i):=by
 rw[09]
 obtain⟨p,hp,hH,hD⟩:=h
 refine wpAny_Expr_any ?_ I.quiet hs
 refine PySem.W.methodCall_KW (pl:=pl) (j3k_ I hg hm boot_exc ?_) ht
 obtain⟨m,Fr⟩:=I.fr
 refine PySem.W.method_type Fr I.mod.kin ty_exc stub_exc (fc_init X.K) rfl ?_
 have I0:aV X pins σ H { s with toks:=s.toks+1 } :=I.tok _
 refine PyProof.Rows.callWith_builtin1 (e:= .Name x p2) (rest:=[]) ?_ (by rw[hst];rfl) rfl
 rw[hst]
 refine Calls.spliced_cons (cJ (hx pins _ σ H (fun v H'=>v= .ref p/\H'=H) I0 (tv_of ⟨rfl,rfl⟩ hp)) fun u s1 z=>?_)
 obtain⟨v,H',I1,rv,e1,e2⟩:=z
 subst e1 e2
 cases rv
 refine Calls.spliced_nil ?_
 obtain⟨h1,g1,d1,t1,os1⟩:=s1
 obtain⟨⟨T,hT⟩,_⟩:=I1.hok _ _ hH
 obtain⟨Nn,mN,oI,NR,mR,⟨nm,q,bs,sn,sub,ab,col,dd,k0,k1,k2,k3,k5,hC⟩,_⟩:=XC.at_ h1 I1.kIn
 refine wpAny_call (j6y_ PySem.F.excBase_Exception up_R hC hT ?_)
 have gx:((h1.push (eF [])).update p (Obj.mapFields (·.setIfInBounds 0 (.ref h1.objs.size)))).get? p=some (dn C h1.objs.size):=
  Heap.get?_update_self _ (Heap.get?_push_of_some _ hT) rfl
 have J:aV X pins σ (bg H' p (xraw C p)) ⟨(h1.push (eF [])).update p (Obj.mapFields (·.setIfInBounds 0 (.ref h1.objs.size))),g1,d1,t1,os1⟩:=
  I1.write (x:=p) (e:=p) (t':=t1) (by rw[hH];exact True.intro) (.inl rfl) (fun b u hb z=>by rw[Heap.get?_update_other _ _ (Ne.symm hb)];exact Heap.get?_push_of_some _ z) ⟨_,gx⟩
   ⟨⟨_,gx⟩,⟨_,gx⟩,fun _ _ ⟨T,z⟩ y=>⟨T,y _ z⟩⟩
 rw[upd_id hH] at J
 exact⟨σ,H',J,hD⟩
end
structure CMeth (K:PySem.W.Frag) (R:Addr) (m:Str) (f:Addr):Prop where
 sp:PySem.W.specialIn K (.ref R) "__getattribute__"=some (some (.builtin "type.__getattribute__"))
 ty:PySem.W.typeIn K (.ref R)=some (.type "type")
 rd:PySem.W.readsIn K R (.type "type")=true
 fc:PySem.W.findCls K (.ref R) (.type "type") m=some (.val (.ref f))
 kp:PySem.W.keepIn K (.ref f)=true
section
variable {X:Cx}{CX:CXT}{R f:Addr}{fd:FuncData}{k:Nat}{ps:List Str}{sp:Sp}{m x:Str}{p1 apos pos:Pos}{e:Expr}{es:List Expr}{t:TA}{ds:List Value}{dvs:List V}{E:XK}
theorem j3z_ {pl:Sem Bool}(hg:Gl X x) (hm:X.mg x=some (.ref R)) (c:CMeth X.K R m f) (F:aJ X.prog X.w X.K X.mg X.base CX k f fd ps sp) (hr:dY k X.A) (hb:gN X.K fd ps ds) (hd:bL dvs ds) (hx:gj CX X E) (ha:PA X (e::es) t)
  (hdb:[018]=false:=by decide) (hst:starEach (e::es) X.env=[032]::starEach es X.env:=by rfl) (hpl:[0020].any (·.1)=false:=by rfl)
  (ht:eval (.Call (.Attribute (.Name x p1) m apos) (e::es) [] pos) X.env=(do
   let ov<-eval (.Name x p1) X.env
   standAt apos.atName
   let (f,first)<-holding [ov] (getMethod ov m pl)
   callWith pos f first (backTo pos (starEach (e::es) X.env)) (backToKw pos [0022])):=by rfl):
  PE X (.Call (.Attribute (.Name x p1) m apos) (e::es) [] pos) (yo_ sp dvs E t):=by
 rw[02]
 refine PySem.W.methodCall_KW (pl:=pl) (gE I hg hm ?_ hdb) ht
 obtain⟨mm,Fr⟩:=I.fr
 refine PySem.W.method_of_cls Fr I.mod.kin c.sp (PySem.W.cls_val Fr I.mod.kin c.ty c.rd c.fc rfl ?_)
 have I0:aV X pins σ H { s with toks:=s.toks+1 } :=I.tok _
 refine PySem.W.callWith_K (first:=[]) (h₀:=X.base) I.ok.mod.kin c.kp (cJ (ha pos pins _ σ H _ I0 h) fun us s1 ⟨vs,H1,I1,r,q⟩=>⟨I1.kIn,?_⟩) hst hpl
 exact j29_ F hr hb hd hx I1 r q
end
end OS
namespace OS
open PySem PySem.Spec L2
open PyProof.Rows hiding St
theorem jc_:("__setattr__":Str)∈dh:=by decide+kernel
theorem j1j_:("__getattribute__":Str)∈dh:=by decide+kernel
theorem wu_:("__getattr__":Str)∈dh:=by decide+kernel
theorem XAt.la {h:Heap}{R C fI:Addr}{B:String}{n:Str}{y:Option Value}(X:XAt h R C fI) (m:mroOf (.type B)=pure dj) (q:n∈dh) (l:typeLookup (.type B) n=pure y):LA h (.ref R::dj) n y:=by
 obtain⟨_,_,_,_,_,_,_,_,_,_,_,⟨_,_,_,_,_,_,_,_,_,_,_,_,_,hR⟩,nR,qR⟩:=X
 exact LA.own hR nR (qR n q) (LA.of m l)
section
variable {X:Cx}{pins:List (Addr×Obj)}{σ:St}{H:Hp}{s:Shared}{R C fI p d:Addr}{f:Str}{y:V}{u:Value}{A:Around}{E:Value->Shared->Prop}{Q:Unit->Shared->Prop}{fs:List (Str×V)}{sa owner B:String}
theorem qg_ {h:Heap}{mA:Str->Option Value}(n:h.Ns1 d mA) (r: ∀g,gi (fs.lookup g) (mA g)) (wi:PySem.Within mA (fs.map (·.1))):cE X.prog X.w H h d (cQ d fs):=by
 obtain⟨o,es,ep,e,z⟩:=id n
 exact⟨⟨mA,n,r,wi⟩,⟨o,e⟩,fun h1 h2 ⟨m,n1,q1⟩ k=>⟨m,n1.at k,q1⟩⟩
theorem xset0_ok (XC:gm X.K R C fI) (SF:StoreFacts B dj sa owner) (hf:f∈dh) (hB:typeLookup (.type B) f=pure none) (I:aV X pins σ H s) (e:H p=some (xraw C p)) (ry:bE y u)
  (h: ∀d s',H d=none->aV X pins σ (bg (bg H d (cQ d [(f,y)])) p (yt_ C d p)) s'->Q () s'):wpAny (model X.prog X.w) A (setAttr (.ref p) f u) Q E s:=by
 have XA:=XC.at_ _ I.kIn
 obtain⟨⟨T,hT⟩,_⟩:=I.hok _ _ e
 obtain⟨h1,g1,d1,t1,os1⟩:=s
 obtain⟨Nn,mN,oI,NR,mR,⟨nm,q,bs,sn,sub,ab,col,dd,k0,k1,k2,k3,k5,hC⟩,nsK,hni,hqN,_⟩:=id XA
 refine exc_set SF hC nsK (hqN _ jc_) (XA.la SF.mro jc_ SF.slot.lookup) hT rfl fun tk t=>exc_put0 SF hC nsK (hqN _ hf) (XA.la SF.mro hf hB) hT rfl rfl rfl fun h' tk' k kx kn=>⟨rfl,?_⟩
 have fr:H h1.objs.size=none:=I.hok.fresh [007]
 have np:h1.objs.size≠p:=fun z=>by rw[z,e] at fr;cases fr
 refine h h1.objs.size _ fr ?_
 have gd:(h1.push { cls:= .type "dict",data:= .dict #[] }).get? h1.objs.size=some { cls:= .type "dict",data:= .dict #[] } :=Heap.get?_push_size _ rfl
 have n0:(h1.push { cls:= .type "dict",data:= .dict #[] }).Ns h1.objs.size (fun _=>none):=⟨_, #[],_,gd,rfl,(fun e he=>absurd he [022]),fun _=>rfl⟩
 have I1:aV X pins σ (bg H h1.objs.size (cQ h1.objs.size [])) ⟨h1.push { cls:= .type "dict",data:= .dict #[] },g1,d1,tk',os1⟩:=
  I.laid (t':=tk') (fun b u z=>Heap.get?_push_of_some _ z) [007] (qg_ (Heap.Ns1.of_empty n0) (fun _=>True.intro) fun g hg=>absurd rfl hg)
 have hp1:(h1.push { cls:= .type "dict",data:= .dict #[] }).get? p=some (dn C T):=Heap.get?_push_of_some _ hT
 have gp:((h1.push { cls:= .type "dict",data:= .dict #[] }).update p fun o=> { o with dict:=some h1.objs.size }).get? p=some { dn C T with dict:=some h1.objs.size } :=Heap.get?_update_self _ hp1 rfl
 have I2:aV X pins σ (bg (bg H h1.objs.size (cQ h1.objs.size [])) p (yt_ C h1.objs.size p)) ⟨(h1.push { cls:= .type "dict",data:= .dict #[] }).update p fun o=> { o with dict:=some h1.objs.size },g1,d1,tk',os1⟩:=
  I1.write (x:=p) (e:=p) (t':=tk') (by rw[ag np.symm,e];exact True.intro) (.inl rfl) (fun b u hb z=>by rw[Heap.get?_update_other _ _ (Ne.symm hb)];exact z) ⟨_,gp⟩
   ⟨⟨_,_,gp,rfl,rfl,rfl,rfl⟩,⟨_,gp⟩,fun _ _ ⟨o,vs,z,r⟩ k=>⟨o,vs,k _ z,r⟩⟩
 obtain⟨od,_,_,hod,_⟩:=id kn
 have I3:aV X pins σ (bg (bg (bg H h1.objs.size (cQ h1.objs.size [])) p (yt_ C h1.objs.size p)) h1.objs.size (cQ h1.objs.size [(f,y)])) ⟨h',g1,d1,tk',os1⟩:=by
  refine I2.write (x:=h1.objs.size) (e:=h1.objs.size) (t':=tk') (by rw[ag np,ah];exact True.intro) (.inl rfl) (fun b v hb z=>?_) ⟨_,hod⟩ (qg_ kn (fun g=>?_) fun g hg=>?_)
  ·by_cases bp:b=p
   ·rw[bp] at z ⊢
    rw[gp] at z
    rw[kx,<-z]
   ·rw[Heap.get?_update_other _ _ (Ne.symm bp)] at z
    refine k b v bp ?_
    rcases Heap.get?_push_cases z with⟨z1,_⟩|z1
    ·exact absurd z1 hb
    ·exact z1
  ·show gi (List.lookup g [(f,y)]) (if g=f then some u else none)
   by_cases gf:g=f
   ·rw[gf,if_pos rfl]
    simp only[List.lookup,beq_self_eq_true]
    exact ry
   ·rw[if_neg gf,List.lookup,show(g == f)=false from beq_eq_false_iff_ne.mpr gf]
    exact True.intro
  ·by_cases gf:g=f
   ·rw[gf];exact List.mem_cons_self
   ·exact absurd (if_neg gf) hg
 have eH:bg (bg (bg H h1.objs.size (cQ h1.objs.size [])) p (yt_ C h1.objs.size p)) h1.objs.size (cQ h1.objs.size [(f,y)])=bg (bg H h1.objs.size (cQ h1.objs.size [(f,y)])) p (yt_ C h1.objs.size p):=by
  funext b
  by_cases b1:b=h1.objs.size
  ·rw[b1,ah,ag np,ah]
  ·by_cases b2:b=p
   ·rw[b2,ag np.symm,ah,ah]
   ·rw[ag b1,ag b2,ag b1,ag b2,ag b1]
 rw[eH] at I3
 exact I3
theorem xset1_ok (XC:gm X.K R C fI) (SF:StoreFacts B dj sa owner) (hf:f∈dh) (hB:typeLookup (.type B) f=pure none) (I:aV X pins σ H s) (e:H p=some (yt_ C d p)) (ed:H d=some (cQ d fs)) (hl:fs.length<1000) (ry:bE y u)
  (h: ∀s',aV X pins σ (bg H d (cQ d (putF f y fs))) s'->Q () s'):wpAny (model X.prog X.w) A (setAttr (.ref p) f u) Q E s:=by
 have XA:=XC.at_ _ I.kIn
 obtain⟨⟨o,vs,x1,x2,x3,x4,x5⟩,_⟩:=I.hok _ _ e
 obtain⟨⟨mA,n,r,wi⟩,_⟩:=I.hok _ _ ed
 obtain⟨h1,g1,d1,t1,os1⟩:=s
 obtain⟨Nn,mN,oI,NR,mR,⟨nm,q,bs,sn,sub,ab,col,dd,k0,k1,k2,k3,k5,hC⟩,nsK,hni,hqN,_⟩:=id XA
 have dp:d≠p:=fun z=>by
  obtain⟨o',es,ep,z1,z2,_⟩:=n
  rw[z,x1] at z1
  have y:=Option.some.inj z1
  rw[<-y,x4] at z2
  cases z2
 have hz:(fs.map (·.1)).length<=1000:=by rw[List.length_map];lia
 refine exc_set SF hC nsK (hqN _ jc_) (XA.la SF.mro jc_ SF.slot.lookup) x1 x2 fun tk t=>exc_put1 SF hC nsK (hqN _ hf) (XA.la SF.mro hf hB) x1 x2 x3 n wi hz fun h' tk' k kn=>⟨rfl,?_⟩
 obtain⟨od,_,_,hod,_⟩:=id kn
 refine h _ (I.write (x:=d) (e:=d) (t':=tk') (by rw[ed];exact True.intro) (.inl rfl) k ⟨_,hod⟩ (qg_ kn (fun g=>?_) fun g hg=>?_))
 ·rw[j0_]
  by_cases gf:g=f
  ·rw[if_pos gf,if_pos gf];exact ry
  ·rw[if_neg gf,if_neg gf];exact r g
 ·by_cases gf:g=f
  ·rw[gf];exact(fK f y fs).1
  ·refine(fK f y fs).2 g (wi g fun z=>hg ?_)
   show(if g=f then some u else mA g)=none
   rw[if_neg gf];exact z
theorem xget_ok {b:Bool}{v:V}{Q:Value->Shared->Prop}{φ:Heap->Prop}(XC:gm X.K R C fI) (hf:f∈dh) (hB:typeLookup [042] f=pure none) (I:aV X pins σ H s)
  (e: ∃o vs,s.heap.get? p=some o/\o.cls= .ref C/\o.dict=some d/\o.data= .fields vs) (ed:H d=some (cQ d fs)) (l:fs.lookup f=some v)
  (h: ∀u s',aV X pins σ H s'->bE v u->Q u s'):wpAny (model X.prog X.w) A (getAttr (.ref p) f b) Q E s:=by
 have XA:=XC.at_ _ I.kIn
 obtain⟨o,vs,x1,x2,x3,x4⟩:=e
 obtain⟨⟨mA,n,r,wi⟩,_⟩:=I.hok _ _ ed
 obtain⟨h1,g1,d1,t1,os1⟩:=s
 obtain⟨Nn,mN,oI,NR,mR,⟨nm,q,bs,sn,sub,ab,col,dd,k0,k1,k2,k3,k5,hC⟩,nsK,hni,hqN,_⟩:=id XA
 have dp:d≠p:=fun z=>by
  obtain⟨o',es,ep,z1,z2,_⟩:=n
  rw[z,x1] at z1
  have y:=Option.some.inj z1
  rw[<-y,x4] at z2
  cases z2
 have nc: ∀c,o.data≠ .cls c:=fun c z=>by rw[x4] at z;cases z
 have I0:h1.Inst p C mA:=⟨o,x1,x2,nc, .inr ⟨d,x3,dp,n⟩⟩
 obtain⟨u,hu,ru⟩:=gi.some_of (v:=v) (o:=mA f) (by rw[<-l];exact r f)
 exact exc_get base_R (XA.la PySem.F.store_Exception.mro j1j_ lk_ga) (XA.la PySem.F.store_Exception.mro wu_ lk_gh) (hC) nsK (hqN _ j1j_) (hqN _ wu_) (hqN _ hf) (XA.la PySem.F.store_Exception.mro hf hB) I0 hu (PySem.W.handedOut_of (j1r_ ru)) (h u _ (I.tok _) ru)
end
section
variable {X:Cx}{R C fI:Addr}{o value:Expr}{f:Str}{pos pos':Pos}{ta tv:TE}{sa owner:String}
def sX0 (C:Addr) (ta tv:TE) (f:Str):TS:=fun D σ H=>tv σ H fun y H1=>ta σ H1 fun x H2=> ∃p,x= .ref p/\H2 p=some (xraw C p)/\ ∀d,H2 d=none->D.nx σ (bg (bg H2 d (cQ d [(f,y)])) p (yt_ C d p))
def sX1 (C:Addr) (ta tv:TE) (f:Str):TS:=fun D σ H=>tv σ H fun y H1=>ta σ H1 fun x H2=> ∃p d fs,x= .ref p/\H2 p=some (yt_ C d p)/\H2 d=some (cQ d fs)/\fs.length<1000/\D.nx σ (bg H2 d (cQ d (putF f y fs)))
theorem ps_x0 (XC:gm X.K R C fI) (SF:StoreFacts "Exception" dj sa owner) (hf:f∈dh) (hB:typeLookup [042] f=pure none) (ha:PE X o ta) (hv:PE X value tv)
  (hs:swapsWith value (some (.Attribute o f pos')) pos.line X.env=pure false):PS X (.Assign [.Attribute o f pos'] value pos) (sX0 C ta tv f):=by
 rw[09]
 refine plainObj_wpAny_Assign_Attribute (cJ (hv pins s σ H _ I h) fun u s1 ⟨y,H1,I1,ry,q⟩=>cJ (ha pins s1 σ H1 _ I1 q) fun ov s2 ⟨x,H2,I2,rx,p,ex,ea,q2⟩=>?_) hs
 subst ex
 obtain rfl:ov=Value.ref p:=rx
 exact xset0_ok XC SF hf hB I2 ea ry fun d s3 hd I3=>⟨σ,_,I3,q2 d hd⟩
theorem ps_x1 (XC:gm X.K R C fI) (SF:StoreFacts "Exception" dj sa owner) (hf:f∈dh) (hB:typeLookup [042] f=pure none) (ha:PE X o ta) (hv:PE X value tv)
  (hs:swapsWith value (some (.Attribute o f pos')) pos.line X.env=pure false):PS X (.Assign [.Attribute o f pos'] value pos) (sX1 C ta tv f):=by
 rw[09]
 refine plainObj_wpAny_Assign_Attribute (cJ (hv pins s σ H _ I h) fun u s1 ⟨y,H1,I1,ry,q⟩=>cJ (ha pins s1 σ H1 _ I1 q) fun ov s2 ⟨x,H2,I2,rx,p,d,fs,ex,ea,ed,l,q2⟩=>?_) hs
 subst ex
 obtain rfl:ov=Value.ref p:=rx
 exact xset1_ok XC SF hf hB I2 ea ed l ry fun s3 I3=>⟨σ,_,I3,q2⟩
end
end OS
namespace OS
open PySem PySem.Spec L2
open PyProof.Rows hiding St
abbrev tryc (X:Cx) (pins:List [001]) (Ew:Value->Shared->Prop):Cx:= { X with pn:=X.pn++pins,xe:=Ew }
abbrev hnd (X:Cx) (a:Addr):Cx:= { X with A:=X.A.mark (some (.ref a)),calm:=false,xe:=fun _ _=>False }
section
variable {X:Cx}{pins pins':List (Addr×Obj)}{σ:St}{H:Hp}{s:Shared}{Ew:Value->Shared->Prop}{a:Addr}
theorem inv_tryc (I:aV X pins σ H s):aV (tryc X pins Ew) [] σ H s:=
 ⟨⟨I.ok.mod,I.ok.kind,I.ok.glob,I.ok.blt,I.ok.above,I.ok.inj,I.ok.has,I.ok.cab,I.ok.hd,I.ok.frames,I.ok.stk,I.ok.exf,I.ok.bs,I.ok.bsz,I.ok.noex,I.ok.exfs,I.ok.funs,I.ok.frf⟩,I.os,I.bare,I.base,I.loc,I.cell,I.free,I.freeC,
  fun p hp=>I.pin p (by rw[List.append_nil] at hp;exact hp),I.hok,I.len⟩
theorem eQ (I:aV (tryc X pins Ew) pins' σ H s):aV X pins σ H s:=
 ⟨⟨I.ok.mod,I.ok.kind,I.ok.glob,I.ok.blt,I.ok.above,I.ok.inj,I.ok.has,I.ok.cab,I.ok.hd,I.ok.frames,I.ok.stk,I.ok.exf,I.ok.bs,I.ok.bsz,I.ok.noex,I.ok.exfs,I.ok.funs,I.ok.frf⟩,I.os,I.bare,I.base,I.loc,I.cell,I.free,I.freeC,
  fun p hp=>I.pin p (List.mem_append_left _ hp),I.hok,I.len⟩
theorem inv_hnd (I:aV X pins σ H s):aV (hnd X a) pins σ H s:=
 ⟨⟨I.ok.mod,I.ok.kind,I.ok.glob,I.ok.blt,I.ok.above,I.ok.inj,I.ok.has,I.ok.cab,fun z=>Bool.noConfusion z,I.ok.frames,I.ok.stk,I.ok.exf,I.ok.bs,I.ok.bsz,I.ok.noex,I.ok.exfs,I.ok.funs,I.ok.frf⟩,I.os,I.bare,I.base,I.loc,I.cell,I.free,I.freeC,
  I.pin,I.hok,I.len⟩
theorem j77_ (ok:X.Ok) (I:aV (hnd X a) pins σ H s):aV X pins σ H s:=⟨ok,I.os,I.bare,I.base,I.loc,I.cell,I.free,I.freeC,I.pin,I.hok,I.len⟩
theorem yw_ {D:fi}{f:Flow}{s':Shared}(h:SP (tryc X pins Ew) pins' D f s'):SP X pins D f s':=by
 cases f with
 |next=>obtain⟨σ',H',I,q⟩:=h;exact⟨σ',H',eQ I,q⟩
 |brk=>obtain⟨σ',H',I,q⟩:=h;exact⟨σ',H',eQ I,q⟩
 |cont=>obtain⟨σ',H',I,q⟩:=h;exact⟨σ',H',eQ I,q⟩
 |ret u=>obtain⟨v,σ',H',I,r,q⟩:=h;exact⟨v,σ',H',eQ I,r,q⟩
theorem j6o_ {o:HO}(I:aV X pins σ H s) (hn:H a=none) (z:X.s_0.heap.objs.size<=a) (nl:a≠X.env.locals) (nc: ∀x c,X.env.cells.lookup x=some c->c≠a) (np: ∀p∈X.pn++pins,p.1≠a)
  (new:cE X.prog X.w (bg H a o) s.heap a o):aV X pins σ (bg H a o) s:=by
 have ne: ∀b u,H b=some u->b≠a:=fun b u e y=>by rw[y,hn] at e;cases e
 refine I.step (h':=s.heap) (g':=s.gens) (t':=s.toks) (d':=s.drawn) (ch:=[a]) (fun b hb=>?_) (fun b o _ _ _ e _=>e) (fun b o _ _ _ e _=>⟨o.slots,e⟩) (fun b o hb e y=>?_) (fun b o _ e=>⟨o,e⟩) (fun b xs e=>?_) (fun b o u e=>?_) (fun b ps e=>⟨#[],?_⟩) (fun m y=>y) (fun b u e=>?_) I.bare
 ·rw[List.mem_singleton.mp hb];exact⟨.inr z,nl,nc,np⟩
 ·rw[ag (fun y=>hb (by rw[y];exact List.mem_cons_self))];exact y
 ·rw[ag (ne b _ e)];exact e
 ·rw[ag (ne b _ e)];exact e
 ·rw[ag (ne b _ e),e];simp
 ·by_cases hb:b=a
  ·rw[hb,ah] at e
   rw[hb,<-Option.some.inj e]
   exact new
  ·rw[ag hb] at e
   exact(I.hok b u e).stay (fun c v _ q=>q) (fun c q=>by rw[ag (ne c _ q)];exact q) fun c xs q=>by rw[ag (ne c _ q)];exact q
theorem inv_gone {h':Heap}{m:Str->Option Value}{t:Nat}(I:aV X pins σ H s) (hn:h'.Ns X.env.locals m) (hs:Heap.SameBut X.env.locals s.heap h'):aV X pins (List.replicate X.N.length none) H { s with heap:=h',toks:=t } :=by
 have W:aV X pins (List.replicate X.N.length none) H s:=I.weak (by rw[List.length_replicate];exact I.len.symm) fun i v e=>by
  rw[List.getElem?_replicate] at e
  split at e<;>cases e
 have nL: ∀b u,H b=some u->b≠X.env.locals:=fun b u e y=>by rw[y,I.free] at e;cases e
 obtain⟨ol,_,_,hol,_⟩:=id hn
 refine⟨W.ok,W.os,W.bare,⟨fun b o e n hb hx=>?_,fun b o e n hb hx=>?_,W.base.free,fun b o e hx=>?_,W.base.tups,W.base.frzs,W.base.tbls⟩,⟨m,hn,fun i x v _ e _=>?_⟩,fun x c e=>?_,W.free,W.freeC,fun p hp=>?_,fun b u e=>?_,W.len⟩
 ·exact [094].trans (W.base.keep b o e n hb hx)
 ·obtain⟨sl,y⟩:=W.base.slot b o e n hb hx
  exact⟨sl,[094].trans y⟩
 ·obtain⟨o',y⟩:=W.base.there b o e hx
  exact⟨o',[094].trans y⟩
 ·rw[List.getElem?_replicate] at e
  split at e<;>cases e
 ·obtain⟨v,o,y,yd⟩:=I.cell x c e
  exact⟨v,o,(hs.2 c (I.cne x c e)).trans y,yd⟩
 ·obtain⟨e1,e2,e3,e4⟩:=I.pin p hp
  exact⟨(hs.2 p.1 e3).trans e1,e2,e3,e4⟩
 ·refine(I.hok b u e).stay (fun c v hc q=>(hs.2 c ?_).trans q) (fun _ q=>q) fun _ _ q=>q
  rcases hc with y|y
  ·rw[y];exact nL b u e
  ·exact nL c _ y
end
end OS
namespace OS
open PySem PySem.Spec L2
open PyProof.Rows hiding St
structure Own (X:Cx) (pins:List [001]) (b:Addr):Prop where
 z:X.s_0.heap.objs.size<=b
 nl:b≠X.env.locals
 nc: ∀x c,X.env.cells.lookup x=some c->c≠b
 np: ∀p∈X.pn++pins,p.1≠b
theorem own_of {X:Cx}{pins:List [001]}{σ:St}{H:Hp}{s:Shared}{b:Addr}(I:aV X pins σ H s) (hb:s.heap.objs.size<=b):Own X pins b:=by
 refine⟨Nat.le_trans I.sz hb,Nat.ne_of_gt (Nat.lt_of_lt_of_le I.lt hb),fun x c e z=>?_,fun p hp z=>?_⟩
 ·obtain⟨v,q⟩:=I.cell x c e
  exact absurd (Nat.lt_of_lt_of_le q.lt (by rw[z];exact hb)) [048]
 ·exact absurd (Nat.lt_of_lt_of_le (Heap.lt_size (I.pin p hp).1) (by rw[z];exact hb)) [048]
def yz_ (C d a:Addr):HO:= .ext fun h=> ∃o vs,h.get? a=some o/\o.cls= .ref C/\o.dict=some d/\o.data= .fields vs
structure Come (X:Cx) (pins:List [001]) (H:Hp) (h:Heap) (C d a:Addr):Prop where
 own:Own X pins a
 no:H a=none
 ex: ∃oe vs T oT ts,h.get? a=some oe/\oe.cls= .ref C/\oe.dict=some d/\oe.data= .fields vs/\vs[1]?=some (.ref T)/\T≠a/\H T=none/\Own X pins T/\h.get? T=some oT/\oT.data= .fields ts/\ts[3]?=some .none
abbrev tryE (X:Cx) (hs:List ExceptHandler) (Q:Flow->Shared->Prop):Value->Shared->Prop:=fun e s1=>wpAny (model X.prog X.w) X.A (noteFrame e X.env) (fun _ s2=>wpAny (model X.prog X.w) X.A (setFlight e none) (fun _ s3=>wpAny (model X.prog X.w) X.A (handleBy e X.env hs) Q X.xe s3) X.xe s2) X.xe s1
section
variable {X:Cx}{pins:List (Addr×Obj)}{hs:List ExceptHandler}{Q:Flow->Shared->Prop}{Ek:XK}
theorem come_in (hst:X.stack=X.env::X.outer) (hfr:X.env.frame=some X.env.locals)
  (hh: ∀(C a d:Addr) (σ:St) (H:Hp) (s:Shared),aV X pins σ H s->Come X pins H s.heap C d a->Ek (.ref C) (some d) H->wpAny (model X.prog X.w) X.A (handleBy (.ref a) X.env hs) Q X.xe s):
  gj (cH X.prog X.w) (tryc X pins (tryE X hs Q)) Ek:=by
 intro pins' σ H s e s' I h
 obtain⟨C,a,d,H',rfl,os,bare,un,hok,za,ha,⟨oe,vs,T,oT,ts,x1,x2,x3,x4,x5,x6,x7,x8,x9,x10,x11⟩,hE⟩:=h
 have J0:=I.call' (ch:=[]) os un hok bare (fun b z=>nomatch z)
 have J:aV X pins σ H' s':=eQ J0
 have oa:Own X pins a:=own_of (eQ I) za
 have oT':Own X pins T:=own_of (eQ I) x6
 have fr:X.A.frames=some (X.env::X.outer):=by rw[J.ok.frames,hst]
 have st:s'.heap.FunFrames X.base (X.env::X.outer):=by rw[<-hst];exact J.stack
 show wpAny (model X.prog X.w) X.A (noteFrame (.ref a) X.env) _ _ s'
 refine look_on (base:=X.base) fr st hfr x1 x4 x5 x7 x9 x10 x11 fun h' L=>?_
 have ck: ∀b∈[a,T],H' b=none:=fun b hb=>by
  rcases List.mem_cons.mp hb with z|z
  ·rw[z];exact ha
  ·rw[List.mem_singleton.mp z];exact x8
 have fq:(X.env::X.outer).filterMap (·.frame)=frs X.stack:=by rw[hst];rfl
 rw[fq] at L
 have hk:gP X.prog X.w H' h':=fun b u e=>by
  refine(J.hok b u e).stay (fun c v hc q=>L.keep c v (fun z=>?_) (fun z=>?_) q) (fun _ q=>q) fun _ _ q=>q
  ·have y:=J.stkFree c z
   rcases hc with w1|w1
   ·rw[w1,e] at y;cases y
   ·rw[w1] at y;cases y
  ·have y:=ck c z
   rcases hc with w1|w1
   ·rw[w1,e] at y;cases y
   ·rw[w1] at y;cases y
 have K1:aV X pins σ H' { s' with heap:=h' } :=by
  refine J.call (g':=s'.gens) (t':=s'.toks) (d':=s'.drawn) (ch:=[a,T]) ⟨fun b o e n hb hx=>L.keep b o hb hx e,fun b o e n hb hx=>L.slot b o hb hx e,fun b o e n hx=>n,fun b o e hx=>L.there b o e,fun _ _ e=>e,fun _ _ _ e=>e,fun b ps e=>⟨#[],by rw[e];simp⟩⟩ hk J.bare fun b hb=>?_
  rcases List.mem_cons.mp hb with z|z
  ·rw[z];exact⟨.inr oa.z,oa.nl,oa.nc,oa.np⟩
  ·rw[List.mem_singleton.mp z];exact⟨.inr oT'.z,oT'.nl,oT'.nc,oT'.np⟩
 obtain⟨ws,T2,oT2,ts2,y1,y2,y3,y4,y5,y6,y7⟩:=L.fly
 exact hh C a d σ H' _ K1 ⟨oa,ha,_,ws,T2,oT2,ts2,y1,x2,x3,rfl,y2,y4,J.hok.fresh y3,own_of J y3,y5,y6,y7⟩ hE
end
section
variable {X:Cx}{pins:List (Addr×Obj)}{R G C fI a d:Addr}{σ:St}{H:Hp}{s:Shared}{D:fi}{x n:Str}{np hpos:Pos}{b0:Stmt}{suite:List Stmt}{th:TS}{i:Nat}
def Catch (R G C:Addr):Prop:=G=C\/G=R
theorem exc_self (XC:gm X.K R C fI) (hG:Catch R G C) {M:Model}{A:Around}{E:Value->Shared->Prop}{Q:Bool->Shared->Prop}(I:aV X pins σ H s) (cm:Come X pins H s.heap C d a) (q:Q true s):wpAny M A (excMatches (.ref a) (.ref G)) Q E s:=by
 obtain⟨Nn,mN,oI,NR,mR,⟨nm,qq,bs,sn,sub,ab,col,dd,k0,k1,k2,k3,k5,hC⟩,_,_,_,_,_,⟨nm',qq',bs',sn',sub',ab',col',dd',k0',k1',k2',k3',k5',hR⟩,_⟩:=XC.at_ _ I.kIn
 obtain⟨oe,vs,T,oT,ts,y1,y2,_⟩:=cm.ex
 obtain⟨h1,g1,d1,t1,os1⟩:=s
 rcases hG with rfl|rfl
 ·exact wpAny_excMatches_sub_self hC y1 y2 (by rw[List.contains_cons];rfl) q
 ·have u1:(Value.ref G::dj).contains (.type "BaseException")=true:=by rw[List.contains_cons];rfl
  have u2:(Value.ref C:: .ref G::dj).contains (.ref G)=true:=by simp
  have f:=tc_notTuple
  unfold excMatches
  repeat (first|(with_reducible refine wpAny_loadPart_at y1 ?_;rw[y2])|with_reducible refine wpAny_loadPart_at hR ?_|(with_reducible refine wpAny_isSubtype_exc hR ?_;rw[u1])|(with_reducible refine wpAny_isSubtype_exc hC ?_;rw[u2])|wp_step)
  exact q
theorem j60_ {M:Model}{A:Around}{E:Value->Shared->Prop}{Q:Unit->Shared->Prop}(I:aV X pins σ H s) (cm:Come X pins H s.heap C d a)
  (h: ∀s',aV X pins σ H s'->(∃o vs,s'.heap.get? a=some o/\o.cls= .ref C/\o.dict=some d/\o.data= .fields vs)->Q () s'):wpAny M A (setFlight (.ref a) none) Q E s:=by
 obtain⟨oe,vs,T,oT,ts,y1,y2,y3,y4,y5,y6,y7,y8,y9,y10,y11⟩:=cm.ex
 refine wpAny_setFlight_none y1 y4 y5 y9 y10 (Array.getElem?_eq_some_iff.mp y11).1 (h _ (I.turned (it:=T) (t':=s.toks) (fun b o hb e=>by rw[Heap.get?_update_other _ _ (Ne.symm hb)];exact e) y7 y8.nl (.inr y8.z) y8.nc y8.np) ?_)
 exact⟨oe,vs,by show(s.heap.update T _).get? a=_;rw[Heap.get?_update_other _ _ y6];exact y1,y2,y3,y4⟩
theorem hnd_as (XC:gm X.K R C fI) (hG:Catch R G C) (hg:Gl X x) (hm:X.mg x=some (.ref G)) (hN:X.N.Nodup) (hi:X.N[i]?=some n) (hl:X.env.scope.names.lookup n=some .local) (hs:PSs (hnd X a) (b0::suite) th)
  (I:aV X pins σ H s) (cm:Come X pins H s.heap C d a) (hr:th ⟨fun _ _=>False,D.rt,fun _ _=>False,fun _ _=>False⟩ ((List.replicate X.N.length none).set i (some (.ref a))) (bg H a (yz_ C d a)))
  (hdb:[018]=false:=by decide):
  wpAny (model X.prog X.w) X.A (handleBy (.ref a) X.env [.ExceptHandler (some (.Name x np)) (some n) (b0::suite) hpos]) (SP X pins D) X.xe s:=by
 refine wpAny_handleBy_cons (codeAny_handlers_test ?_) (by intro q;cases q)
 refine gE (X:=hnd X a) (inv_hnd I) hg hm ?_ hdb
 refine exc_self XC hG I cm ?_
 show codeAny _ _ _ _ _
 refine codeAny_handlers_suite_as (j60_ I cm fun s1 I1 e1=>?_)
 have I2:aV X pins (List.replicate X.N.length none) H s1:=I1.weak (by rw[List.length_replicate];exact I1.len.symm) fun i v e=>by
  rw[List.getElem?_replicate] at e
  split at e<;>cases e
 have I3:aV X pins (List.replicate X.N.length none) (bg H a (yz_ C d a)) s1:=
  j6o_ I2 cm.no cm.own.z cm.own.nl cm.own.nc cm.own.np ⟨e1,⟨_,e1.choose_spec.choose_spec.1⟩,fun _ _ ⟨o,vs,z,r⟩ k=>⟨o,vs,k _ z,r⟩⟩
 refine yu_ (X:=hnd X a) (v:= .ref a) (inv_hnd I3) hN hi (.inl hl) rfl (fun s4 I4=>?_) (.inr hl)
 refine wpAny_mono (hs pins s4 _ _ _ I4 hr) (fun f s5 z=>?_) fun _ _ z=>z.elim
 cases f with
 |next=>obtain⟨_,_,_,z⟩:=z;exact z.elim
 |brk=>obtain⟨_,_,_,z⟩:=z;exact z.elim
 |cont=>obtain⟨_,_,_,z⟩:=z;exact z.elim
 |ret u=>
  obtain⟨v,σ5,H5,I5,r5,q5⟩:=z
  obtain⟨m,hn,_⟩:=id I5.loc
  refine wpAny_nameGoes hl hn (by rw[I.ok.kind];rfl) fun h' m' n' sb=>⟨v,_,H5,inv_gone (j77_ I.ok I5) n' sb,r5,q5⟩
end
section
variable {X:Cx}{R G C fI:Addr}{x n:Str}{np hpos pos:Pos}{b0:Stmt}{suite body:List Stmt}{tb th:TS}{i:Nat}{Ek:XK}
def tTryAs (Ek:XK) (m i:Nat) (tb th:TS):TS:=fun D σ H=>tb D σ H/\ ∀C d H' a,Ek (.ref C) (some d) H'->H' a=none->
 th ⟨fun _ _=>False,D.rt,fun _ _=>False,fun _ _=>False⟩ ((List.replicate m none).set i (some (.ref a))) (bg H' a (yz_ C d a))
theorem ps_tryAs (Ek:XK) (hst:X.stack=X.env::X.outer) (hfr:X.env.frame=some X.env.locals) (hE: ∀C d H,Ek (.ref C) (some d) H-> ∃fI,gm X.K R C fI/\Catch R G C) (hg:Gl X x) (hm:X.mg x=some (.ref G)) (hN:X.N.Nodup) (hi:X.N[i]?=some n) (hl:X.env.scope.names.lookup n=some .local)
  (hb: ∀pins Ew,gj (cH X.prog X.w) (tryc X pins Ew) Ek->PSs (tryc X pins Ew) body tb) (hs: ∀a,PSs (hnd X a) (b0::suite) th) (hdb:[018]=false:=by decide):
  PS X (.Try body [.ExceptHandler (some (.Name x np)) (some n) (b0::suite) hpos] [] [] pos) (tTryAs Ek X.N.length i tb th):=by
 rw[09]
 refine wpAny_Try_except ?_
 have P:=come_in (hs:=[.ExceptHandler (some (.Name x np)) (some n) (b0::suite) hpos]) (Q:=SP X pins D) (Ek:=Ek) hst hfr fun C a d σ1 H1 s1 I1 cm hE1=>(hE C d H1 hE1).elim fun fI ⟨XC,hG⟩=>hnd_as (D:=D) XC hG hg hm hN hi hl (hs a) I1 cm (h.2 C d H1 a hE1 cm.no) hdb
 refine wpAny_mono (hb pins _ P [] s σ H D (inv_tryc I) h.1) (fun f s1 z=>?_) fun e s1 z=>z
 cases f with
 |next=>exact wpAny_execs_nil (yw_ z)
 |brk=>exact yw_ z
 |cont=>exact yw_ z
 |ret u=>exact yw_ z
def tXFld (K:PySem.W.Frag) (te:TE) (f:Str):TE:=fun σ H Q=>te σ H fun x H1=> ∃R C fI a d fs v,gm K R C fI/\x= .ref a/\H1 a=some (yz_ C d a)/\H1 d=some (cQ d fs)/\fs.lookup f=some v/\Q v H1
theorem pe_xfld {e:Expr}{te:TE}{f:Str}{K:PySem.W.Frag}(hK:X.K=K) (hf:f∈dh) (hB:typeLookup [042] f=pure none) (he:PE X e te) (hb:attributeBase e f X.env (eval e X.env)=eval e X.env):PE X (.Attribute e f pos) (tXFld K te f):=by
 rw[02]
 subst hK
 refine attr_of hb (cJ [056] fun u s1 ⟨x,H1,I1,rx,R,C,fI,a,d,fs,v,XC,ex,ea,ed,l,q⟩=>?_)
 rw[010]
 obtain⟨z,_⟩:=I1.hok _ _ ea
 exact xget_ok (φ:=fun _=>True) XC hf hB I1 z ed l fun u' s2 I2 ru=>⟨v,H1,I2,ru,q⟩
end
end OS
namespace OS
open PySem PySem.Spec L2
open PyProof.Rows hiding St
theorem bN {X:Cx}{x:Str}{i:Int}{pos:Pos}(hg:Gl X x) (hm: ∃t,X.mg x=some (.int i t)) (hd:[018]=false:=by decide):PE X (.Name x pos) (tC (.int i)):=by
 obtain⟨t,hm⟩:=hm
 exact j3j_ hg hm ⟨t,rfl⟩ hd
theorem pe_gs {X:Cx}{x:Str}{i:Str}{pos:Pos}(hg:Gl X x) (hm: ∃t,X.mg x=some (.str i t)) (hd:[018]=false:=by decide):PE X (.Name x pos) (tC (.str i)):=by
 obtain⟨t,hm⟩:=hm
 exact j3j_ hg hm ⟨t,rfl⟩ hd
def KTup (K:PySem.W.Frag) (a:Addr) (xs:List V):Prop:= ∃(o:Obj) (its:Array Value) (n:Nat),K.lookup a=some o/\o.cls= .type "tuple"/\o.data= .seq its n/\its.size<=sizeLine/\bL xs its.toList
theorem KTup.sq {K:PySem.W.Frag}{a:Addr}{xs:List V}{H:Hp}(h:KTup K a xs):SqT K H a xs:= .inr h
structure KdT (P:Program) (w:World) (K:PySem.W.Frag) (a:Addr) (kvs:List (List bW×V)):Prop where
 at_: ∃xs:List (List bW×Addr×Value),(∀h:Heap,K.In h->h.DictOfH (tupleKind (bJ P w)) a xs)/\Paired (fun(p:List bW×V) (q:List bW×Addr×Value)=>p.1=q.1/\bE p.2 q.2.2) kvs xs
 no:[074]=false
theorem kdt_val {kvs:List (List bW×V)}{xs:List (List bW×Addr×Value)}(r:Paired (fun(p:List bW×V) (q:List bW×Addr×Value)=>p.1=q.1/\bE p.2 q.2.2) kvs xs) (k:List bW):gi (cP kvs k) ((atKey xs k).map (·.2)):=by
 induction r with
 |nil=>exact True.intro
 | @cons p q ps qs hq t ih=>
  unfold cP atKey at*
  rw[List.find?_cons,List.find?_cons]
  by_cases e:q.1=k
  ·rw[show decide (p.1=k)=true from decide_eq_true (hq.1.trans e),show decide (q.1=k)=true from decide_eq_true e]
   exact hq.2
  ·rw[show decide (p.1=k)=false from decide_eq_false (fun z=>e (hq.1.symm.trans z)),show decide (q.1=k)=false from decide_eq_false e]
   exact ih
section
variable {X:Cx}{o i:Expr}{td ty:TE}{pos:Pos}
def tKdIn (P:Program) (w:World) (K:PySem.W.Frag) (ty td:TE):TE:=fun σ H Q=>ty σ H fun y H1=>td σ H1 fun x H2=> ∃a b k kvs,x= .ref a/\KdT P w K a kvs/\y= .ref b/\H2 b=some (.tup (k.map kV))/\Q (.bl (cP kvs k).isSome) H2
def tKdGet (P:Program) (w:World) (K:PySem.W.Frag) (td ty:TE):TE:=fun σ H Q=>td σ H fun x H1=>ty σ H1 fun y H2=> ∃a b k kvs v,x= .ref a/\KdT P w K a kvs/\y= .ref b/\H2 b=some (.tup (k.map kV))/\cP kvs k=some v/\Q v H2
theorem pc_kdin (hu:X.A.units+1<cLine) (hi:PE X i ty) (ho:PE X o td):PC X .In i o (tKdIn X.prog X.w X.K ty td):=by
 rw[02]
 refine bin hi ho I h fun v u s2 x y H2 I2 rx ry q=>?_
 obtain⟨a,b,k,kvs,ey,kd,ex,eb,q⟩:=q
 subst ex
 subst ey
 cases rx
 cases ry
 obtain⟨xs,dd,rel⟩:=kd.at_
 refine wpAny_in_heap [0018] (jr_ I2.hok eb) kd.no (dd _ I2.kIn) ?_
 have z:=(kdt_val rel k).isSome_eq
 rw[Option.isSome_map] at z
 rw[<-z]
 exact⟨.bl _,H2,I2.tok _,rfl,q⟩
theorem pe_kdget (hu:X.A.units+1<cLine) (ho:PE X o td) (hi:PE X i ty) (hs:NoSl i):PE X (.Subscript o i pos) (tKdGet X.prog X.w X.K td ty):=by
 rw[02]
 refine subD_of PySem.F.slot_dict_getitem.lookup hs (cJ (ho pins s σ H _ I h) fun u s1 ⟨x,H1,I1,rx,q1⟩=>cJ (hi pins s1 σ H1 _ I1 q1) fun iv s2 ⟨y,H2,I2,ry,a,b,k,kvs,v',ex,kd,ey,eb,l,q⟩=>?_)
 subst ex
 subst ey
 obtain rfl:u=Value.ref a:=rx
 obtain rfl:iv=Value.ref b:=ry
 obtain⟨xs,dd,rel⟩:=kd.at_
 have z:=kdt_val rel k
 rw[l] at z
 obtain⟨w',hw,rw'⟩:=gi.some_of z
 obtain⟨p,hp,hp2⟩:=Option.map_eq_some_iff.mp hw
 have D:=dd _ I2.kIn
 refine⟨D.typeIs,wpAny_getItem_heap [0018] (jr_ I2.hok eb) D hp ?_⟩
 rw[hp2]
 exact⟨v',H2,I2.tok _,rw',q⟩
end
section
variable {X:Cx}{st:Stmt}{t:TS}
def tJoin (t:TS):TS:=fun D σ H=> ∃J:L2.St->Hp->Prop,t { D with nx:=J } σ H/\ ∀σ' H',J σ' H'->D.nx σ' H'
theorem fY (h:PS X st t):PS X st (tJoin t):=by
 intro pins s σ H D I h0
 obtain⟨J,h1,h2⟩:=h0
 refine cJ (h pins s σ H { D with nx:=J } I h1) fun f s1 q=>?_
 cases f with
 |next=>
  obtain⟨σ',H',I',q⟩:=q
  exact⟨σ',H',I',h2 _ _ q⟩
 |brk=>exact q
 |cont=>exact q
 |ret u=>exact q
end
section
variable {X:Cx}
theorem cb:io X (.builtin "isinstance") (fun xs H Q=> ∃(x:V) (C:Addr) (t:Value) (b:Bool),xs=[x, .ref C]/\iu X.K H x t/\PySem.W.kitOne X.K t (.ref C)=some b/\Q (.bl b) H):=by
 rw[029]
 obtain⟨x,C,t,b,rfl,ty,e,q⟩:=h
 obtain⟨u1,u2,rfl,r1,r2⟩:=vals2 r
 cases r2
 exact j6f_ I r1 ty e fun tk=>⟨.bl b,H,I.tok _,rfl,q⟩
end
structure TyK (K:PySem.W.Frag) (C:Addr):Prop where
 cl:Cls K C
 ha:PySem.W.findIn K (.ref C) "__class__"=some (some [095])
 hn:PySem.W.specialIn K [095] "__get__"=some (some (.builtin "getset_descriptor.__get__"))
 htk:PySem.W.takesIn K [095]=some true
 hm:PySem.W.mroIn K C (.type "object")=some true
theorem TyK.of {K:PySem.W.Frag}{H:Hp}{C p dx:Addr}{fs:List (Str×V)}(t:TyK K C) (e:H p=some [034]):iu K H (.ref p) (.ref C):= .ins e t.cl t.ha t.hn t.htk t.hm
theorem gb {α β:Type}{F:α->β->Prop} : ∀ {l:List α}{m:List β},Paired F l m->l.length=m.length
 |_,_, .nil=>rfl
 |_,_, .cons r t=>congrArg (· +1) (gb t)
def ScOk (N P:List Str) (sc:Scope):Prop:=sc.kind= .function/\sc.isCoroutine=false/\sc.isGenerator=false/\N.Nodup/\N.take P.length=P/\(∀x∈P,sc.names.lookup x=some .local\/sc.names.lookup x=some .cell)/\ ∀y∈sc.names,y.2≠ .free
instance (N P:List Str) (sc:Scope):Decidable (ScOk N P sc):=by unfold ScOk;infer_instance
theorem aP {N P:List Str}{sc:Scope}(h:ScOk N P sc):aw N P sc:=⟨h.1,h.2.1,h.2.2.1,h.2.2.2.1,h.2.2.2.2.1,h.2.2.2.2.2.1,h.2.2.2.2.2.2⟩
end OS
namespace OS
open PySem PySem.Spec L2
open PyProof.Rows hiding St
def tp (i:Nat):Stmt:=PySem.Challenge.pw_ordersheets_s02_show.main.body.getD i (.Pass ⟨0,0,0,0⟩)
abbrev s_ar:Stmt:=bq (tp 2) 0
abbrev s_as:Stmt:=bq (tp 3) 0
abbrev s_at:Stmt:=bq (tp 4) 0
abbrev s_au:Stmt:=bq (tp 5) 0
abbrev s_6:Stmt:=bq (tp 6) 0
abbrev s_av:Stmt:=bq (tp 7) 0
abbrev s_aw:Stmt:=bq (tp 8) 0
abbrev s_ax:Stmt:=bq (tp 9) 0
abbrev s_ay:Stmt:=bq (tp 10) 0
abbrev s_az:Stmt:=bq (tp 11) 0
abbrev s_aA:Stmt:=bq (tp 12) 0
abbrev s_aB:Stmt:=bq (tp 13) 0
abbrev s_aC:Stmt:=bq (tp 14) 0
abbrev s_aD:Stmt:=bq (tp 15) 0
abbrev s_aE:Stmt:=bq (tp 16) 0
abbrev s_aF:Stmt:=bq (tp 17) 0
abbrev s_aj:Stmt:=bq (tp 19) 0
abbrev s_aq:Stmt:=bq (tp 20) 0
abbrev s_aG:Stmt:=bq (tp 21) 0
abbrev s_ak:Stmt:=bq (tp 35) 0
abbrev s_p:Stmt:=tp 36
abbrev s_u:Stmt:=tp 37
abbrev s_7:Stmt:=tp 38
abbrev s_8:Stmt:=tp 39
abbrev s_9:Stmt:=tp 40
abbrev s_aa:Stmt:=tp 41
abbrev s_ab:Stmt:=tp 42
abbrev s_T:Stmt:=tp 43
abbrev s_U:Stmt:=tp 44
abbrev s_s:Stmt:=tp 45
abbrev s_aH:Stmt:=bq (tp 56) 0
abbrev s_g:Stmt:=bq (tp 56) 1
abbrev s_e:Stmt:=bq (tp 56) 2
abbrev s_c:Stmt:=bq (tp 56) 3
abbrev s_aI:Stmt:=bq (tp 56) 4
abbrev s_aJ:Stmt:=bq (tp 56) 5
abbrev s_ac:Stmt:=bq (tp 56) 6
abbrev s_aK:Stmt:=bq (tp 56) 7
abbrev s_h:Stmt:=bq (tp 56) 8
abbrev s_a:Stmt:=bq (tp 56) 9
abbrev s_V:Stmt:=bq (tp 56) 10
abbrev s_E:Stmt:=bq (tp 56) 11
abbrev s_n:Stmt:=bq (tp 56) 12
abbrev s_al:Stmt:=bq (tp 56) 13
abbrev s_q:Stmt:=bq (tp 56) 14
abbrev s_w:Stmt:=bq (tp 56) 15
abbrev s_f:Stmt:=tp 60
abbrev s_b:Stmt:=tp 61
abbrev s_G:Stmt:=tp 62
abbrev s_i:Stmt:=tp 63
abbrev s_j:Stmt:=tp 64
abbrev s_W:Stmt:=tp 65
abbrev s_I:Stmt:=tp 66
abbrev s_y:Stmt:=tp 67
abbrev s_F:Stmt:=tp 68
abbrev s_J:Stmt:=tp 69
abbrev s_2:Stmt:=tp 74
abbrev s_H:Stmt:=tp 75
abbrev s_ad:Stmt:=tp 76
abbrev s_v:Stmt:=tp 77
abbrev s_K:Stmt:=tp 78
abbrev s_ae:Stmt:=tp 79
abbrev s_af:Stmt:=tp 80
abbrev s_ag:Stmt:=tp 81
abbrev s_m:Stmt:=tp 82
abbrev s_L:Stmt:=tp 83
abbrev s_d:Stmt:=tp 84
abbrev s_r:Stmt:=tp 85
abbrev s_am:Stmt:=tp 86
abbrev s_M:Stmt:=tp 87
abbrev s_3:Stmt:=tp 88
abbrev s_X:Stmt:=tp 89
abbrev s_ah:Stmt:=tp 90
abbrev s_N:Stmt:=tp 95
abbrev s_4:Stmt:=tp 96
abbrev s_O:Stmt:=tp 97
abbrev s_o:Stmt:=tp 98
abbrev s_z:Stmt:=tp 99
abbrev s_ai:Stmt:=tp 100
abbrev s_Y:Stmt:=tp 101
abbrev s_Z:Stmt:=tp 102
abbrev s_k:Stmt:=tp 103
abbrev s_5:Stmt:=tp 104
abbrev s_P:Stmt:=tp 105
abbrev s_Q:Stmt:=tp 106
abbrev s_A:Stmt:=tp 107
abbrev s_B:Stmt:=tp 108
abbrev s_R:Stmt:=tp 109
abbrev s_l:Stmt:=tp 110
abbrev s_C:Stmt:=tp 111
abbrev s_x:Stmt:=tp 112
abbrev s_t:Stmt:=tp 113
abbrev s_S:Stmt:=tp 114
abbrev s_an:Stmt:=tp 115
abbrev s_1:Stmt:=tp 118
abbrev s_ao:Stmt:=tp 119
abbrev s_ap:Stmt:=tp 120
abbrev s_D:Stmt:=tp 121
theorem sc_ar:aw ["self","worth"] ["self","worth"] (ak s_ar):=aP [02]
theorem sc_as:aw ["self","name"] ["self","name"] (ak s_as):=aP [02]
theorem sc_at:aw ["self","name","arguments"] ["self","name","arguments"] (ak s_at):=aP [02]
theorem sc_au:aw ["self","sign","operand"] ["self","sign","operand"] (ak s_au):=aP [02]
theorem sc_6:aw ["self","strength","operands","signs"] ["self","strength","operands","signs"] (ak s_6):=aP [02]
theorem sc_av:aw ["self","condition","chosen","otherwise"] ["self","condition","chosen","otherwise"] (ak s_av):=aP [02]
theorem sc_aw:aw ["self","name","first","last","body"] ["self","name","first","last","body"] (ak s_aw):=aP [02]
theorem sc_ax:aw ["self","name","exp"] ["self","name","exp"] (ak s_ax):=aP [02]
theorem sc_ay:aw ["self","name","first","last","statements"] ["self","name","first","last","statements"] (ak s_ay):=aP [02]
theorem sc_az:aw ["self","condition","statements","else_statements"] ["self","condition","statements","else_statements"] (ak s_az):=aP [02]
theorem sc_aA:aw ["self","side","zone","quarter","price","to_price","amount"] ["self","side","zone","quarter","price","to_price","amount"] (ak s_aA):=aP [02]
theorem sc_aB:aw ["self","name","exp"] ["self","name","exp"] (ak s_aB):=aP [02]
theorem sc_aC:aw ["self","name","side","zone","price","amounts","under","group"] ["self","name","side","zone","price","amounts","under","group"] (ak s_aC):=aP [02]
theorem sc_aD:aw ["self","name","exp"] ["self","name","exp"] (ak s_aD):=aP [02]
theorem sc_aE:aw ["self","name","parameters","exp"] ["self","name","parameters","exp"] (ak s_aE):=aP [02]
theorem sc_aF:aw ["self","name","statements"] ["self","name","statements"] (ak s_aF):=aP [02]
theorem sc_aj:aw ["self","number"] ["self","number"] (ak s_aj):=aP [02]
theorem sc_aq:aw ["self"] ["self"] (ak s_aq):=aP [02]
theorem sc_aG:aw ["self","kind","line","column"] ["self","kind","line","column"] (ak s_aG):=aP [02]
theorem sc_ak:aw ["self","kind","value","line","column"] ["self","kind","value","line","column"] (ak s_ak):=aP [02]
theorem sc_p:aw ["byte"] ["byte"] (ak s_p):=aP [02]
theorem sc_u:aw ["byte"] ["byte"] (ak s_u):=aP [02]
theorem sc_7:aw ["text","at"] ["text","at"] (ak s_7):=aP [02]
theorem sc_8:aw ["text","at"] ["text","at"] (ak s_8):=aP [02]
theorem sc_9:aw ["text","at"] ["text","at"] (ak s_9):=aP [02]
theorem sc_aa:aw ["text","at","pair"] ["text","at"] (ak s_aa):=aP [02]
theorem sc_ab:aw ["text","at","end","glued"] ["text","at","end"] (ak s_ab):=aP [02]
theorem sc_T:aw ["part","worth","byte"] ["part"] (ak s_T):=aP [02]
theorem sc_U:aw ["kind","part","byte"] ["kind","part"] (ak s_U):=aP [02]
theorem uh_:aw ["text","found","line","line_start","at","end","kind"] ["text"] (ak s_s):=aP [02]
theorem sc_aH:aw ["self","tokens"] ["self","tokens"] (ak s_aH):=aP [02]
theorem sc_g:aw ["self","token"] ["self"] (ak s_g):=aP [02]
theorem sc_e:aw ["self","kind","token"] ["self","kind"] (ak s_e):=aP [02]
theorem sc_c:aw ["self","value"] ["self","value"] (ak s_c):=aP [02]
theorem sc_aI:aw ["self"] ["self"] (ak s_aI):=aP [02]
theorem sc_aJ:aw ["self"] ["self"] (ak s_aJ):=aP [02]
theorem sc_ac:aw ["self","token"] ["self"] (ak s_ac):=aP [02]
theorem sc_aK:aw ["self"] ["self"] (ak s_aK):=aP [02]
theorem sc_h:aw ["self","token"] ["self"] (ak s_h):=aP [02]
theorem sc_a:aw ["self","value"] ["self","value"] (ak s_a):=aP [02]
theorem sc_V:aw ["self","value"] ["self","value"] (ak s_V):=aP [02]
theorem sc_E:aw ["self"] ["self"] (ak s_E):=aP [02]
theorem sc_n:aw ["self","name"] ["self"] (ak s_n):=aP [02]
theorem sc_al:aw ["self","given"] ["self","given"] (ak s_al):=aP [02]
theorem sc_q:aw ["self","name"] ["self","name"] (ak s_q):=aP [02]
theorem sc_w:aw ["self","name"] ["self","name"] (ak s_w):=aP [02]
theorem sc_f:aw ["reader","depth"] ["reader","depth"] (ak s_f):=aP [02]
theorem sc_b:aw ["reader","depth"] ["reader","depth"] (ak s_b):=aP [02]
theorem sc_G:aw ["reader","depth","inner","condition","chosen"] ["reader","depth"] (ak s_G):=aP [02]
theorem sc_i:aw ["reader","depth","strength","operands","signs"] ["reader","depth","strength"] (ak s_i):=aP [02]
theorem sc_j:aw ["reader","depth","inner","sign"] ["reader","depth"] (ak s_j):=aP [02]
theorem sc_W:aw ["reader","depth","name"] ["reader","depth"] (ak s_W):=aP [02]
theorem sc_I:aw ["reader","depth","inner","exp"] ["reader","depth"] (ak s_I):=aP [02]
theorem sc_y:aw ["reader","depth","inner","name","first","last","body"] ["reader","depth"] (ak s_y):=aP [02]
theorem sc_F:aw ["reader","depth","inner","name","wanted","arguments"] ["reader","depth"] (ak s_F):=aP [02]
theorem sc_J:aw ["reader","sign"] ["reader","sign"] (ak s_J):=aP [02]
theorem sc_2:aw ["tops","pieces","top"] ["tops"] (ak s_2):=aP [02]
theorem sc_H:aw ["pieces","found","piece","letter"] ["pieces"] (ak s_H):=aP [02]
theorem sc_ad:aw ["top","parameters"] ["top"] (ak s_ad):=aP [02]
theorem sc_v:aw ["statements","depth","pieces","statement"] ["statements","depth"] (ak s_v):=aP [02]
theorem sc_K:aw ["statement","depth"] ["statement","depth"] (ak s_K):=aP [02]
theorem sc_ae:aw ["statement","depth","pieces"] ["statement","depth"] (ak s_ae):=aP [02]
theorem sc_af:aw ["step","pieces"] ["step"] (ak s_af):=aP [02]
theorem sc_ag:aw ["block","pieces"] ["block"] (ak s_ag):=aP [02]
theorem sc_m:aw ["word","exp"] ["word","exp"] (ak s_m):=aP [02]
theorem sc_L:aw ["node"] ["node"] (ak s_L):=aP [02]
theorem sc_d:aw ["exp"] ["exp"] (ak s_d):=aP [02]
theorem sc_r:aw ["exp","weakest"] ["exp","weakest"] (ak s_r):=aP [02]
theorem sc_am:aw ["exp"] ["exp"] (ak s_am):=aP [02]
theorem sc_M:aw ["exp"] ["exp"] (ak s_M):=aP [02]
theorem sc_3:aw ["arguments","pieces","argument"] ["arguments"] (ak s_3):=aP [02]
theorem sc_X:aw ["chain","pieces","sign","operand"] ["chain"] (ak s_X):=aP [02]
theorem sc_ah:aw ["choice","pieces"] ["choice"] (ak s_ah):=aP [02]
theorem sc_N:aw ["text","reader","tops"] ["text"] (ak s_N):=aP [02]
theorem sc_4:aw ["reader"] ["reader"] (ak s_4):=aP [02]
theorem sc_O:aw ["reader","name","exp"] ["reader"] (ak s_O):=aP [02]
theorem sc_o:aw ["reader","exp"] ["reader"] (ak s_o):=aP [02]
theorem sc_z:aw ["reader","name","parameters","exp","parameter"] ["reader"] (ak s_z):=aP [02]
theorem sc_ai:aw ["reader","function","parameters"] ["reader","function"] (ak s_ai):=aP [02]
theorem sc_Y:aw ["reader","function","name"] ["reader","function"] (ak s_Y):=aP [02]
theorem sc_Z:aw ["reader","name"] ["reader"] (ak s_Z):=aP [02]
theorem sc_k:aw ["reader","depth","statements","statement"] ["reader","depth"] (ak s_k):=aP [02]
theorem sc_5:aw ["reader","depth"] ["reader","depth"] (ak s_5):=aP [02]
theorem sc_P:aw ["reader","name","exp"] ["reader"] (ak s_P):=aP [02]
theorem sc_Q:aw ["reader","depth"] ["reader","depth"] (ak s_Q):=aP [02]
theorem sc_A:aw ["reader","depth","inner","name","first","last","statements"] ["reader","depth"] (ak s_A):=aP [02]
theorem sc_B:aw ["reader","depth","inner","condition","statements","else_statements"] ["reader","depth"] (ak s_B):=aP [02]
theorem sc_R:aw ["reader"] ["reader"] (ak s_R):=aP [02]
theorem sc_l:aw ["reader","word"] ["reader","word"] (ak s_l):=aP [02]
theorem sc_C:aw ["reader","word"] ["reader","word"] (ak s_C):=aP [02]
theorem sc_x:aw ["reader","side","zone","quarter","price","to_price","amount"] ["reader"] (ak s_x):=aP [02]
theorem sc_t:aw ["reader","name","side","zone","price","amounts","under","group"] ["reader"] (ak s_t):=aP [02]
theorem sc_S:aw ["reader","name","exp"] ["reader"] (ak s_S):=aP [02]
theorem sc_an:aw ["reader"] ["reader"] (ak s_an):=aP [02]
theorem sc_1:aw ["text","byte"] ["text"] (ak s_1):=aP [02]
theorem sc_ao:aw ["as_told"] ["as_told"] (ak s_ao):=aP [02]
theorem sc_ap:aw ["numbers"] ["numbers"] (ak s_ap):=aP [02]
theorem sc_D:aw ["text","tops","refusal"] ["text"] (ak s_D):=aP [02]
set_option genInjectivity false in
structure cu where
 (f_ar f_as f_at f_au f_6 f_av f_aw f_ax f_ay f_az f_aA f_aB f_aC f_aD f_aE f_aF f_aj f_aq f_aG f_ak f_p f_u f_7 f_8 f_9 f_aa f_ab f_T f_U f_s f_aH f_g f_e f_c f_aI f_aJ f_ac f_aK f_h f_a f_V f_E f_n f_al f_q f_w f_f f_b f_G f_i f_j f_W f_I f_y f_F f_J f_2 f_H f_ad f_v f_K f_ae f_af f_ag f_m f_L f_d f_r f_am f_M f_3 f_X f_ah f_N f_4 f_O f_o f_z f_ai f_Y f_Z f_k f_5 f_P f_Q f_A f_B f_R f_l f_C f_x f_t f_S f_an f_1 f_ao f_ap f_D c_Number c_Name c_Call c_Unary c_Chain c_Choice c_Sum c_Let c_For c_If c_Step c_Amounts c_Block c_Const c_Fun c_Desk c_Refusal c_NotAsTold c_Fault c_Token c_Reader k_BLANKS k_SIGNS k_KEY_WORDS k_FIRST_FUNCTIONS k_CHAIN_SIGNS:Addr)
 (fd_ar fd_as fd_at fd_au fd_6 fd_av fd_aw fd_ax fd_ay fd_az fd_aA fd_aB fd_aC fd_aD fd_aE fd_aF fd_aj fd_aq fd_aG fd_ak fd_p fd_u fd_7 fd_8 fd_9 fd_aa fd_ab fd_T fd_U fd_s fd_aH fd_g fd_e fd_c fd_aI fd_aJ fd_ac fd_aK fd_h fd_a fd_V fd_E fd_n fd_al fd_q fd_w fd_f fd_b fd_G fd_i fd_j fd_W fd_I fd_y fd_F fd_J fd_2 fd_H fd_ad fd_v fd_K fd_ae fd_af fd_ag fd_m fd_L fd_d fd_r fd_am fd_M fd_3 fd_X fd_ah fd_N fd_4 fd_O fd_o fd_z fd_ai fd_Y fd_Z fd_k fd_5 fd_P fd_Q fd_A fd_B fd_R fd_l fd_C fd_x fd_t fd_S fd_an fd_1 fd_ao fd_ap fd_D:FuncData)
structure dX (K:PySem.W.Frag) (mg:Str->Option Value) (n:Str) (st:Stmt) (ps:List Str) (f:Addr) (fd:FuncData):Prop where
 F:Fun K n n st f fd
 c:CD K mg n f fd ps
structure gT (K:PySem.W.Frag) (C:Addr) (n q:Str) (st:Stmt) (ps:List Str) (f:Addr) (fd:FuncData):Prop where
 F:Fun K n q st f fd
 c:MD K C n f fd ps
structure Txt (K:PySem.W.Frag) (mg:Str->Option Value) (a:cu):Prop where
 d_ar:gT K a.c_Number "__init__" "Number.__init__" s_ar ["self","worth"] a.f_ar a.fd_ar
 d_as:gT K a.c_Name "__init__" "Name.__init__" s_as ["self","name"] a.f_as a.fd_as
 d_at:gT K a.c_Call "__init__" "Call.__init__" s_at ["self","name","arguments"] a.f_at a.fd_at
 d_au:gT K a.c_Unary "__init__" "Unary.__init__" s_au ["self","sign","operand"] a.f_au a.fd_au
 d_6:gT K a.c_Chain "__init__" "Chain.__init__" s_6 ["self","strength","operands","signs"] a.f_6 a.fd_6
 d_av:gT K a.c_Choice "__init__" "Choice.__init__" s_av ["self","condition","chosen","otherwise"] a.f_av a.fd_av
 d_aw:gT K a.c_Sum "__init__" "Sum.__init__" s_aw ["self","name","first","last","body"] a.f_aw a.fd_aw
 d_ax:gT K a.c_Let "__init__" "Let.__init__" s_ax ["self","name","exp"] a.f_ax a.fd_ax
 d_ay:gT K a.c_For "__init__" "For.__init__" s_ay ["self","name","first","last","statements"] a.f_ay a.fd_ay
 d_az:gT K a.c_If "__init__" "If.__init__" s_az ["self","condition","statements","else_statements"] a.f_az a.fd_az
 d_aA:gT K a.c_Step "__init__" "Step.__init__" s_aA ["self","side","zone","quarter","price","to_price","amount"] a.f_aA a.fd_aA
 d_aB:gT K a.c_Amounts "__init__" "Amounts.__init__" s_aB ["self","name","exp"] a.f_aB a.fd_aB
 d_aC:gT K a.c_Block "__init__" "Block.__init__" s_aC ["self","name","side","zone","price","amounts","under","group"] a.f_aC a.fd_aC
 d_aD:gT K a.c_Const "__init__" "Const.__init__" s_aD ["self","name","exp"] a.f_aD a.fd_aD
 d_aE:gT K a.c_Fun "__init__" "Fun.__init__" s_aE ["self","name","parameters","exp"] a.f_aE a.fd_aE
 d_aF:gT K a.c_Desk "__init__" "Desk.__init__" s_aF ["self","name","statements"] a.f_aF a.fd_aF
 d_aj:gT K a.c_Refusal "__init__" "Refusal.__init__" s_aj ["self","number"] a.f_aj a.fd_aj
 d_aq:gT K a.c_NotAsTold "__init__" "NotAsTold.__init__" s_aq ["self"] a.f_aq a.fd_aq
 d_aG:gT K a.c_Fault "__init__" "Fault.__init__" s_aG ["self","kind","line","column"] a.f_aG a.fd_aG
 d_ak:gT K a.c_Token "__init__" "Token.__init__" s_ak ["self","kind","value","line","column"] a.f_ak a.fd_ak
 d_p:dX K mg "is_digit" s_p ["byte"] a.f_p a.fd_p
 d_u:dX K mg "is_letter" s_u ["byte"] a.f_u a.fd_u
 d_7:dX K mg "comment_end" s_7 ["text","at"] a.f_7 a.fd_7
 d_8:dX K mg "word_end" s_8 ["text","at"] a.f_8 a.fd_8
 d_9:dX K mg "digits_end" s_9 ["text","at"] a.f_9 a.fd_9
 d_aa:dX K mg "token_end" s_aa ["text","at"] a.f_aa a.fd_aa
 d_ab:dX K mg "token_kind" s_ab ["text","at","end"] a.f_ab a.fd_ab
 d_T:dX K mg "decimal_worth" s_T ["part"] a.f_T a.fd_T
 d_U:dX K mg "token_value" s_U ["kind","part"] a.f_U a.fd_U
 d_s:dX K mg "scan_text" s_s ["text"] a.f_s a.fd_s
 d_aH:gT K a.c_Reader "__init__" "Reader.__init__" s_aH ["self","tokens"] a.f_aH a.fd_aH
 d_g:gT K a.c_Reader "current" "Reader.current" s_g ["self"] a.f_g a.fd_g
 d_e:gT K a.c_Reader "fail" "Reader.fail" s_e ["self","kind"] a.f_e a.fd_e
 d_c:gT K a.c_Reader "sees" "Reader.sees" s_c ["self","value"] a.f_c a.fd_c
 d_aI:gT K a.c_Reader "at_end" "Reader.at_end" s_aI ["self"] a.f_aI a.fd_aI
 d_aJ:gT K a.c_Reader "at_number" "Reader.at_number" s_aJ ["self"] a.f_aJ a.fd_aJ
 d_ac:gT K a.c_Reader "at_name" "Reader.at_name" s_ac ["self"] a.f_ac a.fd_ac
 d_aK:gT K a.c_Reader "number_follows" "Reader.number_follows" s_aK ["self"] a.f_aK a.fd_aK
 d_h:gT K a.c_Reader "take" "Reader.take" s_h ["self"] a.f_h a.fd_h
 d_a:gT K a.c_Reader "expect" "Reader.expect" s_a ["self","value"] a.f_a a.fd_a
 d_V:gT K a.c_Reader "skips" "Reader.skips" s_V ["self","value"] a.f_V a.fd_V
 d_E:gT K a.c_Reader "need_name" "Reader.need_name" s_E ["self"] a.f_E a.fd_E
 d_n:gT K a.c_Reader "take_free_name" "Reader.take_free_name" s_n ["self"] a.f_n a.fd_n
 d_al:gT K a.c_Reader "take_name_not_in" "Reader.take_name_not_in" s_al ["self","given"] a.f_al a.fd_al
 d_q:gT K a.c_Reader "learn" "Reader.learn" s_q ["self","name"] a.f_q a.fd_q
 d_w:gT K a.c_Reader "forget" "Reader.forget" s_w ["self","name"] a.f_w a.fd_w
 d_f:dX K mg "deeper" s_f ["reader","depth"] a.f_f a.fd_f
 d_b:dX K mg "read_exp" s_b ["reader","depth"] a.f_b a.fd_b
 d_G:dX K mg "read_choice" s_G ["reader","depth"] a.f_G a.fd_G
 d_i:dX K mg "read_chain" s_i ["reader","depth","strength"] a.f_i a.fd_i
 d_j:dX K mg "read_unary" s_j ["reader","depth"] a.f_j a.fd_j
 d_W:dX K mg "read_primary" s_W ["reader","depth"] a.f_W a.fd_W
 d_I:dX K mg "read_brackets" s_I ["reader","depth"] a.f_I a.fd_I
 d_y:dX K mg "read_sum" s_y ["reader","depth"] a.f_y a.fd_y
 d_F:dX K mg "read_call" s_F ["reader","depth"] a.f_F a.fd_F
 d_J:dX K mg "refuse_here" s_J ["reader","sign"] a.f_J a.fd_J
 d_2:dX K mg "sheet_form" s_2 ["tops"] a.f_2 a.fd_2
 d_H:dX K mg "bytes_of" s_H ["pieces"] a.f_H a.fd_H
 d_ad:dX K mg "top_form" s_ad ["top"] a.f_ad a.fd_ad
 d_v:dX K mg "braces_form" s_v ["statements","depth"] a.f_v a.fd_v
 d_K:dX K mg "statement_form" s_K ["statement","depth"] a.f_K a.fd_K
 d_ae:dX K mg "if_form" s_ae ["statement","depth"] a.f_ae a.fd_ae
 d_af:dX K mg "step_form" s_af ["step"] a.f_af a.fd_af
 d_ag:dX K mg "block_form" s_ag ["block"] a.f_ag a.fd_ag
 d_m:dX K mg "part_form" s_m ["word","exp"] a.f_m a.fd_m
 d_L:dX K mg "range_form" s_L ["node"] a.f_L a.fd_L
 d_d:dX K mg "any_form" s_d ["exp"] a.f_d a.fd_d
 d_r:dX K mg "placed_form" s_r ["exp","weakest"] a.f_r a.fd_r
 d_am:dX K mg "strength_of" s_am ["exp"] a.f_am a.fd_am
 d_M:dX K mg "exp_form" s_M ["exp"] a.f_M a.fd_M
 d_3:dX K mg "arguments_form" s_3 ["arguments"] a.f_3 a.fd_3
 d_X:dX K mg "chain_form" s_X ["chain"] a.f_X a.fd_X
 d_ah:dX K mg "choice_form" s_ah ["choice"] a.f_ah a.fd_ah
 d_N:dX K mg "read_sheet" s_N ["text"] a.f_N a.fd_N
 d_4:dX K mg "read_top" s_4 ["reader"] a.f_4 a.fd_4
 d_O:dX K mg "read_const" s_O ["reader"] a.f_O a.fd_O
 d_o:dX K mg "read_given" s_o ["reader"] a.f_o a.fd_o
 d_z:dX K mg "read_fun" s_z ["reader"] a.f_z a.fd_z
 d_ai:dX K mg "read_parameters" s_ai ["reader","function"] a.f_ai a.fd_ai
 d_Y:dX K mg "read_parameter" s_Y ["reader","function"] a.f_Y a.fd_Y
 d_Z:dX K mg "read_desk" s_Z ["reader"] a.f_Z a.fd_Z
 d_k:dX K mg "read_braces" s_k ["reader","depth"] a.f_k a.fd_k
 d_5:dX K mg "read_statement" s_5 ["reader","depth"] a.f_5 a.fd_5
 d_P:dX K mg "read_let" s_P ["reader"] a.f_P a.fd_P
 d_Q:dX K mg "deeper_braces" s_Q ["reader","depth"] a.f_Q a.fd_Q
 d_A:dX K mg "read_for" s_A ["reader","depth"] a.f_A a.fd_A
 d_B:dX K mg "read_if" s_B ["reader","depth"] a.f_B a.fd_B
 d_R:dX K mg "read_side" s_R ["reader"] a.f_R a.fd_R
 d_l:dX K mg "read_part" s_l ["reader","word"] a.f_l a.fd_l
 d_C:dX K mg "read_part_if_there" s_C ["reader","word"] a.f_C a.fd_C
 d_x:dX K mg "read_step" s_x ["reader"] a.f_x a.fd_x
 d_t:dX K mg "read_block" s_t ["reader"] a.f_t a.fd_t
 d_S:dX K mg "read_amounts" s_S ["reader"] a.f_S a.fd_S
 d_an:dX K mg "read_under_name" s_an ["reader"] a.f_an a.fd_an
 d_1:dX K mg "is_text" s_1 ["text"] a.f_1 a.fd_1
 d_ao:dX K mg "need" s_ao ["as_told"] a.f_ao a.fd_ao
 d_ap:dX K mg "row" s_ap ["numbers"] a.f_ap a.fd_ap
 d_D:dX K mg "show" s_D ["text"] a.f_D a.fd_D
 mg_Number:mg "Number"=some (.ref a.c_Number)
 mg_Name:mg "Name"=some (.ref a.c_Name)
 mg_Call:mg "Call"=some (.ref a.c_Call)
 mg_Unary:mg "Unary"=some (.ref a.c_Unary)
 mg_Chain:mg "Chain"=some (.ref a.c_Chain)
 mg_Choice:mg "Choice"=some (.ref a.c_Choice)
 mg_Sum:mg "Sum"=some (.ref a.c_Sum)
 mg_Let:mg "Let"=some (.ref a.c_Let)
 mg_For:mg "For"=some (.ref a.c_For)
 mg_If:mg "If"=some (.ref a.c_If)
 mg_Step:mg "Step"=some (.ref a.c_Step)
 mg_Amounts:mg "Amounts"=some (.ref a.c_Amounts)
 mg_Block:mg "Block"=some (.ref a.c_Block)
 mg_Const:mg "Const"=some (.ref a.c_Const)
 mg_Fun:mg "Fun"=some (.ref a.c_Fun)
 mg_Desk:mg "Desk"=some (.ref a.c_Desk)
 mg_Refusal:mg "Refusal"=some (.ref a.c_Refusal)
 mg_NotAsTold:mg "NotAsTold"=some (.ref a.c_NotAsTold)
 mg_Fault:mg "Fault"=some (.ref a.c_Fault)
 mg_Token:mg "Token"=some (.ref a.c_Token)
 mg_Reader:mg "Reader"=some (.ref a.c_Reader)
 cl_Number:Cls K a.c_Number
 mk_Number:Mk K a.c_Number a.f_ar
 no_Number_worth:aR K a.c_Number "worth"
 cl_Name:Cls K a.c_Name
 mk_Name:Mk K a.c_Name a.f_as
 no_Name_name:aR K a.c_Name "name"
 cl_Call:Cls K a.c_Call
 mk_Call:Mk K a.c_Call a.f_at
 no_Call_name:aR K a.c_Call "name"
 no_Call_arguments:aR K a.c_Call "arguments"
 cl_Unary:Cls K a.c_Unary
 mk_Unary:Mk K a.c_Unary a.f_au
 no_Unary_sign:aR K a.c_Unary "sign"
 no_Unary_operand:aR K a.c_Unary "operand"
 cl_Chain:Cls K a.c_Chain
 mk_Chain:Mk K a.c_Chain a.f_6
 no_Chain_strength:aR K a.c_Chain "strength"
 no_Chain_operands:aR K a.c_Chain "operands"
 no_Chain_signs:aR K a.c_Chain "signs"
 cl_Choice:Cls K a.c_Choice
 mk_Choice:Mk K a.c_Choice a.f_av
 no_Choice_condition:aR K a.c_Choice "condition"
 no_Choice_chosen:aR K a.c_Choice "chosen"
 no_Choice_otherwise:aR K a.c_Choice "otherwise"
 cl_Sum:Cls K a.c_Sum
 mk_Sum:Mk K a.c_Sum a.f_aw
 no_Sum_name:aR K a.c_Sum "name"
 no_Sum_first:aR K a.c_Sum "first"
 no_Sum_last:aR K a.c_Sum "last"
 no_Sum_body:aR K a.c_Sum "body"
 cl_Let:Cls K a.c_Let
 mk_Let:Mk K a.c_Let a.f_ax
 no_Let_name:aR K a.c_Let "name"
 no_Let_exp:aR K a.c_Let "exp"
 cl_For:Cls K a.c_For
 mk_For:Mk K a.c_For a.f_ay
 no_For_name:aR K a.c_For "name"
 no_For_first:aR K a.c_For "first"
 no_For_last:aR K a.c_For "last"
 no_For_statements:aR K a.c_For "statements"
 cl_If:Cls K a.c_If
 mk_If:Mk K a.c_If a.f_az
 no_If_condition:aR K a.c_If "condition"
 no_If_statements:aR K a.c_If "statements"
 no_If_else_statements:aR K a.c_If "else_statements"
 cl_Step:Cls K a.c_Step
 mk_Step:Mk K a.c_Step a.f_aA
 no_Step_side:aR K a.c_Step "side"
 no_Step_zone:aR K a.c_Step "zone"
 no_Step_quarter:aR K a.c_Step "quarter"
 no_Step_price:aR K a.c_Step "price"
 no_Step_to_price:aR K a.c_Step "to_price"
 no_Step_amount:aR K a.c_Step "amount"
 cl_Amounts:Cls K a.c_Amounts
 mk_Amounts:Mk K a.c_Amounts a.f_aB
 no_Amounts_name:aR K a.c_Amounts "name"
 no_Amounts_exp:aR K a.c_Amounts "exp"
 cl_Block:Cls K a.c_Block
 mk_Block:Mk K a.c_Block a.f_aC
 no_Block_name:aR K a.c_Block "name"
 no_Block_side:aR K a.c_Block "side"
 no_Block_zone:aR K a.c_Block "zone"
 no_Block_price:aR K a.c_Block "price"
 no_Block_amounts:aR K a.c_Block "amounts"
 no_Block_under:aR K a.c_Block "under"
 no_Block_group:aR K a.c_Block "group"
 cl_Const:Cls K a.c_Const
 mk_Const:Mk K a.c_Const a.f_aD
 no_Const_name:aR K a.c_Const "name"
 no_Const_exp:aR K a.c_Const "exp"
 cl_Fun:Cls K a.c_Fun
 mk_Fun:Mk K a.c_Fun a.f_aE
 no_Fun_name:aR K a.c_Fun "name"
 no_Fun_parameters:aR K a.c_Fun "parameters"
 no_Fun_exp:aR K a.c_Fun "exp"
 cl_Desk:Cls K a.c_Desk
 mk_Desk:Mk K a.c_Desk a.f_aF
 no_Desk_name:aR K a.c_Desk "name"
 no_Desk_statements:aR K a.c_Desk "statements"
 cl_Token:Cls K a.c_Token
 mk_Token:Mk K a.c_Token a.f_ak
 no_Token_kind:aR K a.c_Token "kind"
 no_Token_value:aR K a.c_Token "value"
 no_Token_line:aR K a.c_Token "line"
 no_Token_column:aR K a.c_Token "column"
 cl_Reader:Cls K a.c_Reader
 mk_Reader:Mk K a.c_Reader a.f_aH
 no_Reader_tokens:aR K a.c_Reader "tokens"
 no_Reader_at:aR K a.c_Reader "at"
 no_Reader_known:aR K a.c_Reader "known"
 no_Reader_functions:aR K a.c_Reader "functions"
 no_Reader_desks:aR K a.c_Reader "desks"
 no_Reader_blocks:aR K a.c_Reader "blocks"
 g_COMPARISON: ∃t,mg "COMPARISON"=some (.int 2 t)
 g_WORD: ∃t,mg "WORD"=some (.int 0 t)
 g_NUMBER: ∃t,mg "NUMBER"=some (.int 1 t)
 g_SIGN: ∃t,mg "SIGN"=some (.int 2 t)
 g_END: ∃t,mg "END"=some (.int 3 t)
 g_WRONG: ∃t,mg "WRONG"=some (.int 4 t)
 g_LONGEST_WORD: ∃t,mg "LONGEST_WORD"=some (.int 24 t)
 g_LONGEST_NUMBER: ∃t,mg "LONGEST_NUMBER"=some (.int 18 t)
 g_LINE_FEED: ∃t,mg "LINE_FEED"=some (.int 10 t)
 g_COMMENT: ∃t,mg "COMMENT"=some (.int 35 t)
 g_BLANKS:mg "BLANKS"=some (.ref a.k_BLANKS)
 g_SIGNS:mg "SIGNS"=some (.ref a.k_SIGNS)
 g_SPELLING: ∃t,mg "SPELLING"=some (.str "0123456789:;<=>?@ABCDEFGHIJKLMNOPQRSTUVWXYZ[\\]^_`abcdefghijklmnopqrstuvwxyz" t)
 g_WRONG_TOKEN: ∃t,mg "WRONG_TOKEN"=some (.int 1 t)
 g_NOT_HERE: ∃t,mg "NOT_HERE"=some (.int 2 t)
 g_NOT_KNOWN: ∃t,mg "NOT_KNOWN"=some (.int 3 t)
 g_NOT_FREE: ∃t,mg "NOT_FREE"=some (.int 4 t)
 g_ARGUMENTS: ∃t,mg "ARGUMENTS"=some (.int 5 t)
 g_TOO_DEEP: ∃t,mg "TOO_DEEP"=some (.int 6 t)
 g_TOO_MANY: ∃t,mg "TOO_MANY"=some (.int 7 t)
 g_KEY_WORDS:mg "KEY_WORDS"=some (.ref a.k_KEY_WORDS)
 g_FIRST_FUNCTIONS:mg "FIRST_FUNCTIONS"=some (.ref a.k_FIRST_FUNCTIONS)
 g_MOST_LEVELS: ∃t,mg "MOST_LEVELS"=some (.int 12 t)
 g_CHAIN_SIGNS:mg "CHAIN_SIGNS"=some (.ref a.k_CHAIN_SIGNS)
 g_REST_BYTE: ∃t,mg "REST_BYTE"=some (.int 37 t)
 g_UNARY_STRENGTH: ∃t,mg "UNARY_STRENGTH"=some (.int 5 t)
 g_FULL_STRENGTH: ∃t,mg "FULL_STRENGTH"=some (.int 6 t)
 g_MOST_BRACES: ∃t,mg "MOST_BRACES"=some (.int 6 t)
 g_MOST_FUNCTIONS: ∃t,mg "MOST_FUNCTIONS"=some (.int 6 t)
 g_MOST_PARAMETERS: ∃t,mg "MOST_PARAMETERS"=some (.int 6 t)
 g_LONGEST_TEXT: ∃t,mg "LONGEST_TEXT"=some (.int 3000 t)
 t_BLANKS:KTup K a.k_BLANKS [.int 9, .int 10, .int 13, .int 32]
 t_KEY_WORDS:KTup K a.k_KEY_WORDS [.str "const", .str "fun", .str "desk", .str "let", .str "for", .str "in", .str "if", .str "then", .str "else", .str "sell", .str "buy", .str "zone", .str "quarter", .str "price", .str "to", .str "amount", .str "block", .str "under", .str "group", .str "sum"]
 n_Exception:mg "Exception"=none
 n_all:mg "all"=none
 n_dict:mg "dict"=none
 n_isinstance:mg "isinstance"=none
 n_len:mg "len"=none
 n_ord:mg "ord"=none
 n_str:mg "str"=none
 n_tuple:mg "tuple"=none
 n_zip:mg "zip"=none
end OS
namespace OS
open PySem PySem.Spec L2
open PyProof.Rows hiding St
variable {P:Program}{w:World}{K:PySem.W.Frag}{mg:Str->Option Value}{base:Heap}{a:cu}
section
open Vbemac (Bytes letter digit blank SIGNS Tok Pos Toks lex tokens valueOf)
abbrev nb (c:UInt8):Int:=(c.toNat:Int)
def bsV (bs:Bytes):List V:=bs.map fun c=>V.int (nb c)
theorem fW (bs:Bytes):(bsV bs).length=bs.length:=by unfold bsV;rw[List.length_map]
theorem fg {bs:Bytes}{i:Nat}{c:UInt8}(h:bs[i]?=some c):(bsV bs)[i]?=some (V.int (nb c)):=by unfold bsV;rw[List.getElem?_map,h];rfl
theorem j0h_ {p:UInt8->Prop}(h: ∀n:Nat,n<256->p (UInt8.ofNat n)) (c:UInt8):p c:=by
 have:=h c.toNat (UInt8.toNat_lt c)
 rwa [UInt8.ofNat_toNat] at this
theorem j51_ (c:UInt8):digit c=(decide ((48:Int)<=nb c)&&decide (nb c<=57)):=j0h_ (p:=fun c=>digit c=(decide ((48:Int)<=nb c)&&decide (nb c<=57))) [02] c
theorem j6h_ (c:UInt8):letter c=((decide ((65:Int)<=nb c)&&decide (nb c<=90))||((decide ((97:Int)<=nb c)&&decide (nb c<=122))||decide (nb c=95))):=
 j0h_ (p:=fun c=>letter c=((decide ((65:Int)<=nb c)&&decide (nb c<=90))||((decide ((97:Int)<=nb c)&&decide (nb c<=122))||decide (nb c=95)))) [02] c
inductive spByte (p:UInt8->Bool) (vs:List V) (H:Hp) (Q:VK) (_E:XK):Prop
 |mk (c:UInt8) (_:vs=[.int (nb c)]) (_:Q (.bl (p c)) H):spByte p vs H Q _E
inductive spEnd (K:PySem.W.Frag) (p:UInt8->Bool) (vs:List V) (H:Hp) (Q:VK) (_E:XK):Prop
 |mk (l:Addr) (bs:Bytes) (i:Nat) (_:vs=[.ref l, .int i]) (_:cK K H l (bsV bs)) (_:i<=bs.length) (_:Q (.int (bw p bs i:Nat)) H):spEnd K p vs H Q _E
theorem stays_nb (c:UInt8):eJ c=!decide (V.int (nb c)=V.int 10):=j0h_ (p:=fun c=>eJ c=!decide (V.int (nb c)=V.int 10)) [02] c
theorem ju_ {i:Nat}{lo hi n:Int}{σ:St}{H:Hp}{Q:VK}(hv:σ[i]?=some (some (.int n))) (q:Q (.bl (decide (lo<=n)&&decide (n<=hi))) H):
  tChain (rI0 fun i j=> .bl (decide (i<=j))) (rI0 fun i j=> .bl (decide (i<=j))) (tC (.int lo)) (d9 i) (tC (.int hi)) σ H Q:=by
 refine tv_of ⟨_,_,rfl,rfl,_,rfl,?_⟩ hv
 by_cases h1:lo<=n
 ·rw[if_pos (decide_eq_true h1)]
  rw[decide_eq_true h1,Bool.true_and] at q
  exact⟨_,_,rfl,rfl,q⟩
 ·rw[if_neg (by rw[decide_eq_false h1];exact Bool.false_ne_true)]
  rw[decide_eq_false h1,Bool.false_and] at q
  exact q
theorem dz {i j:Int} :decide (V.int i=V.int j)=decide (i=j):=decide_eq_decide.mpr ⟨fun y=>V.int.inj y,fun y=>by rw[y]⟩
theorem bB {b:Bool}{A B:Prop}(h1:b=true->A) (h2:b=false->B):if b=true then A else B:=by
 cases b with
 |true=>exact dQ (h1 rfl)
 |false=>exact cR (h2 rfl)
section
theorem ok_p (T:Txt K mg a):aJ P w K mg base dE 1 a.f_p a.fd_p ["byte"] (spByte digit):=by
 refine T.d_p.F.ok sc_p [04] [03]
 ·obtain⟨c,rfl,_⟩:=h
  rfl
 ·obtain⟨c,rfl,q⟩:=h
  refine⟨_,(ai (ay (jz_ jg_ jg_ aU (pv 0) aU))),?_⟩
  rw[j51_] at q
  exact ju_ rfl q
theorem ok_u (T:Txt K mg a):aJ P w K mg base dE 1 a.f_u a.fd_u ["byte"] (spByte letter):=by
 refine T.d_u.F.ok sc_u [04] [03]
 ·obtain⟨c,rfl,_⟩:=h
  rfl
 ·obtain⟨c,rfl,q⟩:=h
  refine⟨_,(ai (ay (pe_or (jz_ jg_ jg_ aU (pv 0) aU) (pe_or (jz_ jg_ jg_ aU (pv 0) aU) (j36_ (fU dw (pv 0) aU (bx _))))))),?_⟩
  rw[j6h_] at q
  refine ju_ rfl ⟨_,rfl,bB [024] fun e=>?_⟩
  ·rw[e,Bool.true_or] at q
   exact q
  ·rw[e,Bool.false_or] at q
   refine ju_ rfl ⟨_,rfl,bB [024] fun e=>?_⟩
   ·rw[e,Bool.true_or] at q
    exact q
   ·rw[e,Bool.false_or] at q
    refine⟨rfl,?_⟩
    rw[dz]
    exact q
theorem ok_7 (T:Txt K mg a):aJ P w K mg base dE 1 a.f_7 a.fd_7 ["text","at"] (spEnd K eJ):=by
 refine T.d_7.F.ok sc_7 [04] [03]
 ·obtain⟨l,bs,i,rfl,_⟩:=h
  rfl
 ·obtain⟨l,bs,i,rfl,hS,hi,q⟩:=h
  refine⟨_,(ae (dR PassesOwn.never (j11_ (bv op_lt (pv 1) [062] (bx _)) (ye_ (bv op_ne [068] (bN (by rfl) T.g_LINE_FEED) (bx _)))).pt (ai (j0z_ (i:=1) sc_7.nd rfl [05] aU j16_)))
    [069]),?_⟩
  refine⟨fun m σ H'=> ∃j:Nat,m=bs.length-j/\σ=[some (.ref l),some (.int (j:Nat))]/\H'=H/\j<=bs.length/\bw eJ bs j=bw eJ bs i,⟨_,i,rfl,rfl,rfl,hi,rfl⟩,?_⟩
  rintro m σ H' ⟨j,rfl,rfl,rfl,hj,ej⟩
  refine [099]
  rw[fW]
  rw[003]
  ·have lt:j<bs.length:=by have:=of_decide_eq_true e;lia
   obtain⟨c,hc⟩: ∃c,bs[j]?=some c:=[0013]
   refine⟨_,_,_,_,rfl,rfl,hS,cY (fg hc),rfl,_,rfl,?_⟩
   have st:eJ c=!decide (V.int (nb c)=V.int 10):=stays_nb c
   refine bB (fun e2=>?_) fun e2=>?_
   ·refine⟨fun σ' H''=>σ'=[some (.ref l),some (.int ((j+1:Nat)))]/\H''=H',?_,_,rfl,_,_,rfl,rfl,rfl,rfl⟩
    rintro σ' H'' ⟨rfl,rfl⟩
    exact⟨_,by lia,j+1,rfl,rfl,rfl,lt,by rw[<-ej,vb_ hc (st.trans e2)]⟩
   ·refine ?_
    rw[<-ej,j0p_ hc (st.trans e2)] at q
    exact q
  ·have ge:bs.length<=j:=by have:=of_decide_eq_false e;lia
   rw[008]
   rw[<-ej,vk_ ge] at q
   exact q
theorem ok_8 (T:Txt K mg a):aJ P w K mg base dE 2 a.f_8 a.fd_8 ["text","at"] (spEnd K b6):=by
 have G_u:=ok_u (P:=P) (w:=w) (base:=base) T
 have G_p:=ok_p (P:=P) (w:=w) (base:=base) T
 refine T.d_8.F.ok sc_8 [04] [03]
 ·obtain⟨l,bs,i,rfl,_⟩:=h
  rfl
 ·obtain⟨l,bs,i,rfl,hS,hi,q⟩:=h
  refine⟨_,(ae (dR PassesOwn.never (j11_ (bv op_lt (pv 1) [062] (bx _)) (ye_ (pw_or (bd (al G_u hr (by rfl) T.d_u.c aQ (aa [068] af))) (j2h_ (bd (al G_p hr (by rfl) T.d_p.c aQ (aa [068] af))))).pt)).pt (ai (j0z_ (i:=1) sc_8.nd rfl [05] aU j16_)))
    [069]),?_⟩
  refine⟨fun m σ H'=> ∃j:Nat,m=bs.length-j/\σ=[some (.ref l),some (.int (j:Nat))]/\H'=H/\j<=bs.length/\bw b6 bs j=bw b6 bs i,⟨_,i,rfl,rfl,rfl,hi,rfl⟩,?_⟩
  rintro m σ H' ⟨j,rfl,rfl,rfl,hj,ej⟩
  refine [099]
  rw[fW]
  rw[003]
  ·have lt:j<bs.length:=by have:=of_decide_eq_true e;lia
   obtain⟨c,hc⟩: ∃c,bs[j]?=some c:=[0013]
   have go:b6 c=true-> ∃N:St->Hp->Prop,(∀σ' H'',N σ' H''-> ∃m',m'<bs.length-j/\ ∃j1:Nat,m'=bs.length-j1/\σ'=[some (.ref l),some (.int (j1:Nat))]/\H''=H'/\j1<=bs.length/\bw b6 bs j1=bw b6 bs i)/\
     N [some (.ref l),some (.int ((j+1:Nat)))] H':=fun y=>by
    refine⟨fun σ' H''=>σ'=[some (.ref l),some (.int ((j+1:Nat)))]/\H''=H',?_,rfl,rfl⟩
    rintro σ' H'' ⟨rfl,rfl⟩
    exact⟨_,by lia,j+1,rfl,rfl,rfl,lt,by rw[<-ej,vb_ hc y]⟩
   refine [0017]
   ·obtain⟨N,n1,n2⟩:=go (by unfold b6;rw[e2];rfl)
    exact dQ ⟨N,n1,_,rfl,_,_,rfl,rfl,n2⟩
   ·refine⟨_,_,_,_,rfl,rfl,hS,cY (fg hc),c,rfl,_,rfl,bB (fun e3=>?_) fun e3=>?_⟩
    ·obtain⟨N,n1,n2⟩:=go (by unfold b6;rw[e3,Bool.or_true])
     exact⟨N,n1,_,rfl,_,_,rfl,rfl,n2⟩
    ·refine ?_
     rw[<-ej,j0p_ hc (by unfold b6;rw[e2,e3];rfl)] at q
     exact q
  ·have ge:bs.length<=j:=by have:=of_decide_eq_false e;lia
   rw[008]
   rw[<-ej,vk_ ge] at q
   exact q
theorem ok_9 (T:Txt K mg a):aJ P w K mg base dE 2 a.f_9 a.fd_9 ["text","at"] (spEnd K digit):=by
 have G_p:=ok_p (P:=P) (w:=w) (base:=base) T
 refine T.d_9.F.ok sc_9 [04] [03]
 ·obtain⟨l,bs,i,rfl,_⟩:=h
  rfl
 ·obtain⟨l,bs,i,rfl,hS,hi,q⟩:=h
  refine⟨_,(ae (dR PassesOwn.never (j11_ (bv op_lt (pv 1) [062] (bx _)) (ye_ (bd (al G_p hr (by rfl) T.d_p.c aQ (aa [068] af))))).pt (ai (j0z_ (i:=1) sc_9.nd rfl [05] aU j16_)))
    [069]),?_⟩
  refine⟨fun m σ H'=> ∃j:Nat,m=bs.length-j/\σ=[some (.ref l),some (.int (j:Nat))]/\H'=H/\j<=bs.length/\bw digit bs j=bw digit bs i,⟨_,i,rfl,rfl,rfl,hi,rfl⟩,?_⟩
  rintro m σ H' ⟨j,rfl,rfl,rfl,hj,ej⟩
  refine [099]
  rw[fW]
  rw[003]
  ·have lt:j<bs.length:=by have:=of_decide_eq_true e;lia
   obtain⟨c,hc⟩: ∃c,bs[j]?=some c:=[0013]
   refine [0017]
   ·refine⟨fun σ' H''=>σ'=[some (.ref l),some (.int ((j+1:Nat)))]/\H''=H',?_,_,rfl,_,_,rfl,rfl,rfl,rfl⟩
    rintro σ' H'' ⟨rfl,rfl⟩
    exact⟨_,by lia,j+1,rfl,rfl,rfl,lt,by rw[<-ej,vb_ hc e2]⟩
   ·refine ?_
    rw[<-ej,j0p_ hc e2] at q
    exact q
  ·have ge:bs.length<=j:=by have:=of_decide_eq_false e;lia
   rw[008]
   rw[<-ej,vk_ ge] at q
   exact q
end
end
section
open Vbemac (Bytes letter digit blank SIGNS Tok Pos Toks lex tokens valueOf)
theorem de {X:Cx}{x:Str}{p:Addr}{pos:PySem.Pos}(hg:Gl X x) (hm:X.mg x=some (.ref p)) (hd:[018]=false:=by decide):PE X (.Name x pos) (tC (.ref p)):=j3j_ hg hm rfl hd
theorem j0g_ {bs:Bytes}{i j:Nat} :cutV (bsV bs) (some (i:Int)) (some (j:Int))=bsV (cO bs i j):=by
 unfold cutV cO
 rw[HT.sIx_nat,HT.sIx_nat,fW]
 unfold bsV
 rw[<-List.map_drop,<-List.map_take]
 congr 1
 by_cases hi:i<=bs.length
 ·rw[Nat.min_eq_left hi]
  by_cases hj:j<=bs.length
  ·rw[Nat.min_eq_left hj]
  ·rw[Nat.min_eq_right (show bs.length<=j by lia),List.take_of_length_le (by rw[List.length_drop];lia),List.take_of_length_le (by rw[List.length_drop];lia)]
 ·rw[Nat.min_eq_right (show bs.length<=i by lia),List.drop_of_length_le [007],List.drop_of_length_le (show bs.length<=i by lia)]
  simp
def kb (c:UInt8):bW:=Sum.inl (nb c)
theorem kb_inj {x y:UInt8}(h:kb x=kb y):x=y:=UInt8.toNat_inj.mp (Int.ofNat.inj (Sum.inl.inj h))
theorem kbs_inj {x y:Bytes}(h:x.map kb=y.map kb):x=y:=(List.map_inj_right fun _ _ z=>kb_inj z).mp h
theorem kb_V (w:Bytes):(w.map kb).map kV=bsV w:=by unfold bsV;rw[List.map_map];rfl
def eO:List (List bW×V):=SIGNS.map fun s=>(s.map kb,V.str (cX s))
theorem sign_at (w:Bytes): ∀L:List Bytes,cP (L.map fun s=>(s.map kb,V.str (cX s))) (w.map kb)=if w∈L then some (V.str (cX w)) else none
 |[]=>by simp [cP]
 |s::L=>by
  rw[List.map_cons]
  by_cases e:s=w
  ·subst e
   rw[cM rfl,if_pos List.mem_cons_self]
  ·rw[cB (fun z=>e (kbs_inj z)),sign_at w L]
   by_cases m:w∈L
   ·rw[if_pos m,if_pos (List.mem_cons_of_mem _ m)]
   ·rw[if_neg m,if_neg fun z=>(List.mem_cons.mp z).elim (fun y=>e y.symm) m]
theorem j3l_ (w:Bytes):cP eO (w.map kb)=if w∈SIGNS then some (V.str (cX w)) else none:=sign_at w SIGNS
theorem jb_ (w:Bytes):(cP eO (w.map kb)).isSome=decide (w∈SIGNS):=by
 rw[j3l_]
 by_cases m:w∈SIGNS
 ·rw[if_pos m,decide_eq_true m];rfl
 ·rw[if_neg m,decide_eq_false m];rfl
def eR (bs:Bytes) (i:Nat) (c:UInt8):Nat:=if letter c=true then bw b6 bs i else if digit c=true then bw digit bs i else bK bs i
inductive j3m_ (K:PySem.W.Frag) (vs:List V) (H:Hp) (Q:VK) (_E:XK):Prop
 |mk (l:Addr) (bs:Bytes) (i:Nat) (c:UInt8) (_:vs=[.ref l, .int i]) (_:cK K H l (bsV bs)) (_:bs[i]?=some c) (_: ∀H',aW H H'->Q (.int (eR bs i c:Nat)) H'):j3m_ K vs H Q _E
theorem bf {H:Hp}{p:Addr}{o:HO}(h:H p=Option.none):aW H (bg H p o):=fun b u e=>by rw[ag (aD e h)];exact e
section
theorem ok_aa (T:Txt K mg a) (kS:KdT P w K a.k_SIGNS eO):aJ P w K mg base dE 3 a.f_aa a.fd_aa ["text","at"] (j3m_ K):=by
 have G_u:=ok_u (P:=P) (w:=w) (base:=base) T
 have G_p:=ok_p (P:=P) (w:=w) (base:=base) T
 have G_8:=ok_8 (P:=P) (w:=w) (base:=base) T
 have G_9:=ok_9 (P:=P) (w:=w) (base:=base) T
 refine T.d_aa.F.ok sc_aa [04] [03]
 ·obtain⟨l,bs,i,c,rfl,_⟩:=h
  rfl
 ·obtain⟨l,bs,i,c,rfl,hS,hc,q⟩:=h
  have hi:i<=bs.length:=Nat.le_of_lt (List.getElem?_eq_some_iff.mp hc).1
  refine⟨_,(ae (aZ (bd (al G_u [004] (by rfl) T.d_u.c aQ (aa [068] af))) (ai (ay (al G_8 [004] (by rfl) T.d_8.c aQ [012]))) aG)
    (ae (aZ (bd (al G_p [004] (by rfl) T.d_p.c aQ (aa [068] af))) (ai (ay (al G_9 [004] (by rfl) T.d_9.c aQ [012]))) aG)
    (ae (aE (i:=2) sc_aa.nd rfl [05] (fL fH (by rfl) T.n_tuple PyProof.Rows.boot_tuple (aa (yc_ uy_ (pv 0) (gB (pv 1)) (gB (bh dq (pv 1) aU))) af)))
    (ai (ay (v9_ (fe (pc_kdin (fG hr) (pv 2) (de (by rfl) T.g_SIGNS))) (bh dq (pv 1) (aY bj (by rfl) T.n_len PySem.boot_len [027])) (bh dq (pv 1) aU))))))),?_⟩
  refine⟨_,_,_,_,rfl,rfl,hS,cY (fg hc),c,rfl,_,rfl,bB [024] fun e=>?_⟩
  ·refine⟨l,bs,i,rfl,hS,hi,?_⟩
   have z:=q H (aW.refl H)
   unfold eR at z
   rw[if_pos e] at z
   exact z
  ·refine [0017]
   ·refine⟨l,bs,i,rfl,hS,hi,?_⟩
    have z:=q H (aW.refl H)
    unfold eR at z
    rw[if_neg (by rw[e];exact Bool.false_ne_true),if_pos e2] at z
    exact z
   ·refine⟨_,rfl,_,_,rfl,rfl,_,rfl,_,_,rfl,hS,fun p hp=>?_⟩
    refine⟨p,_,rfl, .inl ⟨cK.of ah,fun t ht=>?_⟩⟩
    have cut:cutV (bsV bs) (some (i:Int)) (some ((i:Int)+2))=bsV (cO bs i (i+2)):=j0g_ (j:=i+2)
    rw[cut] at ht ⊢
    have sm:aW H (bg (bg H p (.lst (bsV (cO bs i (i+2))))) t (.tup (bsV (cO bs i (i+2))))):=(bf hp).trans (bf ht)
    have z:=q _ sm
    unfold eR at z
    rw[if_neg (by rw[e];exact Bool.false_ne_true),if_neg (by rw[e2];exact Bool.false_ne_true)] at z
    unfold bK at z
    refine⟨a.k_SIGNS,t,(cO bs i (i+2)).map kb,eO,rfl,kS,rfl,by rw[ah,kb_V],_,rfl,bB (fun e3=>?_) fun e3=>?_⟩
    ·rw[jb_] at e3
     rw[if_pos (of_decide_eq_true e3)] at z
     refine⟨_,_,rfl, .inr (SqT.of ah),_,_,rfl,rfl,?_⟩
     rw[fW]
     exact z
    ·rw[jb_] at e3
     rw[if_neg (of_decide_eq_false e3)] at z
     exact⟨_,_,rfl,rfl,z⟩
def j6_ (bs:Bytes) (i e:Nat) (c:UInt8):Int:=if letter c=true then(if e-i<=24 then 0 else 4) else if digit c=true then(if 18<e-i\/glued bs e=true then 4 else 1) else if cO bs i e∈SIGNS then 2 else 4
inductive j1v_ (K:PySem.W.Frag) (vs:List V) (H:Hp) (Q:VK) (_E:XK):Prop
 |mk (l:Addr) (bs:Bytes) (i e:Nat) (c:UInt8) (_:vs=[.ref l, .int i, .int e]) (_:cK K H l (bsV bs)) (_:bs[i]?=some c) (_:i<=e) (_:e<=bs.length) (_: ∀H',aW H H'->Q (.int (j6_ bs i e c)) H'):j1v_ K vs H Q _E
theorem ok_ab (T:Txt K mg a) (kS:KdT P w K a.k_SIGNS eO):aJ P w K mg base dE 2 a.f_ab a.fd_ab ["text","at","end"] (j1v_ K):=by
 have G_u:=ok_u (P:=P) (w:=w) (base:=base) T
 have G_p:=ok_p (P:=P) (w:=w) (base:=base) T
 refine T.d_ab.F.ok sc_ab [04] [03]
 ·obtain⟨l,bs,i,e,c,rfl,_⟩:=h
  rfl
 ·obtain⟨l,bs,i,e,c,rfl,hS,hc,hie,he,q⟩:=h
  refine⟨_,(ae (aZ (bd (al G_u [004] (by rfl) T.d_u.c aQ (aa [068] af))) (ai (ay (v9_ (bv jg_ (bh jv_ (pv 2) (pv 1)) (bN (by rfl) T.g_LONGEST_WORD) (bx _)) (bN (by rfl) T.g_WORD) (bN (by rfl) T.g_WRONG)))) aG)
    (ae (aZ (bd (al G_p [004] (by rfl) T.d_p.c aQ (aa [068] af))) (ae (aE (i:=3) sc_ab.nd rfl [05] (pe_and (fU op_lt (pv 2) [062] (bx _)) (j36_ (al G_u [004] (by rfl) T.d_u.c aQ (aa (dZ cZ (pv 0) (pv 2) [020]) af)))))
    (ai (ay (v9_ (pw_or (bd (pv 3)) (j2h_ (bv op_gt (bh jv_ (pv 2) (pv 1)) (bN (by rfl) T.g_LONGEST_NUMBER) (bx _)))).pt (bN (by rfl) T.g_WRONG) (bN (by rfl) T.g_NUMBER))))) aG)
    (ai (ay (v9_ (fe (pc_kdin (fG hr) (fL fH (by rfl) T.n_tuple PyProof.Rows.boot_tuple (aa (yc_ uy_ (pv 0) (gB (pv 1)) (gB (pv 2))) af)) (de (by rfl) T.g_SIGNS))) (bN (by rfl) T.g_SIGN) (bN (by rfl) T.g_WRONG)))))),?_⟩
  refine⟨_,_,_,_,rfl,rfl,hS,cY (fg hc),c,rfl,_,rfl,bB (fun e1=>?_) fun e1=>?_⟩
  ·refine⟨_,_,rfl,rfl,_,_,rfl,rfl,_,rfl,?_⟩
   have z:=q H (aW.refl H)
   unfold j6_ at z
   rw[if_pos e1] at z
   refine bB (fun e2=>?_) fun e2=>?_
   ·have:=of_decide_eq_true e2
    rw[if_pos (by lia)] at z
    exact z
   ·have:=of_decide_eq_false e2
    rw[if_neg (by lia)] at z
    exact z
  ·refine [0017]
   ·have z:=q H (aW.refl H)
    unfold j6_ at z
    rw[if_neg (by rw[e1];exact Bool.false_ne_true),if_pos e2] at z
    have rest: ∀b:Bool,glued bs e=b->tRet (tIf (tOr (tB (d9 3)) (tTest (tOp (rI0 fun i j=> .bl (decide (j<i))) (tOp (rI0 fun i j=> .int (i-j)) (d9 2) (d9 1)) (tC (.int 18))))) (tC (.int 4)) (tC (.int 1))) { nx:=fun _ H'=>Q .non H',rt:=Q } [some (.ref l),some (.int i),some (.int e),some (.bl b)] H:=fun b hb=>by
     refine⟨_,rfl,bB (fun e3=>?_) fun e3=>?_⟩
     ·rw[if_pos (.inr (hb.trans e3))] at z
      exact dQ z
     ·refine⟨_,_,rfl,rfl,_,_,rfl,rfl,_,rfl,bB [0009] fun e4=>?_⟩
      ·have:=of_decide_eq_true e4
       rw[if_pos (.inl (by lia))] at z
       exact z
      ·have:=of_decide_eq_false e4
       rw[if_neg (fun y=>y.elim (fun y=>by lia) fun y=>by rw[hb,e3] at y;cases y)] at z
       exact z
    refine [099]
    rw[fW]
    refine bB (fun e3=>?_) fun e3=>?_
    ·have lt:e<bs.length:=by have:=of_decide_eq_true e3;lia
     obtain⟨g,hg⟩: ∃g,bs[e]?=some g:=[0013]
     refine⟨_,_,_,_,rfl,rfl,hS,cY (fg hg),g,rfl,?_⟩
     exact rest (letter g) (by unfold glued;rw[hg];rfl)
    ·have ge:bs.length<=e:=by have:=of_decide_eq_false e3;lia
     exact rest false (by unfold glued;rw[List.getElem?_eq_none ge];rfl)
   ·refine⟨_,rfl,_,rfl,_,_,rfl,hS,fun p hp=>?_⟩
    refine⟨p,_,rfl, .inl ⟨cK.of ah,fun t ht=>?_⟩⟩
    rw[j0g_] at ht ⊢
    have sm:aW H (bg (bg H p (.lst (bsV (cO bs i e)))) t (.tup (bsV (cO bs i e)))):=(bf hp).trans (bf ht)
    have z:=q _ sm
    unfold j6_ at z
    rw[if_neg (by rw[e1];exact Bool.false_ne_true),if_neg (by rw[e2];exact Bool.false_ne_true)] at z
    refine⟨a.k_SIGNS,t,(cO bs i e).map kb,eO,rfl,kS,rfl,by rw[ah,kb_V],_,rfl,bB (fun e3=>?_) fun e3=>?_⟩
    ·rw[jb_] at e3
     rw[if_pos (of_decide_eq_true e3)] at z
     exact z
    ·rw[jb_] at e3
     rw[if_neg (of_decide_eq_false e3)] at z
     exact z
end
end
section
open Vbemac (Bytes letter digit blank SIGNS Tok Pos Toks lex tokens valueOf)
theorem j33_ (l:Bytes) (c:UInt8):valueOf (l++[c])=10*valueOf l+(c.toNat-48):=by unfold valueOf;rw[List.foldl_append];rfl
theorem digit_ge {c:UInt8}(h:digit c=true):48<=nb c:=by
 rw[j51_,Bool.and_eq_true] at h
 exact of_decide_eq_true h.1
inductive spWorth (K:PySem.W.Frag) (vs:List V) (H:Hp) (Q:VK) (_E:XK):Prop
 |mk (l:Addr) (u:Bytes) (_:vs=[.ref l]) (_:cK K H l (bsV u)) (_:(∀c∈u,digit c=true)) (_:Q (.int (valueOf u:Nat)) H):spWorth K vs H Q _E
def one (c:UInt8):Str:=⟨#[c.toNat]⟩
theorem j1t_: ∀w:Bytes,TL.joinL [] (w.map fun c=>[c.toNat])=w.map UInt8.toNat
 |[]=>rfl
 |[c]=>rfl
 |c::d::r=>by
  show [c.toNat]++([]++TL.joinL [] ((d::r).map fun c=>[c.toNat]))=_
  rw[j1t_ (d::r)]
  rfl
theorem join_one (w:Bytes):Txt.join ("":Str) (w.map one)=sb w:=by
 rw[TL.join_eq]
 refine TL.ext_tl ?_
 rw[TL.tl_join,List.map_map]
 exact j1t_ w
def SPELL:Str:="0123456789:;<=>?@ABCDEFGHIJKLMNOPQRSTUVWXYZ[\\]^_`abcdefghijklmnopqrstuvwxyz"
theorem j6n_:SPELL.length<=sizeLine:=by decide+kernel
theorem spell_at {c:UInt8}(h:b6 c=true):atI SPELL.cps.toList (nb c-48)=some c.toNat:=by
 revert h
 exact j0h_ (p:=fun c=>b6 c=true->atI SPELL.cps.toList (nb c-48)=some c.toNat) [02] c
inductive spVal (K:PySem.W.Frag) (vs:List V) (H:Hp) (Q:VK) (_E:XK):Prop
 |mk (k:Int) (l:Addr) (u:Bytes) (_:vs=[.int k, .ref l]) (_:cK K H l (bsV u)) (_:u.length<=3000) (_:((k=0/\(∀c∈u,b6 c=true)/\ ∀H',aW H H'->Q (.str (sb u)) H')\/(k=1/\(∀c∈u,digit c=true)/\ ∀H',aW H H'->Q (.int (valueOf u:Nat)) H')\/
   (k=2/\u∈SIGNS/\ ∀H',aW H H'->Q (.str (cX u)) H')\/(k=4/\ ∀H',aW H H'->Q (.str (sb [])) H'))):spVal K vs H Q _E
section
theorem ok_T (T:Txt K mg a):aJ P w K mg base dE 1 a.f_T a.fd_T ["part"] (spWorth K):=by
 refine T.d_T.F.ok sc_T [04] [03]
 ·obtain⟨l,u,rfl,_⟩:=h
  rfl
 ·obtain⟨l,u,rfl,hS,hd,q⟩:=h
  refine⟨_,(ae (aE (i:=1) sc_T.nd rfl [05] aU)
    (ae (gX PassesOwn.never rfl (fX (pv 0)) (dS (i:=2) sc_T.nd rfl [05]) (ai (aE (i:=1) sc_T.nd rfl [05] (bh jv_ (bh dq (bh op_mul (pv 1) aU) (pv 2)) aU))))
    [069])),?_⟩
  refine⟨l,rfl,⟨_,hS⟩,ga (K:=K) (a:=l) (xs:=bsV u) (fun i σ H'=> ∃v:Option V,σ=[some (.ref l),some (.int (valueOf (u.take i):Nat)),v]/\H'=H) ⟨none,rfl,rfl⟩ (fun i σ H' _ ⟨_,_,e⟩=>by rw[e];exact hS) ?_ ?_⟩
  ·rintro i y σ H' hi ⟨v,rfl,rfl⟩
   obtain⟨c,hc,rfl⟩: ∃c,u[i]?=some c/\y=V.int (nb c):=by
    unfold bsV at hi
    rw[List.getElem?_map] at hi
    cases e:u[i]? with
    |none=>rw[e] at hi;cases hi
    |some c=>rw[e] at hi;exact⟨c,rfl,(Option.some.inj hi).symm⟩
   refine⟨_,_,rfl,rfl, .inr ⟨by decide,by decide⟩,_,_,rfl,rfl,_,_,rfl,rfl,some (.int (nb c)),?_,rfl⟩
   have g:=digit_ge (hd c (List.mem_of_getElem? hc))
   have e:((valueOf (u.take (i+1)):Nat):Int)=(valueOf (u.take i):Nat)*10+nb c-48:=by
    rw[List.take_add_one,hc]
    show((valueOf (u.take i++[c]):Nat):Int)=_
    rw[j33_]
    have g':48<=c.toNat:=Int.ofNat_le.mp g
    show((10*valueOf (u.take i)+(c.toNat-48):Nat):Int)=(valueOf (u.take i):Nat)*10+(c.toNat:Int)-48
    lia
   rw[e]
   rfl
  ·rintro σ H' ⟨v,rfl,rfl⟩
   rw[fW,List.take_length]
   exact q
theorem ok_U (T:Txt K mg a) (kS:KdT P w K a.k_SIGNS eO):aJ P w K mg base dE 2 a.f_U a.fd_U ["kind","part"] (spVal K):=by
 have G_T:=ok_T (P:=P) (w:=w) (base:=base) T
 refine T.d_U.F.ok sc_U [04] [03]
 ·obtain⟨k,l,u,rfl,_⟩:=h
  rfl
 ·obtain⟨k,l,u,rfl,hS,hlen,h⟩:=h
  refine⟨_,(ae (aZ (bv dw (pv 0) (bN (by rfl) T.g_WORD) (bx _)) (ai (ay (pe_join ax (pe_lc rfl sc_U.nd (fX (pv 1)) (own:=[("byte",2)]) (j13_ (by show blkC ["kind","part","byte"] (ak s_U) _ [("byte",2)]=true;decide+kernel)) (fun _ _ _ _ _=>dS (i:=2) sc_U.nd rfl [05]) (fun _ _ _ _ _=>j2y_) (fun _ _ _ _ _=>(dZ ix_str (pe_gs (by rfl) T.g_SPELLING) (bh jv_ (pv 2) aU) [020])))))) aG)
    (ae (aZ (bv dw (pv 0) (bN (by rfl) T.g_NUMBER) (bx _)) (ai (ay (al G_T [004] (by rfl) T.d_T.c aQ [002]))) aG)
    (ae (aZ (bv dw (pv 0) (bN (by rfl) T.g_SIGN) (bx _)) (ai (ay (pe_kdget (fG hr) (de (by rfl) T.g_SIGNS) (fL fH (by rfl) T.n_tuple PyProof.Rows.boot_tuple [002]) [020]))) aG)
    (ai (ay ax))))),?_⟩
  refine [060]
  rw[dz]
  rcases h with⟨rfl,hw,q⟩|⟨rfl,hd,q⟩|⟨rfl,hs,q⟩|⟨rfl,q⟩
  ·refine dQ ?_
   refine⟨⟨_,rfl⟩,l,rfl,⟨_,hS⟩,fun D hD=>?_⟩
   have sm:aW H (bg H D (.lst [])):=bf hD
   refine lc_list (K:=K) (a:=l) (xs:=bsV u) (fun i H'=>aW H H'/\H' D=some (.lst (((u.take i).map one).map V.str))) ⟨sm,ah⟩ (fun i H' _ z=>z.1.seq hS) ?_ ?_
   ·rintro i y H' hi ⟨s1,hD'⟩
    obtain⟨c,hc,rfl⟩: ∃c,u[i]?=some c/\y=V.int (nb c):=by
     unfold bsV at hi
     rw[List.getElem?_map] at hi
     cases e:u[i]? with
     |none=>rw[e] at hi;cases hi
     |some c=>rw[e] at hi;exact⟨c,rfl,(Option.some.inj hi).symm⟩
    refine⟨rfl,?_⟩
    unfold tYes
    dsimp only
    rw[if_pos rfl]
    refine⟨_,_,rfl,rfl,_,_,_,rfl,rfl,j6n_,spell_at (hw c (List.mem_of_getElem? hc)),_,hD',?_,?_,?_⟩
    ·have z:=(List.length_take_le i u)
     rw[List.length_map,List.length_map]
     refine Nat.lt_of_le_of_lt (List.length_take_le' i u) ?_
     exact Nat.lt_of_le_of_lt hlen [06]
    ·exact fun b o e=>by rw[ag (aD e hD)];exact s1 b o e
    ·rw[ah,List.take_add_one,hc]
     show some (HO.lst (((u.take i).map one).map V.str++[V.str ⟨#[c.toNat]⟩]))=some (HO.lst (((u.take i++[c]).map one).map V.str))
     rw[List.map_append,List.map_append]
     rfl
   ·rintro H' ⟨s1,hD'⟩
    rw[fW,List.take_length] at hD'
    refine⟨_,D,u.map one,rfl,rfl, .inl (cK.of hD'),?_,?_⟩
    ·have e:((u.map one).map (·.length)).sum=u.length:=by
      rw[List.map_map]
      clear hS hlen hw q hD' s1 sm
      induction u with
      |nil=>rfl
      |cons c r ih=>rw[List.map_cons,List.sum_cons,ih,List.length_cons];show 1+r.length=_;lia
     rw[e]
     show u.length+(u.map one).length*0<=16777216
     lia
    ·rw[join_one]
     exact q H' s1
  ·refine cR [060]
   rw[dz]
   exact dQ ⟨l,u,rfl,hS,hd,q H (aW.refl H)⟩
  ·refine cR [060]
   rw[dz]
   refine cR [060]
   rw[dz]
   refine dQ ⟨l,_,rfl, .inl ⟨hS,fun t ht=>?_⟩⟩
   refine⟨a.k_SIGNS,t,u.map kb,eO,_,rfl,kS,rfl,by rw[ah,kb_V],(by rw[j3l_,if_pos hs]),q _ (bf ht)⟩
  ·refine cR [060]
   rw[dz]
   refine cR [060]
   rw[dz]
   exact cR (q H (aW.refl H))
end
end
section
open Vbemac (Bytes letter digit blank SIGNS Toks lex tokens valueOf advance)
def tokF (k v l c:V):List (Str×V):=putF "column" c (putF "line" l (putF "value" v (putF "kind" k [])))
def gK:Vbemac.Tok->Int
 | .word _=>0
 | .num _=>1
 | .sign _=>2
 | .eof=>3
 | .bad=>4
def vv_:Vbemac.Tok->V
 | .word u=> .str (sb u)
 | .num n=> .int (n:Nat)
 | .sign u=> .str (cX u)
 | .eof=> .str (sb [])
 | .bad=> .str (sb [])
inductive f9 (C:Addr) (H:Hp) (p:Addr) (x:Vbemac.Tok×Vbemac.Pos):Prop
 |mk (dx:Addr) (_:H p=some (.ins C dx (tokF (.int (gK x.1)) (vv_ x.1) (.int (x.2.1:Nat)) (.int (x.2.2:Nat))))):f9 C H p x
inductive spTok (C:Addr) (vs:List V) (H:Hp) (Q:VK) (_E:XK):Prop
 |mk (p dx:Addr) (k v l c:V) (_:vs=[.ref p,k,v,l,c]) (_:H p=some [097]) (_: ∀H':Hp,H' p=some (.ins C dx (tokF k v l c))->(∀b o,H b=some o->b≠p->H' b=some o)->Q .non H'):spTok C vs H Q _E
theorem blank_nb (c:UInt8):inV (.int (nb c)) [.int 9, .int 10, .int 13, .int 32]=blank c:=j0h_ (p:=fun c=>inV (.int (nb c)) [.int 9, .int 10, .int 13, .int 32]=blank c) [02] c
inductive spScan (K:PySem.W.Frag) (C:Addr) (vs:List V) (H:Hp) (Q:VK) (_E:XK):Prop
 |mk (l:Addr) (bs:Bytes) (_:vs=[.ref l]) (_:cK K H l (bsV bs)) (_:bs.length<=3000) (_: ∀(H':Hp) (q:Addr) (as:List Addr),aW H H'->H q=Option.none->H' q=some (.lst (as.map V.ref))->Paired (f9 C H') as (tokens bs)->Q (.ref q) H'):spScan K C vs H Q _E
theorem f9.keep {C:Addr}{H H':Hp}{p:Addr}{x:Vbemac.Tok×Vbemac.Pos}(h:f9 C H p x) (k: ∀b o,H b=some o->(∀xs,o≠ .lst xs)->H' b=some o):f9 C H' p x:=by
 obtain⟨dx,e⟩:=h
 exact⟨dx,k _ _ e fun xs z=>nomatch z⟩
theorem dA {α β:Type}{F:α->β->Prop} : ∀ {l:List α}{m:List β}{x:α}{y:β},Paired F l m->F x y->Paired F (l++[x]) (m++[y])
 |_,_,_,_, .nil,h=> .cons h .nil
 |_,_,_,_, .cons r t,h=> .cons r (dA t h)
def ValOk (k:Int) (u:Bytes) (v:V):Prop:=(k=0/\(∀c∈u,b6 c=true)/\v= .str (sb u))\/(k=1/\(∀c∈u,digit c=true)/\v= .int (valueOf u:Nat))\/(k=2/\u∈SIGNS/\v= .str (cX u))\/(k=4/\v= .str (sb []))
theorem j2n_ {c:UInt8}(h:letter c=true):b6 c=true:=by unfold b6;rw[h];rfl
theorem endAt_ge {p:UInt8->Bool}{bs:Bytes}{i:Nat} :i<=bw p bs i:=by unfold bw;lia
theorem j09_ {p:UInt8->Bool}{bs:Bytes}{i:Nat}{c:UInt8}(h:bs[i]?=some c) (hp:p c=true):i<bw p bs i:=by
 rw[vb_ h hp]
 exact endAt_ge
theorem j3t_ {p:UInt8->Bool}{bs:Bytes}{i:Nat} : ∀c∈cO bs i (bw p bs i),p c=true:=by
 rw[<-yh_]
 exact j38_ _
theorem qx_ {bs:Bytes}{i j:Nat} :(cO bs i j).length<=bs.length-i:=by
 unfold cO
 rw[List.length_take,List.length_drop]
 lia
theorem j05_ {bs:Bytes}{i:Nat}{c:UInt8}(h:bs[i]?=some c):i<bK bs i/\bK bs i<=bs.length:=by
 obtain⟨hi,_⟩:=List.getElem?_eq_some_iff.mp h
 have l1:0<(cO bs i (i+2)).length:=by unfold cO;rw[Nat.add_sub_cancel_left,eU h];exact Nat.succ_pos _
 have l2:=qx_ (bs:=bs) (i:=i) (j:=i+2)
 unfold bK
 split<;>lia
theorem turn_tok {bs:Bytes}{i:Nat}{c:UInt8}(h:bs[i]?=some c) (hb:blank c=false) (h35: ¬c=35):i<eR bs i c/\eR bs i c<=bs.length/\ ∃y:Vbemac.Tok,j6_ bs i (eR bs i c) c=gK y/\ValOk (gK y) (cO bs i (eR bs i c)) (vv_ y)/\
  ∀k q,lex (k+1) q (bs.drop i)=if gK y=4 then [(y,q)] else(y,q)::lex k (q.1,q.2+(eR bs i c-i)) (bs.drop (eR bs i c)):=by
 obtain⟨hi,_⟩:=List.getElem?_eq_some_iff.mp h
 unfold eR j6_
 cases hl:letter c with
 |true=>
  rw[if_pos rfl,if_pos rfl]
  refine⟨j09_ h (j2n_ hl),j0m_ (Nat.le_of_lt hi),?_⟩
  by_cases g:bw b6 bs i-i<=24
  ·refine⟨.word (cO bs i (bw b6 bs i)),if_pos g, .inl ⟨rfl,j3t_,rfl⟩,fun k q=>?_⟩
   rw[vd_ h hb h35 hl,if_neg (by lia)]
   exact(if_neg (by show¬(0:Int)=4;decide)).symm
  ·refine⟨.bad,if_neg g, .inr (.inr (.inr ⟨rfl,rfl⟩)),fun k q=>?_⟩
   rw[vd_ h hb h35 hl,if_pos (by lia)]
   exact(if_pos rfl).symm
 |false=>
  rw[if_neg Bool.false_ne_true,if_neg Bool.false_ne_true]
  cases hd:digit c with
  |true=>
   rw[if_pos rfl,if_pos rfl]
   refine⟨j09_ h hd,j0m_ (Nat.le_of_lt hi),?_⟩
   by_cases g:18<bw digit bs i-i\/glued bs (bw digit bs i)=true
   ·refine⟨.bad,if_pos g, .inr (.inr (.inr ⟨rfl,rfl⟩)),fun k q=>?_⟩
    rw[uk_ h hb h35 hl hd,if_pos g]
    exact(if_pos rfl).symm
   ·refine⟨.num (valueOf (cO bs i (bw digit bs i))),if_neg g, .inr (.inl ⟨rfl,j3t_,rfl⟩),fun k q=>?_⟩
    rw[uk_ h hb h35 hl hd,if_neg g]
    exact(if_neg (by show¬(1:Int)=4;decide)).symm
  |false=>
   rw[if_neg Bool.false_ne_true,if_neg Bool.false_ne_true]
   refine⟨(j05_ h).1,(j05_ h).2,?_⟩
   by_cases g:cO bs i (bK bs i)∈SIGNS
   ·refine⟨.sign (cO bs i (bK bs i)),if_pos g, .inr (.inr (.inl ⟨rfl,g,rfl⟩)),fun k q=>?_⟩
    rw[jy_ h hb h35 hl hd,if_pos g]
    exact(if_neg (by show¬(2:Int)=4;decide)).symm
   ·refine⟨.bad,if_neg g, .inr (.inr (.inr ⟨rfl,rfl⟩)),fun k q=>?_⟩
    rw[jy_ h hb h35 hl hd,if_neg g]
    exact(if_pos rfl).symm
theorem nb_eq {c d:UInt8}(h:nb c=nb d):c=d:=UInt8.toNat_inj.mp (Int.ofNat.inj h)
theorem j4g_ {as:List Addr}{x:Addr} :(as++[x]).map V.ref=as.map V.ref++[V.ref x]:=by rw[List.map_append];rfl
theorem spVal_ok {K:PySem.W.Frag}{k:Int}{u:Bytes}{v:V}{l:Addr}{H:Hp}{Q:VK}{E:XK}(ok:ValOk k u v) (hS:cK K H l (bsV u)) (hl:u.length<=3000) (q: ∀H',aW H H'->Q v H'):spVal K [.int k, .ref l] H Q E:=by
 refine⟨k,l,u,rfl,hS,hl,?_⟩
 rcases ok with⟨h,g,rfl⟩|⟨h,g,rfl⟩|⟨h,g,rfl⟩|⟨h,rfl⟩
 ·exact .inl ⟨h,g,q⟩
 ·exact .inr (.inl ⟨h,g,q⟩)
 ·exact .inr (.inr (.inl ⟨h,g,q⟩))
 ·exact .inr (.inr (.inr ⟨h,q⟩))
section
theorem j1a_ (T:Txt K mg a):aJ P w K mg base dE 1 a.f_ak a.fd_ak ["self","kind","value","line","column"] (spTok a.c_Token):=by
 refine T.d_ak.F.ok sc_ak [04] [03]
 ·obtain⟨p,dx,k,v,l,c,rfl,_⟩:=h
  rfl
 ·obtain⟨p,dx,k,v,l,c,rfl,hp,q⟩:=h
  refine⟨_,(ae [017]
    (ae [026]
    (ae [067]
    (ai (aX (pv 0) (pv 4) rfl))))),?_⟩
  have l1:(putF "kind" k []).length<1000:=Nat.lt_of_le_of_lt (df "kind" k []) [06]
  have l2:(putF "value" v (putF "kind" k [])).length<1000:=Nat.lt_of_le_of_lt (Nat.le_trans (df "value" v _) (Nat.succ_le_succ (df "kind" k []))) [06]
  have l3:(putF "line" l (putF "value" v (putF "kind" k []))).length<1000:=Nat.lt_of_le_of_lt (Nat.le_trans (df "line" l _) (Nat.succ_le_succ (Nat.le_trans (df "value" v _) (Nat.succ_le_succ (df "kind" k []))))) [06]
  refine⟨p,_,dx,_,rfl,hp,T.cl_Token,T.no_Token_kind,[015],?_⟩
  refine⟨p,_,dx,_,rfl,ah,T.cl_Token,T.no_Token_value,l1,?_⟩
  refine⟨p,_,dx,_,rfl,ah,T.cl_Token,T.no_Token_line,l2,?_⟩
  refine⟨p,_,dx,_,rfl,ah,T.cl_Token,T.no_Token_column,l3,?_⟩
  rw[04]
  rw[ag hb,ag hb,ag hb,ag hb]
  exact e
structure Mid4 (C:Addr) (bs:Bytes) (q:Addr) (H H':Hp) (i ln ls:Nat) (as:List Addr):Prop where
 sm:aW H H'
 lst:H' q=some (.lst (as.map V.ref))
 i_le:i<=bs.length
 ls_le:ls<=i
 rest: ∃(ts:Toks) (k:Nat),Paired (f9 C H') as ts/\bs.length<i+k/\tokens bs=ts++lex k (ln,i-ls+1) (bs.drop i)/\as.length<=i
theorem tok_new {C:Addr}{H5 H6:Hp}{q x dx:Addr}{as:List Addr}{ts:Toks}{y:Vbemac.Tok×Vbemac.Pos}(hx:H6 x=some (.ins C dx (tokF (.int (gK y.1)) (vv_ y.1) (.int (y.2.1:Nat)) (.int (y.2.2:Nat)))))
  (k: ∀b o,H5 b=some o->H6 b=some o) (p:Paired (f9 C H5) as ts) (nq:x≠q) (hq:H6 q=some (.lst (as.map V.ref))):
  Paired (f9 C (bg H6 q (.lst ((as++[x]).map V.ref)))) (as++[x]) (ts++[y]):=by
 refine dA (Paired.mapP p fun b z h=>?_) ⟨dx,by rw[ag nq];exact hx⟩
 refine f9.keep h fun b' o e no=>?_
 have ne:b'≠q:=fun z=>by
  have w1:=k _ _ e
  rw[z,hq] at w1
  exact no _ (Option.some.inj w1).symm
 rw[ag ne]
 exact k _ _ e
theorem ok_s (T:Txt K mg a) (kS:KdT P w K a.k_SIGNS eO):aJ P w K mg base dE 4 a.f_s a.fd_s ["text"] (spScan K a.c_Token):=by
 have G_7:=ok_7 (P:=P) (w:=w) (base:=base) T
 have G_aa:=ok_aa (P:=P) (w:=w) (base:=base) T kS
 have G_ab:=ok_ab (P:=P) (w:=w) (base:=base) T kS
 have G_U:=ok_U (P:=P) (w:=w) (base:=base) T kS
 have G_ak:=j1a_ (P:=P) (w:=w) (base:=base) T
 refine T.d_s.F.ok uh_ [04] [03]
 ·obtain⟨l,bs,rfl,_⟩:=h
  rfl
 ·obtain⟨l,bs,rfl,hS,hlen,hQ⟩:=h
  refine⟨_,(ae (aE (i:=1) uh_.nd rfl [05] (be af))
    (ae (aE (i:=2) uh_.nd rfl [05] aU)
    (ae (aE (i:=3) uh_.nd rfl [05] aU)
    (ae (aE (i:=4) uh_.nd rfl [05] aU)
    (ae (dR PassesOwn.never (bv op_lt (pv 4) [062] (bx _)) (ai (aZ (bv vo_ (dZ cZ (pv 0) (pv 4) [020]) (de (by rfl) T.g_BLANKS) rfl) (ae (j0z_ (i:=4) uh_.nd rfl [05] aU j16_)
    (ai (aZ (bv dw (dZ cZ (pv 0) (bh jv_ (pv 4) aU) [020]) (bN (by rfl) T.g_LINE_FEED) (bx _)) (ae (j0z_ (i:=2) uh_.nd rfl [05] aU j16_)
    (ai (aE (i:=3) uh_.nd rfl [05] (pv 4)))) aG))) (ai (aZ (bv dw (dZ cZ (pv 0) (pv 4) [020]) (bN (by rfl) T.g_COMMENT) (bx _)) (ai (aE (i:=4) uh_.nd rfl [05] (al G_7 [004] (by rfl) T.d_7.c aQ (aa (pv 0) (aa (pv 4) af))))) (ae (aE (i:=5) uh_.nd rfl [05] (al G_aa [004] (by rfl) T.d_aa.c aQ (aa (pv 0) (aa (pv 4) af))))
    (ae (aE (i:=6) uh_.nd rfl [05] (al G_ab [004] (by rfl) T.d_ab.c aQ (aa (pv 0) (aa (pv 4) (aa (pv 5) af)))))
    (ae (au (cr PySem.F.plainAttrs_list PySem.F.slot_list_append PySem.F.type_list_append bR (pv 1) (aa (cv T.mk_Token G_ak [004] (by rfl) T.mg_Token T.d_ak.c.b .nil aQ (aa (pv 6) (aa (al G_U [004] (by rfl) T.d_U.c aQ (aa (pv 6) (aa (yc_ uy_ (pv 0) (gB (pv 4)) (gB (pv 5))) af))) (aa (pv 2) (aa (bh dq (bh jv_ (pv 4) (pv 3)) aU) af))))) af)))
    (ae (aZ (bv dw (pv 6) (bN (by rfl) T.g_WRONG) (bx _)) [069] aG)
    (ai (aE (i:=4) uh_.nd rfl [05] (pv 5))))))))))))
    (ae (au (cr PySem.F.plainAttrs_list PySem.F.slot_list_append PySem.F.type_list_append bR (pv 1) (aa (cv T.mk_Token G_ak [004] (by rfl) T.mg_Token T.d_ak.c.b .nil aQ (aa (bN (by rfl) T.g_END) (aa ax (aa (pv 2) (aa (bh dq (bh jv_ (pv 4) (pv 3)) aU) af))))) af)))
    [069])))))),?_⟩
  refine⟨Nat.zero_le _,fun q hq=>⟨fun m σ H'=> ∃(i ln ls:Nat) (as:List Addr) (v5 v6:Option V),m=bs.length-i/\σ=[some (.ref l),some (.ref q),some (.int ln),some (.int ls),some (.int i),v5,v6]/\Mid4 a.c_Token bs q H H' i ln ls as,⟨_,0,1,0,[],none,none,rfl,rfl,⟨bf hq,ah,Nat.zero_le _,Nat.le_refl _,[],bs.length+1, .nil,by lia,rfl,Nat.le_refl _⟩⟩,?_⟩⟩
  rintro m σ H1 ⟨i,ln,ls,as,v5,v6,rfl,rfl,M⟩
  have hS1:=M.sm.seq hS
  obtain⟨ts,k,pr,hk,tk,asl⟩:=M.rest
  have ile:=M.i_le
  have lsle:=M.ls_le
  obtain⟨k,rfl⟩: ∃k',k=k'+1:=⟨k-1,by lia⟩
  have ec:(i:Int)-(ls:Int)+1=((i-ls+1:Nat):Int):=by lia
  refine⟨_,_,rfl, .inl hS1,_,_,rfl,rfl,_,rfl,?_⟩
  rw[fW]
  rw[003]
  ·have lt:i<bs.length:=by have:=of_decide_eq_true e;lia
   obtain⟨c,hc⟩: ∃c,bs[i]?=some c:=[0013]
   refine⟨fun σ' H''=> ∃(i' ln' ls':Nat) (as':List Addr) (v5' v6':Option V),i<i'/\σ'=[some (.ref l),some (.ref q),some (.int ln'),some (.int ls'),some (.int i'),v5',v6']/\Mid4 a.c_Token bs q H H'' i' ln' ls' as',?_,?_⟩
   ·rintro σ' H'' ⟨i',ln',ls',as',v5',v6',lt',rfl,M'⟩
    have:=M'.i_le
    exact⟨_,by lia,i',ln',ls',as',v5',v6',rfl,rfl,M'⟩
   refine⟨_,_,_,_,rfl,rfl,hS1,cY (fg hc),_,_,rfl, .inr T.t_BLANKS.sq,rfl,rfl,_,rfl,?_⟩
   show if inV (.int (nb c)) [.int 9, .int 10, .int 13, .int 32]=true then _ else _
   rw[blank_nb]
   refine bB (fun hb=>?_) fun hb=>?_
   ·refine⟨_,rfl,_,_,rfl,rfl,?_⟩
    refine⟨_,_,rfl,rfl,_,_,_,V.int (nb c),rfl,rfl,hS1,(by rw[Int.add_sub_cancel];exact cY (fg hc)),rfl,_,rfl,?_⟩
    rw[dz]
    have lx:=vq_ (k:=k) (q:=(ln,i-ls+1)) hc hb
    refine bB (fun h10=>?_) fun h10=>?_
    ·have c10:c=10:=nb_eq (of_decide_eq_true h10)
     refine⟨_,rfl,_,_,rfl,rfl,i+1,ln+1,i+1,as,v5,v6,Nat.lt_succ_self i,rfl,⟨M.sm,M.lst,lt,Nat.le_refl _,ts,k,pr,by lia,?_,by lia⟩⟩
     rw[tk,lx,c10,Nat.sub_self]
     rfl
    ·have c10: ¬c=10:=fun z=>absurd (by rw[z];rfl) (of_decide_eq_false h10)
     refine⟨i+1,ln,ls,as,v5,v6,Nat.lt_succ_self i,rfl,⟨M.sm,M.lst,lt,Nat.le_succ_of_le lsle,ts,k,pr,by lia,?_,by lia⟩⟩
     rw[tk,lx,show i+1-ls+1=i-ls+1+1 by lia]
     unfold advance
     rw[if_neg c10]
   ·refine⟨_,_,_,_,rfl,rfl,hS1,cY (fg hc),rfl,_,rfl,?_⟩
    rw[dz]
    refine bB (fun h35=>?_) fun h35=>?_
    ·have c35:c=35:=nb_eq (of_decide_eq_true h35)
     have g:i<bw eJ bs i:=j09_ hc (by rw[c35];rfl)
     have g2:bw eJ bs i<=bs.length:=j0m_ ile
     refine⟨l,bs,i,rfl,hS1,ile,bw eJ bs i,ln,ls,as,v5,v6,g,rfl,⟨M.sm,M.lst,g2,by lia,ts,k,pr,by lia,?_,by lia⟩⟩
     rw[tk,j3_ hc hb c35]
     show ts++lex k (ln,i-ls+1+(bw eJ bs i-i)) _=_
     rw[show i-ls+1+(bw eJ bs i-i)=bw eJ bs i-ls+1 by lia]
    ·have c35: ¬c=35:=fun z=>absurd (by rw[z];rfl) (of_decide_eq_false h35)
     obtain⟨g,g2,y,ky,vy,lx⟩:=turn_tok hc hb c35
     have lx:=lx k (ln,i-ls+1)
     refine⟨l,bs,i,c,rfl,hS1,hc,fun H2 s2=>?_⟩
     refine⟨l,bs,i,eR bs i c,c,rfl,s2.seq hS1,hc,Nat.le_of_lt g,g2,fun H3 s3=>?_⟩
     rw[ky]
     generalize eR bs i c=en at g g2 vy lx ky ⊢
     have s13:aW H1 H3:=s2.trans s3
     have hS3:=s13.seq hS1
     refine⟨.inl ⟨rfl,_,cK.of (s13 _ _ M.lst)⟩,?_⟩
     refine⟨_,rfl,_,rfl,_,_,rfl,hS3,fun p hp=>?_⟩
     rw[j0g_]
     refine spVal_ok vy (cK.of ah) ?_ fun H4 s4=>?_
     ·have:=qx_ (bs:=bs) (i:=i) (j:=en)
      lia
     have s14:aW H1 H4:=s13.trans ((bf hp).trans s4)
     refine⟨_,_,rfl,rfl,_,_,rfl,rfl,fun x dx hx hdx ne=>⟨x,dx,_,_,_,_,rfl,ah,fun H5 h5 k5=>⟨rfl,?_⟩⟩⟩
     have h5:H5 x=some (.ins a.c_Token dx (tokF (.int (gK y)) (vv_ y) (.int (ln:Nat)) (.int ((i-ls+1:Nat):Int)))):=by rw[<-ec];exact h5
     have s15:aW H1 H5:=fun b o e=>k5 b o (by rw[ag (aD (s14 b o e) hx),ag (aD (s14 b o e) hdx)];exact s14 b o e) (aD (s14 b o e) hx)
     have nq:x≠q:=(aD (s14 _ _ M.lst) hx).symm
     have q5:=s15 _ _ M.lst
     have pn:=tok_new (y:=(y,ln,i-ls+1)) h5 s15 pr nq q5
     have sm5:aW H (bg H5 q (.lst ((as++[x]).map V.ref))):=fun b o e=>by rw[ag (aD e hq)];exact s15 b o (M.sm b o e)
     refine⟨q,_,_,rfl,rfl,q5,by rw[List.length_map];exact Nat.lt_of_le_of_lt (Nat.le_trans asl (Nat.le_trans ile hlen)) [06],?_⟩
     rw[<-j4g_]
     refine [060]
     rw[dz]
     refine bB (fun k4=>?_) fun k4=>?_
     ·rw[if_pos (of_decide_eq_true k4)] at lx
      refine(hQ _ q (as++[x]) sm5 hq ah ?_)
      rw[tk,lx]
      exact pn
     ·rw[if_neg (of_decide_eq_false k4)] at lx
      refine⟨en,ln,ls,as++[x],_,_,g,rfl,⟨sm5,ah,g2,by lia,ts++[(y,ln,i-ls+1)],k,pn,by lia,?_,by rw[List.length_append,List.length_singleton];lia⟩⟩
      rw[tk,lx,List.append_assoc]
      show ts++(y,ln,i-ls+1)::lex k (ln,i-ls+1+(en-i)) _=_
      rw[show i-ls+1+(en-i)=en-ls+1 by lia]
      rfl
  ·have lx:=lex_end (k:=k) (q:=(ln,i-ls+1)) (bs:=bs) (i:=i) (by have:=of_decide_eq_false e;lia)
   refine⟨.inl ⟨rfl,_,cK.of M.lst⟩,?_⟩
   refine⟨_,_,rfl,rfl,_,_,rfl,rfl,fun x dx hx hdx ne=>⟨x,dx,_,_,_,_,rfl,ah,fun H5 h5 k5=>⟨rfl,?_⟩⟩⟩
   have h5:H5 x=some (.ins a.c_Token dx (tokF (.int (gK .eof)) (vv_ .eof) (.int (ln:Nat)) (.int ((i-ls+1:Nat):Int)))):=by rw[<-ec];exact h5
   have s15:aW H1 H5:=fun b o e=>k5 b o (by rw[ag (aD e hx),ag (aD e hdx)];exact e) (aD e hx)
   have nq:x≠q:=(aD M.lst hx).symm
   have q5:=s15 _ _ M.lst
   have pn:=tok_new (y:=(.eof,ln,i-ls+1)) h5 s15 pr nq q5
   have sm5:aW H (bg H5 q (.lst ((as++[x]).map V.ref))):=fun b o e=>by rw[ag (aD e hq)];exact s15 b o (M.sm b o e)
   refine⟨q,_,_,rfl,rfl,q5,by rw[List.length_map];exact Nat.lt_of_le_of_lt (Nat.le_trans asl (Nat.le_trans ile hlen)) [06],?_⟩
   rw[<-j4g_]
   refine(hQ _ q (as++[x]) sm5 hq ah ?_)
   rw[tk,lx]
   exact pn
end
end
section
theorem j12_:typeLookup [042] "number"=pure none:=by rw[typeLookup_type,builtinLookup_eq_fast];kernel_rfl
theorem exc_kind:typeLookup [042] "kind"=pure none:=by rw[typeLookup_type,builtinLookup_eq_fast];kernel_rfl
theorem exc_line:typeLookup [042] "line"=pure none:=by rw[typeLookup_type,builtinLookup_eq_fast];kernel_rfl
theorem j5q_:typeLookup [042] "column"=pure none:=by rw[typeLookup_type,builtinLookup_eq_fast];kernel_rfl
abbrev fault4 (n l c:Int):List (Str×V):=[("number", .int (-3)),("kind", .int n),("line", .int l),("column", .int c)]
abbrev num1 (n:Int):List (Str×V):=[("number", .int n)]
def gNum:List V->List (Str×V)->Prop:=fun us fs=> ∃n:Int,us=[.int n]/\fs=num1 n
def gFault:List V->List (Str×V)->Prop:=fun us fs=> ∃n l c:Int,us=[.int n, .int l, .int c]/\fs=fault4 n l c
structure XT (K:PySem.W.Frag) (a:cu):Prop where
 fc:gm K a.c_Refusal a.c_Fault a.f_aG
 rm:CMeth K a.c_Refusal "__init__" a.f_aj
section
theorem gQ {C fI:Addr}(T:Txt K mg a) (XC:gm K a.c_Refusal C fI):aJ P w K mg base dE 1 a.f_aj a.fd_aj ["self","number"] (js_ C gNum):=by
 refine T.d_aj.F.ok sc_aj [04] [03]
 ·obtain⟨p,us,fs,rfl,⟨n,rfl,rfl⟩,_⟩:=h
  rfl
 ·obtain⟨p,us,fs,rfl,⟨n,rfl,rfl⟩,hp,q⟩:=h
  refine⟨_,(ae (j5v_ (C:=C) (fI:=fI) XC (by rfl) T.n_Exception (pv 0))
   (ai (ps_x0 XC PySem.F.store_Exception [02] j12_ (pv 0) (pv 1) rfl))),?_⟩
  exact⟨p,rfl,hp,p,rfl,hp,fun d hd=>q d hd⟩
theorem jj_ (T:Txt K mg a) (XC:XT K a):aJ P w K mg base dE 2 a.f_aG a.fd_aG ["self","kind","line","column"] (js_ a.c_Fault gFault):=by
 have G:=gQ (P:=P) (w:=w) (base:=base) T XC.fc
 refine T.d_aG.F.ok sc_aG [04] [03]
 ·obtain⟨p,us,fs,rfl,⟨n,l,c,rfl,rfl⟩,_⟩:=h
  rfl
 ·obtain⟨p,us,fs,rfl,⟨n,l,c,rfl,rfl⟩,hp,q⟩:=h
  refine⟨_,(ae (au (j3z_ (by rfl) T.mg_Refusal XC.rm G [004] T.d_aj.c.b .nil aQ (aa (pv 0) (aa (pe_un un_neg aU) af))))
   (ae (ps_x1 XC.fc PySem.F.store_Exception [02] exc_kind (pv 0) (pv 1) rfl)
   (ae (ps_x1 XC.fc PySem.F.store_Exception [02] exc_line (pv 0) (pv 2) rfl)
   (ai (ps_x1 XC.fc PySem.F.store_Exception [02] j5q_ (pv 0) (pv 3) rfl))))),?_⟩
  refine⟨_,rfl,p,_,num1 (-3),rfl,⟨-3,rfl,rfl⟩,hp,fun d hd=>?_⟩
  have np:d≠p:=(aD hp hd).symm
  have z:=q d hd
  refine⟨p,d,_,rfl,ah,by rw[ag np,ah],by show 1<1000;decide,?_⟩
  refine⟨p,d,_,rfl,by rw[ag np.symm,ah],ah,by show 2<1000;decide,?_⟩
  refine⟨p,d,_,rfl,by rw[ag np.symm,ag np.symm,ah],ah,by show 3<1000;decide,?_⟩
  have eH: ∀f1 f2 f3 f4:List (Str×V),bg (bg (bg (bg (bg H d (cQ d f1)) p (yt_ a.c_Fault d p)) d (cQ d f2)) d (cQ d f3)) d (cQ d f4)=bg (bg H d (cQ d f4)) p (yt_ a.c_Fault d p):=fun f1 f2 f3 f4=>by
   funext b
   by_cases hb:b=d
   ·rw[hb,ah,ag np,ah]
   ·rw[ag hb,ag hb,ag hb]
    by_cases hb2:b=p
    ·rw[hb2,ah,ah]
    ·rw[ag hb2,ag hb,ag hb2,ag hb]
  show Q .non _
  rw[eH]
  exact z
end
end
section
open Vbemac (Bytes Toks)
def rdF (q kd fn ds bl:Addr) (n:Nat):List (Str×V):=[("tokens", .ref q),("at", .int n),("known", .ref kd),("functions", .ref fn),("desks", .ref ds),("blocks", .ref bl)]
inductive RToks (a:cu) (H:Hp) (q:Addr) (n:Nat) (t:Toks):Prop
 |mk (as:List Addr) (all:Toks) (_:H q=some (.lst (as.map V.ref))) (_:Paired (f9 a.c_Token H) as all) (_:all.drop n=t):RToks a H q n t
structure Rdr (a:cu) (H:Hp) (r q kd fn ds bl:Addr) (n:Nat) (t:Toks):Prop where
 ins: ∃dr,H r=some (.ins a.c_Reader dr (rdF q kd fn ds bl n))
 toks:RToks a H q n t
def fw (C:Addr) (E:XK) (H:Hp) (n:Nat) (x:Vbemac.Pos):Prop:= ∀d,H d=none->E (.ref C) (some d) (bg H d (cQ d (fault4 n x.1 x.2)))
theorem j5_ {α β:Type}{F:α->β->Prop} : ∀ {l:List α}{m:List β}{i:Nat}{y:β},Paired F l m->m[i]?=some y-> ∃x,l[i]?=some x/\F x y
 |_,_,_,_, .nil,h=>by cases h
 |_,_,0,_, .cons r t,h=>⟨_,rfl,by obtain rfl:=Option.some.inj h;exact r⟩
 |_,_,i+1,_, .cons r t,h=>j5_ (i:=i) t h
theorem j6a_ {α:Type}{l t:List α}{x:α}{n:Nat}(h:l.drop n=x::t):l[n]?=some x:=by
 have:=congrArg (fun z:List α=>z[0]?) h
 simpa using this
theorem Rdr.cur {a:cu}{H:Hp}{r q kd fn ds bl:Addr}{n:Nat}{x:Vbemac.Tok×Vbemac.Pos}{t:Toks}(R:Rdr a H r q kd fn ds bl n (x::t)):
  ∃(as:List Addr) (p:Addr),H q=some (.lst (as.map V.ref))/\(as.map V.ref)[n]?=some (.ref p)/\f9 a.c_Token H p x:=by
 obtain⟨as,all,h1,h2,h3⟩:=R.toks
 obtain⟨p,e,k⟩:=j5_ h2 (j6a_ h3)
 exact⟨as,p,h1,by rw[List.getElem?_map,e];rfl,k⟩
inductive spCur (a:cu) (vs:List V) (H:Hp) (Q:VK) (E:XK):Prop
 |mk (r q kd fn ds bl:Addr) (n:Nat) (x:Vbemac.Tok×Vbemac.Pos) (t:Toks) (_:vs=[.ref r]) (_:Rdr a H r q kd fn ds bl n (x::t)) (_:[037]) (_:(x.1≠ .bad-> ∀p,f9 a.c_Token H p x->Q (.ref p) H)):spCur a vs H Q E
inductive spFail (a:cu) (vs:List V) (H:Hp) (_Q:VK) (E:XK):Prop
 |mk (r q kd fn ds bl:Addr) (n:Nat) (x:Vbemac.Tok×Vbemac.Pos) (t:Toks) (m:Nat) (_:vs=[.ref r, .int m]) (_:Rdr a H r q kd fn ds bl n (x::t)) (_:fw a.c_Fault E H (if x.1= .bad then 1 else m) x.2):spFail a vs H _Q E
theorem j22_ {x:Vbemac.Tok} :gK x=4 ↔ x= .bad:=by cases x<;>simp [gK]
section
theorem cy (T:Txt K mg a) (XC:XT K a):aJ P w K mg base (cH P w) 4 a.f_g a.fd_g ["self"] (spCur a):=by
 have G:=jj_ (P:=P) (w:=w) (base:=base) T XC
 refine fh T.d_g.F sc_g [04] [03]
 ·obtain⟨r,q,kd,fn,ds,bl,n,x,t,rfl,_⟩:=h
  rfl
 ·obtain⟨r,q,kd,fn,ds,bl,n,x,t,rfl,R,hb,hg⟩:=h
  rw[002]
  obtain⟨as,p,eq,ep,tp⟩:=R.cur
  have tp':=tp
  obtain⟨dx,et⟩:=tp'
  refine⟨_,(ae (aE (i:=1) sc_g.nd rfl [05] (dZ cZ [07] [07] [020]))
    (ae (aZ (bv dw (aI (pv 1) rfl) (bN (by rfl) T.g_WRONG) (bx _)) (ai (j47_ j0l_ XC.fc G [004] (by rfl) T.mg_Fault T.d_aG.c.b (aa (bN (by rfl) T.g_WRONG_TOKEN) (aa (aI (pv 1) rfl) (aa (aI (pv 1) rfl) af))))) aG)
    [069])),?_⟩
  refine⟨r,_,dr,_,_,rfl,er,T.cl_Reader,T.no_Reader_tokens,rfl,r,_,dr,_,_,rfl,er,T.cl_Reader,T.no_Reader_at,rfl,q,_,n, .ref p,rfl,rfl,cK.of eq,cY ep,?_⟩
  refine⟨p,_,dx,_,_,rfl,et,T.cl_Token,T.no_Token_kind,rfl,rfl,_,rfl,?_⟩
  rw[dz]
  rw[003]
  ·have xb:=j22_.mp (of_decide_eq_true e)
   exact⟨p,_,dx,_,_,rfl,et,T.cl_Token,T.no_Token_line,rfl,p,_,dx,_,_,rfl,et,T.cl_Token,T.no_Token_column,rfl,(by show 3<=9;decide),_,⟨_,_,_,rfl,rfl⟩,hb xb⟩
  ·have xb:x.1≠ .bad:=fun z=>of_decide_eq_false e (j22_.mpr z)
   exact(hg xb p tp)
end
end
section
open Vbemac (Bytes Toks KEYS)
inductive spAsk (a:cu) (b:Vbemac.Tok->Bool) (vs:List V) (H:Hp) (Q:VK) (E:XK):Prop
 |mk (r q kd fn ds bl:Addr) (n:Nat) (x:Vbemac.Tok×Vbemac.Pos) (t:Toks) (_:vs=[.ref r]) (_:Rdr a H r q kd fn ds bl n (x::t)) (_:[037]) (_:(x.1≠ .bad->Q (.bl (b x.1)) H)):spAsk a b vs H Q E
def isV (v:Str) (k:Vbemac.Tok):Bool:=decide (vv_ k= .str v)
inductive j2v_ (a:cu) (vs:List V) (H:Hp) (Q:VK) (E:XK):Prop
 |mk (r q kd fn ds bl:Addr) (n:Nat) (x:Vbemac.Tok×Vbemac.Pos) (t:Toks) (v:Str) (_:vs=[.ref r, .str v]) (_:Rdr a H r q kd fn ds bl n (x::t)) (_:[037]) (_:(x.1≠ .bad->Q (.bl (isV v x.1)) H)):j2v_ a vs H Q E
def past (a:cu) (H:Hp) (r q kd fn ds bl:Addr) (n:Nat) (H':Hp):Prop:= ∃dr,H r=some (.ins a.c_Reader dr (rdF q kd fn ds bl n))/\H'=bg H r (.ins a.c_Reader dr (rdF q kd fn ds bl (n+1)))
inductive spTake (a:cu) (vs:List V) (H:Hp) (Q:VK) (E:XK):Prop
 |mk (r q kd fn ds bl:Addr) (n:Nat) (x:Vbemac.Tok×Vbemac.Pos) (t:Toks) (_:vs=[.ref r]) (_:Rdr a H r q kd fn ds bl n (x::t)) (_:[037]) (_:(x.1≠ .bad-> ∀H',past a H r q kd fn ds bl n H'->Q (vv_ x.1) H')):spTake a vs H Q E
inductive eX (a:cu) (vs:List V) (H:Hp) (Q:VK) (E:XK):Prop
 |mk (r q kd fn ds bl:Addr) (n:Nat) (x:Vbemac.Tok×Vbemac.Pos) (t:Toks) (v:Str) (_:vs=[.ref r, .str v]) (_:Rdr a H r q kd fn ds bl n (x::t)) (_:[037]) (_:(x.1≠ .bad->isV v x.1=false->fw a.c_Fault E H 2 x.2)) (_:(x.1≠ .bad->isV v x.1=true-> ∀H',past a H r q kd fn ds bl n H'->Q .non H')):eX a vs H Q E
inductive um_ (a:cu) (vs:List V) (H:Hp) (Q:VK) (E:XK):Prop
 |mk (r q kd fn ds bl:Addr) (n:Nat) (x:Vbemac.Tok×Vbemac.Pos) (t:Toks) (v:Str) (_:vs=[.ref r, .str v]) (_:Rdr a H r q kd fn ds bl n (x::t)) (_:[037]) (_:(x.1≠ .bad->isV v x.1=false->Q (.bl false) H)) (_:(x.1≠ .bad->isV v x.1=true-> ∀H',past a H r q kd fn ds bl n H'->Q (.bl true) H')):um_ a vs H Q E
theorem Rdr.step {a:cu}{H H':Hp}{r q kd fn ds bl:Addr}{n:Nat}{x:Vbemac.Tok×Vbemac.Pos}{t:Toks}(R:Rdr a H r q kd fn ds bl n (x::t)) (h:past a H r q kd fn ds bl n H'):Rdr a H' r q kd fn ds bl (n+1) t:=by
 obtain⟨dr,e,rfl⟩:=h
 obtain⟨as,all,h1,h2,h3⟩:=R.toks
 refine⟨⟨dr,ah⟩,as,all,?_,Paired.mapP h2 fun b z k=>?_,?_⟩
 ·have ne:q≠r:=fun z=>by rw[z,e] at h1;cases h1
  rw[ag ne]
  exact h1
 ·obtain⟨dx,ez⟩:=k
  have ne:b≠r:=fun z=>by
   rw[z,e] at ez
   have:=congrArg List.length (HO.ins.inj (Option.some.inj ez)).2.2
   cases this
  exact⟨dx,by rw[ag ne];exact ez⟩
 ·have:=congrArg (List.drop 1) h3
  rw[List.drop_drop] at this
  exact this
theorem scal_tok {x:Vbemac.Tok}{v:Str} :scal (vv_ x) (.str v)=true:=by cases x<;>rfl
def isNum:Vbemac.Tok->Bool
 | .num _=>true
 |_=>false
def isEnd:Vbemac.Tok->Bool
 | .eof=>true
 |_=>false
section
theorem dG (T:Txt K mg a) (XC:XT K a):aJ P w K mg base (cH P w) 5 a.f_e a.fd_e ["self","kind"] (spFail a):=by
 have G:=jj_ (P:=P) (w:=w) (base:=base) T XC
 rw[001]
 refine fh T.d_e.F sc_e [04] [03]
 ·obtain⟨r,q,kd,fn,ds,bl,n,x,t,m,rfl,_⟩:=h
  rfl
 ·obtain⟨r,q,kd,fn,ds,bl,n,x,t,m,rfl,R,hf⟩:=h
  rw[002]
  refine⟨_,(ae (aE (i:=2) sc_e.nd rfl [05] [049])
    (ai (j47_ j0l_ XC.fc G [004] (by rfl) T.mg_Fault T.d_aG.c.b (aa (pv 1) (aa (aI (pv 2) rfl) (aa (aI (pv 2) rfl) af)))))),?_⟩
  refine⟨r,dr,_,rfl,er,rfl,r,q,kd,fn,ds,bl,n,x,t,rfl,R,fun b=>by rw[if_pos b] at hf;exact hf,fun nb p tp=>?_⟩
  rw[if_neg nb] at hf
  obtain⟨dx,et⟩:=tp
  exact⟨p,_,dx,_,_,rfl,et,T.cl_Token,T.no_Token_line,rfl,p,_,dx,_,_,rfl,et,T.cl_Token,T.no_Token_column,rfl,(by show 3<=9;decide),_,⟨_,_,_,rfl,rfl⟩,hf⟩
theorem dF (T:Txt K mg a) (XC:XT K a):aJ P w K mg base (cH P w) 5 a.f_c a.fd_c ["self","value"] (j2v_ a):=by
 rw[001]
 refine fh T.d_c.F sc_c [04] [03]
 ·obtain⟨r,q,kd,fn,ds,bl,n,x,t,v,rfl,_⟩:=h
  rfl
 ·obtain⟨r,q,kd,fn,ds,bl,n,x,t,v,rfl,R,hb,hg⟩:=h
  rw[002]
  refine⟨_,(ai (ay (fU dw (aI [049] rfl) (pv 1) (bx _)))),?_⟩
  refine [081]
  obtain⟨dx,et⟩:=tp
  exact⟨p,_,dx,_,_,rfl,et,T.cl_Token,T.no_Token_value,rfl,scal_tok,hg nb⟩
theorem j69_ (T:Txt K mg a) (XC:XT K a):aJ P w K mg base (cH P w) 5 a.f_aI a.fd_aI ["self"] (spAsk a isEnd):=by
 rw[001]
 refine fh T.d_aI.F sc_aI [04] [03]
 ·obtain⟨r,q,kd,fn,ds,bl,n,x,t,rfl,_⟩:=h
  rfl
 ·obtain⟨r,q,kd,fn,ds,bl,n,x,t,rfl,R,hb,hg⟩:=h
  rw[002]
  refine⟨_,(ai (ay (fU dw (aI [049] rfl) (bN (by rfl) T.g_END) (bx _)))),?_⟩
  refine [081]
  obtain⟨dx,et⟩:=tp
  refine⟨p,_,dx,_,_,rfl,et,T.cl_Token,T.no_Token_kind,rfl,rfl,?_⟩
  have z:=hg nb
  rw[dz]
  have e:decide (gK x.1=3)=isEnd x.1:=by cases x.1<;>rfl
  rw[e]
  exact z
theorem j2o_ (T:Txt K mg a) (XC:XT K a):aJ P w K mg base (cH P w) 5 a.f_aJ a.fd_aJ ["self"] (spAsk a isNum):=by
 rw[001]
 refine fh T.d_aJ.F sc_aJ [04] [03]
 ·obtain⟨r,q,kd,fn,ds,bl,n,x,t,rfl,_⟩:=h
  rfl
 ·obtain⟨r,q,kd,fn,ds,bl,n,x,t,rfl,R,hb,hg⟩:=h
  rw[002]
  refine⟨_,(ai (ay (fU dw (aI [049] rfl) (bN (by rfl) T.g_NUMBER) (bx _)))),?_⟩
  refine [081]
  obtain⟨dx,et⟩:=tp
  refine⟨p,_,dx,_,_,rfl,et,T.cl_Token,T.no_Token_kind,rfl,rfl,?_⟩
  have z:=hg nb
  rw[dz]
  have e:decide (gK x.1=1)=isNum x.1:=by cases x.1<;>rfl
  rw[e]
  exact z
theorem fT (T:Txt K mg a) (XC:XT K a):aJ P w K mg base (cH P w) 5 a.f_h a.fd_h ["self"] (spTake a):=by
 rw[001]
 refine fh T.d_h.F sc_h [04] [03]
 ·obtain⟨r,q,kd,fn,ds,bl,n,x,t,rfl,_⟩:=h
  rfl
 ·obtain⟨r,q,kd,fn,ds,bl,n,x,t,rfl,R,hb,hg⟩:=h
  rw[002]
  refine⟨_,(ae (aE (i:=1) sc_h.nd rfl [05] [049])
    (ae (qo_ (pv 0) aU in_add)
    (ai (ay (aI (pv 1) rfl))))),?_⟩
  refine [081]
  obtain⟨dx,et⟩:=tp
  have ne:p≠r:=fun z=>by
   rw[z,er] at et
   have:=congrArg List.length (HO.ins.inj (Option.some.inj et)).2.2
   cases this
  refine⟨r,_,dr,_,_,rfl,er,T.cl_Reader,T.no_Reader_at,rfl,_,_,rfl,rfl,dr,_,er,(by show 6<1000;decide),?_⟩
  exact⟨p,_,dx,_,_,rfl,(by rw[ag ne];exact et),T.cl_Token,T.no_Token_value,rfl,hg nb _ ⟨dr,er,rfl⟩⟩
end
end
section
open Vbemac (Bytes Toks KEYS)
def keyV:List V:=[.str "const", .str "fun", .str "desk", .str "let", .str "for", .str "in", .str "if", .str "then", .str "else", .str "sell", .str "buy", .str "zone", .str "quarter", .str "price", .str "to", .str "amount", .str "block", .str "under", .str "group", .str "sum"]
def dv:Vbemac.Tok->Bool
 | .word u=>!inV (.str (sb u)) keyV
 |_=>false
inductive spNeed (a:cu) (vs:List V) (H:Hp) (Q:VK) (E:XK):Prop
 |mk (r q kd fn ds bl:Addr) (n:Nat) (x:Vbemac.Tok×Vbemac.Pos) (t:Toks) (_:vs=[.ref r]) (_:Rdr a H r q kd fn ds bl n (x::t)) (_:[037]) (_:(x.1≠ .bad->dv x.1=false->fw a.c_Fault E H 2 x.2)) (_:(x.1≠ .bad->dv x.1=true->Q .non H)):spNeed a vs H Q E
inductive spAhead (a:cu) (vs:List V) (H:Hp) (Q:VK) (E:XK):Prop
 |mk (r q kd fn ds bl:Addr) (n:Nat) (x y:Vbemac.Tok×Vbemac.Pos) (t:Toks) (_:vs=[.ref r]) (_:Rdr a H r q kd fn ds bl n (x::y::t)) (_:Q (.bl (isNum y.1)) H):spAhead a vs H Q E
section
theorem cf (T:Txt K mg a) (XC:XT K a):aJ P w K mg base (cH P w) 6 a.f_a a.fd_a ["self","value"] (eX a):=by
 rw[05]
 rw[06]
 refine fh T.d_a.F sc_a [04] [03]
 ·obtain⟨r,q,kd,fn,ds,bl,n,x,t,v,rfl,_⟩:=h
  rfl
 ·obtain⟨r,q,kd,fn,ds,bl,n,x,t,v,rfl,R,hb,hf,hg⟩:=h
  rw[002]
  refine⟨_,(ae (aZ (eS (bd (aA (pv 0) T.cl_Reader T.d_c.c G_c [004] aj [002]))) (ai (au (aA (pv 0) T.cl_Reader T.d_e.c G_e [004] aj (aa (bN (by rfl) T.g_NOT_HERE) af)))) aG)
    (ai (qo_ (pv 0) aU in_add))),?_⟩
  refine⟨r,dr,_,rfl,er,rfl,r,q,kd,fn,ds,bl,n,x,t,v,rfl,R,hb,fun nb=>[016]⟩
  cases e:isV v x.1 with
  |false=>
   rw[027]
   exact⟨r,dr,_,rfl,er,rfl,r,q,kd,fn,ds,bl,n,x,t,2,rfl,R,by rw[if_neg nb];exact hf nb e⟩
  |true=>
   rw[008]
   exact⟨r,_,dr,_,_,rfl,er,T.cl_Reader,T.no_Reader_at,rfl,_,_,rfl,rfl,dr,_,er,(by show 6<1000;decide),hg nb e _ ⟨dr,er,rfl⟩⟩
theorem wf_ (T:Txt K mg a) (XC:XT K a):aJ P w K mg base (cH P w) 5 a.f_ac a.fd_ac ["self"] (spAsk a dv):=by
 rw[001]
 refine fh T.d_ac.F sc_ac [04] [03]
 ·obtain⟨r,q,kd,fn,ds,bl,n,x,t,rfl,_⟩:=h
  rfl
 ·obtain⟨r,q,kd,fn,ds,bl,n,x,t,rfl,R,hb,hg⟩:=h
  rw[002]
  refine⟨_,(ae (aE (i:=1) sc_ac.nd rfl [05] [049])
    (ai (ay (pe_and (fU dw (aI (pv 1) rfl) (bN (by rfl) T.g_WORD) (bx _)) (j36_ (fU j3h_ (aI (pv 1) rfl) (de (by rfl) T.g_KEY_WORDS) rfl)))))),?_⟩
  refine [081]
  obtain⟨dx,et⟩:=tp
  have z:=hg nb
  refine⟨p,_,dx,_,_,rfl,et,T.cl_Token,T.no_Token_kind,rfl,rfl,_,rfl,?_⟩
  rw[dz]
  cases e:x.1 with
  |word u=>
   rw[e] at z et
   rw[027]
   refine⟨p,_,dx,_,_,rfl,et,T.cl_Token,T.no_Token_value,rfl,_,_,rfl, .inr T.t_KEY_WORDS.sq,rfl,rfl,z⟩
  |num m=>rw[e] at z;exact cR z
  |sign u=>rw[e] at z;exact cR z
  |eof=>rw[e] at z;exact cR z
  |bad=>exact absurd e nb
theorem fV (T:Txt K mg a) (XC:XT K a):aJ P w K mg base (cH P w) 6 a.f_E a.fd_E ["self"] (spNeed a):=by
 have G_ac:=wf_ (P:=P) (w:=w) (base:=base) T XC
 rw[06]
 refine fh T.d_E.F sc_E [04] [03]
 ·obtain⟨r,q,kd,fn,ds,bl,n,x,t,rfl,_⟩:=h
  rfl
 ·obtain⟨r,q,kd,fn,ds,bl,n,x,t,rfl,R,hb,hf,hg⟩:=h
  rw[002]
  refine⟨_,(ai (aZ (eS (bd (a0 (pv 0) T.cl_Reader T.d_ac.c G_ac [004] aj))) (ai (au (aA (pv 0) T.cl_Reader T.d_e.c G_e [004] aj (aa (bN (by rfl) T.g_NOT_HERE) af)))) aG)),?_⟩
  refine⟨r,dr,_,rfl,er,rfl,r,q,kd,fn,ds,bl,n,x,t,rfl,R,hb,fun nb=>[016]⟩
  cases e:dv x.1 with
  |false=>
   rw[027]
   exact⟨r,dr,_,rfl,er,rfl,r,q,kd,fn,ds,bl,n,x,t,2,rfl,R,by rw[if_neg nb];exact hf nb e⟩
  |true=>exact cR (hg nb e)
theorem ya_ (T:Txt K mg a):aJ P w K mg base dE 1 a.f_aK a.fd_aK ["self"] (spAhead a):=by
 refine T.d_aK.F.ok sc_aK [04] [03]
 ·obtain⟨r,q,kd,fn,ds,bl,n,x,y,t,rfl,_⟩:=h
  rfl
 ·obtain⟨r,q,kd,fn,ds,bl,n,x,y,t,rfl,R,z⟩:=h
  rw[002]
  obtain⟨as,all,h1,h2,h3⟩:=R.toks
  have h4:all[n+1]?=some y:=by
   have:=congrArg (fun z:Toks=>z[1]?) h3
   simpa [Nat.add_comm] using this
  obtain⟨p,e,dx,et⟩:=j5_ h2 h4
  have ep:(as.map V.ref)[n+1]?=some (.ref p):=by rw[List.getElem?_map,e];rfl
  refine⟨_,(ai (ay (fU dw (aI (dZ cZ [07] (bh dq [07] aU) [020]) rfl) (bN (by rfl) T.g_NUMBER) (bx _)))),?_⟩
  refine⟨r,_,dr,_,_,rfl,er,T.cl_Reader,T.no_Reader_tokens,rfl,r,_,dr,_,_,rfl,er,T.cl_Reader,T.no_Reader_at,rfl,_,_,rfl,rfl,q,_,((n+1:Nat):Int), .ref p,rfl,rfl,cK.of h1,cY ep,p,_,dx,_,_,rfl,et,T.cl_Token,T.no_Token_kind,rfl,rfl,?_⟩
  rw[dz]
  have e:decide (gK y.1=1)=isNum y.1:=by cases y.1<;>rfl
  rw[e]
  exact z
end
end
section
open Vbemac (Bytes Toks KEYS)
abbrev nk (u:Bytes):bW:=Sum.inr (sb u)
def has (kvs:List (bW×V)) (u:Bytes):Bool:=(cP kvs (nk u)).isSome
inductive j2m_ (a:cu) (vs:List V) (H:Hp) (Q:VK) (E:XK):Prop
 |mk (r q kd fn ds bl:Addr) (n:Nat) (x:Vbemac.Tok×Vbemac.Pos) (t:Toks) (kk ff:List (bW×V)) (_:vs=[.ref r]) (_:Rdr a H r q kd fn ds bl n (x::t)) (_:H kd=some (.dK kk)) (_:H fn=some (.dK ff)) (_:[037]) (_:(x.1≠ .bad->dv x.1=false->fw a.c_Fault E H 2 x.2)) (_:(∀u,x.1= .word u->dv x.1=true->(has kk u||has ff u)=true->fw a.c_Fault E H 4 x.2)) (_:(∀u,x.1= .word u->dv x.1=true->(has kk u||has ff u)=false-> ∀H',past a H r q kd fn ds bl n H'->Q (.str (sb u)) H')):j2m_ a vs H Q E
inductive spOther (a:cu) (vs:List V) (H:Hp) (Q:VK) (E:XK):Prop
 |mk (r q kd fn ds bl g:Addr) (n:Nat) (x:Vbemac.Tok×Vbemac.Pos) (t:Toks) (gg:List (bW×V)) (_:vs=[.ref r, .ref g]) (_:Rdr a H r q kd fn ds bl n (x::t)) (_:H g=some (.dK gg)) (_:[037]) (_:(x.1≠ .bad->dv x.1=false->fw a.c_Fault E H 2 x.2)) (_:(∀u,x.1= .word u->dv x.1=true->has gg u=true->fw a.c_Fault E H 4 x.2)) (_:(∀u,x.1= .word u->dv x.1=true->has gg u=false-> ∀H',past a H r q kd fn ds bl n H'->Q (.str (sb u)) H')):spOther a vs H Q E
inductive spLearn (a:cu) (vs:List V) (H:Hp) (Q:VK) (_E:XK):Prop
 |mk (r dr q kd fn ds bl:Addr) (n:Nat) (u:Bytes) (kk:List (bW×V)) (_:vs=[.ref r, .str (sb u)]) (_:H r=some (.ins a.c_Reader dr (rdF q kd fn ds bl n))) (_:H kd=some (.dK kk)) (_:kk.length<sizeLine) (_:Q .non (bg H kd (.dK (dI kk (nk u) (.bl true))))):spLearn a vs H Q _E
inductive j4j_ (a:cu) (vs:List V) (H:Hp) (Q:VK) (_E:XK):Prop
 |mk (r dr q kd fn ds bl:Addr) (n:Nat) (u:Bytes) (kk:List (bW×V)) (_:vs=[.ref r, .str (sb u)]) (_:H r=some (.ins a.c_Reader dr (rdF q kd fn ds bl n))) (_:H kd=some (.dK kk)) (_:has kk u=true) (_:Q .non (bg H kd (.dK (eE kk (nk u))))):j4j_ a vs H Q _E
section
theorem gk (T:Txt K mg a):aJ P w K mg base dE 1 a.f_q a.fd_q ["self","name"] (spLearn a):=by
 refine T.d_q.F.ok sc_q [04] [03]
 ·obtain⟨r,dr,q,kd,fn,ds,bl,n,u,kk,rfl,_⟩:=h
  rfl
 ·obtain⟨r,dr,q,kd,fn,ds,bl,n,u,kk,rfl,er,ek,lk,hq⟩:=h
  refine⟨_,(ai (ur_ (fG hr) [07] (pv 1) pe_bl rfl)),?_⟩
  exact⟨r,_,dr,_,_,rfl,er,T.cl_Reader,T.no_Reader_known,rfl,kd,_,rfl,DPut.k (k:=nk u) ek lk,hq⟩
theorem gv (T:Txt K mg a):aJ P w K mg base dE 1 a.f_w a.fd_w ["self","name"] (j4j_ a):=by
 refine T.d_w.F.ok sc_w [04] [03]
 ·obtain⟨r,dr,q,kd,fn,ds,bl,n,u,kk,rfl,_⟩:=h
  rfl
 ·obtain⟨r,dr,q,kd,fn,ds,bl,n,u,kk,rfl,er,ek,hk,hq⟩:=h
  obtain⟨v,ev⟩:=Option.isSome_iff_exists.mp hk
  refine⟨_,(ai (au (pe_dpop1 [07] (pv 1) ⟨rfl,rfl,rfl,rfl⟩))),?_⟩
  exact⟨r,_,dr,_,_,rfl,er,T.cl_Reader,T.no_Reader_known,rfl,kd,rfl, .inl ⟨kk, .inl ek⟩,kk,nk u,v,ek,rfl,ev,hq⟩
theorem ca (T:Txt K mg a) (XC:XT K a):aJ P w K mg base (cH P w) 7 a.f_n a.fd_n ["self"] (j2m_ a):=by
 rw[046]
 refine fh T.d_n.F sc_n [04] [03]
 ·obtain⟨r,q,kd,fn,ds,bl,n,x,t,kk,ff,rfl,_⟩:=h
  rfl
 ·obtain⟨r,q,kd,fn,ds,bl,n,⟨x,xp⟩,t,kk,ff,rfl,R,ek,ef,hb,hn,h4,hg⟩:=h
  rw[002]
  refine⟨_,(ae (au (a0 (pv 0) T.cl_Reader T.d_E.c G_E [004] aj))
    (ae (aE (i:=1) sc_n.nd rfl [05] (aI [049] rfl))
    (ae (aZ (pw_or (fe (j3a_ (fG hr) (pv 1) [07])) (j2h_ (fe (j3a_ (fG hr) (pv 1) [07])))).pt (ai (au (aA (pv 0) T.cl_Reader T.d_e.c G_e [004] aj (aa (bN (by rfl) T.g_NOT_FREE) af)))) aG)
    (ai (ay (a0 (pv 0) T.cl_Reader T.d_h.c G_h [004] aj)))))),?_⟩
  refine⟨r,dr,_,rfl,er,rfl,r,q,kd,fn,ds,bl,n,(x,xp),t,rfl,R,hb,hn,fun nb e=>?_⟩
  cases x with
  |word u=>
   refine⟨r,dr,_,rfl,er,rfl,r,q,kd,fn,ds,bl,n,(.word u,xp),t,rfl,R,hb,fun _ p ⟨dx,et⟩=>[087]⟩
   have bad4:(has kk u||has ff u)=true->fw a.c_Fault E H 4 xp:=h4 u rfl e
   have good:(has kk u||has ff u)=false-> ∀H',past a H r q kd fn ds bl n H'->Q (.str (sb u)) H':=hg u rfl e
   refine⟨r,_,dr,_,_,rfl,er,T.cl_Reader,T.no_Reader_known,rfl,kd,_,rfl,yi_.k (k:=nk u) ek,_,rfl,bB (fun e1=>?_) fun e1=>?_⟩
   ·refine dQ ?_
    refine⟨r,dr,_,rfl,er,rfl,r,q,kd,fn,ds,bl,n,(.word u,xp),t,4,rfl,R,?_⟩
    rw[if_neg nb]
    exact bad4 (by unfold has;rw[e1];rfl)
   ·refine⟨r,_,dr,_,_,rfl,er,T.cl_Reader,T.no_Reader_functions,rfl,fn,_,rfl,yi_.k (k:=nk u) ef,_,rfl,bB (fun e2=>?_) fun e2=>?_⟩
    ·refine⟨r,dr,_,rfl,er,rfl,r,q,kd,fn,ds,bl,n,(.word u,xp),t,4,rfl,R,?_⟩
     rw[if_neg nb]
     exact bad4 (by unfold has;rw[e1,e2];rfl)
    ·exact⟨r,dr,_,rfl,er,rfl,r,q,kd,fn,ds,bl,n,(.word u,xp),t,rfl,R,hb,fun _=>good (by unfold has;rw[e1,e2];rfl)⟩
  |num m=>cases e
  |sign u=>cases e
  |eof=>cases e
  |bad=>exact absurd rfl nb
end
end
section
open Vbemac (Bytes Toks)
section
theorem wz_ (T:Txt K mg a) (XC:XT K a):aJ P w K mg base (cH P w) 6 a.f_V a.fd_V ["self","value"] (um_ a):=by
 rw[05]
 refine fh T.d_V.F sc_V [04] [03]
 ·obtain⟨r,q,kd,fn,ds,bl,n,x,t,v,rfl,_⟩:=h
  rfl
 ·obtain⟨r,q,kd,fn,ds,bl,n,x,t,v,rfl,R,hb,hf,hg⟩:=h
  rw[002]
  refine⟨_,(ae (aZ (eS (bd (aA (pv 0) T.cl_Reader T.d_c.c G_c [004] aj [002]))) (ai (ay pe_bl)) aG)
    (ae (qo_ (pv 0) aU in_add)
    (ai (ay pe_bl)))),?_⟩
  refine⟨r,dr,_,rfl,er,rfl,r,q,kd,fn,ds,bl,n,x,t,v,rfl,R,hb,fun nb=>[016]⟩
  cases e:isV v x.1 with
  |false=>exact dQ (hf nb e)
  |true=>
   rw[008]
   exact⟨r,_,dr,_,_,rfl,er,T.cl_Reader,T.no_Reader_at,rfl,_,_,rfl,rfl,dr,_,er,(by show 6<1000;decide),hg nb e _ ⟨dr,er,rfl⟩⟩
theorem fQ (T:Txt K mg a) (XC:XT K a):aJ P w K mg base (cH P w) 7 a.f_al a.fd_al ["self","given"] (spOther a):=by
 rw[046]
 refine fh T.d_al.F sc_al [04] [03]
 ·obtain⟨r,q,kd,fn,ds,bl,g,n,x,t,gg,rfl,_⟩:=h
  rfl
 ·obtain⟨r,q,kd,fn,ds,bl,g,n,⟨x,xp⟩,t,gg,rfl,R,eg,hb,hn,h4,hg⟩:=h
  rw[002]
  refine⟨_,(ae (au (a0 (pv 0) T.cl_Reader T.d_E.c G_E [004] aj))
    (ae (aZ (fe (j3a_ (fG hr) (aI [049] rfl) (pv 1))) (ai (au (aA (pv 0) T.cl_Reader T.d_e.c G_e [004] aj (aa (bN (by rfl) T.g_NOT_FREE) af)))) aG)
    (ai (ay (a0 (pv 0) T.cl_Reader T.d_h.c G_h [004] aj))))),?_⟩
  refine⟨r,dr,_,rfl,er,rfl,r,q,kd,fn,ds,bl,n,(x,xp),t,rfl,R,hb,hn,fun nb e=>?_⟩
  cases x with
  |word u=>
   refine⟨r,dr,_,rfl,er,rfl,r,q,kd,fn,ds,bl,n,(.word u,xp),t,rfl,R,hb,fun _ p ⟨dx,et⟩=>[087]⟩
   refine⟨g,_,rfl,yi_.k (k:=nk u) eg,_,rfl,bB (fun e1=>?_) fun e1=>?_⟩
   ·refine⟨r,dr,_,rfl,er,rfl,r,q,kd,fn,ds,bl,n,(.word u,xp),t,4,rfl,R,?_⟩
    rw[if_neg nb]
    exact h4 u rfl e e1
   ·exact⟨r,dr,_,rfl,er,rfl,r,q,kd,fn,ds,bl,n,(.word u,xp),t,rfl,R,hb,fun _=>hg u rfl e e1⟩
  |num m=>cases e
  |sign u=>cases e
  |eof=>cases e
  |bad=>exact absurd rfl nb
end
end
section
open Vbemac (Bytes Toks KEYS)
structure KdK (P:Program) (w:World) (K:PySem.W.Frag) (a:Addr) (kvs:List (bW×V)):Prop where
 at_: ∃vs:List (bW×Value),(∀h:Heap,K.In h->h.DictOf (bJ P w) a vs)/\KV kvs vs
 len:kvs.length<=sizeLine
 no:[074]=false
theorem j66_ {X:Cx} :io X (.type "dict") (fun xs H Q=> ∃a kvs,xs=[.ref a]/\KdK X.prog X.w X.K a kvs/\ ∀p,H p=none->Q (.ref p) (bg H p [0023])):=by
 intro pins s σ H xs us Q I rv h
 obtain⟨a,kvs,rfl,kd,q⟩:=h
 obtain⟨u,rfl,ru⟩:=rv.one
 obtain rfl:u=Value.ref a:=ru
 obtain⟨vs,dd,rel⟩:=kd.at_
 refine kt_call_dict kd.no (dd _ I.kIn) (by rw[<-rel.length];exact kd.len) fun h' dd' hs=>?_
 refine⟨.ref s.heap.objs.size,_,I.laid (a:=s.heap.objs.size) (o:= .dK kvs) (t':=s.toks) (fun b q hq=>?_) [007] (dk_new kd.len (beq_eq_false_iff_ne.mpr (Ne.symm (Nat.ne_of_lt I.big))) rel dd'),rfl,q _ (I.hok.fresh [007])⟩
 exact(hs.2 b (Nat.ne_of_lt (Heap.lt_size hq))).trans (Heap.get?_push_of_some _ hq)
def dU:List (bW×V):=[(.inr "min", .int 2),(.inr "max", .int 2),(.inr "abs", .int 1)]
structure NewR (a:cu) (H H':Hp) (r dr q kd fn ds bl:Addr):Prop where
 ins:H' r=some (.ins a.c_Reader dr (rdF q kd fn ds bl 0))
 kd0:H kd=none
 fn0:H fn=none
 ds0:H ds=none
 bl0:H bl=none
 kd1:H' kd=some (.dK [])
 fn1:H' fn=some (.dK dU)
 ds1:H' ds=some (.dK [])
 bl1:H' bl=some (.dK [])
 dif:kd≠fn/\kd≠ds/\kd≠bl/\fn≠ds/\fn≠bl/\ds≠bl
 kept: ∀b o,H b=some o->b≠r->H' b=some o
inductive j56_ (a:cu) (vs:List V) (H:Hp) (Q:VK) (_E:XK):Prop
 |mk (r dr q:Addr) (_:vs=[.ref r, .ref q]) (_:H r=some (.ins a.c_Reader dr [])) (_: ∀(H':Hp) (kd fn ds bl:Addr),NewR a H H' r dr q kd fn ds bl->Q .non H'):j56_ a vs H Q _E
theorem bV {H:Hp}{a p:Addr}{o:HO}(h:bg H a o p=none):p≠a/\H p=none:=by
 by_cases e:p=a
 ·rw[e,ah] at h;cases h
 ·rw[ag e] at h;exact⟨e,h⟩
section
theorem j10_ (T:Txt K mg a) (kF:KdK P w K a.k_FIRST_FUNCTIONS dU):aJ P w K mg base dE 1 a.f_aH a.fd_aH ["self","tokens"] (j56_ a):=by
 refine T.d_aH.F.ok sc_aH [04] [03]
 ·obtain⟨r,dr,q,rfl,_⟩:=h
  rfl
 ·obtain⟨r,dr,q,rfl,er,hq⟩:=h
  refine⟨_,(ae [017]
    (ae (aX (pv 0) aU rfl)
    (ae (aX (pv 0) vc_ rfl)
    (ae (aX (pv 0) (fL j66_ (by rfl) T.n_dict boot_dict (aa (de (by rfl) T.g_FIRST_FUNCTIONS) af)) rfl)
    (ae (aX (pv 0) vc_ rfl)
    (ai (aX (pv 0) vc_ rfl))))))),?_⟩
  refine⟨r,_,dr,_,rfl,er,T.cl_Reader,T.no_Reader_tokens,[015],?_⟩
  refine⟨r,_,dr,_,rfl,ah,T.cl_Reader,T.no_Reader_at,[023],?_⟩
  intro kd hkd
  obtain⟨n1,hkd⟩:=bV hkd
  obtain⟨_,hkd⟩:=bV hkd
  refine⟨r,_,dr,_,rfl,(by rw[ag n1.symm,ah]),T.cl_Reader,T.no_Reader_known,[064],?_⟩
  refine⟨a.k_FIRST_FUNCTIONS,dU,rfl,kF,fun fn hfn=>?_⟩
  obtain⟨n2,hfn⟩:=bV hfn
  obtain⟨n2k,hfn⟩:=bV hfn
  obtain⟨_,hfn⟩:=bV hfn
  obtain⟨_,hfn⟩:=bV hfn
  refine⟨r,_,dr,_,rfl,(by rw[ag n2.symm,ah]),T.cl_Reader,T.no_Reader_functions,(by show 3<1000;decide),?_⟩
  intro ds hds
  obtain⟨n3,hds⟩:=bV hds
  obtain⟨n3f,hds⟩:=bV hds
  obtain⟨_,hds⟩:=bV hds
  obtain⟨n3k,hds⟩:=bV hds
  obtain⟨_,hds⟩:=bV hds
  obtain⟨_,hds⟩:=bV hds
  refine⟨r,_,dr,_,rfl,(by rw[ag n3.symm,ah]),T.cl_Reader,T.no_Reader_desks,(by show 4<1000;decide),?_⟩
  intro bl hbl
  obtain⟨n4,hbl⟩:=bV hbl
  obtain⟨n4d,hbl⟩:=bV hbl
  obtain⟨_,hbl⟩:=bV hbl
  obtain⟨n4f,hbl⟩:=bV hbl
  obtain⟨_,hbl⟩:=bV hbl
  obtain⟨n4k,hbl⟩:=bV hbl
  obtain⟨_,hbl⟩:=bV hbl
  obtain⟨_,hbl⟩:=bV hbl
  refine⟨r,_,dr,_,rfl,(by rw[ag n4.symm,ah]),T.cl_Reader,T.no_Reader_blocks,(by show 5<1000;decide),?_⟩
  refine hq _ kd fn ds bl ⟨ah,hkd,hfn,hds,hbl,?_,?_,?_,?_,⟨n2k.symm,n3k.symm,n4k.symm,n3f.symm,n4f.symm,n4d.symm⟩,fun b o e nb=>?_⟩
  ·rw[ag n1,ag n4k.symm,ag n1,ag n3k.symm,ag n1,ag n2k.symm,ag n1,ah]
  ·rw[ag n2,ag n4f.symm,ag n2,ag n3f.symm,ag n2,ah]
  ·rw[ag n3,ag n4d.symm,ag n3,ah]
  ·rw[ag n4,ah]
  ·rw[ag nb,ag (aD e hbl),ag nb,ag (aD e hds),ag nb,ag (aD e hfn),ag nb,ag (aD e hkd),ag nb,ag nb]
   exact e
end
end
section
inductive spNew1 (C:Addr) (f0:Str) (vs:List V) (H:Hp) (Q:VK) (_E:XK):Prop
 |mk (p dx:Addr) (v0:V) (_:vs=[.ref p,v0]) (_:H p=some [097]) (_: ∀H':Hp,H' p=some (.ins C dx [(f0,v0)])->(∀b o,H b=some o->b≠p->H' b=some o)->Q .non H'):spNew1 C f0 vs H Q _E
inductive hU (C:Addr) (f0 f1:Str) (vs:List V) (H:Hp) (Q:VK) (_E:XK):Prop
 |mk (p dx:Addr) (v0 v1:V) (_:vs=[.ref p,v0,v1]) (_:H p=some [097]) (_: ∀H':Hp,H' p=some (.ins C dx [(f0,v0),(f1,v1)])->(∀b o,H b=some o->b≠p->H' b=some o)->Q .non H'):hU C f0 f1 vs H Q _E
inductive j17_ (C:Addr) (f0 f1 f2:Str) (vs:List V) (H:Hp) (Q:VK) (_E:XK):Prop
 |mk (p dx:Addr) (v0 v1 v2:V) (_:vs=[.ref p,v0,v1,v2]) (_:H p=some [097]) (_: ∀H':Hp,H' p=some (.ins C dx [(f0,v0),(f1,v1),(f2,v2)])->(∀b o,H b=some o->b≠p->H' b=some o)->Q .non H'):j17_ C f0 f1 f2 vs H Q _E
inductive spNew4 (C:Addr) (f0 f1 f2 f3:Str) (vs:List V) (H:Hp) (Q:VK) (_E:XK):Prop
 |mk (p dx:Addr) (v0 v1 v2 v3:V) (_:vs=[.ref p,v0,v1,v2,v3]) (_:H p=some [097]) (_: ∀H':Hp,H' p=some (.ins C dx [(f0,v0),(f1,v1),(f2,v2),(f3,v3)])->(∀b o,H b=some o->b≠p->H' b=some o)->Q .non H'):spNew4 C f0 f1 f2 f3 vs H Q _E
inductive spNew6 (C:Addr) (f0 f1 f2 f3 f4 f5:Str) (vs:List V) (H:Hp) (Q:VK) (_E:XK):Prop
 |mk (p dx:Addr) (v0 v1 v2 v3 v4 v5:V) (_:vs=[.ref p,v0,v1,v2,v3,v4,v5]) (_:H p=some [097]) (_: ∀H':Hp,H' p=some (.ins C dx [(f0,v0),(f1,v1),(f2,v2),(f3,v3),(f4,v4),(f5,v5)])->(∀b o,H b=some o->b≠p->H' b=some o)->Q .non H'):spNew6 C f0 f1 f2 f3 f4 f5 vs H Q _E
inductive spNew7 (C:Addr) (f0 f1 f2 f3 f4 f5 f6:Str) (vs:List V) (H:Hp) (Q:VK) (_E:XK):Prop
 |mk (p dx:Addr) (v0 v1 v2 v3 v4 v5 v6:V) (_:vs=[.ref p,v0,v1,v2,v3,v4,v5,v6]) (_:H p=some [097]) (_: ∀H':Hp,H' p=some (.ins C dx [(f0,v0),(f1,v1),(f2,v2),(f3,v3),(f4,v4),(f5,v5),(f6,v6)])->(∀b o,H b=some o->b≠p->H' b=some o)->Q .non H'):spNew7 C f0 f1 f2 f3 f4 f5 f6 vs H Q _E
section
theorem j15_ (T:Txt K mg a):aJ P w K mg base dE 1 a.f_ar a.fd_ar ["self","worth"] (spNew1 a.c_Number "worth"):=by
 refine T.d_ar.F.ok sc_ar [04] [03]
 ·obtain⟨p,dx,v0,rfl,_⟩:=h
  rfl
 ·obtain⟨p,dx,v0,rfl,hp,q⟩:=h
  refine⟨_,(ai [017]),?_⟩
  refine⟨p,_,dx,_,rfl,hp,T.cl_Number,T.no_Number_worth,[015],?_⟩
  rw[04]
  rw[ag hb]
  exact e
theorem j31_ (T:Txt K mg a):aJ P w K mg base dE 1 a.f_as a.fd_as ["self","name"] (spNew1 a.c_Name "name"):=by
 refine T.d_as.F.ok sc_as [04] [03]
 ·obtain⟨p,dx,v0,rfl,_⟩:=h
  rfl
 ·obtain⟨p,dx,v0,rfl,hp,q⟩:=h
  refine⟨_,(ai [017]),?_⟩
  refine⟨p,_,dx,_,rfl,hp,T.cl_Name,T.no_Name_name,[015],?_⟩
  rw[04]
  rw[ag hb]
  exact e
theorem j2a_ (T:Txt K mg a):aJ P w K mg base dE 1 a.f_at a.fd_at ["self","name","arguments"] (hU a.c_Call "name" "arguments"):=by
 refine T.d_at.F.ok sc_at [04] [03]
 ·obtain⟨p,dx,v0,v1,rfl,_⟩:=h
  rfl
 ·obtain⟨p,dx,v0,v1,rfl,hp,q⟩:=h
  refine [088]
  refine⟨p,_,dx,_,rfl,hp,T.cl_Call,T.no_Call_name,[015],?_⟩
  refine⟨p,_,dx,_,rfl,ah,T.cl_Call,T.no_Call_arguments,[023],?_⟩
  rw[032]
theorem j1e_ (T:Txt K mg a):aJ P w K mg base dE 1 a.f_au a.fd_au ["self","sign","operand"] (hU a.c_Unary "sign" "operand"):=by
 refine T.d_au.F.ok sc_au [04] [03]
 ·obtain⟨p,dx,v0,v1,rfl,_⟩:=h
  rfl
 ·obtain⟨p,dx,v0,v1,rfl,hp,q⟩:=h
  refine [088]
  refine⟨p,_,dx,_,rfl,hp,T.cl_Unary,T.no_Unary_sign,[015],?_⟩
  refine⟨p,_,dx,_,rfl,ah,T.cl_Unary,T.no_Unary_operand,[023],?_⟩
  rw[032]
theorem ji_ (T:Txt K mg a):aJ P w K mg base dE 1 a.f_6 a.fd_6 ["self","strength","operands","signs"] (j17_ a.c_Chain "strength" "operands" "signs"):=by
 refine T.d_6.F.ok sc_6 [04] [03]
 ·obtain⟨p,dx,v0,v1,v2,rfl,_⟩:=h
  rfl
 ·obtain⟨p,dx,v0,v1,v2,rfl,hp,q⟩:=h
  refine⟨_,(ae [017] (ae [026] (ai [067]))),?_⟩
  refine⟨p,_,dx,_,rfl,hp,T.cl_Chain,T.no_Chain_strength,[015],?_⟩
  refine⟨p,_,dx,_,rfl,ah,T.cl_Chain,T.no_Chain_operands,[023],?_⟩
  refine⟨p,_,dx,_,rfl,ah,T.cl_Chain,T.no_Chain_signs,[064],?_⟩
  rw[04]
  rw[ag hb,ag hb,ag hb]
  exact e
theorem j14_ (T:Txt K mg a):aJ P w K mg base dE 1 a.f_av a.fd_av ["self","condition","chosen","otherwise"] (j17_ a.c_Choice "condition" "chosen" "otherwise"):=by
 refine T.d_av.F.ok sc_av [04] [03]
 ·obtain⟨p,dx,v0,v1,v2,rfl,_⟩:=h
  rfl
 ·obtain⟨p,dx,v0,v1,v2,rfl,hp,q⟩:=h
  refine⟨_,(ae [017] (ae [026] (ai [067]))),?_⟩
  refine⟨p,_,dx,_,rfl,hp,T.cl_Choice,T.no_Choice_condition,[015],?_⟩
  refine⟨p,_,dx,_,rfl,ah,T.cl_Choice,T.no_Choice_chosen,[023],?_⟩
  refine⟨p,_,dx,_,rfl,ah,T.cl_Choice,T.no_Choice_otherwise,[064],?_⟩
  rw[04]
  rw[ag hb,ag hb,ag hb]
  exact e
theorem j3s_ (T:Txt K mg a):aJ P w K mg base dE 1 a.f_aw a.fd_aw ["self","name","first","last","body"] (spNew4 a.c_Sum "name" "first" "last" "body"):=by
 refine T.d_aw.F.ok sc_aw [04] [03]
 ·obtain⟨p,dx,v0,v1,v2,v3,rfl,_⟩:=h
  rfl
 ·obtain⟨p,dx,v0,v1,v2,v3,rfl,hp,q⟩:=h
  refine⟨_,(ae [017] (ae [026] (ae [067] (ai (aX (pv 0) (pv 4) rfl))))),?_⟩
  refine⟨p,_,dx,_,rfl,hp,T.cl_Sum,T.no_Sum_name,[015],?_⟩
  refine⟨p,_,dx,_,rfl,ah,T.cl_Sum,T.no_Sum_first,[023],?_⟩
  refine⟨p,_,dx,_,rfl,ah,T.cl_Sum,T.no_Sum_last,[064],?_⟩
  refine⟨p,_,dx,_,rfl,ah,T.cl_Sum,T.no_Sum_body,(by show 3<1000;decide),?_⟩
  rw[04]
  rw[ag hb,ag hb,ag hb,ag hb]
  exact e
theorem j3w_ (T:Txt K mg a):aJ P w K mg base dE 1 a.f_ax a.fd_ax ["self","name","exp"] (hU a.c_Let "name" "exp"):=by
 refine T.d_ax.F.ok sc_ax [04] [03]
 ·obtain⟨p,dx,v0,v1,rfl,_⟩:=h
  rfl
 ·obtain⟨p,dx,v0,v1,rfl,hp,q⟩:=h
  refine [088]
  refine⟨p,_,dx,_,rfl,hp,T.cl_Let,T.no_Let_name,[015],?_⟩
  refine⟨p,_,dx,_,rfl,ah,T.cl_Let,T.no_Let_exp,[023],?_⟩
  rw[032]
theorem j50_ (T:Txt K mg a):aJ P w K mg base dE 1 a.f_ay a.fd_ay ["self","name","first","last","statements"] (spNew4 a.c_For "name" "first" "last" "statements"):=by
 refine T.d_ay.F.ok sc_ay [04] [03]
 ·obtain⟨p,dx,v0,v1,v2,v3,rfl,_⟩:=h
  rfl
 ·obtain⟨p,dx,v0,v1,v2,v3,rfl,hp,q⟩:=h
  refine⟨_,(ae [017] (ae [026] (ae [067] (ai (aX (pv 0) (pv 4) rfl))))),?_⟩
  refine⟨p,_,dx,_,rfl,hp,T.cl_For,T.no_For_name,[015],?_⟩
  refine⟨p,_,dx,_,rfl,ah,T.cl_For,T.no_For_first,[023],?_⟩
  refine⟨p,_,dx,_,rfl,ah,T.cl_For,T.no_For_last,[064],?_⟩
  refine⟨p,_,dx,_,rfl,ah,T.cl_For,T.no_For_statements,(by show 3<1000;decide),?_⟩
  rw[04]
  rw[ag hb,ag hb,ag hb,ag hb]
  exact e
theorem j5o_ (T:Txt K mg a):aJ P w K mg base dE 1 a.f_az a.fd_az ["self","condition","statements","else_statements"] (j17_ a.c_If "condition" "statements" "else_statements"):=by
 refine T.d_az.F.ok sc_az [04] [03]
 ·obtain⟨p,dx,v0,v1,v2,rfl,_⟩:=h
  rfl
 ·obtain⟨p,dx,v0,v1,v2,rfl,hp,q⟩:=h
  refine⟨_,(ae [017] (ae [026] (ai [067]))),?_⟩
  refine⟨p,_,dx,_,rfl,hp,T.cl_If,T.no_If_condition,[015],?_⟩
  refine⟨p,_,dx,_,rfl,ah,T.cl_If,T.no_If_statements,[023],?_⟩
  refine⟨p,_,dx,_,rfl,ah,T.cl_If,T.no_If_else_statements,[064],?_⟩
  rw[04]
  rw[ag hb,ag hb,ag hb]
  exact e
theorem j2f_ (T:Txt K mg a):aJ P w K mg base dE 1 a.f_aA a.fd_aA ["self","side","zone","quarter","price","to_price","amount"] (spNew6 a.c_Step "side" "zone" "quarter" "price" "to_price" "amount"):=by
 refine T.d_aA.F.ok sc_aA [04] [03]
 ·obtain⟨p,dx,v0,v1,v2,v3,v4,v5,rfl,_⟩:=h
  rfl
 ·obtain⟨p,dx,v0,v1,v2,v3,v4,v5,rfl,hp,q⟩:=h
  refine⟨_,(ae [017] (ae [026] (ae [067] (ae (aX (pv 0) (pv 4) rfl) (ae (aX (pv 0) (pv 5) rfl) (ai (aX (pv 0) (pv 6) rfl))))))),?_⟩
  refine⟨p,_,dx,_,rfl,hp,T.cl_Step,T.no_Step_side,[015],?_⟩
  refine⟨p,_,dx,_,rfl,ah,T.cl_Step,T.no_Step_zone,[023],?_⟩
  refine⟨p,_,dx,_,rfl,ah,T.cl_Step,T.no_Step_quarter,[064],?_⟩
  refine⟨p,_,dx,_,rfl,ah,T.cl_Step,T.no_Step_price,(by show 3<1000;decide),?_⟩
  refine⟨p,_,dx,_,rfl,ah,T.cl_Step,T.no_Step_to_price,(by show 4<1000;decide),?_⟩
  refine⟨p,_,dx,_,rfl,ah,T.cl_Step,T.no_Step_amount,(by show 5<1000;decide),?_⟩
  rw[04]
  rw[ag hb,ag hb,ag hb,ag hb,ag hb,ag hb]
  exact e
theorem ui_ (T:Txt K mg a):aJ P w K mg base dE 1 a.f_aB a.fd_aB ["self","name","exp"] (hU a.c_Amounts "name" "exp"):=by
 refine T.d_aB.F.ok sc_aB [04] [03]
 ·obtain⟨p,dx,v0,v1,rfl,_⟩:=h
  rfl
 ·obtain⟨p,dx,v0,v1,rfl,hp,q⟩:=h
  refine [088]
  refine⟨p,_,dx,_,rfl,hp,T.cl_Amounts,T.no_Amounts_name,[015],?_⟩
  refine⟨p,_,dx,_,rfl,ah,T.cl_Amounts,T.no_Amounts_exp,[023],?_⟩
  rw[032]
theorem j1f_ (T:Txt K mg a):aJ P w K mg base dE 1 a.f_aC a.fd_aC ["self","name","side","zone","price","amounts","under","group"] (spNew7 a.c_Block "name" "side" "zone" "price" "amounts" "under" "group"):=by
 refine T.d_aC.F.ok sc_aC [04] [03]
 ·obtain⟨p,dx,v0,v1,v2,v3,v4,v5,v6,rfl,_⟩:=h
  rfl
 ·obtain⟨p,dx,v0,v1,v2,v3,v4,v5,v6,rfl,hp,q⟩:=h
  refine⟨_,(ae [017] (ae [026] (ae [067] (ae (aX (pv 0) (pv 4) rfl) (ae (aX (pv 0) (pv 5) rfl) (ae (aX (pv 0) (pv 6) rfl) (ai (aX (pv 0) (pv 7) rfl)))))))),?_⟩
  refine⟨p,_,dx,_,rfl,hp,T.cl_Block,T.no_Block_name,[015],?_⟩
  refine⟨p,_,dx,_,rfl,ah,T.cl_Block,T.no_Block_side,[023],?_⟩
  refine⟨p,_,dx,_,rfl,ah,T.cl_Block,T.no_Block_zone,[064],?_⟩
  refine⟨p,_,dx,_,rfl,ah,T.cl_Block,T.no_Block_price,(by show 3<1000;decide),?_⟩
  refine⟨p,_,dx,_,rfl,ah,T.cl_Block,T.no_Block_amounts,(by show 4<1000;decide),?_⟩
  refine⟨p,_,dx,_,rfl,ah,T.cl_Block,T.no_Block_under,(by show 5<1000;decide),?_⟩
  refine⟨p,_,dx,_,rfl,ah,T.cl_Block,T.no_Block_group,(by show 6<1000;decide),?_⟩
  rw[04]
  rw[ag hb,ag hb,ag hb,ag hb,ag hb,ag hb,ag hb]
  exact e
theorem j1c_ (T:Txt K mg a):aJ P w K mg base dE 1 a.f_aD a.fd_aD ["self","name","exp"] (hU a.c_Const "name" "exp"):=by
 refine T.d_aD.F.ok sc_aD [04] [03]
 ·obtain⟨p,dx,v0,v1,rfl,_⟩:=h
  rfl
 ·obtain⟨p,dx,v0,v1,rfl,hp,q⟩:=h
  refine [088]
  refine⟨p,_,dx,_,rfl,hp,T.cl_Const,T.no_Const_name,[015],?_⟩
  refine⟨p,_,dx,_,rfl,ah,T.cl_Const,T.no_Const_exp,[023],?_⟩
  rw[032]
theorem j52_ (T:Txt K mg a):aJ P w K mg base dE 1 a.f_aE a.fd_aE ["self","name","parameters","exp"] (j17_ a.c_Fun "name" "parameters" "exp"):=by
 refine T.d_aE.F.ok sc_aE [04] [03]
 ·obtain⟨p,dx,v0,v1,v2,rfl,_⟩:=h
  rfl
 ·obtain⟨p,dx,v0,v1,v2,rfl,hp,q⟩:=h
  refine⟨_,(ae [017] (ae [026] (ai [067]))),?_⟩
  refine⟨p,_,dx,_,rfl,hp,T.cl_Fun,T.no_Fun_name,[015],?_⟩
  refine⟨p,_,dx,_,rfl,ah,T.cl_Fun,T.no_Fun_parameters,[023],?_⟩
  refine⟨p,_,dx,_,rfl,ah,T.cl_Fun,T.no_Fun_exp,[064],?_⟩
  rw[04]
  rw[ag hb,ag hb,ag hb]
  exact e
theorem j2e_ (T:Txt K mg a):aJ P w K mg base dE 1 a.f_aF a.fd_aF ["self","name","statements"] (hU a.c_Desk "name" "statements"):=by
 refine T.d_aF.F.ok sc_aF [04] [03]
 ·obtain⟨p,dx,v0,v1,rfl,_⟩:=h
  rfl
 ·obtain⟨p,dx,v0,v1,rfl,hp,q⟩:=h
  refine [088]
  refine⟨p,_,dx,_,rfl,hp,T.cl_Desk,T.no_Desk_name,[015],?_⟩
  refine⟨p,_,dx,_,rfl,ah,T.cl_Desk,T.no_Desk_statements,[023],?_⟩
  rw[032]
end
end
section
open Vbemac (Bytes Toks)
inductive cW (M:Addr->Prop) (H:Hp) (C:Addr) (fs:List (Str×V)) (v:V):Prop
 |mk (p dx:Addr) (_:v= .ref p) (_: ¬M p) (_:H p=some [034]):cW M H C fs v
inductive cn (M:Addr->Prop) (H:Hp) (xs:List V) (v:V):Prop
 |mk (p:Addr) (_:v= .ref p) (_: ¬M p) (_:H p=some [085]):cn M H xs v
def az (M:Addr->Prop) (H H':Hp):Prop:= ∀b o,H b=some o-> ¬M b->H' b=some o
def db (M M':Addr->Prop) (H H':Hp):Prop:= ∀b o,H b=some o-> ¬M b-> ¬M' b/\H' b=some o
theorem az.two {M:Addr->Prop}{H H':Hp}(k:az M H H'):db M M H H':=fun b o e m=>⟨m,k b o e m⟩
def Nd (o:HO):Prop:=(∃xs,o= .lst xs)\/ ∃C d fs,o= .ins C d fs/\fs.length≠5
def qf_ (M M':Addr->Prop) (H H':Hp):Prop:= ∀b o,H b=some o-> ¬M b->Nd o-> ¬M' b/\H' b=some o
theorem db.three {M M':Addr->Prop}{H H':Hp}(k:db M M' H H'):qf_ M M' H H':=fun b o e m _=>k b o e m
theorem cW.keep3 {M M':Addr->Prop}{H H':Hp}{C:Addr}{fs:List (Str×V)}{v:V}(k:qf_ M M' H H') (h:cW M H C fs v) (hl:fs.length≠5:=by intro z;cases z):cW M' H' C fs v:=by
 obtain⟨p,dx,e,m,z⟩:=h
 have:=k _ _ z m (.inr ⟨_,_,_,rfl,hl⟩)
 exact⟨p,dx,e,this.1,this.2⟩
theorem cn.keep3 {M M':Addr->Prop}{H H':Hp}{xs:List V}{v:V}(k:qf_ M M' H H') (h:cn M H xs v):cn M' H' xs v:=by
 obtain⟨p,e,m,z⟩:=h
 have:=k _ _ z m (.inl ⟨_,rfl⟩)
 exact⟨p,e,this.1,this.2⟩
theorem cW.keep {M M':Addr->Prop}{H H':Hp}{C:Addr}{fs:List (Str×V)}{v:V}(k:db M M' H H') (h:cW M H C fs v):cW M' H' C fs v:=by
 obtain⟨p,dx,e,m,z⟩:=h
 exact⟨p,dx,e,(k _ _ z m).1,(k _ _ z m).2⟩
theorem cn.keep {M M':Addr->Prop}{H H':Hp}{xs:List V}{v:V}(k:db M M' H H') (h:cn M H xs v):cn M' H' xs v:=by
 obtain⟨p,e,m,z⟩:=h
 exact⟨p,e,(k _ _ z m).1,(k _ _ z m).2⟩
mutual
def ao (a:cu) (M:Addr->Prop) (H:Hp):Vbemac.Exp->V->Prop
 | .num n,v=>cW M H a.c_Number [("worth", .int (n:Nat))] v
 | .name x,v=>cW M H a.c_Name [("name", .str (sb x))] v
 | .call f l,v=> ∃q us,cW M H a.c_Call [("name", .str (sb f)),("arguments",q)] v/\cn M H us q/\bD a M H l us
 | .neg e,v=> ∃u,cW M H a.c_Unary [("sign", .str "-"),("operand",u)] v/\ao a M H e u
 | .not e,v=> ∃u,cW M H a.c_Unary [("sign", .str "!"),("operand",u)] v/\ao a M H e u
 | .sums e r,v=> ∃q g u us ss,cW M H a.c_Chain [("strength", .int 3),("operands",q),("signs",g)] v/\cn M H (u::us) q/\cn M H ss g/\ao a M H e u/\dB a M H r us ss
 | .prods e r,v=> ∃q g u us ss,cW M H a.c_Chain [("strength", .int 4),("operands",q),("signs",g)] v/\cn M H (u::us) q/\cn M H ss g/\ao a M H e u/\dB a M H r us ss
 | .cmp op x y,v=> ∃q g u1 u2,cW M H a.c_Chain [("strength", .int 2),("operands",q),("signs",g)] v/\cn M H [u1,u2] q/\cn M H [.str (cX op)] g/\ao a M H x u1/\ao a M H y u2
 | .both e l,v=> ∃q g u us,cW M H a.c_Chain [("strength", .int 1),("operands",q),("signs",g)] v/\cn M H (u::us) q/\cn M H (us.map fun _=> .str "&&") g/\ao a M H e u/\bD a M H l us
 | .either e l,v=> ∃q g u us,cW M H a.c_Chain [("strength", .int 0),("operands",q),("signs",g)] v/\cn M H (u::us) q/\cn M H (us.map fun _=> .str "||") g/\ao a M H e u/\bD a M H l us
 | .pick c x y,v=> ∃u1 u2 u3,cW M H a.c_Choice [("condition",u1),("chosen",u2),("otherwise",u3)] v/\ao a M H c u1/\ao a M H x u2/\ao a M H y u3
 | .sum x lo hi e,v=> ∃u1 u2 u3,cW M H a.c_Sum [("name", .str (sb x)),("first",u1),("last",u2),("body",u3)] v/\ao a M H lo u1/\ao a M H hi u2/\ao a M H e u3
def bD (a:cu) (M:Addr->Prop) (H:Hp):Vbemac.Exps->List V->Prop
 | .nil,us=>us=[]
 | .cons e l,us=> ∃u vs,us=u::vs/\ao a M H e u/\bD a M H l vs
def dB (a:cu) (M:Addr->Prop) (H:Hp):Vbemac.Rest->List V->List V->Prop
 | .nil,us,ss=>us=[]/\ss=[]
 | .cons op e r,us,ss=> ∃u vs ts,us=u::vs/\ss= .str (cX op)::ts/\ao a M H e u/\dB a M H r vs ts
end
section
variable {M M':Addr->Prop}{H H':Hp}
mutual
theorem ao.keep3 (k:qf_ M M' H H'): ∀(e:Vbemac.Exp) {v:V},ao a M H e v->ao a M' H' e v
 | .num n,v,h=>by unfold ao at h ⊢; exact h.keep3 k
 | .name x,v,h=>by unfold ao at h ⊢; exact h.keep3 k
 | .call f l,v,h=>by
  rw[040]
  obtain⟨q,us,h1,h2,h3⟩:=h
  exact⟨q,us,h1.keep3 k,h2.keep3 k,bD.keep3 k l h3⟩
 | .neg e,v,h=>by
  rw[040]
  obtain⟨u,h1,h2⟩:=h
  exact⟨u,h1.keep3 k,ao.keep3 k e h2⟩
 | .not e,v,h=>by
  rw[040]
  obtain⟨u,h1,h2⟩:=h
  exact⟨u,h1.keep3 k,ao.keep3 k e h2⟩
 | .sums e r,v,h=>by
  rw[040]
  obtain⟨q,g,u,us,ss,h1,h2,h3,h4,h5⟩:=h
  exact⟨q,g,u,us,ss,h1.keep3 k,h2.keep3 k,h3.keep3 k,ao.keep3 k e h4,dB.keep3 k r h5⟩
 | .prods e r,v,h=>by
  rw[040]
  obtain⟨q,g,u,us,ss,h1,h2,h3,h4,h5⟩:=h
  exact⟨q,g,u,us,ss,h1.keep3 k,h2.keep3 k,h3.keep3 k,ao.keep3 k e h4,dB.keep3 k r h5⟩
 | .cmp op x y,v,h=>by
  rw[040]
  obtain⟨q,g,u1,u2,h1,h2,h3,h4,h5⟩:=h
  exact⟨q,g,u1,u2,h1.keep3 k,h2.keep3 k,h3.keep3 k,ao.keep3 k x h4,ao.keep3 k y h5⟩
 | .both e l,v,h=>by
  rw[040]
  obtain⟨q,g,u,us,h1,h2,h3,h4,h5⟩:=h
  exact⟨q,g,u,us,h1.keep3 k,h2.keep3 k,h3.keep3 k,ao.keep3 k e h4,bD.keep3 k l h5⟩
 | .either e l,v,h=>by
  rw[040]
  obtain⟨q,g,u,us,h1,h2,h3,h4,h5⟩:=h
  exact⟨q,g,u,us,h1.keep3 k,h2.keep3 k,h3.keep3 k,ao.keep3 k e h4,bD.keep3 k l h5⟩
 | .pick c x y,v,h=>by
  rw[040]
  obtain⟨u1,u2,u3,h1,h2,h3,h4⟩:=h
  exact⟨u1,u2,u3,h1.keep3 k,ao.keep3 k c h2,ao.keep3 k x h3,ao.keep3 k y h4⟩
 | .sum x lo hi e,v,h=>by
  rw[040]
  obtain⟨u1,u2,u3,h1,h2,h3,h4⟩:=h
  exact⟨u1,u2,u3,h1.keep3 k,ao.keep3 k lo h2,ao.keep3 k hi h3,ao.keep3 k e h4⟩
theorem bD.keep3 (k:qf_ M M' H H'): ∀(l:Vbemac.Exps) {us:List V},bD a M H l us->bD a M' H' l us
 | .nil,us,h=>by unfold bD at h ⊢; exact h
 | .cons e l,us,h=>by
  unfold bD at h ⊢
  obtain⟨u,vs,h1,h2,h3⟩:=h
  exact⟨u,vs,h1,ao.keep3 k e h2,bD.keep3 k l h3⟩
theorem dB.keep3 (k:qf_ M M' H H'): ∀(r:Vbemac.Rest) {us ss:List V},dB a M H r us ss->dB a M' H' r us ss
 | .nil,us,ss,h=>by unfold dB at h ⊢; exact h
 | .cons op e r,us,ss,h=>by
  unfold dB at h ⊢
  obtain⟨u,vs,ts,h1,h2,h3,h4⟩:=h
  exact⟨u,vs,ts,h1,h2,ao.keep3 k e h3,dB.keep3 k r h4⟩
end
theorem ao.keep2 (k:db M M' H H') (e:Vbemac.Exp) {v:V}(h:ao a M H e v):ao a M' H' e v:=ao.keep3 k.three e h
theorem bD.keep2 (k:db M M' H H') (l:Vbemac.Exps) {us:List V}(h:bD a M H l us):bD a M' H' l us:=bD.keep3 k.three l h
theorem ao.keep (k:az M H H') (e:Vbemac.Exp) {v:V}(h:ao a M H e v):ao a M H' e v:=ao.keep2 k.two e h
theorem bD.keep (k:az M H H') (l:Vbemac.Exps) {us:List V}(h:bD a M H l us):bD a M H' l us:=bD.keep2 k.two l h
end
inductive j0u_ (a:cu) (vs:List V) (H:Hp) (Q:VK) (E:XK):Prop
 |mk (r q kd fn ds bl:Addr) (n:Nat) (x:Vbemac.Tok×Vbemac.Pos) (t:Toks) (d:Nat) (_:vs=[.ref r, .int d]) (_:Rdr a H r q kd fn ds bl n (x::t)) (_:(d=12->fw a.c_Fault E H (if x.1= .bad then 1 else 6) x.2)) (_:(d≠12->Q [092] H)):j0u_ a vs H Q E
inductive wm_ (a:cu) (vs:List V) (H:Hp) (Q:VK) (E:XK):Prop
 |mk (r q kd fn ds bl:Addr) (n:Nat) (x:Vbemac.Tok×Vbemac.Pos) (t:Toks) (v:Str) (_:vs=[.ref r, .str v]) (_:Rdr a H r q kd fn ds bl n (x::t)) (_:[037]) (_:(x.1≠ .bad->isV v x.1=true->fw a.c_Fault E H 5 x.2)) (_:(x.1≠ .bad->isV v x.1=false->Q .non H)):wm_ a vs H Q E
section
theorem ok_f (T:Txt K mg a) (XC:XT K a):aJ P w K mg base (cH P w) 6 a.f_f a.fd_f ["reader","depth"] (j0u_ a):=by
 rw[06]
 refine fh T.d_f.F sc_f [04] [03]
 ·obtain⟨r,q,kd,fn,ds,bl,n,x,t,d,rfl,_⟩:=h
  rfl
 ·obtain⟨r,q,kd,fn,ds,bl,n,x,t,d,rfl,R,hf,hg⟩:=h
  rw[002]
  refine⟨_,(ae (aZ (bv dw (pv 1) (bN (by rfl) T.g_MOST_LEVELS) (bx _)) (ai (au (aA (pv 0) T.cl_Reader T.d_e.c G_e [004] aj (aa (bN (by rfl) T.g_TOO_DEEP) af)))) aG)
    (ai (ay (bh dq (pv 1) aU)))),?_⟩
  refine [060]
  rw[dz]
  rw[003]
  ·have:=of_decide_eq_true e
   exact⟨r,dr,_,rfl,er,rfl,r,q,kd,fn,ds,bl,n,x,t,6,rfl,R,hf (by lia)⟩
  ·have:=of_decide_eq_false e
   exact⟨_,_,rfl,rfl,hg (by lia)⟩
theorem ok_J (T:Txt K mg a) (XC:XT K a):aJ P w K mg base (cH P w) 6 a.f_J a.fd_J ["reader","sign"] (wm_ a):=by
 rw[05]
 rw[06]
 refine fh T.d_J.F sc_J [04] [03]
 ·obtain⟨r,q,kd,fn,ds,bl,n,x,t,v,rfl,_⟩:=h
  rfl
 ·obtain⟨r,q,kd,fn,ds,bl,n,x,t,v,rfl,R,hb,hf,hg⟩:=h
  rw[002]
  refine⟨_,(ai (aZ (bd (aA (pv 0) T.cl_Reader T.d_c.c G_c [004] aj [002])) (ai (au (aA (pv 0) T.cl_Reader T.d_e.c G_e [004] aj (aa (bN (by rfl) T.g_ARGUMENTS) af)))) aG)),?_⟩
  refine⟨r,dr,_,rfl,er,rfl,r,q,kd,fn,ds,bl,n,x,t,v,rfl,R,hb,fun nb=>⟨_,rfl,bB [024] fun e=>?_⟩⟩
  ·exact⟨r,dr,_,rfl,er,rfl,r,q,kd,fn,ds,bl,n,x,t,5,rfl,R,by rw[if_neg nb];exact hf nb e⟩
  ·exact hg nb e
end
end
section
open Vbemac (Bytes Toks SIGNS peek place)
structure eA where
 p:Addr
 c:List (bW×V)
 x:Addr->List V->Prop
instance:Coe eA Addr:=⟨eA.p⟩
def br (r kd fn:Addr) (ds bl:eA) (b:Addr):Prop:=b=r\/b=kd\/b=fn\/b=ds.p\/b=bl.p\/ ∃xs,bl.x b xs
inductive KVals (H:Hp) (kd:Addr) (Kn:Vbemac.Known):Prop
 |mk (kk:List (bW×V)) (_:H kd=some (.dK kk)) (_:kk.length<=Kn.values.length) (_: ∀u,has kk u=Kn.values.contains u):KVals H kd Kn
inductive KFuns (H:Hp) (fn:Addr) (Kn:Vbemac.Known):Prop
 |mk (ff:List (bW×V)) (_:H fn=some (.dK ff)) (_: ∀u,cP ff (nk u)=(Kn.funs.find? fun f=>f.1 == u).map fun f=>V.int (f.2:Nat)):KFuns H fn Kn
inductive Dif (k f d b:Addr):Prop
 |mk (_:k≠f) (_:k≠d) (_:k≠b) (_:f≠d) (_:f≠b) (_:d≠b):Dif k f d b
structure KnAt (H:Hp) (kd fn:Addr) (Kn:Vbemac.Known) (room:Nat):Prop where
 vals:KVals H kd Kn
 funs:KFuns H fn Kn
 len:Kn.values.length+room<=4000
 flen: ∃ff,H fn=some (.dK ff)/\ff.length=Kn.funs.length
theorem KnAt.fl {H:Hp}{kd fn:Addr}{Kn:Vbemac.Known}{room:Nat}(h:KnAt H kd fn Kn room) {ff:List (bW×V)}(e:H fn=some (.dK ff)):ff.length=Kn.funs.length:=by
 obtain⟨gg,g1,g2⟩:=h.flen
 rw[e] at g1
 cases g1
 exact g2
structure bP (a:cu) (H:Hp) (r q kd fn:Addr) (ds bl:eA) (n:Nat) (t:Toks) (Kn:Vbemac.Known):Prop where
 rd:Rdr a H r q kd fn ds.p bl.p n t
 wh:gh t
 kn:KnAt H kd fn Kn t.length
 ds_:H ds.p=some (.dK ds.c)
 bl_:H bl.p=some (.dK bl.c)
 dif:Dif kd fn ds.p bl.p
 fr: ∀b xs,bl.x b xs->H b=some [085]
abbrev WP:=Vbemac.P Vbemac.Exp->Toks->(Vbemac.Exp->Toks->Prop)->(Nat->Vbemac.Pos->Prop)->Prop
inductive bU (a:cu) (wp:WP) (p:Nat->Nat->Vbemac.Known->Vbemac.P Vbemac.Exp) (c:Nat) (ok:Nat->Vbemac.Known->Toks->Prop) (vs:List V) (H:Hp) (Q:VK) (E:XK):Prop
 |mk (r q kd fn:Addr) (ds bl:eA) (n:Nat) (t:Toks) (Kn:Vbemac.Known) (d:Nat) (fuel:Nat) (_:vs=[.ref r, .int d]) (_:d<=12) (_:ok d Kn t) (_:bP a H r q kd fn ds bl n t Kn) (_:16*t.length+c<=fuel) (_:wp (p fuel (12-d) Kn) t (fun e t'=> ∀H' v n',t'.length<t.length->bP a H' r q kd fn ds bl n' t' Kn->az (br r kd fn ds bl) H H'->ao a (br r kd fn ds bl) H' e v->Q v H')
  (fun k x=> ∀H',az (br r kd fn ds bl) H H'->fw a.c_Fault E H' k x)):bU a wp p c ok vs H Q E
theorem j2q_ (kk:List (bW×V)) (u v:Bytes) (y:V):has (dI kk (nk u) y) v=(decide (v=u)||has kk v):=by
 unfold has
 rw[j5a_]
 by_cases e:v=u
 ·rw[if_pos (by rw[e]),decide_eq_true e];rfl
 ·rw[if_neg (fun z=>e (fJ (Sum.inr.inj z))),decide_eq_false e];rfl
theorem j5t_ (kk:List (bW×V)) (k j:bW):cP (eE kk k) j=if j=k then none else cP kk j:=by
 induction kk with
 |nil=>unfold eE cP;split<;>rfl
 |cons p r ih=>
  unfold eE at ih ⊢
  rw[List.filter_cons]
  by_cases e:p.1=k
  ·rw[if_neg (by simp [e]),ih]
   by_cases j1:j=k
   ·rw[if_pos j1,if_pos j1]
   ·rw[if_neg j1,if_neg j1,cB fun z=>j1 (z.symm.trans e)]
  ·rw[if_pos (by simp [e])]
   by_cases j1:p.1=j
   ·rw[cM j1,cM j1,if_neg fun z=>e (j1.trans z)]
   ·rw[cB j1,cB j1,ih]
theorem j5k_ (kk:List (bW×V)) (u v:Bytes):has (eE kk (nk u)) v=(!decide (v=u)&&has kk v):=by
 unfold has
 rw[j5t_]
 by_cases e:v=u
 ·rw[if_pos (by rw[e]),decide_eq_true e];rfl
 ·rw[if_neg (fun z=>e (fJ (Sum.inr.inj z))),decide_eq_false e];rfl
theorem j08_ {k:Vbemac.Tok}{v:Str} :isV v k=decide (tokStr k=some v):=by
 unfold isV
 cases k with
 |word u=>exact decide_eq_decide.mpr ⟨fun z=>congrArg some (V.str.inj z),fun z=>congrArg V.str (Option.some.inj z)⟩
 |num n=>exact decide_eq_decide.mpr ⟨(fun z=>nomatch z),(fun z=>nomatch z)⟩
 |sign u=>exact decide_eq_decide.mpr ⟨fun z=>congrArg some (V.str.inj z),fun z=>congrArg V.str (Option.some.inj z)⟩
 |eof=>exact decide_eq_decide.mpr ⟨fun z=>congrArg some (V.str.inj z),fun z=>congrArg V.str (Option.some.inj z)⟩
 |bad=>exact decide_eq_decide.mpr ⟨fun z=>congrArg some (V.str.inj z),fun z=>congrArg V.str (Option.some.inj z)⟩
theorem cA {k:Vbemac.Tok}(ok:yb_ k) {x:Str}{u:Bytes}(h:dP x u):isV x k=(k == .word u):=by
 rw[j08_,Bool.eq_iff_iff,decide_eq_true_iff,beq_iff_eq]
 exact tok_word ok h
theorem cq {k:Vbemac.Tok}(ok:yb_ k) {x:Str}{u:Bytes}(h:gF x u):isV x k=(k == .sign u):=by
 rw[j08_,Bool.eq_iff_iff,decide_eq_true_iff,beq_iff_eq]
 exact j4q_ ok h
inductive First (t:Toks):Prop
 |mk (x:Vbemac.Tok×Vbemac.Pos) (r:Toks) (_:t=x::r) (_:yb_ x.1) (_:peek t=x.1) (_:place t=x.2) (_: ¬FinT x->gh r):First t
theorem gh.first {t:Toks}(w:gh t):First t:=by
 cases t with
 |nil=>exact absurd rfl w.ne
 |cons x r=>
  refine⟨x,r,rfl,?_,rfl,rfl,fun h=>(w.tail h).2⟩
  by_cases h:FinT x
  ·rcases h with h|h
   ·rw[h];exact True.intro
   ·rw[h];exact True.intro
  ·exact(w.tail h).1.2.2
end
section
open Vbemac (Bytes Toks SIGNS KEYS peek place)
section
variable {H H' H2:Hp}{r q kd fn:Addr}{ds bl:eA}{n:Nat}{t:Toks}{Kn:Vbemac.Known}{M:Addr->Prop}
theorem aW.keeps (s:aW H H'):az M H H':=fun b o e _=>s b o e
theorem az.trans (k:az M H H') (l:az M H' H2):az M H H2:=fun b o e m=>l b o (k b o e m) m
theorem az.refl:az M H H:=fun _ _ e _=>e
theorem Rdr.same {ds bl:Addr}(R:Rdr a H r q kd fn ds bl n t) (s:aW H H'):Rdr a H' r q kd fn ds bl n t:=by
 obtain⟨dr,e⟩:=R.ins
 obtain⟨as,all,h1,h2,h3⟩:=R.toks
 exact⟨⟨dr,s _ _ e⟩,as,all,s _ _ h1,Paired.mapP h2 fun b z k=>k.keep fun b' o e _=>s b' o e,h3⟩
theorem bP.same (S:bP a H r q kd fn ds bl n t Kn) (s:aW H H'):bP a H' r q kd fn ds bl n t Kn:=by
 rw[07]
 exact⟨S.rd.same s,S.wh,⟨⟨kk,s _ _ k1,k2,k3⟩,⟨ff,s _ _ f1,f2⟩,S.kn.len,⟨ff,s _ _ f1,S.kn.fl f1⟩⟩,s _ _ S.ds_,s _ _ S.bl_,S.dif,fun b xs h=>s _ _ (S.fr b xs h)⟩
theorem bt (h:past a H r q kd fn ds bl n H'):az (br r kd fn ds bl) H H':=fun b o e m=>by
 obtain⟨dr,e1,rfl⟩:=h
 rw[ag fun z=>m (.inl z)]
 exact e
theorem bP.past {x:Vbemac.Tok×Vbemac.Pos}(S:bP a H r q kd fn ds bl n (x::t) Kn) (hx: ¬FinT x) (h:OS.past a H r q kd fn ds bl n H'):bP a H' r q kd fn ds bl (n+1) t Kn:=by
 have R:=S.rd.step h
 obtain⟨dr,e1,rfl⟩:=h
 rw[07]
 rw[028]
 have nk:kd≠r:=fun w=>by rw[w,e1] at k1;cases k1
 have nf:fn≠r:=fun w=>by rw[w,e1] at f1;cases f1
 have nd:ds.p≠r:=fun w=>by rw[w,e1] at hy;cases hy
 have nb:bl.p≠r:=fun w=>by rw[w,e1] at hz;cases hz
 refine⟨R,(S.wh.tail hx).2,⟨⟨kk,by rw[ag nk];exact k1,k2,k3⟩,⟨ff,by rw[ag nf];exact f1,f2⟩,?_,⟨ff,by rw[ag nf];exact f1,S.kn.fl f1⟩⟩,(by rw[ag nd];exact hy),(by rw[ag nb];exact hz),S.dif,fun b xs h=>by
  have e2:=S.fr b xs h
  rw[ag fun w=>by rw[w,e1] at e2;cases e2]
  exact e2⟩
 have:=S.kn.len
 rw[List.length_cons] at this
 lia
theorem bP.learn {u:Bytes}(S:bP a H r q kd fn ds bl n t Kn) (free:Kn.values.contains u=false) (room:Kn.values.length+1+t.length<=4000) {kk:List (bW×V)}(e:H kd=some (.dK kk)):
  bP a (bg H kd (.dK (dI kk (nk u) (.bl true)))) r q kd fn ds bl n t (Kn.with u):=by
 rw[01]
 rw[012]
 obtain⟨kk',k1,k2,k3⟩:=S.kn.vals
 rw[08]
 rw[028]
 obtain rfl:kk'=kk:=by rw[e] at k1;cases k1;rfl
 rw[025]
 have nr:r≠kd:=fun w=>by rw[w,e] at er;cases er
 have nq:q≠kd:=fun w=>by rw[w,e] at h1;cases h1
 refine⟨[059],S.wh,⟨⟨_,ah,?_,fun v=>?_⟩,⟨ff,by rw[ag d1.symm];exact f1,f2⟩,by show Kn.values.length+1+t.length<=4000;exact room,⟨ff,by rw[ag d1.symm];exact f1,S.kn.fl f1⟩⟩,(by rw[ag d2.symm];exact hy),(by rw[ag d3.symm];exact hz),S.dif,fun b xs h=>by
  have e2:=S.fr b xs h
  rw[034]
  exact e2⟩
 ·rw[ag fun w=>by rw[w,e] at ex;cases ex]
  exact ex
 ·have:=eZ kk' (nk u) (.bl true)
  show _<=Kn.values.length+1
  lia
 ·rw[j2q_,k3]
  show _=(u::Kn.values).contains v
  rw[List.contains_cons]
  congr 1
  rw[Bool.eq_iff_iff,decide_eq_true_iff,beq_iff_eq]
theorem bP.forget {u:Bytes}(S:bP a H r q kd fn ds bl n t (Kn.with u)) (free:Kn.values.contains u=false) {kk:List (bW×V)}(e:H kd=some (.dK kk)):
  has kk u=true/\bP a (bg H kd (.dK (eE kk (nk u)))) r q kd fn ds bl n t Kn:=by
 rw[01]
 rw[012]
 obtain⟨kk',k1,k2,k3⟩:=S.kn.vals
 rw[08]
 rw[028]
 obtain rfl:kk'=kk:=by rw[e] at k1;cases k1;rfl
 rw[025]
 have nr:r≠kd:=fun w=>by rw[w,e] at er;cases er
 have nq:q≠kd:=fun w=>by rw[w,e] at h1;cases h1
 have hu:has kk' u=true:=by
  rw[k3]
  show(u::Kn.values).contains u=true
  rw[List.contains_cons,beq_self_eq_true]
  rfl
 have len:Kn.values.length+1+t.length<=4000:=S.kn.len
 have k2:kk'.length<=Kn.values.length+1:=k2
 refine⟨hu,[059],S.wh,⟨⟨_,ah,?_,fun v=>?_⟩,⟨ff,by rw[ag d1.symm];exact f1,f2⟩,by lia,⟨ff,by rw[ag d1.symm];exact f1,S.kn.fl f1⟩⟩,(by rw[ag d2.symm];exact hy),(by rw[ag d3.symm];exact hz),S.dif,fun b xs h=>by
  have e2:=S.fr b xs h
  rw[034]
  exact e2⟩
 ·rw[ag fun w=>by rw[w,e] at ex;cases ex]
  exact ex
 ·have:(eE kk' (nk u)).length<kk'.length:=by
   unfold eE
   refine Nat.lt_of_le_of_ne (List.length_filter_le _ _) fun w=>?_
   rw[List.length_filter_eq_length_iff] at w
   unfold has cP at hu
   rw[Option.isSome_map,List.find?_isSome] at hu
   obtain⟨p,hp,e1⟩:=hu
   have:=w p hp
   simp only[decide_eq_true_eq] at this e1
   exact this e1
  lia
 ·rw[j5k_,k3]
  show(!decide (v=u)&&(u::Kn.values).contains v)=_
  rw[List.contains_cons]
  by_cases w:v=u
  ·rw[w,decide_eq_true rfl,free];rfl
  ·rw[decide_eq_false w,show(v == u)=false from beq_eq_false_iff_ne.mpr w];rfl
theorem bP.fresh (S:bP a H r q kd fn ds bl n t Kn) {b:Addr}(h:H b=none): ¬br r kd fn ds bl b:=by
 obtain⟨dr,e1⟩:=S.rd.ins
 obtain⟨kk,k1,_⟩:=S.kn.vals
 obtain⟨ff,f1,_⟩:=S.kn.funs
 rw[028]
 rintro(rfl|rfl|rfl|rfl|rfl|⟨xs,hx⟩)
 ·rw[e1] at h;cases h
 ·rw[k1] at h;cases h
 ·rw[f1] at h;cases h
 ·rw[hy] at h;cases h
 ·rw[hz] at h;cases h
 ·rw[S.fr _ _ hx] at h;cases h
end
section
variable {H H' H0:Hp}{r q kd fn:Addr}{ds bl:eA}{n:Nat}{t:Toks}{Kn:Vbemac.Known}{M M':Addr->Prop}
def eA.more (bl:eA) (l:Addr) (xs:List V):eA:=⟨bl.p,bl.c,fun b ys=>bl.x b ys\/(b=l/\ys=xs)⟩
theorem bP.more {l:Addr}{xs:List V}(S:bP a H r q kd fn ds bl n t Kn) (h:H l=some [085]):bP a H r q kd fn ds [0016] n t Kn:=
 ⟨S.rd,S.wh,S.kn,S.ds_,S.bl_,S.dif,fun b ys z=>z.elim (S.fr b ys) fun⟨e1,e2⟩=>by rw[e1,e2];exact h⟩
theorem bP.less {l:Addr}{xs:List V}(S:bP a H r q kd fn ds [0016] n t Kn):bP a H r q kd fn ds bl n t Kn:=
 ⟨S.rd,S.wh,S.kn,S.ds_,S.bl_,S.dif,fun b ys z=>S.fr b ys (.inl z)⟩
theorem bP.the {l:Addr}{xs:List V}(S:bP a H r q kd fn ds [0016] n t Kn):H l=some [085]:=S.fr l xs (.inr ⟨rfl,rfl⟩)
theorem b8 {l:Addr}{xs:List V}{b:Addr}(m:br r kd fn ds bl b):br r kd fn ds [0016] b:=by
 rcases m with h|h|h|h|h|⟨ys,h⟩
 ·exact .inl h
 ·exact .inr (.inl h)
 ·exact .inr (.inr (.inl h))
 ·exact .inr (.inr (.inr (.inl h)))
 ·exact .inr (.inr (.inr (.inr (.inl h))))
 ·exact .inr (.inr (.inr (.inr (.inr ⟨ys, .inl h⟩))))
theorem dk {l:Addr}{xs:List V}{b:Addr}(m:br r kd fn ds [0016] b):b=l\/br r kd fn ds bl b:=by
 rcases m with h|h|h|h|h|⟨ys,h|⟨h,_⟩⟩
 ·exact .inr (.inl h)
 ·exact .inr (.inr (.inl h))
 ·exact .inr (.inr (.inr (.inl h)))
 ·exact .inr (.inr (.inr (.inr (.inl h))))
 ·exact .inr (.inr (.inr (.inr (.inr (.inl h)))))
 ·exact .inr (.inr (.inr (.inr (.inr (.inr ⟨ys,h⟩)))))
 ·exact .inl h
theorem dm {l:Addr}{xs:List V} :br r kd fn ds [0016] l:= .inr (.inr (.inr (.inr (.inr ⟨xs, .inr ⟨rfl,rfl⟩⟩))))
theorem az.cut {l:Addr}{xs:List V}(k:az (br r kd fn ds bl) H0 H) (k':az (br r kd fn ds [0016]) H H') (new:H0 l=none):az (br r kd fn ds bl) H0 H':=fun b o e m=>
 k' b o (k b o e m) fun z=>(dk z).elim (fun w=>by rw[w,new] at e;cases e) m
theorem gA {l:Addr}{o:HO}(h:M l):az M H (bg H l o):=fun b o' e m=>by
 rw[ag fun z=>m (by rw[z];exact h)]
 exact e
theorem bP.write {l:Addr}{xs ys:List V}(S:bP a H r q kd fn ds [0016] n t Kn) (apart: ∀zs,¬bl.x l zs) (hq:l≠q):bP a (bg H l (.lst ys)) r q kd fn ds (bl.more l ys) n t Kn:=by
 have hl:=S.the
 rw[01]
 rw[012]
 rw[07]
 have hy:=S.ds_
 have hz:H bl.p=some (.dK bl.c):=S.bl_
 have ne: ∀ {b:Addr}{o:HO},H b=some o->(∀zs,o≠ .lst zs)->b≠l:=fun e no w=>by
  rw[w,hl] at e
  exact no _ (Option.some.inj e).symm
 refine⟨⟨⟨dr,by rw[ag (ne er fun _ z=>nomatch z)];exact er⟩,as,all,by rw[ag hq.symm];exact h1,Paired.mapP h2 fun b x ⟨dx,ex⟩=>⟨dx,by rw[ag (ne ex fun _ z=>nomatch z)];exact ex⟩,h3⟩,S.wh,
  ⟨⟨kk,by rw[ag (ne k1 fun _ z=>nomatch z)];exact k1,k2,k3⟩,⟨ff,by rw[ag (ne f1 fun _ z=>nomatch z)];exact f1,f2⟩,S.kn.len,⟨ff,by rw[ag (ne f1 fun _ z=>nomatch z)];exact f1,S.kn.fl f1⟩⟩,(by rw[ag (ne hy fun _ z=>nomatch z)];exact hy),(by show bg H l (.lst ys) bl.p=some (.dK bl.c);rw[ag (ne hz fun _ z=>nomatch z)];exact hz),S.dif,fun b zs z=>?_⟩
 rcases z with z|⟨e1,e2⟩
 ·rw[ag fun w=>apart zs (by rw[<-w];exact z)]
  exact S.fr b zs (.inl z)
 ·rw[e1,e2]
  exact ah
theorem ao.less {l:Addr}{xs:List V}{e:Vbemac.Exp}{v:V}(h:ao a (br r kd fn ds [0016]) H e v):ao a (br r kd fn ds bl) H e v:=ao.keep2 (fun b o e m=>⟨fun z=>m (b8 z),e⟩) _ h
end
theorem j7m_:keyV=KEYS.map fun u=>V.str (sb u):=by decide+kernel
theorem bM {u:Bytes} :dv (.word u)=!KEYS.contains u:=by
 show(!inV (.str (sb u)) keyV)=_
 congr 1
 rw[j7m_]
 unfold inV
 rw[List.any_map,List.contains_eq_any_beq]
 congr 1
 funext z
 show(sb z == sb u)=(u == z)
 rw[Bool.eq_iff_iff,beq_iff_eq,beq_iff_eq]
 exact⟨fun e=>(fJ e).symm,fun e=>by rw[e]⟩
end
section
open Vbemac (Bytes Toks SIGNS KEYS peek place text isSign isKey tokens known0 FUNS BUILT)
theorem j67_ (u:Bytes):cP dU (nk u)=(known0.funs.find? fun f=>f.1 == u).map fun f=>V.int (f.2:Nat):=by
 have h1:(Sum.inr "min":bW)=nk (text "min"):=by show(Sum.inr "min":bW)=Sum.inr (sb (text "min"));congr 1
 have h2:(Sum.inr "max":bW)=nk (text "max"):=by show(Sum.inr "max":bW)=Sum.inr (sb (text "max"));congr 1
 have h3:(Sum.inr "abs":bW)=nk (text "abs"):=by show(Sum.inr "abs":bW)=Sum.inr (sb (text "abs"));congr 1
 unfold dU known0 BUILT
 rw[h1,h2,h3]
 have ne: ∀ {v:Bytes},¬v=u-> ¬nk v=nk u:=fun h z=>h (fJ (Sum.inr.inj z))
 have st: ∀(v:Bytes) (x:V) (r:List (bW×V)),cP ((nk v,x)::r) (nk u)=if v=u then some x else cP r (nk u):=fun v x r=>by
  by_cases e:v=u
  ·rw[if_pos e];exact cM (by rw[e])
  ·rw[if_neg e];exact cB (ne e)
 rw[st,st,st,List.find?_cons,List.find?_cons,List.find?_cons]
 dsimp only
 by_cases e1:text "min"=u
 ·rw[if_pos e1,show(text "min" == u)=true from beq_iff_eq.mpr e1];rfl
 ·rw[if_neg e1,show(text "min" == u)=false from beq_eq_false_iff_ne.mpr e1]
  dsimp only
  by_cases e2:text "max"=u
  ·rw[if_pos e2,show(text "max" == u)=true from beq_iff_eq.mpr e2];rfl
  ·rw[if_neg e2,show(text "max" == u)=false from beq_eq_false_iff_ne.mpr e2]
   dsimp only
   by_cases e3:text "abs"=u
   ·rw[if_pos e3,show(text "abs" == u)=true from beq_iff_eq.mpr e3];rfl
   ·rw[if_neg e3,show(text "abs" == u)=false from beq_eq_false_iff_ne.mpr e3];rfl
abbrev F0:Addr->List V->Prop:=fun _ _=>False
theorem NewR.st {a:cu}{H H':Hp}{r dr q kd fn ds bl:Addr}(N:NewR a H H' r dr q kd fn ds bl) {as:List Addr}{bs:Bytes}(hq:H q=some (.lst (as.map V.ref))) (nq:q≠r) (tk:Paired (f9 a.c_Token H) as (tokens bs)) (nt: ∀b∈as,b≠r) (hl:bs.length<=3000):
  bP a H' r q kd fn ⟨ds,[],F0⟩ ⟨bl,[],F0⟩ 0 (tokens bs) known0:=by
 have len:(tokens bs).length<=4000:=by
  have:=dD (bs.length+1) (1,1) bs
  unfold tokens
  lia
 refine⟨⟨⟨dr,N.ins⟩,as,tokens bs,N.kept _ _ hq nq,?_,rfl⟩,f8 _ _ _,⟨⟨[],N.kd1,Nat.le_refl _,fun u=>rfl⟩,⟨dU,N.fn1,j67_⟩,by show 0+(tokens bs).length<=4000;lia,⟨dU,N.fn1,rfl⟩⟩,N.ds1,N.bl1,⟨N.dif.1,N.dif.2.1,N.dif.2.2.1,N.dif.2.2.2.1,N.dif.2.2.2.2.1,N.dif.2.2.2.2.2⟩,fun _ _ z=>z.elim⟩
 clear len hq
 revert nt
 generalize tokens bs=ts at tk ⊢
 induction tk with
 |nil=>exact fun _=> .nil
 |cons h t ih=>exact fun nt=> .cons (by obtain⟨dx,e⟩:=h;exact⟨dx,N.kept _ _ e (nt _ (List.mem_cons_self ..))⟩) (ih fun b hb=>nt b (List.mem_cons_of_mem _ hb))
end
section
open Vbemac (Bytes Toks SIGNS KEYS peek place primary text isSign isKey)
theorem cg {H H':Hp}{p dx C:Addr}(hp:H p=none) (hd:H dx=none) (k: ∀b o,bg (bg H dx (.own p)) p [097] b=some o->b≠p->H' b=some o):aW H H':=fun b o e=>
 k b o (by rw[ag (aD e hp),ag (aD e hd)];exact e) (aD e hp)
def Lv (j:Nat):Nat->Vbemac.Known->Toks->Prop:=fun d _ _=>13<=d+j
def LvS (j:Nat) (s:Bytes):Nat->Vbemac.Known->Toks->Prop:=fun d _ t=>13<=d+j/\peek t= .sign s
def LvW (j:Nat) (s:Bytes):Nat->Vbemac.Known->Toks->Prop:=fun d _ t=>13<=d+j/\peek t= .word s
def LvC (j:Nat):Nat->Vbemac.Known->Toks->Prop:=fun d K t=>13<=d+j/\ ∃u f,peek t= .word u/\u≠text "sum"/\KEYS.contains u=false/\K.funs.find? (fun f=>f.1 == u)=some f
theorem bQ {α:Type}{p:Vbemac.P α}{n:Nat}{t:Toks}{Qo:α->Toks->Prop}{Qe:Nat->Vbemac.Pos->Prop}(e:p t=Vbemac.fail n t) (nb:peek t≠ .bad) (h:W p t Qo Qe):Qe n (place t):=by
 have e:p t= .error (n,place t):=by rw[e];unfold Vbemac.fail;rw[if_neg nb]
 rw[ux_ e] at h
 exact h
theorem litO:gF "(" (text "("):=[029]
theorem j0b_:dP "sum" (text "sum"):=[005]
section
variable {k j:Nat}
theorem ok_W (T:Txt K mg a) (XC:XT K a) (hk:7<=k)
  (G_I:aJ P w K mg base (cH P w) k a.f_I a.fd_I ["reader","depth"] (bU a W primary 6 (LvS j (text "("))))
  (G_y:aJ P w K mg base (cH P w) k a.f_y a.fd_y ["reader","depth"] (bU a W primary 6 (LvW j (text "sum"))))
  (G_F:aJ P w K mg base (cH P w) k a.f_F a.fd_F ["reader","depth"] (bU a W primary 6 (LvC j))):
  aJ P w K mg base (cH P w) (k+1) a.f_W a.fd_W ["reader","depth"] (bU a W primary 6 (Lv j)):=by
 have G_aJ:=j2o_ (P:=P) (w:=w) (base:=base) T XC
 rw[05]
 rw[046]
 have G_ar:=j15_ (P:=P) (w:=w) (base:=base) T
 have G_as:=j31_ (P:=P) (w:=w) (base:=base) T
 refine fh T.d_W.F sc_W [04] [03]
 ·obtain⟨r,q,kd,fn,ds,bl,n,t,Kn,d,fuel,rfl,_⟩:=h
  rfl
 ·obtain⟨r,q,kd,fn,ds,bl,n,t,Kn,d,fuel,rfl,hd,hl,S,hf,hW⟩:=h
  rw[01]
  rw[00]
  have hb:x= .bad->fw a.c_Fault E H 1 xp:=fun e=>(hJ _ _ _).at_bad (hpk.trans e) hW H az.refl
  refine⟨_,(ae (aZ (bd (a0 (pv 0) T.cl_Reader T.d_aJ.c G_aJ [01] aj)) (ai (ay (cv T.mk_Number G_ar [01] (by rfl) T.mg_Number T.d_ar.c.b .nil aQ (aa [050] af)))) aG)
    (ae (aZ [010] (ai (ay (al G_I [01] (by rfl) T.d_I.c aj [012]))) aG)
    (ae (aZ [010] (ai (ay (al G_y [01] (by rfl) T.d_y.c aj [012]))) aG)
    (ae (au (a0 (pv 0) T.cl_Reader T.d_E.c G_E [01] aj))
    (ae (aE (i:=2) sc_W.nd rfl [05] (aI (a0 (pv 0) T.cl_Reader T.d_g.c G_g [01] aj) rfl))
    (ae (aZ (fe (j3a_ (fG hr) (pv 2) [07])) (ai (ay (al G_F [01] (by rfl) T.d_F.c aj [012]))) aG)
    (ae (aZ (fe (j1n_ (fG hr) (pv 2) [07])) (ai (au (aA (pv 0) T.cl_Reader T.d_e.c G_e [01] aj (aa (bN (by rfl) T.g_NOT_KNOWN) af)))) aG)
    (ai (ay (cv T.mk_Name G_as [01] (by rfl) T.mg_Name T.d_as.c.b .nil aQ (aa [050] af))))))))))),?_⟩
  rw[000]
  refine⟨r,dr,_,rfl,er,rfl,r,q,kd,fn,ds,bl,n,(x,xp),t',rfl,S.rd,hb,fun nb=>[016]⟩
  have nbp:peek ((x,xp)::t')≠ .bad:=nb
  cases x with
  |num m=>
   rw[027]
   have e:primary (f+1) (12-d) Kn ((.num m,xp)::t')= .ok (.num m,t'):=by rw[primary];rfl
   rw[dJ e] at hW
   refine⟨r,dr,_,rfl,er,rfl,r,q,kd,fn,ds,bl,n,(.num m,xp),t',rfl,S.rd,hb,fun nb H1 hp1=>?_⟩
   rw[006]
   refine⟨p,dx,_,rfl,ah,fun H2 h2 k2=>⟨rfl,?_⟩⟩
   have S1:=S.past [014] hp1
   have s12:=cg hp hdx k2
   refine hW H2 (.ref p) (n+1) (Nat.lt_succ_self _) (S1.same s12) ((bt hp1).trans (OS.aW.keeps s12)) ?_
   unfold ao
   exact⟨p,dx,rfl,S1.fresh hp,h2⟩
  |sign u=>
   rw[008]
   refine⟨r,dr,_,rfl,er,rfl,r,q,kd,fn,ds,bl,n,(.sign u,xp),t',"(",rfl,S.rd,hb,fun nb=>⟨_,rfl,bB [024] fun e=>?_⟩⟩
   ·rw[cq (x:="(") tok litO] at e
    have e:u=text "(":=by have:=beq_iff_eq.mp e;cases this;rfl
    subst e
    exact⟨r,q,kd,fn,ds,bl,n,_,Kn,d,f+1,rfl,hd,⟨hl,rfl⟩,S,hf,hW⟩
   ·rw[cq (x:="(") tok litO] at e
    have e2:isV "sum" (.sign u)=false:=by rw[cA (x:="sum") tok j0b_];rfl
    refine⟨r,dr,_,rfl,er,rfl,r,q,kd,fn,ds,bl,n,(.sign u,xp),t',"sum",rfl,S.rd,hb,fun nb=>[016]⟩
    rw[e2]
    rw[008]
    refine⟨r,dr,_,rfl,er,rfl,r,q,kd,fn,ds,bl,n,(.sign u,xp),t',rfl,S.rd,hb,fun nb _=>?_,fun _ z=>nomatch z⟩
    have ep:primary (f+1) (12-d) Kn ((.sign u,xp)::t')=Vbemac.fail 2 ((.sign u,xp)::t'):=by
     rw[primary]
     show(if isSign ((.sign u,xp)::t') "("=true then _ else Vbemac.fail 2 ((.sign u,xp)::t'))=_
     rw[if_neg (by unfold isSign;rw[hpk,e];exact Bool.false_ne_true)]
    exact(bQ ep nbp hW) H az.refl
  |word u=>
   rw[008]
   have e1:isV "(" (.word u)=false:=by rw[cq (x:="(") tok litO];rfl
   refine⟨r,dr,_,rfl,er,rfl,r,q,kd,fn,ds,bl,n,(.word u,xp),t',"(",rfl,S.rd,hb,fun nb=>[016]⟩
   rw[e1]
   rw[008]
   refine⟨r,dr,_,rfl,er,rfl,r,q,kd,fn,ds,bl,n,(.word u,xp),t',"sum",rfl,S.rd,hb,fun nb=>⟨_,rfl,bB [024] fun e=>?_⟩⟩
   ·rw[cA (x:="sum") tok j0b_] at e
    have e:u=text "sum":=by have:=beq_iff_eq.mp e;cases this;rfl
    subst e
    exact⟨r,q,kd,fn,ds,bl,n,_,Kn,d,f+1,rfl,hd,⟨hl,rfl⟩,S,hf,hW⟩
   ·rw[cA (x:="sum") tok j0b_] at e
    have ns:u≠text "sum":=fun z=>by rw[z] at e;exact absurd (show(Vbemac.Tok.word (text "sum") == .word (text "sum"))=false from e) [02]
    have ep:primary (f+1) (12-d) Kn ((.word u,xp)::t')=(if KEYS.contains u=true then Vbemac.fail 2 else(match Kn.funs.find? (fun f=>f.1 == u) with
      |some _=>primary (f+1) (12-d) Kn
      |none=>(fun t=>if Kn.values.contains u=true then .ok (.name u,t.drop 1) else Vbemac.fail 3 t)):Vbemac.P Vbemac.Exp) ((.word u,xp)::t'):=by
     by_cases hkw:KEYS.contains u=true
     ·rw[if_pos hkw,primary]
      show(if u=text "sum" then _ else if KEYS.contains u=true then _ else _)=_
      rw[if_neg ns,if_pos hkw]
     ·rw[if_neg hkw]
      cases hfd:Kn.funs.find? (fun f=>f.1 == u) with
      |some g=>rfl
      |none=>
       rw[primary]
       show(if u=text "sum" then _ else if KEYS.contains u=true then _ else _)=_
       rw[if_neg ns,if_neg hkw,hfd]
    refine⟨r,dr,_,rfl,er,rfl,r,q,kd,fn,ds,bl,n,(.word u,xp),t',rfl,S.rd,hb,fun nb en=>?_,fun nb en=>?_⟩
    ·rw[bM] at en
     rw[044]
     rw[if_pos hkw] at ep
     exact(bQ ep nbp hW) H az.refl
    ·rw[bM] at en
     rw[043]
     rw[if_neg [0006]] at ep
     rw[07]
     refine⟨r,dr,_,rfl,er,rfl,r,q,kd,fn,ds,bl,n,(.word u,xp),t',rfl,S.rd,hb,fun _ p ⟨dx,et⟩=>[087]⟩
     refine⟨r,_,dr,_,_,rfl,er,T.cl_Reader,T.no_Reader_functions,rfl,fn,_,rfl,yi_.k (k:=nk u) f1,_,rfl,?_⟩
     rw[f2]
     cases hfd:Kn.funs.find? (fun f=>f.1 == u) with
     |some g=>
      rw[027]
      exact⟨r,q,kd,fn,ds,bl,n,_,Kn,d,f+1,rfl,hd,⟨hl,u,g,rfl,ns,hkw,hfd⟩,S,hf,hW⟩
     |none=>
      rw[008]
      rw[hfd] at ep
      refine⟨r,_,dr,_,_,rfl,er,T.cl_Reader,T.no_Reader_known,rfl,kd,_,rfl,yi_.k (k:=nk u) k1,_,rfl,?_⟩
      have k3u:(cP kk (nk u)).isSome=Kn.values.contains u:=k3 u
      rw[k3u]
      cases hv:Kn.values.contains u with
      |false=>
       rw[027]
       have ep2:primary (f+1) (12-d) Kn ((.word u,xp)::t')=Vbemac.fail 3 ((.word u,xp)::t'):=by rw[ep,hv];rfl
       refine⟨r,dr,_,rfl,er,rfl,r,q,kd,fn,ds,bl,n,(.word u,xp),t',3,rfl,S.rd,?_⟩
       rw[if_neg nb]
       exact(bQ ep2 nbp hW) H az.refl
      |true=>
       rw[008]
       have ep2:primary (f+1) (12-d) Kn ((.word u,xp)::t')= .ok (.name u,t'):=by rw[ep,hv];rfl
       rw[dJ ep2] at hW
       refine⟨r,dr,_,rfl,er,rfl,r,q,kd,fn,ds,bl,n,(.word u,xp),t',rfl,S.rd,hb,fun nb H1 hp1=>?_⟩
       intro p' dx' hp hdx ne
       refine⟨p',dx',_,rfl,ah,fun H2 h2 k2=>⟨rfl,?_⟩⟩
       have S1:=S.past [014] hp1
       have s12:=cg hp hdx k2
       refine hW H2 (.ref p') (n+1) (Nat.lt_succ_self _) (S1.same s12) ((bt hp1).trans (OS.aW.keeps s12)) ?_
       unfold ao
       exact⟨p',dx',rfl,S1.fresh hp,h2⟩
  |eof=>
   rw[008]
   have e1:isV "(" .eof=false:=by rw[cq (x:="(") tok litO];rfl
   have e2:isV "sum" .eof=false:=by rw[cA (x:="sum") tok j0b_];rfl
   refine⟨r,dr,_,rfl,er,rfl,r,q,kd,fn,ds,bl,n,(.eof,xp),t',"(",rfl,S.rd,hb,fun nb=>[016]⟩
   rw[e1]
   rw[008]
   refine⟨r,dr,_,rfl,er,rfl,r,q,kd,fn,ds,bl,n,(.eof,xp),t',"sum",rfl,S.rd,hb,fun nb=>[016]⟩
   rw[e2]
   rw[008]
   refine⟨r,dr,_,rfl,er,rfl,r,q,kd,fn,ds,bl,n,(.eof,xp),t',rfl,S.rd,hb,fun nb _=>?_,fun _ z=>nomatch z⟩
   have ep:primary (f+1) (12-d) Kn ((.eof,xp)::t')=Vbemac.fail 2 ((.eof,xp)::t'):=by rw[primary];rfl
   exact(bQ ep nbp hW) H az.refl
  |bad=>exact absurd rfl nb
end
end
section
open Vbemac (Bytes Toks SIGNS KEYS peek place primary text isSign isKey expr)
section
variable {H0 H:Hp}{r q kd fn:Addr}{ds bl:eA}{n:Nat}{t:Toks}{Kn:Vbemac.Known}{β:Type}{E:XK}{Q:VK}
abbrev QE (a:cu) (r kd fn:Addr) (ds bl:eA) (H0:Hp) (E:XK):Nat->Vbemac.Pos->Prop:=fun k x=> ∀H',az (br r kd fn ds bl) H0 H'->fw a.c_Fault E H' k x
theorem fO {v:Str}{s:String}{g:Unit->Vbemac.P β}{Ro:β->Toks->Prop}(lit:gF v (text s)) (S:bP a H r q kd fn ds bl n t Kn) (kp:az (br r kd fn ds bl) H0 H) (hW:W (Vbemac.sign s>>=g) t Ro (QE a r kd fn ds bl H0 E))
  (cont: ∀H' t',t'.length+1=t.length->bP a H' r q kd fn ds bl (n+1) t' Kn->az (br r kd fn ds bl) H H'->W (g ()) t' Ro (QE a r kd fn ds bl H0 E)->Q .non H'):eX a [.ref r, .str v] H Q E:=by
 rw[00]
 rw[aK] at hW
 refine⟨r,q,kd,fn,ds,bl,n,(x,xp),t',v,rfl,S.rd,fun b=>(bC s).at_bad [0008] hW H kp,fun nb e=>?_,fun nb e H' hp=>?_⟩
 ·rw[cq (x:=v) tok lit] at e
  exact bQ (p:=Vbemac.sign s) (n:=2) (t:=(x,xp)::t') (by unfold Vbemac.sign isSign;rw[hpk,e];rfl) nb hW H kp
 ·rw[cq (x:=v) tok lit] at e
  have es:Vbemac.sign s ((x,xp)::t')= .ok ((),t'):=by unfold Vbemac.sign isSign;rw[hpk,e];rfl
  rw[dJ es] at hW
  have ex:x= .sign (text s):=beq_iff_eq.mp e
  exact cont H' t' rfl [066] (bt hp) hW
theorem we_ {v:Str}{s:String}{g:Unit->Vbemac.P β}{Ro:β->Toks->Prop}(lit:dP v (text s)) (S:bP a H r q kd fn ds bl n t Kn) (kp:az (br r kd fn ds bl) H0 H) (hW:W (Vbemac.key s>>=g) t Ro (QE a r kd fn ds bl H0 E))
  (cont: ∀H' t',t'.length+1=t.length->bP a H' r q kd fn ds bl (n+1) t' Kn->az (br r kd fn ds bl) H H'->W (g ()) t' Ro (QE a r kd fn ds bl H0 E)->Q .non H'):eX a [.ref r, .str v] H Q E:=by
 rw[00]
 rw[aK] at hW
 refine⟨r,q,kd,fn,ds,bl,n,(x,xp),t',v,rfl,S.rd,fun b=>(c9 s).at_bad [0008] hW H kp,fun nb e=>?_,fun nb e H' hp=>?_⟩
 ·rw[cA (x:=v) tok lit] at e
  exact bQ (p:=Vbemac.key s) (n:=2) (t:=(x,xp)::t') (by unfold Vbemac.key isKey;rw[hpk,e];rfl) nb hW H kp
 ·rw[cA (x:=v) tok lit] at e
  have es:Vbemac.key s ((x,xp)::t')= .ok ((),t'):=by unfold Vbemac.key isKey;rw[hpk,e];rfl
  rw[dJ es] at hW
  have ex:x= .word (text s):=beq_iff_eq.mp e
  exact cont H' t' rfl [066] (bt hp) hW
theorem qa_ {d:Nat}{g:Nat->Vbemac.P β}{Ro:β->Toks->Prop}(hd:d<=12) (S:bP a H r q kd fn ds bl n t Kn) (nb:peek t≠ .bad) (kp:az (br r kd fn ds bl) H0 H) (hW:W (Vbemac.deeper (12-d)>>=g) t Ro (QE a r kd fn ds bl H0 E))
  (cont:d<12->W (g (12-(d+1))) t Ro (QE a r kd fn ds bl H0 E)->Q [092] H):j0u_ a [.ref r, .int d] H Q E:=by
 rw[00]
 rw[aK] at hW
 have nx:x≠ .bad:=nb
 refine⟨r,q,kd,fn,ds,bl,n,(x,xp),t',d,rfl,S.rd,fun e=>?_,fun e=>?_⟩
 ·rw[if_neg nx]
  exact bQ (p:=Vbemac.deeper (12-d)) (n:=6) (by unfold Vbemac.deeper;rw[if_pos (by lia)]) nb hW H kp
 ·have ed:Vbemac.deeper (12-d) ((x,xp)::t')= .ok (12-(d+1),(x,xp)::t'):=by unfold Vbemac.deeper;rw[if_neg (by lia),show 12-d-1=12-(d+1) by lia]
  rw[dJ ed] at hW
  exact cont (by lia) hW
end
theorem litC:gF ")" (text ")"):=[029]
section
variable {k j:Nat}
theorem j5w_ {f d:Nat}{Kn:Vbemac.Known}{xp:Vbemac.Pos}{t:Toks} :primary (f+1) d Kn ((.sign (text "("),xp)::t)=
  (Vbemac.deeper d>>=fun e=>Vbemac.next>>=fun _=>expr f e Kn>>=fun x=>Vbemac.sign ")">>=fun _=>pure x:Vbemac.P Vbemac.Exp) ((.sign (text "("),xp)::t):=by
 rw[primary]
 show(if isSign ((.sign (text "("),xp)::t) "("=true then _ else _)=_
 rw[if_pos (by unfold isSign;exact beq_self_eq_true _)]
theorem W_as {α:Type}{p p':Vbemac.P α}{t:Toks}{Qo:α->Toks->Prop}{Qe:Nat->Vbemac.Pos->Prop}(e:p t=p' t) (h:W p t Qo Qe):W p' t Qo Qe:=by
 unfold W at h ⊢
 rw[<-e]
 exact h
theorem uf_ {α:Type}{g:Unit->Vbemac.P α}{x:Vbemac.Tok×Vbemac.Pos}{t:Toks}{Qo:α->Toks->Prop}{Qe:Nat->Vbemac.Pos->Prop}(h:W (Vbemac.next>>=g) (x::t) Qo Qe):W (g ()) t Qo Qe:=by
 rw[aK] at h
 exact h
theorem ok_I (T:Txt K mg a) (XC:XT K a) (hk:7<=k)
  (G_b:aJ P w K mg base (cH P w) k a.f_b a.fd_b ["reader","depth"] [0011]):
  aJ P w K mg base (cH P w) (k+1) a.f_I a.fd_I ["reader","depth"] (bU a W primary 6 (LvS (j+1) (text "("))):=by
 rw[041]
 rw[03]
 refine fh T.d_I.F sc_I [04] [03]
 ·obtain⟨r,q,kd,fn,ds,bl,n,t,Kn,d,fuel,rfl,_⟩:=h
  rfl
 ·obtain⟨r,q,kd,fn,ds,bl,n,t,Kn,d,fuel,rfl,hd,⟨hl,hpk0⟩,S,hf,hW⟩:=h
  rw[00]
  obtain rfl:x= .sign (text "("):=hpk.symm.trans hpk0
  have nb:peek ((.sign (text "("),xp)::t')≠ .bad:=fun z=>nomatch z
  refine⟨_,(ae (aE (i:=2) sc_I.nd rfl [05] [0005])
    (ae [000]
    (ae (aE (i:=3) sc_I.nd rfl [05] [043])
    (ae [000]
    (ai (ay (pv 3))))))),?_⟩
  rw[021]
  rw[000]
  refine qa_ hd S nb az.refl (W_as j5w_ hW) fun lt hW=>?_
  rw[026]
  refine⟨r,q,kd,fn,ds,bl,n,(.sign (text "("),xp),t',"(",rfl,S.rd,[003],fun _ e=>?_,fun _ _ H1 hp1=>?_⟩
  ·rw[cq (x:="(") tok litO] at e
   exact absurd (show(Vbemac.Tok.sign (text "(") == .sign (text "("))=false from e) [02]
  have S1:=S.past [014] hp1
  have k1:=bt hp1
  have h2:=W2.of (fun x=>(bC ")").bind) hW
  refine⟨r,q,kd,fn,ds,bl,n+1,t',Kn,d+1,f,rfl,lt,(by show 13<=d+1+j;have:13<=d+(j+1):=hl;lia),S1,by lia,h2.mono (fun e t2 nb2 hW2 H2 v n2 l2 S2 k2 ev=>?_) fun _ _ z H' k'=>z H' (k1.trans k')⟩
  rw[017]
  refine [078]
  refine fO litC S2 (k1.trans k2) hW2 fun H3 t3 l3 S3 k3 hW3=>?_
  exact(hW3 H3 v _ [052] S3 ((k1.trans k2).trans k3) (ao.keep k3 _ ev))
end
end
section
open Vbemac (Bytes Toks SIGNS KEYS peek place primary text isSign isKey expr)
theorem litIf:dP "if" (text "if"):=[005]
theorem litThen:dP "then" (text "then"):=[005]
theorem litElse:dP "else" (text "else"):=[005]
theorem expr_if {f d:Nat}{Kn:Vbemac.Known}{xp:Vbemac.Pos}{t:Toks} :expr (f+1) d Kn ((.word (text "if"),xp)::t)=
  (Vbemac.deeper d>>=fun e=>Vbemac.next>>=fun _=>expr f e Kn>>=fun c=>Vbemac.key "then">>=fun _=>expr f e Kn>>=fun x=>Vbemac.key "else">>=fun _=>expr f e Kn>>=fun y=>pure (.pick c x y):Vbemac.P Vbemac.Exp) ((.word (text "if"),xp)::t):=by
 rw[expr]
 show(if isKey ((.word (text "if"),xp)::t) "if"=true then _ else _)=_
 rw[if_pos (by unfold isKey;exact beq_self_eq_true _)]
section
variable {k j:Nat}
theorem ok_G (T:Txt K mg a) (XC:XT K a) (hk:7<=k)
  (G_b:aJ P w K mg base (cH P w) k a.f_b a.fd_b ["reader","depth"] [0011]):
  aJ P w K mg base (cH P w) (k+1) a.f_G a.fd_G ["reader","depth"] (bU a W2 expr 12 (LvW (j+1) (text "if"))):=by
 rw[041]
 rw[03]
 have G_av:=j14_ (P:=P) (w:=w) (base:=base) T
 refine fh T.d_G.F sc_G [04] [03]
 ·obtain⟨r,q,kd,fn,ds,bl,n,t,Kn,d,fuel,rfl,_⟩:=h
  rfl
 ·obtain⟨r,q,kd,fn,ds,bl,n,t,Kn,d,fuel,rfl,hd,⟨hl,hpk0⟩,S,hf,hW⟩:=h
  rw[00]
  obtain rfl:x= .word (text "if"):=hpk.symm.trans hpk0
  have nb:peek ((.word (text "if"),xp)::t')≠ .bad:=fun z=>nomatch z
  refine⟨_,(ae (aE (i:=2) sc_G.nd rfl [05] [0005])
    (ae [000]
    (ae (aE (i:=3) sc_G.nd rfl [05] [043])
    (ae [000]
    (ae (aE (i:=4) sc_G.nd rfl [05] [043])
    (ae [000]
    (ai (ay (cv T.mk_Choice G_av [01] (by rfl) T.mg_Choice T.d_av.c.b .nil aQ (aa (pv 3) (aa (pv 4) (aa [043] af)))))))))))),?_⟩
  rw[021]
  have hl:13<=d+(j+1):=hl
  rw[000]
  unfold W2 at hW
  refine qa_ hd S nb az.refl (W_as expr_if hW) fun lt hW=>?_
  rw[026]
  refine⟨r,q,kd,fn,ds,bl,n,(.word (text "if"),xp),t',"if",rfl,S.rd,[003],fun _ e=>?_,fun _ _ H1 hp1=>?_⟩
  ·rw[cA (x:="if") tok litIf] at e
   exact absurd (show(Vbemac.Tok.word (text "if") == .word (text "if"))=false from e) [02]
  have S1:=S.past [014] hp1
  have k1:=bt hp1
  have h2:=W2.of (fun x=>(c9 "then").bind) hW
  refine⟨r,q,kd,fn,ds,bl,n+1,t',Kn,d+1,f,rfl,lt,(by show 13<=d+1+j;lia),S1,by lia,h2.mono (fun e1 t2 nb2 hW2 H2 v1 n2 l2 S2 k2 ev1=>?_) fun _ _ z H' k'=>z H' (k1.trans k')⟩
  rw[017]
  refine [078]
  refine we_ litThen S2 (k1.trans k2) hW2 fun H3 t3 l3 S3 k3 hW3=>?_
  have k13:=(k1.trans k2).trans k3
  have h4:=W2.of (fun x=>(c9 "else").bind) hW3
  refine⟨r,q,kd,fn,ds,bl,n2+1,t3,Kn,d+1,f,rfl,lt,(by show 13<=d+1+j;lia),S3,by lia,h4.mono (fun e2 t4 nb4 hW4 H4 v2 n4 l4 S4 k4 ev2=>?_) fun _ _ z H' k'=>z H' (k13.trans k')⟩
  rw[022]
  refine [077]
  refine we_ litElse S4 (k13.trans k4) hW4 fun H5 t5 l5 S5 k5 hW5=>?_
  have k15:=(k13.trans k4).trans k5
  have k35:=k3.trans (k4.trans k5)
  have k45:=k5
  rw[aK] at hW5
  have h6:W2 (expr f (12-(d+1)) Kn) t5 (fun y u=> ∀H' v n',u.length<((Vbemac.Tok.word (text "if"),xp)::t').length->bP a H' r q kd fn ds bl n' u Kn->az (br r kd fn ds bl) H H'->ao a (br r kd fn ds bl) H' (.pick e1 e2 y) v->Q v H') (QE a r kd fn ds bl H E):=hW5
  refine⟨r,q,kd,fn,ds,bl,n4+1,t5,Kn,d+1,f,rfl,lt,(by show 13<=d+1+j;lia),S5,by lia,h6.mono (fun e3 t6 nb6 hW6 H6 v3 n6 l6 S6 k6 ev3=>?_) fun _ _ z H' k'=>z H' (k15.trans k')⟩
  rw[006]
  refine⟨p,dx,_,_,_,rfl,ah,fun H7 h7 k7=>⟨rfl,?_⟩⟩
  have s67:=cg hp hdx k7
  have k67:az (br r kd fn ds bl) H6 H7:=OS.aW.keeps s67
  refine hW6 H7 (.ref p) n6 [052] (S6.same s67) ((k15.trans k6).trans k67) ?_
  unfold ao
  exact⟨v1,v2,v3,⟨p,dx,rfl,S6.fresh hp,h7⟩,ao.keep (k35.trans (k6.trans k67)) _ ev1,ao.keep (k45.trans (k6.trans k67)) _ ev2,ao.keep k67 _ ev3⟩
end
end
section
open Vbemac (Bytes Toks SIGNS KEYS peek place primary unary text isSign isKey expr)
theorem litM:gF "-" (text "-"):=[029]
theorem litN:gF "!" (text "!"):=[029]
theorem d8 {x:Vbemac.Tok×Vbemac.Pos}{t:Toks}{s:String} :isSign (x::t) s=(x.1 == .sign (text s)):=rfl
theorem j6l_ {f d:Nat}{Kn:Vbemac.Known}{xp:Vbemac.Pos}{t:Toks} :unary (f+1) d Kn ((.sign (text "!"),xp)::t)=
  (Vbemac.deeper d>>=fun e=>Vbemac.next>>=fun _=>unary f e Kn>>=fun x=>pure (.not x):Vbemac.P Vbemac.Exp) ((.sign (text "!"),xp)::t):=by
 rw[unary]
 show(if isSign ((.sign (text "!"),xp)::t) "-"=true then _ else if isSign ((.sign (text "!"),xp)::t) "!"=true then _ else _)=_
 rw[if_neg (by rw[d8];show¬(Vbemac.Tok.sign (text "!") == .sign (text "-"))=true;decide+kernel),if_pos (by rw[d8];exact beq_self_eq_true _)]
theorem j6z_ {f d:Nat}{Kn:Vbemac.Known}{xp:Vbemac.Pos}{t:Toks}(h: ∀m,peek t≠ .num m):unary (f+1) d Kn ((.sign (text "-"),xp)::t)=
  (Vbemac.deeper d>>=fun e=>Vbemac.next>>=fun _=>unary f e Kn>>=fun x=>pure (.neg x):Vbemac.P Vbemac.Exp) ((.sign (text "-"),xp)::t):=by
 rw[unary]
 show(if isSign ((.sign (text "-"),xp)::t) "-"=true then(match peek t with
   | .num n=>_
   |_=>_) else _)=_
 rw[if_pos (by rw[d8];exact beq_self_eq_true _)]
 cases e:peek t with
 |num m=>exact absurd e (h m)
 |_=>rfl
theorem j76_ {f d m:Nat}{Kn:Vbemac.Known}{xp:Vbemac.Pos}{t:Toks}(h:peek t= .num m):unary (f+1) d Kn ((.sign (text "-"),xp)::t)= .ok (.neg (.num m),t.drop 1):=by
 rw[unary]
 show(if isSign ((.sign (text "-"),xp)::t) "-"=true then(match peek t with
   | .num n=>_
   |_=>_) else _)=_
 rw[if_pos (by rw[d8];exact beq_self_eq_true _),h]
 rfl
theorem j06_ {f d:Nat}{Kn:Vbemac.Known}{x:Vbemac.Tok×Vbemac.Pos}{t:Toks}(h1:(x.1 == .sign (text "-"))=false) (h2:(x.1 == .sign (text "!"))=false):unary (f+1) d Kn (x::t)=primary f d Kn (x::t):=by
 rw[unary]
 show(if isSign (x::t) "-"=true then _ else if isSign (x::t) "!"=true then _ else _)=_
 rw[if_neg (by rw[d8,h1];exact Bool.false_ne_true),if_neg (by rw[d8,h2];exact Bool.false_ne_true)]
theorem unary_n {f d m:Nat}{Kn:Vbemac.Known}{xp:Vbemac.Pos}{t:Toks} :unary (f+2) d Kn ((.num m,xp)::t)= .ok (.num m,t):=by
 rw[j06_ rfl rfl,primary]
 rfl
section
variable {k j:Nat}
theorem fM (okT okC:Nat->Vbemac.Known->Toks->Prop) (T:Txt K mg a) (XC:XT K a) (hk:7<=k)
  (h0: ∀d Kn t,okT d Kn t->13<=d+j) (h1: ∀d Kn s xp t,okT d Kn ((.sign s,xp)::t)->d<12->okC (d+1) Kn t) (h2: ∀d Kn s xp t m,okT d Kn ((.sign s,xp)::t)->peek t= .num m->okC d Kn t)
  (G_W:aJ P w K mg base (cH P w) k a.f_W a.fd_W ["reader","depth"] (bU a W primary 6 (Lv j)))
  (G_j:aJ P w K mg base (cH P w) k a.f_j a.fd_j ["reader","depth"] (bU a W unary 7 okC)):
  aJ P w K mg base (cH P w) (k+1) a.f_j a.fd_j ["reader","depth"] (bU a W unary 7 okT):=by
 rw[05]
 rw[041]
 rw[009]
 have G_aK:=ya_ (P:=P) (w:=w) (base:=base) T
 have G_au:=j1e_ (P:=P) (w:=w) (base:=base) T
 refine fh T.d_j.F sc_j [04] [03]
 ·obtain⟨r,q,kd,fn,ds,bl,n,t,Kn,d,fuel,rfl,_⟩:=h
  rfl
 ·obtain⟨r,q,kd,fn,ds,bl,n,t,Kn,d,fuel,rfl,hd,hl,S,hf,hW⟩:=h
  rw[00]
  rw[01]
  have hb:x= .bad->fw a.c_Fault E H 1 xp:=fun e=>(yk_ _ _ _).at_bad (hpk.trans e) hW H az.refl
  refine⟨_,(ae (aZ (j11_ (eS [010]) (ye_ (eS [010]))).pt (ai (ay (al G_W [01] (by rfl) T.d_W.c aj [012]))) aG)
    (ae (aE (i:=2) sc_j.nd rfl [05] (pv 1))
    (ae (aZ (pw_or [010] (j2h_ (eS (bd (a0 (pv 0) T.cl_Reader T.d_aK.c G_aK [01] aQ))))).pt (ai (aE (i:=2) sc_j.nd rfl [05] [0005])) aG)
    (ae (aE (i:=3) sc_j.nd rfl [05] [050])
    (ai (ay (cv T.mk_Unary G_au [01] (by rfl) T.mg_Unary T.d_au.c.b .nil aQ (aa (pv 3) (aa (al G_j [01] (by rfl) T.d_j.c aj (aa (pv 0) [027])) af))))))))),?_⟩
  rw[021]
  rw[000]
  have vm:isV "-" x=(x == .sign (text "-")):=cq tok litM
  have vn:isV "!" x=(x == .sign (text "!")):=cq tok litN
  refine⟨r,dr,_,rfl,er,rfl,r,q,kd,fn,ds,bl,n,(x,xp),t',"-",rfl,S.rd,hb,fun nb=>[016]⟩
  have sgnc: ∀c:Bytes,x= .sign c-> ¬FinT (x,xp):=fun c e z=>by rw[e] at z;exact z.elim [003] fun z=>nomatch z
  have tail: ∀(c:Bytes) (d2:Nat) (mk:Vbemac.Exp->Vbemac.Exp),x= .sign c->(c=text "-"/\mk=Vbemac.Exp.neg\/c=text "!"/\mk=Vbemac.Exp.not)->d2<=12->okC d2 Kn t'->
    W (unary f (12-d2) Kn>>=fun y=>pure (mk y)) t' (fun e u=> ∀H' v n',u.length<t'.length+1->bP a H' r q kd fn ds bl n' u Kn->az (br r kd fn ds bl) H H'->ao a (br r kd fn ds bl) H' e v->Q v H') (QE a r kd fn ds bl H E)->
    tSeq (tAsg (tMeth a.c_Reader "take" (spTake a) [] E (d9 0) jx_) (gName 3)) (tRet (tMake a.c_Unary (hU a.c_Unary "sign" "operand") [] E0 (fR (d9 3) (fR (yo_ (bU a W unary 7 okC) [] E (fR (d9 0) (fR (d9 2) jx_))) jx_))))
     { nx:=fun _ H'=>Q .non H',rt:=Q } [some (.ref r),some (.int d),some (.int d2),none] H:=by
   intro c d2 mk ex hc hd2 hC hW
   refine⟨r,dr,_,rfl,er,rfl,r,q,kd,fn,ds,bl,n,(x,xp),t',rfl,S.rd,hb,fun nb H1 hp1=>?_⟩
   have S1:=S.past (sgnc c ex) hp1
   have k1:=bt hp1
   rw[aK] at hW
   refine⟨r,q,kd,fn,ds,bl,n+1,t',Kn,d2,f,rfl,hd2,hC,S1,by lia,hW.mono (fun e3 t6 hW6 H6 v3 n6 l6 S6 k6 ev3=>?_) fun _ _ z H' k'=>z H' (k1.trans k')⟩
   rw[006]
   refine⟨p,dx,_,_,rfl,ah,fun H7 h7 k7=>⟨rfl,?_⟩⟩
   have s67:=cg hp hdx k7
   have k67:az (br r kd fn ds bl) H6 H7:=OS.aW.keeps s67
   refine hW6 H7 (.ref p) n6 (by lia) (S6.same s67) ((k1.trans k6).trans k67) ?_
   rcases hc with⟨rfl,rfl⟩|⟨rfl,rfl⟩
   ·unfold ao
    subst ex
    exact⟨v3,⟨p,dx,rfl,S6.fresh hp,h7⟩,ao.keep k67 _ ev3⟩
   ·unfold ao
    subst ex
    exact⟨v3,⟨p,dx,rfl,S6.fresh hp,h7⟩,ao.keep k67 _ ev3⟩
  cases em:(x == Vbemac.Tok.sign (text "-")) with
  |true=>
   have ex:x= .sign (text "-"):=beq_iff_eq.mp em
   rw[vm,em]
   rw[008]
   rw[008]
   refine⟨r,dr,_,rfl,er,rfl,r,q,kd,fn,ds,bl,n,(x,xp),t',"!",rfl,S.rd,hb,fun nb=>[016]⟩
   have en:(x == Vbemac.Tok.sign (text "!"))=false:=by rw[ex];decide+kernel
   rw[vn,en]
   rw[008]
   obtain⟨y,t2,rfl,_,hy,_,_⟩:=(S.wh.tail (sgnc _ ex)).2.first
   refine⟨r,dr,_,rfl,er,rfl,r,q,kd,fn,ds,bl,n,(x,xp),y,t2,rfl,S.rd,_,rfl,?_⟩
   subst ex
   cases ey:isNum y.1 with
   |true=>
    obtain⟨m,eym⟩: ∃m,y.1= .num m:=by
     cases h:y.1 with
     |num m=>exact⟨m,rfl⟩
     |_=>rw[h] at ey;cases ey
    rw[008]
    refine tail _ d _ rfl (.inl ⟨rfl,rfl⟩) hd (h2 _ _ _ _ _ m hl (hy.trans eym)) ?_
    rw[dJ (j76_ (hy.trans eym))] at hW
    obtain⟨g,rfl⟩: ∃g,f=g+2:=⟨f-2,by lia⟩
    rw[aK,dJ (show unary (g+2) (12-d) Kn (y::t2)= .ok (.num m,t2) by obtain⟨y1,y2⟩:=y;cases eym;exact unary_n)]
    exact hW
   |false=>
    have nn: ∀m,peek (y::t2)≠ .num m:=fun m z=>by rw[hy] at z;rw[z] at ey;cases ey
    rw[027]
    refine qa_ hd S [003] az.refl (W_as (j6z_ nn) hW) fun lt hW=>?_
    exact tail _ (d+1) _ rfl (.inl ⟨rfl,rfl⟩) lt (h1 _ _ _ _ _ hl lt) (uf_ hW)
  |false=>
   rw[vm,em]
   rw[027]
   refine⟨r,dr,_,rfl,er,rfl,r,q,kd,fn,ds,bl,n,(x,xp),t',"!",rfl,S.rd,hb,fun nb=>[016]⟩
   rw[vn]
   cases en:(x == Vbemac.Tok.sign (text "!")) with
   |true=>
    have ex:x= .sign (text "!"):=beq_iff_eq.mp en
    rw[008]
    refine⟨r,dr,_,rfl,er,rfl,r,q,kd,fn,ds,bl,n,(x,xp),t',"!",rfl,S.rd,hb,fun nb=>[016]⟩
    rw[vn,en]
    rw[027]
    rw[027]
    subst ex
    refine qa_ hd S [003] az.refl (W_as j6l_ hW) fun lt hW=>?_
    exact tail _ (d+1) _ rfl (.inr ⟨rfl,rfl⟩) lt (h1 _ _ _ _ _ hl lt) (uf_ hW)
   |false=>
    rw[027]
    exact⟨r,q,kd,fn,ds,bl,n,_,Kn,d,f,rfl,hd,h0 _ _ _ hl,S,[052],W_as (j06_ em en) hW⟩
end
end
section
open Vbemac (Bytes Toks SIGNS KEYS peek place primary unary text isSign isKey expr ands moreOr)
def spChain (a:cu) (s:Nat) (p:Nat->Nat->Vbemac.Known->Vbemac.P Vbemac.Exp) (c:Nat) (ok:Nat->Vbemac.Known->Toks->Prop):Sp:=fun vs H Q E=> ∃u v:V,vs=[u,v, .int s]/\bU a W2 p c ok [u,v] H Q E
theorem j7c_ {f d:Nat}{Kn:Vbemac.Known}{t:Toks}(h:isKey t "if"=false):expr (f+1) d Kn t=ors f d Kn t:=by
 rw[expr]
 show(if isKey t "if"=true then _ else _)=_
 rw[if_neg [0014]]
 rfl
section
variable {k j:Nat}
theorem ok_b (T:Txt K mg a) (XC:XT K a) (hk:7<=k)
  (G_G:aJ P w K mg base (cH P w) k a.f_G a.fd_G ["reader","depth"] (bU a W2 expr 12 (LvW j (text "if"))))
  (G_i:aJ P w K mg base (cH P w) k a.f_i a.fd_i ["reader","depth","strength"] (spChain a 0 ors 11 (Lv j))):
  aJ P w K mg base (cH P w) (k+1) a.f_b a.fd_b ["reader","depth"] [0011]:=by
 rw[05]
 refine fh T.d_b.F sc_b [04] [03]
 ·obtain⟨r,q,kd,fn,ds,bl,n,t,Kn,d,fuel,rfl,_⟩:=h
  rfl
 ·obtain⟨r,q,kd,fn,ds,bl,n,t,Kn,d,fuel,rfl,hd,hl,S,hf,hW⟩:=h
  rw[00]
  rw[01]
  have hb:x= .bad->fw a.c_Fault E H 1 xp:=fun e=>(qw_ _ _ _).at_bad (hpk.trans e) hW H az.refl
  refine⟨_,(ae (aZ [010] (ai (ay (al G_G [01] (by rfl) T.d_G.c aj [012]))) aG)
    (ai (ay (al G_i [01] (by rfl) T.d_i.c aj (aa (pv 0) (aa (pv 1) (aa aU af))))))),?_⟩
  have vi:isV "if" x=(x == .word (text "if")):=cA tok litIf
  have hf0:=hf
  rw[021]
  rw[000]
  refine⟨r,dr,_,rfl,er,rfl,r,q,kd,fn,ds,bl,n,(x,xp),t',"if",rfl,S.rd,hb,fun nb=>[016]⟩
  rw[vi]
  cases ei:(x == Vbemac.Tok.word (text "if")) with
  |true=>
   rw[027]
   exact⟨r,q,kd,fn,ds,bl,n,_,Kn,d,f+1,rfl,hd,⟨hl,hpk.trans (beq_iff_eq.mp ei)⟩,S,hf0,hW⟩
  |false=>
   rw[008]
   refine⟨_,_,rfl,r,q,kd,fn,ds,bl,n,_,Kn,d,f,rfl,hd,hl,S,[052],?_⟩
   unfold W2 at hW ⊢
   exact W_as (j7c_ ei) hW
end
end
section
open Vbemac (Bytes Toks SIGNS KEYS peek place primary unary text isSign isKey expr newName anyName)
theorem cC {u:Bytes}{xp:Vbemac.Pos}{t:Toks} :anyName ((.word u,xp)::t)=if KEYS.contains u=true then Vbemac.fail 2 ((.word u,xp)::t) else .ok (u,t):=rfl
theorem e6 {Kn:Vbemac.Known}{u:Bytes}{xp:Vbemac.Pos}{t:Toks}(h:KEYS.contains u=true):newName Kn ((.word u,xp)::t)=Vbemac.fail 2 ((.word u,xp)::t):=by
 unfold newName
 rw[cC,if_pos h]
 rfl
theorem cT {Kn:Vbemac.Known}{u:Bytes}{xp:Vbemac.Pos}{t:Toks}(h:KEYS.contains u=false):newName Kn ((.word u,xp)::t)=if Kn.taken u=true then Vbemac.fail 4 ((.word u,xp)::t) else .ok (u,t):=by
 unfold newName
 rw[cC,if_neg [0014]]
section
variable {H0 H:Hp}{r q kd fn:Addr}{ds bl:eA}{n:Nat}{t:Toks}{Kn:Vbemac.Known}{β:Type}{E:XK}{Q:VK}
theorem j71_ {g:Bytes->Vbemac.P β}{Ro:β->Toks->Prop}(S:bP a H r q kd fn ds bl n t Kn) (kp:az (br r kd fn ds bl) H0 H) (hW:W (newName Kn>>=g) t Ro (QE a r kd fn ds bl H0 E))
  (cont: ∀u H' t',t'.length+1=t.length->Kn.taken u=false->bP a H' r q kd fn ds bl (n+1) t' Kn->az (br r kd fn ds bl) H H'->W (g u) t' Ro (QE a r kd fn ds bl H0 E)->Q (.str (sb u)) H'):j2m_ a [.ref r] H Q E:=by
 rw[00]
 rw[07]
 rw[aK] at hW
 have tk: ∀u,(has kk u||has ff u)=Kn.taken u:=fun u=>by
  unfold Vbemac.Known.taken
  rw[k3]
  congr 1
  unfold has
  rw[f2,Option.isSome_map,Bool.eq_iff_iff,List.find?_isSome,List.any_eq_true]
 refine⟨r,q,kd,fn,ds,bl,n,(x,xp),t',kk,ff,rfl,S.rd,k1,f1,fun b=>(eD Kn).at_bad [0008] hW H kp,fun nb e=>?_,fun u ex e e4=>?_,fun u ex e e4 H' hp=>?_⟩
 ·refine bQ (p:=newName Kn) (n:=2) (t:=(x,xp)::t') ?_ nb hW H kp
  have nb':peek ((x,xp)::t')≠ .bad:=nb
  cases x with
  |word u=>
   rw[bM] at e
   have hkw:KEYS.contains u=true:=by cases h:KEYS.contains u;rw[h] at e;cases e;rfl
   exact e6 hkw
  |num m=>rfl
  |sign s=>rfl
  |eof=>rfl
  |bad=>exact absurd rfl nb
 ·obtain rfl:x= .word u:=ex
  rw[039]
  refine bQ (p:=newName Kn) (n:=4) (t:=(.word u,xp)::t') ?_ [003] hW H kp
  rw[cT hkw,if_pos (by rw[<-tk];exact e4)]
 ·obtain rfl:x= .word u:=ex
  rw[039]
  have ft:Kn.taken u=false:=by rw[<-tk];exact e4
  have en:newName Kn ((.word u,xp)::t')= .ok (u,t'):=by
   rw[cT hkw,if_neg (by rw[ft];exact Bool.false_ne_true)]
  rw[dJ en] at hW
  exact cont u H' t' rfl ft (S.past [014] hp) (bt hp) hW
end
theorem litIn:dP "in" (text "in"):=[005]
theorem litDD:gF ".." (text ".."):=[029]
theorem litCo:gF ":" (text ":"):=[029]
theorem j4s_ {f d:Nat}{Kn:Vbemac.Known}{xp:Vbemac.Pos}{t:Toks} :primary (f+1) d Kn ((.word (text "sum"),xp)::t)=
  (Vbemac.deeper d>>=fun e=>Vbemac.next>>=fun _=>Vbemac.sign "(">>=fun _=>newName Kn>>=fun x=>Vbemac.key "in">>=fun _=>expr f e Kn>>=fun lo=>Vbemac.sign "..">>=fun _=>expr f e Kn>>=fun hi=>Vbemac.sign ":">>=fun _=>
   expr f e (Kn.with x)>>=fun y=>Vbemac.sign ")">>=fun _=>pure (.sum x lo hi y):Vbemac.P Vbemac.Exp) ((.word (text "sum"),xp)::t):=by
 rw[primary]
 show(if text "sum"=text "sum" then _ else _)=_
 rw[if_pos rfl]
section
variable {k j:Nat}
theorem ok_y (T:Txt K mg a) (XC:XT K a) (hk:7<=k)
  (G_b:aJ P w K mg base (cH P w) k a.f_b a.fd_b ["reader","depth"] [0011]):
  aJ P w K mg base (cH P w) (k+1) a.f_y a.fd_y ["reader","depth"] (bU a W primary 6 (LvW (j+1) (text "sum"))):=by
 rw[041]
 rw[03]
 rw[016]
 have G_w:=gv (P:=P) (w:=w) (base:=base) T
 have G_aw:=j3s_ (P:=P) (w:=w) (base:=base) T
 refine fh T.d_y.F sc_y [04] [03]
 ·obtain⟨r,q,kd,fn,ds,bl,n,t,Kn,d,fuel,rfl,_⟩:=h
  rfl
 ·obtain⟨r,q,kd,fn,ds,bl,n,t,Kn,d,fuel,rfl,hd,⟨hl,hpk0⟩,S,hf,hW⟩:=h
  rw[00]
  obtain rfl:x= .word (text "sum"):=hpk.symm.trans hpk0
  have nb:peek ((.word (text "sum"),xp)::t')≠ .bad:=fun z=>nomatch z
  refine⟨_,(ae (aE (i:=2) sc_y.nd rfl [05] [0005])
    (ae [000]
    (ae [000]
    (ae (aE (i:=3) sc_y.nd rfl [05] [063])
    (ae [000]
    (ae (aE (i:=4) sc_y.nd rfl [05] [043])
    (ae [000]
    (ae (aE (i:=5) sc_y.nd rfl [05] [043])
    (ae [000]
    (ae (au (aA (pv 0) T.cl_Reader T.d_q.c G_q [01] aQ (aa (pv 3) af)))
    (ae (aE (i:=6) sc_y.nd rfl [05] [043])
    (ae (au (aA (pv 0) T.cl_Reader T.d_w.c G_w [01] aQ (aa (pv 3) af)))
    (ae [000]
    (ai (ay (cv T.mk_Sum G_aw [01] (by rfl) T.mg_Sum T.d_aw.c.b .nil aQ (aa (pv 3) (aa (pv 4) (aa (pv 5) (aa (pv 6) af)))))))))))))))))))),?_⟩
  rw[015]
  rw[List.length_cons] at hf room
  have hl:13<=d+(j+1):=hl
  rw[000]
  refine qa_ hd S nb az.refl (W_as j4s_ hW) fun lt hW=>?_
  rw[026]
  refine⟨r,q,kd,fn,ds,bl,n,(.word (text "sum"),xp),t',"sum",rfl,S.rd,[003],fun _ e=>?_,fun _ _ H1 hp1=>?_⟩
  ·rw[cA (x:="sum") tok j0b_] at e
   exact absurd (show(Vbemac.Tok.word (text "sum") == .word (text "sum"))=false from e) [02]
  have S1:=S.past [014] hp1
  have k1:=bt hp1
  rw[018]
  refine fO litO S1 k1 hW fun H2 t2 l2 S2 k2 hW2=>?_
  rw[037]
  rw[017]
  refine [078]
  refine j71_ S2 k02 hW2 fun u H3 t3 l3 ft S3 k3 hW3=>?_
  have k03:=k02.trans k3
  rw[033]
  refine⟨r,dr3,_,rfl,er3,rfl,?_⟩
  refine we_ litIn S3 k03 hW3 fun H4 t4 l4 S4 k4 hW4=>?_
  have k04:=k03.trans k4
  have h4:=W2.of (fun x=>(bC "..").bind) hW4
  refine⟨r,q,kd,fn,ds,bl,_,t4,Kn,d+1,f,rfl,lt,(by show 13<=d+1+j;lia),S4,by lia,h4.mono (fun e1 t5 nb5 hW5 H5 v1 n5 l5 S5 k5 ev1=>?_) fun _ _ z H' k'=>z H' (k04.trans k')⟩
  have k05:=k04.trans k5
  obtain⟨dr5,er5⟩:=S5.rd.ins
  refine⟨r,dr5,_,rfl,er5,rfl,?_⟩
  refine fO litDD S5 k05 hW5 fun H6 t6 l6 S6 k6 hW6=>?_
  have k06:=k05.trans k6
  have h6:=W2.of (fun x=>(bC ":").bind) hW6
  refine⟨r,q,kd,fn,ds,bl,_,t6,Kn,d+1,f,rfl,lt,(by show 13<=d+1+j;lia),S6,by lia,h6.mono (fun e2 t7 nb7 hW7 H7 v2 n7 l7 S7 k7 ev2=>?_) fun _ _ z H' k'=>z H' (k06.trans k')⟩
  have k07:=k06.trans k7
  obtain⟨dr7,er7⟩:=S7.rd.ins
  refine⟨r,dr7,_,rfl,er7,rfl,?_⟩
  refine fO litCo S7 k07 hW7 fun H8 t8 l8 S8 k8 hW8=>?_
  have k08:=k07.trans k8
  have fv:Kn.values.contains u=false:=by
   rw[045]
   cases h:Kn.values.contains u with
   |false=>rfl
   |true=>rw[h] at ft;cases ft
  obtain⟨dr8,er8⟩:=S8.rd.ins
  obtain⟨kk,kk1,kk2,kk3⟩:=S8.kn.vals
  have S9:=S8.learn (u:=u) fv (by lia) kk1
  have k89:az (br r kd fn ds bl) H8 (bg H8 kd (.dK (dI kk (nk u) (.bl true)))):=fun b o e m=>by rw[ag fun z=>m [013]];exact e
  refine⟨r,dr8,_,rfl,er8,rfl,r,dr8,q,kd,fn,ds,bl,_,u,kk,rfl,er8,kk1,Nat.lt_of_le_of_lt [093] [06],?_⟩
  have k09:=k08.trans k89
  have h9:=W2.of (fun x=>(bC ")").bind) hW8
  refine⟨r,q,kd,fn,ds,bl,_,t8,Kn.with u,d+1,f,rfl,lt,(by show 13<=d+1+j;lia),S9,by lia,h9.mono (fun e3 ta nba hWa Ha v3 na la Sa ka ev3=>?_) fun _ _ z H' k'=>z H' (k09.trans k')⟩
  have k0a:=k09.trans ka
  obtain⟨dra,era⟩:=Sa.rd.ins
  obtain⟨kb,kb1,_,_⟩:=Sa.kn.vals
  obtain⟨hu,Sb⟩:=Sa.forget (u:=u) fv kb1
  have kab:az (br r kd fn ds bl) Ha (bg Ha kd (.dK (eE kb (nk u)))):=fun b o e m=>by rw[ag fun z=>m [013]];exact e
  refine⟨r,dra,_,rfl,era,rfl,r,dra,q,kd,fn,ds,bl,_,u,kb,rfl,era,kb1,hu,?_⟩
  have k0b:=k0a.trans kab
  obtain⟨drb,erb⟩:=Sb.rd.ins
  refine⟨r,drb,_,rfl,erb,rfl,?_⟩
  refine fO litC Sb k0b hWa fun Hc tc lc Sc kc hWc=>?_
  have k0c:=k0b.trans kc
  rw[006]
  refine⟨p,dx,_,_,_,_,rfl,ah,fun Hd hd' kd'=>⟨rfl,?_⟩⟩
  rw[007]
  have kcd:az (br r kd fn ds bl) Hc Hd:=OS.aW.keeps scd
  have kbd:=kc.trans kcd
  have kad:=kab.trans kbd
  refine hWc Hd (.ref p) _ [052] (Sc.same scd) (k0c.trans kcd) ?_
  unfold ao
  exact⟨v1,v2,v3,⟨p,dx,rfl,Sc.fresh hp,hd'⟩,ao.keep (k6.trans (k7.trans (k8.trans (k89.trans (ka.trans kad))))) _ ev1,ao.keep (k8.trans (k89.trans (ka.trans kad))) _ ev2,ao.keep kad _ ev3⟩
end
end
section
open Vbemac (Bytes Toks SIGNS KEYS peek place primary text isSign isKey expr newName anyName)
section
variable {H0 H:Hp}{r q kd fn:Addr}{ds bl:eA}{n:Nat}{t:Toks}{Kn:Vbemac.Known}{β:Type}{E:XK}{Q:VK}{Qe:Nat->Vbemac.Pos->Prop}
theorem dH {v:Str}{s:String}{g:Unit->Vbemac.P β}{Ro:β->Toks->Prop}(lit:gF v (text s)) (S:bP a H r q kd fn ds bl n t Kn) (hq: ∀k x,Qe k x->fw a.c_Fault E H k x) (hW:W (Vbemac.sign s>>=g) t Ro Qe)
  (cont: ∀H' t',t'.length+1=t.length->bP a H' r q kd fn ds bl (n+1) t' Kn->az (br r kd fn ds bl) H H'->W (g ()) t' Ro Qe->Q .non H'):eX a [.ref r, .str v] H Q E:=by
 rw[00]
 rw[aK] at hW
 refine⟨r,q,kd,fn,ds,bl,n,(x,xp),t',v,rfl,S.rd,fun b=>hq _ _ ((bC s).at_bad [0008] hW),fun nb e=>?_,fun nb e H' hp=>?_⟩
 ·rw[cq (x:=v) tok lit] at e
  exact hq _ _ (bQ (p:=Vbemac.sign s) (n:=2) (t:=(x,xp)::t') (by unfold Vbemac.sign isSign;rw[hpk,e];rfl) nb hW)
 ·rw[cq (x:=v) tok lit] at e
  have es:Vbemac.sign s ((x,xp)::t')= .ok ((),t'):=by unfold Vbemac.sign isSign;rw[hpk,e];rfl
  rw[dJ es] at hW
  have ex:x= .sign (text s):=beq_iff_eq.mp e
  exact cont H' t' rfl [066] (bt hp) hW
theorem uw_ {v:Str}{s:String}{g:Unit->Vbemac.P β}{Ro:β->Toks->Prop}(lit:dP v (text s)) (S:bP a H r q kd fn ds bl n t Kn) (hq: ∀k x,Qe k x->fw a.c_Fault E H k x) (hW:W (Vbemac.key s>>=g) t Ro Qe)
  (cont: ∀H' t',t'.length+1=t.length->bP a H' r q kd fn ds bl (n+1) t' Kn->az (br r kd fn ds bl) H H'->W (g ()) t' Ro Qe->Q .non H'):eX a [.ref r, .str v] H Q E:=by
 rw[00]
 rw[aK] at hW
 refine⟨r,q,kd,fn,ds,bl,n,(x,xp),t',v,rfl,S.rd,fun b=>hq _ _ ((c9 s).at_bad [0008] hW),fun nb e=>?_,fun nb e H' hp=>?_⟩
 ·rw[cA (x:=v) tok lit] at e
  exact hq _ _ (bQ (p:=Vbemac.key s) (n:=2) (t:=(x,xp)::t') (by unfold Vbemac.key isKey;rw[hpk,e];rfl) nb hW)
 ·rw[cA (x:=v) tok lit] at e
  have es:Vbemac.key s ((x,xp)::t')= .ok ((),t'):=by unfold Vbemac.key isKey;rw[hpk,e];rfl
  rw[dJ es] at hW
  have ex:x= .word (text s):=beq_iff_eq.mp e
  exact cont H' t' rfl [066] (bt hp) hW
theorem ja_ {v:Str}{s:String}(lit:dP v (text s)) {xp:Vbemac.Pos}{t':Toks}(S:bP a H r q kd fn ds bl n ((.word (text s),xp)::t') Kn)
  (cont: ∀H',bP a H' r q kd fn ds bl (n+1) t' Kn->az (br r kd fn ds bl) H H'->Q .non H'):eX a [.ref r, .str v] H Q E:=by
 have tok:yb_ (.word (text s)):=by rw[show text s=text s from rfl];exact⟨lit.2.1,lit.2.2⟩
 refine⟨r,q,kd,fn,ds,bl,n,_,t',v,rfl,S.rd,[003],fun nb e=>?_,fun nb e H' hp=>?_⟩
 ·rw[cA (x:=v) tok lit] at e
  rw[beq_self_eq_true] at e
  cases e
 ·exact cont H' (S.past [014] hp) (bt hp)
theorem at_sign {v:Str}{s:String}(lit:gF v (text s)) {xp:Vbemac.Pos}{t':Toks}(S:bP a H r q kd fn ds bl n ((.sign (text s),xp)::t') Kn)
  (cont: ∀H',bP a H' r q kd fn ds bl (n+1) t' Kn->az (br r kd fn ds bl) H H'->Q .non H'):eX a [.ref r, .str v] H Q E:=by
 have tok:yb_ (.sign (text s)):=lit.2
 refine⟨r,q,kd,fn,ds,bl,n,_,t',v,rfl,S.rd,[003],fun nb e=>?_,fun nb e H' hp=>?_⟩
 ·rw[cq (x:=v) tok lit] at e
  rw[beq_self_eq_true] at e
  cases e
 ·exact cont H' (S.past [014] hp) (bt hp)
theorem j40_ {v:Str}{s:String}(lit:gF v (text s)) (S:bP a H r q kd fn ds bl n t Kn) (hb:peek t= .bad->fw a.c_Fault E H 1 (place t)) (cont:peek t≠ .bad->Q (.bl (isSign t s)) H):j2v_ a [.ref r, .str v] H Q E:=by
 rw[00]
 refine⟨r,q,kd,fn,ds,bl,n,(x,xp),t',v,rfl,S.rd,hb,fun nb=>?_⟩
 rw[cq (x:=v) tok lit]
 exact cont nb
theorem fZ {v:Str}{s:String}(lit:dP v (text s)) (S:bP a H r q kd fn ds bl n t Kn) (hb:peek t= .bad->fw a.c_Fault E H 1 (place t)) (cont:peek t≠ .bad->Q (.bl (isKey t s)) H):j2v_ a [.ref r, .str v] H Q E:=by
 rw[00]
 refine⟨r,q,kd,fn,ds,bl,n,(x,xp),t',v,rfl,S.rd,hb,fun nb=>?_⟩
 rw[cA (x:=v) tok lit]
 exact cont nb
theorem fA {v:Str}{s:String}(lit:gF v (text s)) (S:bP a H r q kd fn ds bl n t Kn) (hb:peek t= .bad->fw a.c_Fault E H 1 (place t)) (hf:peek t≠ .bad->isSign t s=true->fw a.c_Fault E H 5 (place t))
  (cont:peek t≠ .bad->isSign t s=false->Q .non H):wm_ a [.ref r, .str v] H Q E:=by
 rw[00]
 refine⟨r,q,kd,fn,ds,bl,n,(x,xp),t',v,rfl,S.rd,hb,fun nb e=>?_,fun nb e=>?_⟩
 ·rw[cq (x:=v) tok lit] at e
  exact hf nb e
 ·rw[cq (x:=v) tok lit] at e
  exact cont nb e
theorem j9_ {g:Bytes->Vbemac.P β}{Ro:β->Toks->Prop}(S:bP a H r q kd fn ds bl n t Kn) (hq: ∀k x,Qe k x->fw a.c_Fault E H k x) (hW:W (newName Kn>>=g) t Ro Qe)
  (cont: ∀u H' t',t'.length+1=t.length->Kn.taken u=false->bP a H' r q kd fn ds bl (n+1) t' Kn->az (br r kd fn ds bl) H H'->W (g u) t' Ro Qe->Q (.str (sb u)) H'):j2m_ a [.ref r] H Q E:=by
 rw[00]
 rw[07]
 rw[aK] at hW
 have tk: ∀u,(has kk u||has ff u)=Kn.taken u:=fun u=>by
  unfold Vbemac.Known.taken
  rw[k3]
  congr 1
  unfold has
  rw[f2,Option.isSome_map,Bool.eq_iff_iff,List.find?_isSome,List.any_eq_true]
 refine⟨r,q,kd,fn,ds,bl,n,(x,xp),t',kk,ff,rfl,S.rd,k1,f1,fun b=>hq _ _ ((eD Kn).at_bad [0008] hW),fun nb e=>?_,fun u ex e e4=>?_,fun u ex e e4 H' hp=>?_⟩
 ·refine hq _ _ (bQ (p:=newName Kn) (n:=2) (t:=(x,xp)::t') ?_ nb hW)
  cases x with
  |word u=>
   rw[bM] at e
   have hkw:KEYS.contains u=true:=by cases h:KEYS.contains u;rw[h] at e;cases e;rfl
   exact e6 hkw
  |num m=>rfl
  |sign s=>rfl
  |eof=>rfl
  |bad=>exact absurd rfl nb
 ·obtain rfl:x= .word u:=ex
  rw[039]
  refine hq _ _ (bQ (p:=newName Kn) (n:=4) (t:=(.word u,xp)::t') ?_ [003] hW)
  rw[cT hkw,if_pos (by rw[<-tk];exact e4)]
 ·obtain rfl:x= .word u:=ex
  rw[039]
  have ft:Kn.taken u=false:=by rw[<-tk];exact e4
  have en:newName Kn ((.word u,xp)::t')= .ok (u,t'):=by
   rw[cT hkw,if_neg (by rw[ft];exact Bool.false_ne_true)]
  rw[dJ en] at hW
  exact cont u H' t' rfl ft (S.past [014] hp) (bt hp) hW
end
theorem hZ {b:Bool}{A B:Prop}(e:b=true) (h:A):if b=true then A else B:=by rw[if_pos e];exact h
theorem jk_ {b:Bool}{A B:Prop}(e:b=false) (h:B):if b=true then A else B:=by rw[if_neg (by rw[e];exact Bool.false_ne_true)];exact h
section
variable {α β:Type}{p:Vbemac.P α}{f:α->Vbemac.P β}{t:Toks}{Ro:α->β->Toks->Prop}{Qe:Nat->Vbemac.Pos->Prop}
theorem W2.ofS (hs: ∀x,bA (f x)) (h:W p t (fun x r=>W (f x) r (Ro x) Qe) Qe):W2 p t (fun x r=>W (f x) r (Ro x) Qe) Qe:=by
 refine h.mono (fun x r w=>?_) fun _ _ z=>z
 by_cases e:peek r= .bad
 ·rw[if_pos e]
  exact(hs x).at_bad e w
 ·rw[if_neg e]
  exact w
end
section
variable {H H':Hp}{r q kd fn:Addr}{ds bl:eA}{l:Addr}{us vs:List V}
theorem bP.updl {n:Nat}{t:Toks}{Kn:Vbemac.Known}{ys:List V}(S:bP a H r q kd fn ds bl n t Kn) (hl: ∃xs,H l=some [085]) (hq:l≠q) (F:Addr->List V->Prop) (hF: ∀b zs,F b zs->bg H l (.lst ys) b=some (.lst zs)):
  bP a (bg H l (.lst ys)) r q kd fn ds ⟨bl.p,bl.c,F⟩ n t Kn:=by
 obtain⟨xs,hl⟩:=hl
 rw[01]
 rw[012]
 rw[07]
 rw[028]
 have ne: ∀ {b:Addr}{o:HO},H b=some o->(∀zs,o≠ .lst zs)->b≠l:=fun e no w=>by
  rw[w,hl] at e
  exact no _ (Option.some.inj e).symm
 exact⟨⟨⟨dr,by rw[ag (ne er fun _ z=>nomatch z)];exact er⟩,as,all,by rw[ag hq.symm];exact h1,Paired.mapP h2 fun b x ⟨dx,ex⟩=>⟨dx,by rw[ag (ne ex fun _ z=>nomatch z)];exact ex⟩,h3⟩,S.wh,
  ⟨⟨kk,by rw[ag (ne k1 fun _ z=>nomatch z)];exact k1,k2,k3⟩,⟨ff,by rw[ag (ne f1 fun _ z=>nomatch z)];exact f1,f2⟩,S.kn.len,⟨ff,by rw[ag (ne f1 fun _ z=>nomatch z)];exact f1,S.kn.fl f1⟩⟩,(by rw[ag (ne hy fun _ z=>nomatch z)];exact hy),(by rw[ag (ne hz fun _ z=>nomatch z)];exact hz),S.dif,hF⟩
theorem qh_ {b:Addr}(m:br r kd fn ds (bl.more l us) b):br r kd fn ds (bl.more l vs) b:=(dk m).elim (fun e=>by rw[e];exact dm) b8
theorem ao.other {e:Vbemac.Exp}{v:V}(h:ao a (br r kd fn ds (bl.more l us)) H e v):ao a (br r kd fn ds (bl.more l vs)) H e v:=ao.keep2 (fun b o e m=>⟨fun z=>m (qh_ z),e⟩) _ h
abbrev ExpL (a:cu) (M:Addr->Prop) (H:Hp) (es:List Vbemac.Exp) (us:List V):Prop:=Paired (fun e v=>ao a M H e v) es us
theorem vt_ {M:Addr->Prop} : ∀ {es:List Vbemac.Exp}{us:List V},ExpL a M H es us->bD a M H (ofL es .nil) us
 |_,_, .nil=>by unfold ofL bD;rfl
 |_,_, .cons h t=>by unfold ofL bD;exact⟨_,_,rfl,h,vt_ t⟩
end
end
section
open Vbemac (Bytes Toks SIGNS KEYS peek place primary unary text isSign isKey expr newName anyName arguments)
theorem litCm:gF "," (text ","):=[029]
def je_ (f e:Nat) (Kn:Vbemac.Known) (u:Bytes) (wanted:Nat) (es:List Vbemac.Exp) (t:Toks) (Ro:Vbemac.Exp->Toks->Prop) (Qe:Nat->Vbemac.Pos->Prop):Prop:=
 match es with
 |[]=>if wanted=0 then W (Vbemac.sign ")">>=fun _=>pure (.call u .nil):Vbemac.P Vbemac.Exp) t Ro Qe else 16*t.length+13<=f/\W (arguments f e Kn wanted) t (fun l t2=>Ro (.call u l) t2) Qe
 |e1::r=>16*t.length+12<=f/\W (cU f e Kn (wanted-(e1::r).length)) t (fun l t2=>Ro (.call u (ofL (e1::r) l)) t2) Qe
theorem je_.next {f e:Nat}{Kn:Vbemac.Known}{u:Bytes}{wanted:Nat}{es:List Vbemac.Exp}{t:Toks}{Ro:Vbemac.Exp->Toks->Prop}{Qe:Nat->Vbemac.Pos->Prop}
  (lt:es.length<wanted) (hf:16*t.length+13<=f) (hc:isSign t ")"=false) (h:W (arguments f e Kn (wanted-es.length)) t (fun l t2=>Ro (.call u (ofL es l)) t2) Qe):
  ∃f',16*t.length+12<=f'/\W2 (expr f' e Kn) t (fun x t'=>t'.length<=t.length->je_ f' e Kn u wanted (es++[x]) t' Ro Qe) Qe:=by
 rw[011]
 have h:=W2.ofS (fun x=>e8 _ _ _ _) (j2d_ (by lia) hc h)
 refine⟨f,by lia,h.mono (fun x t' nb w l=>?_) fun _ _ z=>z⟩
 have e: ∀l,Ro (.call u (ofL es (.cons x l)))=Ro (.call u (ofL (es++[x]) l)):=fun l=>by rw[ofL_snoc]
 have n:wanted-es.length-1=wanted-(es++[x]).length:=by rw[List.length_append,List.length_singleton];lia
 rw[n] at w
 simp only[e] at w
 cases es with
 |nil=>exact⟨by lia,w⟩
 |cons y r=>exact⟨by lia,w⟩
section
variable {k j:Nat}
theorem ok_F (T:Txt K mg a) (XC:XT K a) (hk:7<=k)
  (G_b:aJ P w K mg base (cH P w) k a.f_b a.fd_b ["reader","depth"] [0011]):
  aJ P w K mg base (cH P w) (k+1) a.f_F a.fd_F ["reader","depth"] (bU a W primary 6 (LvC (j+1))):=by
 rw[041]
 rw[03]
 rw[009]
 have G_J:=ok_J (P:=P) (w:=w) (base:=base) T XC
 have G_at:=j2a_ (P:=P) (w:=w) (base:=base) T
 refine fh T.d_F.F sc_F [04] [03]
 ·obtain⟨r,q,kd,fn,ds,bl,n,t,Kn,d,fuel,rfl,_⟩:=h
  rfl
 ·obtain⟨r,q,kd,fn,ds,bl,n,t,Kn,d,fuel,rfl,hd,⟨hl,u,g,hpk0,hsum,hkey,hfind⟩,S,hf,hW⟩:=h
  rw[00]
  obtain rfl:x= .word u:=hpk.symm.trans hpk0
  have nb:peek ((.word u,xp)::t')≠ .bad:=fun z=>nomatch z
  refine⟨_,(ae (aE (i:=2) sc_F.nd rfl [05] [0005])
    (ae (aE (i:=3) sc_F.nd rfl [05] [050])
    (ae [000]
    (ae (aE (i:=4) sc_F.nd rfl [05] (pe_dget (fG hr) [07] (pv 3) [020]))
    (ae (aE (i:=5) sc_F.nd rfl [05] (be af))
    (ae (dR PassesOwn.leaving (bv op_lt (aY bj (by rfl) T.n_len PySem.boot_len (aa (pv 5) af)) (pv 4) (bx _)) (ae (aZ (bv op_gt (aY bj (by rfl) T.n_len PySem.boot_len (aa (pv 5) af)) aU (bx _)) (ae (au (al G_J [01] (by rfl) T.d_J.c aj [038]))
    (ai [000])) aG)
    (ae (au (al G_J [01] (by rfl) T.d_J.c aj [038]))
    (ai (au (cr PySem.F.plainAttrs_list PySem.F.slot_list_append PySem.F.type_list_append bR (pv 5) (aa [043] af)))))))
    (ae (aZ (bv op_gt (pv 4) aU (bx _)) (ai (au (al G_J [01] (by rfl) T.d_J.c aj [038]))) aG)
    (ae [000]
    (ai (ay (cv T.mk_Call G_at [01] (by rfl) T.mg_Call T.d_at.c.b .nil aQ (aa (pv 3) (aa (pv 5) af))))))))))))),?_⟩
  rw[015]
  rw[List.length_cons] at hf room
  have hl:13<=d+(j+1):=hl
  rw[000]
  refine qa_ hd S nb az.refl (W_as (j2s_ hsum hkey hfind) hW) fun lt hW=>?_
  rw[026]
  refine⟨r,q,kd,fn,ds,bl,n,(.word u,xp),t',rfl,S.rd,[003],fun _ H1 hp1=>?_⟩
  have S1:=S.past [014] hp1
  have k1:=bt hp1
  rw[018]
  refine dH litO S1 (fun k x z=>z H1 k1) hW fun H2 t2 l2 S2 k2 hW2=>?_
  rw[037]
  rw[017]
  obtain⟨ff,f1,f2⟩:=S2.kn.funs
  have f2u:=f2 u
  rw[hfind] at f2u
  refine⟨r,_,dr2,_,_,rfl,er2,T.cl_Reader,T.no_Reader_functions,rfl,fn,_,rfl, .inl ⟨ff,nk u, .inl f1,rfl,f2u.symm⟩,?_⟩
  refine [0021]
  have nL: ¬br r kd fn ds bl L:=S2.fresh hL
  have nq:L≠q:=fun z=>by obtain⟨as,all,h1,_⟩:=S2.rd.toks;rw[z,h1] at hL;cases hL
  have H0L:H L=none:=by
   cases e:H L with
   |none=>rfl
   |some o=>rw[k02 L o e nL] at hL;cases hL
  have ap: ∀zs,¬bl.x L zs:=fun zs z=>by rw[S2.fr L zs z] at hL;cases hL
  have S3:bP a (bg H2 L (.lst [])) r q kd fn ds (bl.more L []) (n+1+1) t2 Kn:=(S2.same (bf hL)).more ah
  have k03:az (br r kd fn ds bl) H (bg H2 L (.lst [])):=k02.trans (OS.aW.keeps (bf hL))
  have en:g.2=0\/0<g.2:=by lia
  have C0:je_ f (12-(d+1)) Kn u g.2 [] t2 (fun e t3=> ∀H' v n',t3.length<t'.length+1->bP a H' r q kd fn ds bl n' t3 Kn->az (br r kd fn ds bl) H H'->ao a (br r kd fn ds bl) H' e v->Q v H') (QE a r kd fn ds bl H E):=by
   unfold je_
   by_cases z:g.2=0
   ·rw[if_pos z]
    rw[if_pos z] at hW2
    exact hW2
   ·rw[if_neg z]
    rw[if_neg z,aK] at hW2
    exact⟨by lia,hW2⟩
  refine⟨fun m σ H'=> ∃(es:List Vbemac.Exp) (us:List V) (n1:Nat) (t1:Toks) (f1:Nat),m=g.2-us.length/\σ=[some (.ref r),some (.int d),some [092],some (.str (sb u)),some (.int (g.2:Nat)),some (.ref L)]/\us.length<=g.2/\us.length+t1.length<=t'.length/\es.length=us.length/\
   bP a H' r q kd fn ds (bl.more L us) n1 t1 Kn/\az (br r kd fn ds bl) H H'/\ExpL a (br r kd fn ds (bl.more L us)) H' es us/\je_ f1 (12-(d+1)) Kn u g.2 es t1 (fun e t3=> ∀H' v n',t3.length<t'.length+1->bP a H' r q kd fn ds bl n' t3 Kn->az (br r kd fn ds bl) H H'->ao a (br r kd fn ds bl) H' e v->Q v H') (QE a r kd fn ds bl H E),
   ⟨_,[],[],_,t2,f,rfl,rfl,Nat.zero_le _,by show 0+t2.length<=_;lia,rfl,S3,k03, .nil,C0⟩,?_⟩
  rintro m σ H4 ⟨es,us,n1,t1,f1,rfl,rfl,ule,utl,esl,S4,k04,ev,CW⟩
  have hL4:=S4.the
  refine⟨_,_,rfl, .inl (cK.of hL4),_,_,rfl,rfl,_,rfl,?_⟩
  rw[003]
  ·have lt':us.length<g.2:=by have:=of_decide_eq_true e;lia
   refine⟨fun σ' H'=> ∃(es':List Vbemac.Exp) (us':List V) (n1:Nat) (t1:Toks) (f1:Nat),us.length<us'.length/\σ'=[some (.ref r),some (.int d),some [092],some (.str (sb u)),some (.int (g.2:Nat)),some (.ref L)]/\us'.length<=g.2/\us'.length+t1.length<=t'.length/\es'.length=us'.length/\
   bP a H' r q kd fn ds (bl.more L us') n1 t1 Kn/\az (br r kd fn ds bl) H H'/\ExpL a (br r kd fn ds (bl.more L us')) H' es' us'/\je_ f1 (12-(d+1)) Kn u g.2 es' t1 (fun e t3=> ∀H' v n',t3.length<t'.length+1->bP a H' r q kd fn ds bl n' t3 Kn->az (br r kd fn ds bl) H H'->ao a (br r kd fn ds bl) H' e v->Q v H') (QE a r kd fn ds bl H E),?_,?_⟩
   ·rintro σ' H' ⟨es',us',n1',t1',f1',l1,rfl,l2,l3,l4,S',k',ev',C'⟩
    exact⟨_,by lia,es',us',n1',t1',f1',rfl,rfl,l2,l3,l4,S',k',ev',C'⟩
   cases es with
   |nil=>
    have u0:us=[]:=List.length_eq_zero_iff.mp esl.symm
    subst u0
    refine⟨_,_,rfl, .inl (cK.of hL4),_,_,rfl,rfl,_,rfl,?_⟩
    rw[008]
    unfold je_ at CW
    have g0: ¬g.2=0:=by have:0<g.2:=lt';lia
    dsimp only at CW
    rw[if_neg g0] at CW
    obtain⟨hf5,hA⟩:=CW
    have S5:=S4
    have k05:=k04
    have k45:az (br r kd fn ds (bl.more L [])) H4 H4:=az.refl
    have hA:W (arguments f1 (12-(d+1)) Kn (g.2-([]:List Vbemac.Exp).length)) t1 (fun l t3=> ∀H' v n',t3.length<t'.length+1->bP a H' r q kd fn ds bl n' t3 Kn->az (br r kd fn ds bl) H H'->ao a (br r kd fn ds bl) H' (.call u (ofL [] l)) v->Q v H') (QE a r kd fn ds bl H E):=hA
    have lt':([]:List Vbemac.Exp).length<g.2:=lt'
    have utl':t1.length<=t'.length:=by have:0+t1.length<=t'.length:=utl;lia
    refine fA litC S5 (fun b=>((gq _ _ _ _).at_bad b hA) H4 k05) (fun nb c=>?_) fun nb c=>?_
    ·obtain⟨f5',rfl⟩: ∃f',f1=f'+1:=⟨f1-1,by lia⟩
     exact bQ (p:=arguments (f5'+1) (12-(d+1)) Kn (g.2-([]:List Vbemac.Exp).length)) (n:=5) (by rw[arguments];show(if isSign t1 ")"=true then _ else _)=_;rw[if_pos c]) nb hA H4 k05
    obtain⟨f6,hf6,h6⟩:=je_.next (es:=([]:List Vbemac.Exp)) (Ro:=fun e t3=> ∀H' v n',t3.length<t'.length+1->bP a H' r q kd fn ds bl n' t3 Kn->az (br r kd fn ds bl) H H'->ao a (br r kd fn ds bl) H' e v->Q v H') (by lia) hf5 c hA
    refine⟨.inl ⟨rfl,_,cK.of S5.the⟩,?_⟩
    refine⟨r,q,kd,fn,ds,bl.more L ([]:List V),n1,t1,Kn,d+1,f6,rfl,lt,(by show 13<=d+1+j;lia),S5,hf6,h6.mono (fun e1 t6 nb6 w6 H6 v n6 l6 S6 k6 ev6=>?_) fun _ _ z H' k'=>z H' (k05.cut k' H0L)⟩
    have k46:=k45.trans k6
    have k06:=k05.cut k6 H0L
    refine⟨L,_,_,rfl,rfl,S6.the,Nat.lt_of_le_of_lt (show(([]:List V):List V).length<=4000 by lia) [06],?_⟩
    refine⟨([]:List Vbemac.Exp)++[e1],([]:List V)++[v],n6,t6,f6,by rw[List.length_append,List.length_singleton];lia,rfl,by rw[List.length_append,List.length_singleton];lia,by rw[List.length_append,List.length_singleton];lia,by rw[List.length_append,List.length_append,esl];rfl,S6.write ap nq,fun b o e m=>?_,?_,w6 (by lia)⟩
    ·rw[ag fun z=>by rw[z,H0L] at e;cases e]
     exact k06 b o e m
    ·exact dA (Paired.mapP ev fun e v h=>ao.other (ao.keep (k46.trans (gA dm)) _ h)) (ao.other (ao.keep (gA dm) _ ev6))
   |cons e0 er=>
    obtain⟨v0,vr,rfl⟩: ∃v0 vr,us=v0::vr:=by cases us with|nil=>cases esl|cons v0 vr=>exact⟨v0,vr,rfl⟩
    refine⟨_,_,rfl, .inl (cK.of hL4),_,_,rfl,rfl,_,rfl,?_⟩
    refine hZ (decide_eq_true (by show(0:Int)<(((v0::vr).length:Nat):Int);rw[List.length_cons];lia)) ?_
    obtain⟨hf4,hT⟩:=CW
    have m0: ¬g.2-(e0::er).length=0:=by lia
    refine fA litC S4 (fun b=>((e8 _ _ _ _).at_bad b hT) H4 k04) (fun nb c=>?_) fun nb c=>?_
    ·exact bQ (p:=cU f1 (12-(d+1)) Kn (g.2-(e0::er).length)) (n:=5) (by unfold cU;rw[if_neg m0,if_pos c]) nb hT H4 k04
    have hT:=du (p':=(Vbemac.sign ",">>=fun _=>arguments f1 (12-(d+1)) Kn (g.2-(e0::er).length):Vbemac.P Vbemac.Exps)) (t':=t1) (by unfold cU;rw[if_neg m0,if_neg (by rw[c];exact Bool.false_ne_true)]) hT
    rw[022]
    refine [077]
    refine dH litCm S4 (fun k x z=>z H4 k04) hT fun H5 t5 l5 S5 k45 hA=>?_
    have k05:=k04.cut k45 H0L
    have hf5:16*t5.length+13<=f1:=by lia
    refine fA litC S5 (fun b=>((gq _ _ _ _).at_bad b hA) H5 k05) (fun nb c=>?_) fun nb c=>?_
    ·obtain⟨f5',rfl⟩: ∃f',f1=f'+1:=⟨f1-1,by lia⟩
     exact bQ (p:=arguments (f5'+1) (12-(d+1)) Kn (g.2-(e0::er).length)) (n:=5) (by rw[arguments];show(if isSign t5 ")"=true then _ else _)=_;rw[if_pos c]) nb hA H5 k05
    obtain⟨f6,hf6,h6⟩:=je_.next (es:=(e0::er)) (Ro:=fun e t3=> ∀H' v n',t3.length<t'.length+1->bP a H' r q kd fn ds bl n' t3 Kn->az (br r kd fn ds bl) H H'->ao a (br r kd fn ds bl) H' e v->Q v H') (by lia) hf5 c hA
    refine⟨.inl ⟨rfl,_,cK.of S5.the⟩,?_⟩
    refine⟨r,q,kd,fn,ds,bl.more L (v0::vr),(n1+1),t5,Kn,d+1,f6,rfl,lt,(by show 13<=d+1+j;lia),S5,hf6,h6.mono (fun e1 t6 nb6 w6 H6 v n6 l6 S6 k6 ev6=>?_) fun _ _ z H' k'=>z H' (k05.cut k' H0L)⟩
    have k46:=k45.trans k6
    have k06:=k05.cut k6 H0L
    refine⟨L,_,_,rfl,rfl,S6.the,Nat.lt_of_le_of_lt (show((v0::vr):List V).length<=4000 by lia) [06],?_⟩
    refine⟨(e0::er)++[e1],(v0::vr)++[v],n6,t6,f6,by rw[List.length_append,List.length_singleton];lia,rfl,by rw[List.length_append,List.length_singleton];lia,by rw[List.length_append,List.length_singleton];lia,by rw[List.length_append,List.length_append,esl];rfl,S6.write ap nq,fun b o e m=>?_,?_,w6 (by lia)⟩
    ·rw[ag fun z=>by rw[z,H0L] at e;cases e]
     exact k06 b o e m
    ·exact dA (Paired.mapP ev fun e v h=>ao.other (ao.keep (k46.trans (gA dm)) _ h)) (ao.other (ao.keep (gA dm) _ ev6))
  ·have ueq:us.length=g.2:=by have:=of_decide_eq_false e;lia
   cases es with
   |nil=>
    have u0:us=[]:=List.length_eq_zero_iff.mp esl.symm
    have g0:g.2=0:=by rw[<-ueq,u0];rfl
    refine⟨_,_,rfl,rfl,_,rfl,?_⟩
    refine jk_ (decide_eq_false (by lia)) ?_
    unfold je_ at CW
    rw[if_pos g0] at CW
    rw[022]
    refine [077]
    refine dH litC S4 (fun k x z=>z H4 k04) CW fun H6 t6 l6 S6 k46 hR=>?_
    have k06:=k04.cut k46 H0L
    have hR: ∀H' v n',t6.length<t'.length+1->bP a H' r q kd fn ds bl n' t6 Kn->az (br r kd fn ds bl) H H'->ao a (br r kd fn ds bl) H' (.call u (ofL [] .nil)) v->Q v H':=hR
    rw[023]
    refine hR Hd (.ref p) _ (by lia) (S6.less.same scd) (k06.trans [0002]) ?_
    unfold ao
    exact⟨.ref L,us,⟨p,dx,rfl,S6.less.fresh hp,hd'⟩,⟨L,rfl,nL,scd _ _ S6.the⟩,vt_ (Paired.mapP ev fun e v h=>ao.keep2 (fun b o e m=>⟨fun z=>m (b8 z),(k46.trans [0002]) b o e m⟩) _ h)⟩
   |cons e0 er=>
    have g0:0<g.2:=by rw[<-ueq,<-esl];exact Nat.succ_pos _
    refine⟨_,_,rfl,rfl,_,rfl,?_⟩
    refine hZ (decide_eq_true (by show((g.2:Nat):Int)>0;lia)) ?_
    obtain⟨hf4,hT⟩:=CW
    have m0:g.2-(e0::er).length=0:=by lia
    refine fA litCm S4 (fun b=>((e8 _ _ _ _).at_bad b hT) H4 k04) (fun nb c=>?_) fun nb c=>?_
    ·exact bQ (p:=cU f1 (12-(d+1)) Kn (g.2-(e0::er).length)) (n:=5) (by unfold cU;rw[if_pos m0,if_pos c]) nb hT H4 k04
    have hT:=du (p':=(Vbemac.sign ")">>=fun _=>pure .nil:Vbemac.P Vbemac.Exps)) (t':=t1) (by unfold cU;rw[if_pos m0,if_neg (by rw[c];exact Bool.false_ne_true)]) hT
    rw[022]
    refine [077]
    refine dH litC S4 (fun k x z=>z H4 k04) hT fun H6 t6 l6 S6 k46 hR=>?_
    have k06:=k04.cut k46 H0L
    have hR: ∀H' v n',t6.length<t'.length+1->bP a H' r q kd fn ds bl n' t6 Kn->az (br r kd fn ds bl) H H'->ao a (br r kd fn ds bl) H' (.call u (ofL (e0::er) .nil)) v->Q v H':=hR
    rw[023]
    refine hR Hd (.ref p) _ (by lia) (S6.less.same scd) (k06.trans [0002]) ?_
    unfold ao
    exact⟨.ref L,us,⟨p,dx,rfl,S6.less.fresh hp,hd'⟩,⟨L,rfl,nL,scd _ _ S6.the⟩,vt_ (Paired.mapP ev fun e v h=>ao.keep2 (fun b o e m=>⟨fun z=>m (b8 z),(k46.trans [0002]) b o e m⟩) _ h)⟩
end
end
section
open Vbemac (Bytes Toks SIGNS KEYS peek place primary unary text isSign isKey expr ands compared added times)
def KTT (K:PySem.W.Frag) (ad:Addr) (rows:List (List V)):Prop:= ∃qs:List Addr,KTup K ad (qs.map V.ref)/\Paired (fun q xs=>KTup K q xs) qs rows
def eP:List (List V):=[[.str "||"],[.str "&&"],[.str "==", .str "!=", .str "<=", .str ">=", .str "<", .str ">"],[.str "+", .str "-"],[.str "*", .str "/", .str "/rest"]]
theorem ig {α β:Type}{F:α->β->Prop} : ∀ {l:List α}{m:List β}{i:Nat}{y:β},Paired F l m->m[i]?=some y-> ∃x,l[i]?=some x/\F x y
 |_,_,_,_, .nil,h=>by cases h
 |_,_,0,_, .cons r t,h=>⟨_,rfl,by obtain rfl:=Option.some.inj h;exact r⟩
 |_,_,i+1,_, .cons r t,h=>ig (i:=i) t h
theorem KTT.row {K:PySem.W.Frag}{ad:Addr}{i:Nat}{xs:List V}{H:Hp}(h:KTT K ad eP) (e:eP[i]?=some xs): ∃qs:List Addr,qs.length=5/\SqT K H ad (qs.map V.ref)/\ ∃q,atI (qs.map V.ref) (i:Nat)=some (.ref q)/\SqT K H q xs:=by
 obtain⟨qs,h1,h2⟩:=h
 obtain⟨q,hq,hk⟩:=ig h2 e
 refine⟨qs,gb h2,h1.sq,q,?_,hk.sq⟩
 refine cY ?_
 rw[List.getElem?_map,hq]
 rfl
theorem in_signs {x:Vbemac.Tok}(tok:yb_ x) {sg:List Bytes}(hs: ∀o∈sg,o∈SIGNS) (h:inV (vv_ x) (sg.map fun o=>V.str (cX o))=true): ∃op∈sg,x= .sign op:=by
 unfold inV at h
 rw[List.any_map,List.any_eq_true] at h
 obtain⟨o,ho,e⟩:=h
 refine⟨o,ho,(j4q_ tok (x:=cX o) ⟨rfl,hs o ho⟩).mp ?_⟩
 have e:eqV (V.str (cX o)) (vv_ x)=true:=e
 cases x with
 |word u=>exact congrArg some (beq_iff_eq.mp (show(cX o == sb u)=true from e)).symm
 |num n=>cases (show false=true from e)
 |sign u=>exact congrArg some (beq_iff_eq.mp (show(cX o == cX u)=true from e)).symm
 |eof=>exact congrArg some (beq_iff_eq.mp (show(cX o == sb [])=true from e)).symm
 |bad=>exact congrArg some (beq_iff_eq.mp (show(cX o == sb [])=true from e)).symm
theorem signs_in {op:Bytes}{sg:List Bytes}(h:op∈sg):inV (vv_ (.sign op)) (sg.map fun o=>V.str (cX o))=true:=by
 unfold inV
 rw[List.any_map,List.any_eq_true]
 exact⟨op,h,show(cX op == cX op)=true from beq_self_eq_true _⟩
theorem j7a_ (x:Vbemac.Tok):jh_ (vv_ x)=true:=by cases x<;>rfl
theorem j5z_ (sg:List Bytes):(sg.map fun o=>V.str (cX o)).all jh_=true:=by
 rw[List.all_map,List.all_eq_true]
 exact fun _ _=>rfl
def spCh (a:cu) (wp:WP) (s:Nat) (p:Nat->Nat->Vbemac.Known->Vbemac.P Vbemac.Exp) (c:Nat) (ok:Nat->Vbemac.Known->Toks->Prop):Sp:=fun vs H Q E=> ∃u v:V,vs=[u,v, .int (s:Nat)]/\bU a wp p c ok [u,v] H Q E
structure WpOk (wp:WP) (nbf:Bool):Prop where
 mono: ∀ {p:Vbemac.P Vbemac.Exp}{t:Toks}{Qo Qo':Vbemac.Exp->Toks->Prop}{Qe Qe':Nat->Vbemac.Pos->Prop},wp p t Qo Qe->(∀x r,Qo x r->Qo' x r)->(∀n q,Qe n q->Qe' n q)->wp p t Qo' Qe'
 of2: ∀ {p:Vbemac.P Vbemac.Exp}{t:Toks}{Qo:Vbemac.Exp->Toks->Prop}{Qe:Nat->Vbemac.Pos->Prop},W2 p t Qo Qe->wp p t (fun x r=>(if peek r= .bad then Qe 1 (place r) else Qo x r)/\(nbf=true->peek r≠ .bad)) Qe
theorem wpW:WpOk W false:=⟨fun h ho he=>h.mono ho he,fun h=>W.mono h (fun x r w=>⟨w,fun z=>nomatch z⟩) fun _ _ z=>z⟩
theorem wpW2:WpOk W2 true:=⟨fun h ho he=>h.mono (fun x r _=>ho x r) he,fun h=>h.mono (fun x r nb w=>⟨by rw[if_neg nb];exact w,fun _=>nb⟩) fun _ _ z=>z⟩
structure NodeL (s:Nat) (sg:List Bytes) (once:Bool) (res:Vbemac.Exp->Pairs->Vbemac.Exp):Prop where
 res0: ∀e,res e []=e
 at_: ∀ {a:cu}{M:Addr->Prop}{H:Hp}{e:Vbemac.Exp}{es:Pairs}{v:V}{us:List V}{p dx:Addr}{q g:V},es≠[]->(∀x∈es,x.1∈sg)->(once=true->es.length<=1)-> ¬M p->H p=some (.ins a.c_Chain dx [("strength", .int (s:Nat)),("operands",q),("signs",g)])->
  cn M H (v::us) q->cn M H (es.map fun x=>V.str (cX x.1)) g->ao a M H e v->Paired (fun(x:Bytes×Vbemac.Exp) u=>ao a M H x.2 u) es us->ao a M H (res e es) (.ref p)
section
variable {M:Addr->Prop}{H:Hp}
theorem exL_at: ∀ {es:Pairs}{us:List V},Paired (fun(x:Bytes×Vbemac.Exp) u=>ao a M H x.2 u) es us->bD a M H (exL es .nil) us
 |_,_, .nil=>by unfold exL bD;rfl
 |_,_, .cons h t=>by unfold exL bD;exact⟨_,_,rfl,h,exL_at t⟩
theorem exR_at: ∀ {es:Pairs}{us:List V},Paired (fun(x:Bytes×Vbemac.Exp) u=>ao a M H x.2 u) es us->dB a M H (exR es .nil) us (es.map fun x=>V.str (cX x.1))
 |_,_, .nil=>by unfold exR dB;exact⟨rfl,rfl⟩
 |_,_, .cons h t=>by unfold exR dB;exact⟨_,_,_,rfl,rfl,h,exR_at t⟩
theorem j39_ {F:Bytes×Vbemac.Exp->V->Prop}{o:Bytes} : ∀ {es:Pairs}{us:List V},Paired F es us->(∀x∈es,x.1∈[o])->(es.map fun x=>V.str (cX x.1))=us.map fun _=>V.str (cX o)
 |_,_, .nil,_=>rfl
 |_,_, .cons h t,hx=>by
  rw[List.map_cons,List.map_cons,List.mem_singleton.mp (hx _ [076]),j39_ t fun y hy=>hx y (List.mem_cons_of_mem _ hy)]
end
theorem sgnOr:cX (text "||")="||":=by decide+kernel
theorem sgnAnd:cX (text "&&")="&&":=by decide+kernel
theorem nodeOr:NodeL 0 S0 false (fun e es=>eith e (exL es .nil)) where
 res0 e:=rfl
 at_ {a M H e es v us p dx q g} h0 hs _ hp hH hq hg he hes:=by
  have hes0:=hes
  cases hes with
  |nil=>exact absurd rfl h0
  |cons h t=>
   have hes:=hes0
   rw[j39_ hes hs,sgnOr] at hg
   show ao a M H (.either e (exL (_::_) .nil)) (.ref p)
   unfold ao
   exact⟨q,g,v,_,⟨p,dx,rfl,hp,hH⟩,hq,hg,he,exL_at hes⟩
theorem nodeAnd:NodeL 1 S1 false (fun e es=>bth e (exL es .nil)) where
 res0 e:=rfl
 at_ {a M H e es v us p dx q g} h0 hs _ hp hH hq hg he hes:=by
  have hes0:=hes
  cases hes with
  |nil=>exact absurd rfl h0
  |cons h t=>
   have hes:=hes0
   rw[j39_ hes hs,sgnAnd] at hg
   show ao a M H (.both e (exL (_::_) .nil)) (.ref p)
   unfold ao
   exact⟨q,g,v,_,⟨p,dx,rfl,hp,hH⟩,hq,hg,he,exL_at hes⟩
theorem nodeAdd:NodeL 3 S3 false (fun e es=>sms e (exR es .nil)) where
 res0 e:=rfl
 at_ {a M H e es v us p dx q g} h0 hs _ hp hH hq hg he hes:=by
  have hes0:=hes
  cases hes with
  |nil=>exact absurd rfl h0
  |cons h t=>
   have hes:=hes0
   show ao a M H (.sums e (exR (_::_) .nil)) (.ref p)
   unfold ao
   exact⟨q,g,v,_,_,⟨p,dx,rfl,hp,hH⟩,hq,hg,he,exR_at hes⟩
theorem nodeMul:NodeL 4 S4 false (fun e es=>prs e (exR es .nil)) where
 res0 e:=rfl
 at_ {a M H e es v us p dx q g} h0 hs _ hp hH hq hg he hes:=by
  have hes0:=hes
  cases hes with
  |nil=>exact absurd rfl h0
  |cons h t=>
   have hes:=hes0
   show ao a M H (.prods e (exR (_::_) .nil)) (.ref p)
   unfold ao
   exact⟨q,g,v,_,_,⟨p,dx,rfl,hp,hH⟩,hq,hg,he,exR_at hes⟩
theorem nodeCmp:NodeL 2 S2 true cmpR where
 res0 e:=rfl
 at_ {a M H e es v us p dx q g} h0 hs h1 hp hH hq hg he hes:=by
  cases hes with
  |nil=>exact absurd rfl h0
  |cons h t=>
   cases t with
   |nil=>
    show ao a M H (.cmp _ e _) (.ref p)
    unfold ao
    exact⟨q,g,v,_,⟨p,dx,rfl,hp,hH⟩,hq,hg,he,h⟩
   |cons h2 t2=>
    have:=h1 rfl
    rw[List.length_cons,List.length_cons] at this
    lia
section
variable {k j:Nat}
theorem j70_ (T:Txt K mg a) (XC:XT K a) (KT:KTT K a.k_CHAIN_SIGNS eP) (hk:7<=k)
  (G_j:aJ P w K mg base (cH P w) k a.f_j a.fd_j ["reader","depth"] (bU a W unary 7 (Lv j))):
  aJ P w K mg base (cH P w) (k+1) a.f_i a.fd_i ["reader","depth","strength"] (spCh a W 5 unary 7 (Lv j)):=by
 have G_i:aJ P w K mg base (cH P w) (0+1) a.f_i a.fd_i ["reader","depth","strength"] (fun _ _ _ _=>False):=fh T.d_i.F sc_i (fun _ _ _ _ h=>h.elim) (fun _ _ _ _ _ _ _ _ _ h=>h.elim)
 rw[001]
 rw[009]
 have G_6:=ji_ (P:=P) (w:=w) (base:=base) T
 refine fh T.d_i.F sc_i [04] (fun cdv A outer s0 H vs Q E hr h=>?_)
 ·obtain⟨_,_,rfl,r,q,kd,fn,ds,bl,n,t,Kn,d,fuel,h0,_⟩:=h
  rfl
 ·obtain⟨_,_,rfl,r,q,kd,fn,ds,bl,n,t,Kn,d,fuel,h0,hd,hl,S,hf,hW⟩:=h
  obtain⟨rfl,h1⟩:=List.cons.inj h0
  obtain⟨rfl,_⟩:=List.cons.inj h1
  refine⟨_,(ae (aZ (bv dw (pv 2) (aY bj (by rfl) T.n_len PySem.boot_len (aa (de (by rfl) T.g_CHAIN_SIGNS) af)) (bx _)) (ai (ay (al G_j [01] (by rfl) T.d_j.c aj [012]))) aG)
    (ae (aE (i:=3) sc_i.nd rfl [05] (be [0007]))
    (ae (aE (i:=4) sc_i.nd rfl [05] (be af))
    (ae (dR PassesOwn.leaving (bv vo_ (aI (a0 (pv 0) T.cl_Reader T.d_g.c G_g [01] aj) rfl) (dZ ix_tup (de (by rfl) T.g_CHAIN_SIGNS) (pv 2) [020]) rfl) (ae (au (cr PySem.F.plainAttrs_list PySem.F.slot_list_append PySem.F.type_list_append bR (pv 4) (aa [050] af)))
    (ae (au (cr PySem.F.plainAttrs_list PySem.F.slot_list_append PySem.F.type_list_append bR (pv 3) [0007]))
    (ai (aZ (bv dw (pv 2) (bN (by rfl) T.g_COMPARISON) (bx _)) (ai j5j_) aG)))))
    (ae (aZ (bv dw (aY bj (by rfl) T.n_len PySem.boot_len (aa (pv 4) af)) aU (bx _)) (ai (ay (dZ cZ (pv 3) aU [020]))) aG)
    (ai (ay (cv T.mk_Chain G_6 [01] (by rfl) T.mg_Chain T.d_6.c.b .nil aQ (aa (pv 2) (aa (pv 3) (aa (pv 4) af))))))))))),?_⟩
  obtain⟨qs,qs5,sqA,rq,atq,sqr⟩:=KT.row (H:=H) (i:=0) rfl
  refine⟨_,_,rfl, .inr sqA,rfl,_,rfl,?_⟩
  rw[dz,List.length_map,qs5]
  refine hZ rfl ?_
  exact⟨r,q,kd,fn,ds,bl,n,t,Kn,d,fuel,rfl,hd,hl,S,hf,hW⟩
theorem eY (T:Txt K mg a) (XC:XT K a) (KT:KTT K a.k_CHAIN_SIGNS eP) (hk:7<=k) {s:Nat}(hs:s<5) {wp:WP}{nbf:Bool}(wpo:WpOk wp nbf) (h2:s=2->nbf=true) {p sub:Nat->Nat->Vbemac.Known->Vbemac.P Vbemac.Exp}{c c':Nat}{sg:List Bytes}{once:Bool}{res:Vbemac.Exp->Pairs->Vbemac.Exp}
  (L:ChL p sub c c' sg once res) (N:NodeL s sg once res) (row:eP[s]?=some (sg.map fun o=>V.str (cX o))) (sgS: ∀o∈sg,o∈SIGNS) (onceE:once=decide (s=2))
  (G_i:aJ P w K mg base (cH P w) k a.f_i a.fd_i ["reader","depth","strength"] (spCh a wp (s+1) sub c' (Lv j)))
  (G_j:aJ P w K mg base (cH P w) k a.f_j a.fd_j ["reader","depth"] (bU a W unary 7 (Lv j))):
  aJ P w K mg base (cH P w) (k+1) a.f_i a.fd_i ["reader","depth","strength"] (spCh a W2 s p c (Lv j)):=by
 rw[001]
 rw[009]
 have G_6:=ji_ (P:=P) (w:=w) (base:=base) T
 refine fh T.d_i.F sc_i [04] (fun cdv A outer s0 H vs Q E hr h=>?_)
 ·obtain⟨_,_,rfl,r,q,kd,fn,ds,bl,n,t,Kn,d,fuel,h0,_⟩:=h
  rfl
 ·obtain⟨_,_,rfl,r,q,kd,fn,ds,bl,n,t,Kn,d,fuel,h0,hd,hl,S,hf,hW⟩:=h
  obtain⟨rfl,h1⟩:=List.cons.inj h0
  obtain⟨rfl,_⟩:=List.cons.inj h1
  refine⟨_,(ae (aZ (bv dw (pv 2) (aY bj (by rfl) T.n_len PySem.boot_len (aa (de (by rfl) T.g_CHAIN_SIGNS) af)) (bx _)) (ai (ay (al G_j [01] (by rfl) T.d_j.c aj [012]))) aG)
    (ae (aE (i:=3) sc_i.nd rfl [05] (be [0007]))
    (ae (aE (i:=4) sc_i.nd rfl [05] (be af))
    (ae (dR PassesOwn.leaving (bv vo_ (aI (a0 (pv 0) T.cl_Reader T.d_g.c G_g [01] aj) rfl) (dZ ix_tup (de (by rfl) T.g_CHAIN_SIGNS) (pv 2) [020]) rfl) (ae (au (cr PySem.F.plainAttrs_list PySem.F.slot_list_append PySem.F.type_list_append bR (pv 4) (aa [050] af)))
    (ae (au (cr PySem.F.plainAttrs_list PySem.F.slot_list_append PySem.F.type_list_append bR (pv 3) [0007]))
    (ai (aZ (bv dw (pv 2) (bN (by rfl) T.g_COMPARISON) (bx _)) (ai j5j_) aG)))))
    (ae (aZ (bv dw (aY bj (by rfl) T.n_len PySem.boot_len (aa (pv 4) af)) aU (bx _)) (ai (ay (dZ cZ (pv 3) aU [020]))) aG)
    (ai (ay (cv T.mk_Chain G_6 [01] (by rfl) T.mg_Chain T.d_6.c.b .nil aQ (aa (pv 2) (aa (pv 3) (aa (pv 4) af))))))))))),?_⟩
  rw[015]
  obtain⟨qs,qs5,sqA,rq,atq,sqr⟩:=KT.row (H:=H) row
  refine⟨_,_,rfl, .inr sqA,rfl,_,rfl,?_⟩
  rw[dz,List.length_map,qs5]
  refine jk_ (decide_eq_false (by lia)) ?_
  obtain⟨f,hf1,h1⟩:=L.start hf hW
  refine⟨_,_,rfl,rfl,?_⟩
  refine⟨_,_,rfl,r,q,kd,fn,ds,bl,n,t,Kn,d,f,rfl,hd,hl,S,hf1,wpo.mono (wpo.of2 h1) (fun e t1 w1 H1 v n1 l1 S1 k1 ev1=>?_) fun _ _ z=>z⟩
  refine⟨by show 1<=sizeLine;decide,fun A1 hA1=>?_⟩
  refine⟨Nat.zero_le _,fun A2 hA2=>?_⟩
  have ne12:A2≠A1:=fun z=>by rw[z,ah] at hA2;cases hA2
  have hA2':H1 A2=none:=by rw[ag ne12] at hA2;exact hA2
  have nA1: ¬br r kd fn ds bl A1:=S1.fresh hA1
  have nA2: ¬br r kd fn ds bl A2:=S1.fresh hA2'
  have old: ∀ {b:Addr},H1 b=none-> ¬br r kd fn ds bl b->H b=none:=fun {b} e m=>by
   cases z:H b with
   |none=>rfl
   |some o=>rw[k1 b o z m] at e;cases e
  have o1:=old hA1 nA1
  have o2:=old hA2' nA2
  have q1:A1≠q:=fun z=>by obtain⟨as,all,h1,_⟩:=S1.rd.toks;rw[z,h1] at hA1;cases hA1
  have q2:A2≠q:=fun z=>by obtain⟨as,all,h1,_⟩:=S1.rd.toks;rw[z,h1] at hA2';cases hA2'
  have ap1: ∀zs,¬bl.x A1 zs:=fun zs z=>by rw[S1.fr A1 zs z] at hA1;cases hA1
  have ap2: ∀zs,¬bl.x A2 zs:=fun zs z=>by rw[S1.fr A2 zs z] at hA2';cases hA2'
  have s1a:=bf hA1 (o:= .lst [v])
  have s1b:=bf hA2 (o:= .lst [])
  have k1b:az (br r kd fn ds bl) H (bg (bg H1 A1 (.lst [v])) A2 (.lst [])):=k1.trans ((OS.aW.keeps s1a).trans (OS.aW.keeps s1b))
  have S2:bP a (bg (bg H1 A1 (.lst [v])) A2 (.lst [])) r q kd fn ds ((bl.more A1 [v]).more A2 []) n1 t1 Kn:=(((S1.same s1a).same s1b).more (s1b _ _ ah)).more ah
  have ev2:ao a (br r kd fn ds ((bl.more A1 [v]).more A2 [])) (bg (bg H1 A1 (.lst [v])) A2 (.lst [])) e v:=ao.keep2 (fun b o e m=>⟨fun z=>(dk z).elim (fun w=>by rw[w,hA2'] at e;cases e) fun z=>(dk z).elim (fun w=>by rw[w,hA1] at e;cases e) m,s1b _ _ (s1a _ _ e)⟩) _ ev1
  let Ro:Vbemac.Exp->Toks->Prop:=fun e t3=> ∀H' v n',t3.length<t.length->bP a H' r q kd fn ds bl n' t3 Kn->az (br r kd fn ds bl) H H'->ao a (br r kd fn ds bl) H' e v->Q v H'
  let Inv':Pairs->List V->Nat->Toks->Hp->Prop:=fun es us n1 t1 H'=>us.length+t1.length<t.length/\(∀x∈es,x.1∈sg)/\bP a H' r q kd fn ds ((bl.more A1 (v::us)).more A2 (es.map fun x=>V.str (cX x.1))) n1 t1 Kn/\az (br r kd fn ds bl) H H'/\
   ao a (br r kd fn ds ((bl.more A1 (v::us)).more A2 (es.map fun x=>V.str (cX x.1)))) H' e v/\Paired (fun(x:Bytes×Vbemac.Exp) u=>ao a (br r kd fn ds ((bl.more A1 (v::us)).more A2 (es.map fun x=>V.str (cX x.1)))) H' x.2 u) es us/\
   (peek t1= .bad->QE a r kd fn ds bl H E 1 (place t1))/\(peek t1≠ .bad->L.G (12-d) Kn e es t1 Ro (QE a r kd fn ds bl H E))
  refine⟨fun m σ H'=> ∃(es:Pairs) (us:List V) (n1:Nat) (t1:Toks),m=t1.length/\σ=[some (.ref r),some (.int d),some (.int (s:Nat)),some (.ref A1),some (.ref A2)]/\(once=true->es=[])/\Inv' es us n1 t1 H',
   ⟨_,[],[],n1,t1,rfl,rfl,fun _=>rfl,by show 0+t1.length<_;lia,(fun _ z=>nomatch z),S2,k1b,ev2, .nil,fun b=>by have z:=w1.1;rw[if_pos b] at z;exact z,fun b=>by have z:=w1.1;rw[if_neg b] at z;exact z (Nat.le_of_lt l1)⟩,?_⟩
  rintro m σ H4 ⟨es,us,n4,t4,rfl,rfl,on0,ul,sg4,S4,k04,ev4,evs4,wb,wg⟩
  obtain⟨⟨x,xp⟩,t5,rfl,tok,hpk,hpl,_⟩:=S4.wh.first
  rw[022]
  refine⟨r,dr4,_,rfl,er4,rfl,r,q,kd,fn,ds,_,n4,(x,xp),t5,rfl,S4.rd,(fun b=>wb b H4 k04),fun nb p ⟨dx,et⟩=>[087]⟩
  obtain⟨qs',_,sqA',rq',atq',sqr'⟩:=KT.row (H:=H4) row
  refine⟨_,_,_,_,rfl,rfl,sqA',atq',_,_,rfl, .inr sqr',j7a_ x,j5z_ sg,_,rfl,?_⟩
  have G4:=wg nb
  have hA2:=S4.the
  have hA1:=S4.less.the
  refine bB (fun ein=>?_) fun ein=>?_
  ·obtain⟨op,hop,rfl⟩:=in_signs tok sgS ein
   obtain⟨f6,hf6,h6⟩:=L.go G4 on0 rfl hop
   refine⟨fun σ' H'=> ∃(es:Pairs) (us:List V) (n1:Nat) (t1:Toks),t1.length<t5.length+1/\σ'=[some (.ref r),some (.int d),some (.int (s:Nat)),some (.ref A1),some (.ref A2)]/\(once=true->es=[])/\Inv' es us n1 t1 H',?_,?_⟩
   ·rintro σ' H' ⟨es',us',n1',t1',l1,rfl,o1',I'⟩
    exact⟨_,l1,es',us',n1',t1',rfl,rfl,o1',I'⟩
   refine⟨.inl ⟨rfl,_,cK.of hA2⟩,?_⟩
   refine⟨r,dr4,_,rfl,er4,rfl,r,q,kd,fn,ds,_,n4,(.sign op,xp),t5,rfl,S4.rd,[003],fun _ H5 hp5=>?_⟩
   have S5:=S4.past [014] hp5
   have k45:=bt (bl:=(bl.more A1 (v::us)).more A2 (es.map fun x=>V.str (cX x.1))) hp5
   refine⟨A2,_,_,rfl,rfl,S5.the,Nat.lt_of_le_of_lt (show(es.map fun x=>V.str (cX x.1)).length<=4000 by rw[List.length_map,gb evs4];rw[List.length_cons] at ul;lia) [06],?_⟩
   have S6:bP a (bg H5 A2 (.lst ((es.map fun x=>V.str (cX x.1))++[V.str (cX op)]))) r q kd fn ds ((bl.more A1 (v::us)).more A2 ((es.map fun x=>V.str (cX x.1))++[V.str (cX op)])) (n4+1) t5 Kn:=S5.updl (ys:=(es.map fun x=>V.str (cX x.1))++[V.str (cX op)]) ⟨_,S5.the⟩ q2 ((bl.more A1 (v::us)).more A2 ((es.map fun x=>V.str (cX x.1))++[V.str (cX op)])).x (fun b zs z=>by
    rcases z with(z|⟨e1,e2⟩)|⟨e1,e2⟩
    ·rw[ag fun w=>ap2 zs (by rw[<-w];exact z)]
     exact S5.fr b zs (.inl (.inl z))
    ·rw[e1,ag ne12.symm,e2]
     exact S5.less.the
    ·rw[e1,e2]
     exact ah)
   refine⟨.inl ⟨rfl,_,cK.of S6.less.the⟩,?_⟩
   refine⟨_,_,rfl,rfl,?_⟩
   have kk6:az (br r kd fn ds ((bl.more A1 (v::us)).more A2 (es.map fun x=>V.str (cX x.1)))) H4 (bg H5 A2 (.lst ((es.map fun x=>V.str (cX x.1))++[V.str (cX op)]))):=k45.trans (gA dm)
   have k06:az (br r kd fn ds bl) H (bg H5 A2 (.lst ((es.map fun x=>V.str (cX x.1))++[V.str (cX op)]))):=fun b o e m=>kk6 b o (k04 b o e m) fun z=>(dk z).elim (fun w=>by rw[w,o2] at e;cases e) fun z=>(dk z).elim (fun w=>by rw[w,o1] at e;cases e) m
   have ext: ∀ {H':Hp},az (br r kd fn ds ((bl.more A1 (v::us)).more A2 ((es.map fun x=>V.str (cX x.1))++[V.str (cX op)]))) (bg H5 A2 (.lst ((es.map fun x=>V.str (cX x.1))++[V.str (cX op)]))) H'->az (br r kd fn ds bl) H H':=fun k' b o e m=>k' b o (k06 b o e m) fun z=>(dk z).elim (fun w=>by rw[w,o2] at e;cases e) fun z=>(dk z).elim (fun w=>by rw[w,o1] at e;cases e) m
   refine⟨_,_,rfl,r,q,kd,fn,ds,(bl.more A1 (v::us)).more A2 ((es.map fun x=>V.str (cX x.1))++[V.str (cX op)]),_,t5,Kn,d,f6,rfl,hd,hl,S6,hf6,wpo.mono (wpo.of2 h6) (fun e2 t7 w7 H7 v2 n7 l7 S7 k7 ev7=>?_) fun _ _ z H' k'=>z H' (ext k')⟩
   refine⟨A1,_,_,rfl,rfl,S7.less.the,Nat.lt_of_le_of_lt (show(v::us).length<=4000 by rw[List.length_cons] at ul ⊢; lia) [06],?_⟩
   have mo: ∀ {b:Addr}{xs ys xs' ys':List V},br r kd fn ds ((bl.more A1 xs).more A2 ys) b->br r kd fn ds ((bl.more A1 xs').more A2 ys') b:=fun z=>(dk z).elim (fun w=>by rw[w];exact dm) fun z=>(dk z).elim (fun w=>by rw[w];exact b8 dm) fun z=>b8 (b8 z)
   have S8:bP a (bg H7 A1 (.lst (v::(us++[v2])))) r q kd fn ds ((bl.more A1 (v::(us++[v2]))).more A2 ((es++[(op,e2)]).map fun x=>V.str (cX x.1))) n7 t7 Kn:=by
    rw[List.map_append]
    exact S7.updl ⟨_,S7.less.the⟩ q1 ((bl.more A1 (v::(us++[v2]))).more A2 ((es.map fun x=>V.str (cX x.1))++[V.str (cX op)])).x (fun b zs z=>by
     rcases z with(z|⟨e1,e2⟩)|⟨e1,e2⟩
     ·rw[ag fun w=>ap1 zs (by rw[<-w];exact z)]
      exact S7.fr b zs (.inl (.inl z))
     ·rw[e1,e2]
      exact ah
     ·rw[e1,ag ne12,e2]
      exact S7.the)
   have k08:az (br r kd fn ds bl) H (bg H7 A1 (.lst (v::(us++[v2])))):=fun b o e m=>by
    rw[ag fun z=>by rw[z,o1] at e;cases e]
    exact ext k7 b o e m
   have up8: ∀ {xs ys:List V},db (br r kd fn ds ((bl.more A1 xs).more A2 ys)) (br r kd fn ds ((bl.more A1 (v::(us++[v2]))).more A2 ((es++[(op,e2)]).map fun x=>V.str (cX x.1)))) H7 (bg H7 A1 (.lst (v::(us++[v2])))):=fun b o e m=>⟨fun z=>m (mo z),by rw[ag fun z=>m (by rw[z];exact b8 dm)];exact e⟩
   have up48:db (br r kd fn ds ((bl.more A1 (v::us)).more A2 (es.map fun x=>V.str (cX x.1)))) (br r kd fn ds ((bl.more A1 (v::(us++[v2]))).more A2 ((es++[(op,e2)]).map fun x=>V.str (cX x.1)))) H4 (bg H7 A1 (.lst (v::(us++[v2])))):=fun b o e m=>up8 b o (k7 b o (kk6 b o e m) fun z=>m (mo z)) m
   have ev8:=ao.keep2 up48 _ ev4
   have evs8:Paired (fun(x:Bytes×Vbemac.Exp) u=>ao a (br r kd fn ds ((bl.more A1 (v::(us++[v2]))).more A2 ((es++[(op,e2)]).map fun x=>V.str (cX x.1)))) (bg H7 A1 (.lst (v::(us++[v2])))) x.2 u) (es++[(op,e2)]) (us++[v2]):=dA (Paired.mapP evs4 fun x u h=>ao.keep2 up48 _ h) (ao.keep2 up8 e2 ev7)
   have sg8: ∀x∈es++[(op,e2)],x.1∈sg:=fun x hx=>(List.mem_append.mp hx).elim (sg4 x) fun z=>by rw[List.mem_singleton.mp z];exact hop
   have ul8:(us++[v2]).length+t7.length<t.length:=by rw[List.length_cons] at ul;rw[List.length_append,List.length_singleton];lia
   refine [060]
   rw[dz]
   rw[003]
   ·have s2:s=2:=by have:=of_decide_eq_true e;lia
    have on1:once=true:=by rw[onceE,s2];rfl
    have es0:=on0 on1
    have nb7:=w7.2 (h2 s2)
    have hR:=L.stop (by have z:=w7.1;rw[if_neg nb7] at z;exact z (by lia)) nb7 (.inl ⟨on1,fun z=>by rw[List.append_eq_nil_iff] at z;cases z.2⟩)
    have once1:once=true->(es++[(op,e2)]).length<=1:=fun _=>by rw[es0];exact Nat.le_refl _
    have l8:t7.length<t.length:=by lia
    have hA2:=S8.the
    have hA1:=S8.less.the
    refine⟨_,_,rfl, .inl (cK.of hA2),rfl,_,rfl,?_⟩
    rw[dz]
    rw[003]
    ·have z0:((es++[(op,e2)]).map fun x=>V.str (cX x.1)).length=0:=by have:=of_decide_eq_true e;lia
     rw[List.length_map,List.length_append,List.length_singleton] at z0
     lia
    ·have z1:(es++[(op,e2)])≠[]:=fun z=>by have:=of_decide_eq_false e;rw[z] at this;exact this rfl
     rw[035]
     have kk2:db (br r kd fn ds ((bl.more A1 (v::(us++[v2]))).more A2 ((es++[(op,e2)]).map fun x=>V.str (cX x.1)))) (br r kd fn ds bl) (bg H7 A1 (.lst (v::(us++[v2])))) Hd:=fun b o e m=>⟨fun z=>m (b8 (b8 z)),scd b o e⟩
     exact hR Hd (.ref p) n7 l8 (S8.less.less.same scd) (k08.trans [0002]) (N.at_ z1 sg8 once1 (S8.less.less.fresh hp) hd' ⟨A1,rfl,nA1,scd _ _ hA1⟩ ⟨A2,rfl,nA2,scd _ _ hA2⟩ (ao.keep2 kk2 _ ev8) (Paired.mapP evs8 fun x u h=>ao.keep2 kk2 _ h))
   ·have s2:s≠2:=by have:=of_decide_eq_false e;lia
    have on1:once≠true:=by rw[onceE,decide_eq_false s2];exact Bool.false_ne_true
    exact⟨es++[(op,e2)],us++[v2],n7,t7,by lia,rfl,fun z=>absurd z on1,ul8,sg8,S8,k08,ev8,evs8,fun b=>by have z:=w7.1;rw[if_pos b] at z;exact z,fun b=>by have z:=w7.1;rw[if_neg b] at z;exact z (by lia)⟩
  ·have hR:=L.stop G4 nb (.inr fun op ho hm=>by
    have:x= .sign op:=ho
    rw[this,signs_in hm] at ein
    cases ein)
   have once1:once=true->es.length<=1:=fun z=>by rw[on0 z];exact Nat.zero_le _
   have l8:((x,xp)::t5).length<t.length:=by lia
   refine⟨_,_,rfl, .inl (cK.of hA2),rfl,_,rfl,?_⟩
   rw[dz]
   rw[003]
   ·have z0:(es.map fun x=>V.str (cX x.1)).length=0:=by have:=of_decide_eq_true e;lia
    have z1:es=[]:=by cases es with|nil=>rfl|cons _ _=>cases z0
    subst z1
    refine⟨A1,_,0,v,rfl,rfl,cK.of hA1,cY (j:=0) rfl,?_⟩
    rw[N.res0] at hR
    exact hR H4 v n4 l8 S4.less.less k04 (ao.less (ao.less ev4))
   ·have z1:es≠[]:=fun z=>by have:=of_decide_eq_false e;rw[z] at this;exact this rfl
    rw[035]
    have kk2:db (br r kd fn ds ((bl.more A1 (v::us)).more A2 (es.map fun x=>V.str (cX x.1)))) (br r kd fn ds bl) H4 Hd:=fun b o e m=>⟨fun z=>m (b8 (b8 z)),scd b o e⟩
    exact hR Hd (.ref p) n4 l8 (S4.less.less.same scd) (k04.trans [0002]) (N.at_ z1 sg4 once1 (S4.less.less.fresh hp) hd' ⟨A1,rfl,nA1,scd _ _ hA1⟩ ⟨A2,rfl,nA2,scd _ _ hA2⟩ (ao.keep2 kk2 _ ev4) (Paired.mapP evs4 fun x u h=>ao.keep2 kk2 _ h))
end
end
section
open Vbemac (Bytes Toks SIGNS KEYS peek place primary unary text isSign isKey expr ands compared added times)
section
theorem fn_or {CX:CXT}{k:Nat}{f:Addr}{fd:FuncData}{ps:List Str}{sp1 sp2:Sp}(F1:aJ P w K mg base CX k f fd ps sp1) (F2:aJ P w K mg base CX k f fd ps sp2):aJ P w K mg base CX k f fd ps (fun vs H Q E=>sp1 vs H Q E\/sp2 vs H Q E):=
 ⟨fun vs H Q E h=>h.elim (F1.len vs H Q E) (F2.len vs H Q E),fun A outer s H args us vs Q E hr he hb hv h=>h.elim (F1.run A outer s H args us vs Q E hr he hb hv) (F2.run A outer s H args us vs Q E hr he hb hv)⟩
theorem j78_ {wp:WP}{p:Nat->Nat->Vbemac.Known->Vbemac.P Vbemac.Exp}{c:Nat}{ok1 ok2:Nat->Vbemac.Known->Toks->Prop}{vs:List V}{H:Hp}{Q:VK}{E:XK}(h:bU a wp p c (fun d K t=>ok1 d K t\/ok2 d K t) vs H Q E):bU a wp p c ok1 vs H Q E\/bU a wp p c ok2 vs H Q E:=by
 obtain⟨r,q,kd,fn,ds,bl,n,t,Kn,d,fuel,e,hd,ok,S,hf,hW⟩:=h
 rcases ok with ok|ok
 ·exact .inl ⟨r,q,kd,fn,ds,bl,n,t,Kn,d,fuel,e,hd,ok,S,hf,hW⟩
 ·exact .inr ⟨r,q,kd,fn,ds,bl,n,t,Kn,d,fuel,e,hd,ok,S,hf,hW⟩
theorem yj_ {wp:WP}{p:Nat->Nat->Vbemac.Known->Vbemac.P Vbemac.Exp}{c:Nat}{vs:List V}{H:Hp}{Q:VK}{E:XK}(h:bU a wp p c (Lv 0) vs H Q E):False:=by
 obtain⟨r,q,kd,fn,ds,bl,n,t,Kn,d,fuel,e,hd,ok,S,hf,hW⟩:=h
 have ok:13<=d+0:=ok
 lia
theorem jw_:(∀o∈S0,o∈SIGNS)/\(∀o∈S1,o∈SIGNS)/\(∀o∈S2,o∈SIGNS)/\(∀o∈S3,o∈SIGNS)/\(∀o∈S4,o∈SIGNS):=by decide+kernel
theorem row0:eP[0]?=some (S0.map fun o=>V.str (cX o)):=by decide+kernel
theorem row1:eP[1]?=some (S1.map fun o=>V.str (cX o)):=by decide+kernel
theorem row2:eP[2]?=some (S2.map fun o=>V.str (cX o)):=by decide+kernel
theorem row3:eP[3]?=some (S3.map fun o=>V.str (cX o)):=by decide+kernel
theorem row4:eP[4]?=some (S4.map fun o=>V.str (cX o)):=by decide+kernel
theorem knot (T:Txt K mg a) (XC:XT K a) (KT:KTT K a.k_CHAIN_SIGNS eP): ∀j:Nat,
  aJ P w K mg base (cH P w) (7+11*j) a.f_b a.fd_b ["reader","depth"] [0011]/\
  aJ P w K mg base (cH P w) (7+11*j) a.f_j a.fd_j ["reader","depth"] (bU a W unary 7 (Lv j)):=by
 intro j
 induction j with
 |zero=>exact⟨fh T.d_b.F sc_b (fun _ _ _ _ h=>(yj_ h).elim) (fun _ _ _ _ _ _ _ _ _ h=>(yj_ h).elim),fh T.d_j.F sc_j (fun _ _ _ _ h=>(yj_ h).elim) (fun _ _ _ _ _ _ _ _ _ h=>(yj_ h).elim)⟩
 |succ j ih=>
  obtain⟨E0,U0⟩:=ih
  have hk:7<=7+11*j:=by lia
  rw[show 7+11*(j+1)=7+11*j+11 by lia]
  generalize 7+11*j=k at hk E0 U0 ⊢
  have B:=ok_I T XC hk E0
  have Su:=ok_y T XC hk E0
  have Ca:=ok_F T XC hk E0
  have Ch:=ok_G T XC hk E0
  have Pr:=ok_W T XC (by lia) B Su Ca
  have UF:aJ P w K mg base (cH P w) (k+1+1) a.f_j a.fd_j ["reader","depth"] (bU a W unary 7 (fun _ _ _=>False)):=
   fh T.d_j.F sc_j (fun _ _ _ _ h=>by obtain⟨r,q,kd,fn,ds,bl,n,t,Kn,d,fuel,e,hd,ok,_⟩:=h;exact ok.elim) (fun _ _ _ _ _ _ _ _ _ h=>by obtain⟨r,q,kd,fn,ds,bl,n,t,Kn,d,fuel,e,hd,ok,_⟩:=h;exact ok.elim)
  have UN:=fM (j:=j+1) (fun d _ t=>13<=d+(j+1)/\ ∃m,peek t= .num m) (fun _ _ _=>False) T XC (by lia) (fun d Kn t h=>h.1) (fun d Kn s xp t h _=>by obtain⟨_,m,z⟩:=h;cases z) (fun d Kn s xp t m h _=>by obtain⟨_,m,z⟩:=h;cases z) Pr UF
  have UB:=(fn_or (U0.mono (by lia:k<=k+1+1+1)) UN).imp fun vs H Q E h=>j78_ h
  have Un:=fM (j:=j+1) (Lv (j+1)) (fun d K t=>Lv j d K t\/(13<=d+(j+1)/\ ∃m,peek t= .num m)) T XC (by lia) (fun d Kn t h=>h) (fun d Kn s xp t h lt=> .inl (by have h:13<=d+(j+1):=h;show 13<=d+1+j;lia)) (fun d Kn s xp t m h z=> .inr ⟨h,m,z⟩) (Pr.mono (by lia:k+1+1<=k+1+1+1)) UB
  have C5:=j70_ T XC KT (by lia) Un
  have C4:=eY T XC KT (by lia) (s:=4) [06] wpW (fun z=>by cases z) chMul nodeMul row4 jw_.2.2.2.2 rfl C5 (Un.mono (Nat.le_succ _))
  have C3:=eY T XC KT (by lia) (s:=3) [06] wpW2 (fun z=>by cases z) chAdd nodeAdd row3 jw_.2.2.2.1 rfl C4 (Un.mono (by lia))
  have C2:=eY T XC KT (by lia) (s:=2) [06] wpW2 (fun _=>rfl) chCmp nodeCmp row2 jw_.2.2.1 rfl C3 (Un.mono (by lia))
  have C1:=eY T XC KT (by lia) (s:=1) [06] wpW2 (fun z=>by cases z) chAnd nodeAnd row1 jw_.2.1 rfl C2 (Un.mono (by lia))
  have C0:=eY T XC KT (by lia) (s:=0) [06] wpW2 (fun z=>by cases z) chOr nodeOr row0 jw_.1 rfl C1 (Un.mono (by lia))
  have Ex:=ok_b T XC (by lia) (Ch.mono (by lia)) C0
  exact⟨Ex.mono (by lia),Un.mono (by lia)⟩
end
end
section
open Vbemac (Bytes Toks SIGNS KEYS peek place text isSign isKey expr newName anyName DEEP)
theorem litEq:gF "=" (text "="):=[029]
theorem litSc:gF ";" (text ";"):=[029]
theorem litLb:gF "{" (text "{"):=[029]
theorem litRb:gF "}" (text "}"):=[029]
theorem litSell:dP "sell" (text "sell"):=[005]
theorem litBuy:dP "buy" (text "buy"):=[005]
theorem j1u_:dP "amount" (text "amount"):=[005]
def givenP (f:Nat) (Kn:Vbemac.Known):Vbemac.P Vbemac.Exp:=Vbemac.sign "=">>=fun _=>expr f DEEP Kn>>=fun e=>Vbemac.sign ";">>=fun _=>pure e
theorem j3i_ {β:Type}{f:Nat}{Kn:Vbemac.Known}{g:Vbemac.Exp->Vbemac.P β}{t:Toks}{Ro:β->Toks->Prop}{Qe:Nat->Vbemac.Pos->Prop}(h:W (Vbemac.sign "=">>=fun _=>expr f DEEP Kn>>=fun e=>Vbemac.sign ";">>=fun _=>g e) t Ro Qe):
  W (givenP f Kn) t (fun e t'=>W (g e) t' Ro Qe) Qe:=by
 unfold givenP
 simp only[aK,cD] at h ⊢
 exact h
abbrev Cn (a:cu) (r q kd fn:Addr) (ds bl:eA) (H:Hp) (Kn:Vbemac.Known) (Q:VK) {α:Type}(At:Hp->α->V->Prop):α->Toks->Prop:=
 fun e t'=> ∀H' v n',bP a H' r q kd fn ds bl n' t' Kn->az (br r kd fn ds bl) H H'->At H' e v->Q v H'
def gw (a:cu) (M:Addr->Prop) (H:Hp):Option Vbemac.Exp->V->Prop
 |none,v=>v= .non
 |some e,v=>ao a M H e v
inductive ym_ (a:cu) (vs:List V) (H:Hp) (Q:VK) (E:XK):Prop
 |mk (r q kd fn:Addr) (ds bl:eA) (n:Nat) (t:Toks) (Kn:Vbemac.Known) (fuel:Nat) (_:vs=[.ref r]) (_:bP a H r q kd fn ds bl n t Kn) (_:16*t.length+12<=fuel) (_:W (givenP fuel Kn) t (fun e t'=>t'.length<t.length->Cn a r q kd fn ds bl H Kn Q (fun H'=>ao a (br r kd fn ds bl) H') e t') (QE a r kd fn ds bl H E)):ym_ a vs H Q E
inductive j0i_ (a:cu) (vs:List V) (H:Hp) (Q:VK) (E:XK):Prop
 |mk (r q kd fn:Addr) (ds bl:eA) (n:Nat) (t:Toks) (Kn:Vbemac.Known) (fuel:Nat) (v:Str) (s:String) (_:vs=[.ref r, .str v]) (_:dP v (text s)) (_:bP a H r q kd fn ds bl n t Kn) (_:16*t.length+12<=fuel) (_:W2 (Vbemac.key s>>=fun _=>expr fuel DEEP Kn) t (fun e t'=>t'.length<t.length->Cn a r q kd fn ds bl H Kn Q (fun H'=>ao a (br r kd fn ds bl) H') e t') (QE a r kd fn ds bl H E)):j0i_ a vs H Q E
inductive yg_ (a:cu) (vs:List V) (H:Hp) (Q:VK) (E:XK):Prop
 |mk (r q kd fn:Addr) (ds bl:eA) (n:Nat) (t:Toks) (Kn:Vbemac.Known) (fuel:Nat) (v:Str) (s:String) (_:vs=[.ref r, .str v]) (_:dP v (text s)) (_:bP a H r q kd fn ds bl n t Kn) (_:16*t.length+12<=fuel) (_:W2 (Vbemac.behind s (expr fuel DEEP Kn)) t (fun e t'=>t'.length<=t.length->Cn a r q kd fn ds bl H Kn Q (fun H'=>gw a (br r kd fn ds bl) H') e t') (QE a r kd fn ds bl H E)):yg_ a vs H Q E
def sideV (b:Bool):V:= .str (if b=true then "buy" else "sell")
inductive spSide (a:cu) (vs:List V) (H:Hp) (Q:VK) (E:XK):Prop
 |mk (r q kd fn:Addr) (ds bl:eA) (n:Nat) (t:Toks) (Kn:Vbemac.Known) (_:vs=[.ref r]) (_:bP a H r q kd fn ds bl n t Kn) (_:W Vbemac.side t (fun b t'=> ∀H',t'.length<t.length->bP a H' r q kd fn ds bl (n+1) t' Kn->az (br r kd fn ds bl) H H'->Q (sideV b) H') (QE a r kd fn ds bl H E)):spSide a vs H Q E
inductive j2j_ (a:cu) (vs:List V) (H:Hp) (Q:VK) (E:XK):Prop
 |mk (r q kd fn ds bl:Addr) (n:Nat) (x:Vbemac.Tok×Vbemac.Pos) (t:Toks) (d:Nat) (_:vs=[.ref r, .int d]) (_:Rdr a H r q kd fn ds bl n (x::t)) (_:(d=6->fw a.c_Fault E H (if x.1= .bad then 1 else 6) x.2)) (_:(d≠6->Q [092] H)):j2j_ a vs H Q E
def uz_ (f:Nat) (Kn:Vbemac.Known):Vbemac.P (Bytes×Vbemac.Exp):=Vbemac.key "amount">>=fun _=>newName Kn>>=fun x=>Vbemac.sign ":">>=fun _=>expr f DEEP (Kn.with x)>>=fun e=>pure (x,e)
inductive AmAt (a:cu) (M:Addr->Prop) (H:Hp) (x:Bytes×Vbemac.Exp) (v:V):Prop
 |mk (u:V) (_:cW M H a.c_Amounts [("name", .str (sb x.1)),("exp",u)] v) (_:ao a M H x.2 u):AmAt a M H x v
inductive vp_ (a:cu) (vs:List V) (H:Hp) (Q:VK) (E:XK):Prop
 |mk (r q kd fn:Addr) (ds bl:eA) (n:Nat) (t:Toks) (Kn:Vbemac.Known) (fuel:Nat) (_:vs=[.ref r]) (_:bP a H r q kd fn ds bl n t Kn) (_:16*t.length+12<=fuel) (_:W2 (uz_ fuel Kn) t (fun e t'=>t'.length<t.length->Cn a r q kd fn ds bl H Kn Q (fun H'=>AmAt a (br r kd fn ds bl) H') e t') (QE a r kd fn ds bl H E)):vp_ a vs H Q E
def Bk (bl:eA) (B:Vbemac.Blocks):Prop:= ∀u,has bl.c u=B.contains u
inductive spUnder (a:cu) (vs:List V) (H:Hp) (Q:VK) (E:XK):Prop
 |mk (r q kd fn:Addr) (ds bl:eA) (n:Nat) (t:Toks) (Kn:Vbemac.Known) (B:Vbemac.Blocks) (_:vs=[.ref r]) (_:bP a H r q kd fn ds bl n t Kn) (_:Bk bl B) (_:W (Vbemac.knownBlock B) t (fun u t'=> ∀H',t'.length<t.length->bP a H' r q kd fn ds bl (n+1) t' Kn->az (br r kd fn ds bl) H H'->Q (.str (sb u)) H') (QE a r kd fn ds bl H E)):spUnder a vs H Q E
section
variable {k:Nat}
abbrev ExpOk (P:Program) (w:World) (K:PySem.W.Frag) (mg:Str->Option Value) (base:Heap) (a:cu) (k:Nat):Prop:=aJ P w K mg base (cH P w) k a.f_b a.fd_b ["reader","depth"] (bU a W2 expr 12 (Lv 13))
theorem lv13 {Kn:Vbemac.Known}{t:Toks} :Lv 13 0 Kn t:=by show 13<=0+13;decide
theorem ok_o (T:Txt K mg a) (XC:XT K a) (hk:7<=k) (G_b:ExpOk P w K mg base a k):
  aJ P w K mg base (cH P w) (k+1) a.f_o a.fd_o ["reader"] (ym_ a):=by
 rw[03]
 refine fh T.d_o.F sc_o [04] [03]
 ·obtain⟨r,q,kd,fn,ds,bl,n,t,Kn,fuel,rfl,_⟩:=h
  rfl
 ·obtain⟨r,q,kd,fn,ds,bl,n,t,Kn,fuel,rfl,S,hf,hW⟩:=h
  refine⟨_,(ae [000]
    (ae (aE (i:=1) sc_o.nd rfl [05] [070])
    (ae [000]
    [069]))),?_⟩
  rw[004]
  refine dH litEq S [072] hW fun H1 t1 l1 S1 k1 hW1=>?_
  have h1:=W2.of (fun x=>(bC ";").bind) hW1
  refine⟨r,q,kd,fn,ds,bl,n+1,t1,Kn,0,fuel,rfl,Nat.zero_le _,lv13,S1,by lia,h1.mono (fun e t2 nb2 hW2 H2 v n2 l2 S2 k2 ev=>?_) fun _ _ z H' k'=>z H' (k1.trans k')⟩
  rw[017]
  refine [078]
  refine dH litSc S2 (fun k x z=>z H2 (k1.trans k2)) hW2 fun H3 t3 l3 S3 k3 hW3=>?_
  exact(hW3 (by lia) H3 v _ S3 ((k1.trans k2).trans k3) (ao.keep k3 _ ev))
theorem ok_l (T:Txt K mg a) (XC:XT K a) (hk:7<=k) (G_b:ExpOk P w K mg base a k):
  aJ P w K mg base (cH P w) (k+1) a.f_l a.fd_l ["reader","word"] (j0i_ a):=by
 rw[03]
 refine fh T.d_l.F sc_l [04] [03]
 ·obtain⟨r,q,kd,fn,ds,bl,n,t,Kn,fuel,v,s,rfl,_⟩:=h
  rfl
 ·obtain⟨r,q,kd,fn,ds,bl,n,t,Kn,fuel,v,s,rfl,lit,S,hf,hW⟩:=h
  refine⟨_,(ae (au (aA (pv 0) T.cl_Reader T.d_a.c G_a [01] aj [002]))
    (ai (ay [070]))),?_⟩
  rw[004]
  unfold W2 at hW
  refine uw_ lit S [072] hW fun H1 t1 l1 S1 k1 hW1=>?_
  have hW1:W2 (expr fuel DEEP Kn) t1 _ _:=hW1
  exact⟨r,q,kd,fn,ds,bl,n+1,t1,Kn,0,fuel,rfl,Nat.zero_le _,lv13,S1,by lia,hW1.mono (fun e t2 nb2 w2 H2 v n2 l2 S2 k2 ev=>w2 (by lia) H2 v n2 S2 (k1.trans k2) ev) fun _ _ z H' k'=>z H' (k1.trans k')⟩
theorem j1s_ {α:Type}{s:String}{p:Vbemac.P α}{t:Toks}(h:isKey t s=true):Vbemac.behind s p t=(Vbemac.key s>>=fun _=>p>>=fun x=>pure (some x):Vbemac.P (Option α)) t:=by
 unfold Vbemac.behind
 rw[if_pos h]
 have e:(Vbemac.key s>>=fun _=>p>>=fun x=>pure (some x):Vbemac.P (Option α)) t=(p>>=fun x=>pure (some x):Vbemac.P (Option α)) (t.drop 1):=by
  show(StateT.bind (Vbemac.key s) _) t=_
  unfold StateT.bind Vbemac.key
  rw[if_pos h]
  rfl
 rw[e]
 show _=(StateT.bind p _) (t.drop 1)
 rw[030]
 cases p (t.drop 1) with
 |error e=>rfl
 |ok z=>rfl
theorem j0x_ {α:Type}{s:String}{p:Vbemac.P α}{t:Toks}(h:isKey t s=false):Vbemac.behind s p t= .ok (none,t):=by
 unfold Vbemac.behind
 rw[if_neg [0014]]
theorem ok_C (T:Txt K mg a) (XC:XT K a) (hk:7<=k)
  (G_l:aJ P w K mg base (cH P w) k a.f_l a.fd_l ["reader","word"] (j0i_ a)):
  aJ P w K mg base (cH P w) (k+1) a.f_C a.fd_C ["reader","word"] (yg_ a):=by
 rw[05]
 refine fh T.d_C.F sc_C [04] [03]
 ·obtain⟨r,q,kd,fn,ds,bl,n,t,Kn,fuel,v,s,rfl,_⟩:=h
  rfl
 ·obtain⟨r,q,kd,fn,ds,bl,n,t,Kn,fuel,v,s,rfl,lit,S,hf,hW⟩:=h
  refine⟨_,(ae (aZ (eS (bd (aA (pv 0) T.cl_Reader T.d_c.c G_c [01] aj [002]))) (ai (ay pe_non)) aG)
    (ai (ay (al G_l [01] (by rfl) T.d_l.c aj [012])))),?_⟩
  rw[004]
  refine fZ lit S (fun b=>(fB s _).at_bad b hW H az.refl) fun nb=>[016]
  cases hk':isKey t s with
  |false=>
   rw[027]
   exact wj_ (j0x_ hk') nb hW [007] H .non n S az.refl rfl
  |true=>
   rw[008]
   have hW:=W2_as (j1s_ hk') hW
   unfold W2 at hW
   rw[aK] at hW
   refine⟨r,q,kd,fn,ds,bl,n,t,Kn,fuel,v,s,rfl,lit,S,hf,?_⟩
   unfold W2
   rw[aK]
   refine hW.mono (fun u t1 hW1=>?_) fun _ _ z=>z
   rw[aK] at hW1
   refine hW1.mono (fun e t2 hW2=>?_) fun _ _ z=>z
   have hW2:if peek t2= .bad then _ else _:=hW2
   by_cases b:peek t2= .bad
   ·rw[if_pos b] at hW2 ⊢
    exact hW2
   ·rw[if_neg b] at hW2 ⊢
    exact fun l H' v' n' S' k' ev=>hW2 (by lia) H' v' n' S' k' ev
theorem ok_Q (T:Txt K mg a) (XC:XT K a):aJ P w K mg base (cH P w) 6 a.f_Q a.fd_Q ["reader","depth"] (j2j_ a):=by
 rw[06]
 refine fh T.d_Q.F sc_Q [04] [03]
 ·obtain⟨r,q,kd,fn,ds,bl,n,x,t,d,rfl,_⟩:=h
  rfl
 ·obtain⟨r,q,kd,fn,ds,bl,n,x,t,d,rfl,R,hf,hg⟩:=h
  rw[002]
  refine⟨_,(ae (aZ (bv dw (pv 1) (bN (by rfl) T.g_MOST_BRACES) (bx _)) (ai (au (aA (pv 0) T.cl_Reader T.d_e.c G_e [01] aj (aa (bN (by rfl) T.g_TOO_DEEP) af)))) aG)
    (ai (ay (bh dq (pv 1) aU)))),?_⟩
  refine [060]
  rw[dz]
  rw[003]
  ·have:=of_decide_eq_true e
   exact⟨r,dr,_,rfl,er,rfl,r,q,kd,fn,ds,bl,n,x,t,6,rfl,R,hf (by lia)⟩
  ·have:=of_decide_eq_false e
   exact⟨_,_,rfl,rfl,hg (by lia)⟩
theorem ok_R (T:Txt K mg a) (XC:XT K a):aJ P w K mg base (cH P w) 7 a.f_R a.fd_R ["reader"] (spSide a):=by
 rw[05]
 rw[06]
 rw[009]
 refine fh T.d_R.F sc_R [04] [03]
 ·obtain⟨r,q,kd,fn,ds,bl,n,t,Kn,rfl,_⟩:=h
  rfl
 ·obtain⟨r,q,kd,fn,ds,bl,n,t,Kn,rfl,S,hW⟩:=h
  refine⟨_,(ae (aZ (j11_ (eS [010]) (ye_ (eS [010]))).pt (ai (au (aA (pv 0) T.cl_Reader T.d_e.c G_e [01] aj (aa (bN (by rfl) T.g_NOT_HERE) af)))) aG)
    (ai (ay [050]))),?_⟩
  rw[01]
  have hb:peek t= .bad->fw a.c_Fault E H 1 (place t):=fun b=>u9_.at_bad b hW H az.refl
  refine [006]
  refine fZ litSell S hb fun nb=>[016]
  rw[00]
  have fin: ∀(b:Bool) (u:Bytes),x= .word u->V.str (sb u)=sideV b->Vbemac.side ((x,xp)::t')= .ok (b,t')-> ∀H1,OS.past a H r q kd fn ds bl n H1->Q (vv_ x) H1:=fun b u ex eu es H1 hp1=>by
   rw[dJ es] at hW
   subst ex
   show Q (V.str (sb u)) H1
   rw[eu]
   exact hW H1 (Nat.lt_succ_self _) (S.past [014] hp1) (bt hp1)
  cases h1:isKey ((x,xp)::t') "sell" with
  |true=>
   have ex:x= .word (text "sell"):=beq_iff_eq.mp h1
   rw[008]
   rw[008]
   refine⟨r,dr,_,rfl,er,rfl,r,q,kd,fn,ds,bl,n,(x,xp),t',rfl,S.rd,hb,fun _ H1 hp1=>?_⟩
   exact fin false _ ex (by rw[<-litSell.1];rfl) (by unfold Vbemac.side;rw[if_pos h1];rfl) H1 hp1
  |false=>
   rw[027]
   refine [006]
   refine fZ litBuy S hb fun nb=>[016]
   cases h2:isKey ((x,xp)::t') "buy" with
   |true=>
    have ex:x= .word (text "buy"):=beq_iff_eq.mp h2
    rw[008]
    refine⟨r,dr,_,rfl,er,rfl,r,q,kd,fn,ds,bl,n,(x,xp),t',rfl,S.rd,hb,fun _ H1 hp1=>?_⟩
    exact fin true _ ex (by rw[<-litBuy.1];rfl) (by unfold Vbemac.side;rw[if_neg [035],if_pos h2];rfl) H1 hp1
   |false=>
    rw[027]
    refine⟨r,dr,_,rfl,er,rfl,r,q,kd,fn,ds,bl,n,(x,xp),t',2,rfl,S.rd,?_⟩
    have nb': ¬(x,xp).fst=Vbemac.Tok.bad:=nb
    rw[if_neg nb']
    exact bQ (p:=Vbemac.side) (n:=2) (by unfold Vbemac.side;rw[if_neg [035],if_neg [080]]) nb hW H az.refl
theorem ok_S (T:Txt K mg a) (XC:XT K a) (hk:7<=k) (G_b:ExpOk P w K mg base a k):
  aJ P w K mg base (cH P w) (k+1) a.f_S a.fd_S ["reader"] (vp_ a):=by
 rw[03]
 rw[016]
 have G_w:=gv (P:=P) (w:=w) (base:=base) T
 have G_aB:=ui_ (P:=P) (w:=w) (base:=base) T
 refine fh T.d_S.F sc_S [04] [03]
 ·obtain⟨r,q,kd,fn,ds,bl,n,t,Kn,fuel,rfl,_⟩:=h
  rfl
 ·obtain⟨r,q,kd,fn,ds,bl,n,t,Kn,fuel,rfl,S,hf,hW⟩:=h
  refine⟨_,(ae [000]
    (ae (aE (i:=1) sc_S.nd rfl [05] [063])
    (ae [000]
    (ae (au (aA (pv 0) T.cl_Reader T.d_q.c G_q [01] aQ [002]))
    (ae (aE (i:=2) sc_S.nd rfl [05] [070])
    (ae (au (aA (pv 0) T.cl_Reader T.d_w.c G_w [01] aQ [002]))
    (ai (ay (cv T.mk_Amounts G_aB [01] (by rfl) T.mg_Amounts T.d_aB.c.b .nil aQ (aa (pv 1) [027])))))))))),?_⟩
  rw[01]
  rw[015]
  unfold W2 uz_ at hW
  refine [006]
  refine uw_ j1u_ S [072] hW fun H1 t1 l1 S1 k1 hW1=>?_
  rw[018]
  refine j9_ S1 (fun k x z=>z H1 k1) hW1 fun u H2 t2 l2 ft S2 k2 hW2=>?_
  rw[037]
  rw[017]
  refine [078]
  refine dH litCo S2 (fun k x z=>z H2 k02) hW2 fun H3 t3 l3 S3 k3 hW3=>?_
  have k03:=k02.trans k3
  have fv:Kn.values.contains u=false:=by
   rw[045]
   cases h:Kn.values.contains u with
   |false=>rfl
   |true=>rw[h] at ft;cases ft
  rw[033]
  obtain⟨kk,kk1,kk2,kk3⟩:=S3.kn.vals
  have S4:=S3.learn (u:=u) fv (by lia) kk1
  have k34:az (br r kd fn ds bl) H3 (bg H3 kd (.dK (dI kk (nk u) (.bl true)))):=fun b o e m=>by rw[ag fun z=>m [013]];exact e
  refine [0024]
  have k04:=k03.trans k34
  rw[aK] at hW3
  refine⟨r,q,kd,fn,ds,bl,_,t3,Kn.with u,0,fuel,rfl,Nat.zero_le _,lv13,S4,by lia,?_⟩
  refine W2.mono (Qo:=fun e t4=>t4.length<t.length->Cn a r q kd fn ds bl H Kn Q (fun H'=>AmAt a (br r kd fn ds bl) H') (u,e) t4) (Qe:=QE a r kd fn ds bl H E) hW3 (fun e t5 nb5 w5 H5 v n5 l5 S5 k5 ev=>?_) fun _ _ z H' k'=>z H' (k04.trans k')
  have k05:=k04.trans k5
  obtain⟨dr5,er5⟩:=S5.rd.ins
  obtain⟨kb,kb1,_,_⟩:=S5.kn.vals
  obtain⟨hu,S6⟩:=S5.forget (u:=u) fv kb1
  have k56:az (br r kd fn ds bl) H5 (bg H5 kd (.dK (eE kb (nk u)))):=fun b o e m=>by rw[ag fun z=>m [013]];exact e
  refine⟨r,dr5,_,rfl,er5,rfl,r,dr5,q,kd,fn,ds,bl,_,u,kb,rfl,er5,kb1,hu,?_⟩
  rw[023]
  have k6d:=k56.trans [0002]
  exact w5 (by lia) Hd (.ref p) _ (S6.same scd) (k05.trans k6d) ⟨v,⟨p,dx,rfl,S6.fresh hp,hd'⟩,ao.keep k6d _ ev⟩
theorem ok_an (T:Txt K mg a) (XC:XT K a):aJ P w K mg base (cH P w) 7 a.f_an a.fd_an ["reader"] (spUnder a):=by
 rw[046]
 refine fh T.d_an.F sc_an [04] [03]
 ·obtain⟨r,q,kd,fn,ds,bl,n,t,Kn,B,rfl,_⟩:=h
  rfl
 ·obtain⟨r,q,kd,fn,ds,bl,n,t,Kn,B,rfl,S,hB,hW⟩:=h
  refine⟨_,(ae (au (a0 (pv 0) T.cl_Reader T.d_E.c G_E [01] aj))
    (ae (aZ (fe (j1n_ (fG hr) (aI (a0 (pv 0) T.cl_Reader T.d_g.c G_g [01] aj) rfl) [07])) (ai (au (aA (pv 0) T.cl_Reader T.d_e.c G_e [01] aj (aa (bN (by rfl) T.g_NOT_KNOWN) af)))) aG)
    (ai (ay [050])))),?_⟩
  rw[01]
  rw[00]
  have hb:x= .bad->fw a.c_Fault E H 1 xp:=fun b=>(yx_ B).at_bad [0008] hW H az.refl
  refine⟨r,dr,_,rfl,er,rfl,r,q,kd,fn,ds,bl,n,(x,xp),t',rfl,S.rd,hb,fun nb en=>?_,fun nb en=>?_⟩
  ·refine bQ (p:=Vbemac.knownBlock B) (n:=2) (t:=(x,xp)::t') ?_ nb hW H az.refl
   cases x with
   |word u=>
    have en:dv (.word u)=false:=en
    rw[bM] at en
    rw[044]
    unfold Vbemac.knownBlock
    rw[cC,if_pos hkw]
    rfl
   |num m=>rfl
   |sign s=>rfl
   |eof=>rfl
   |bad=>exact absurd rfl nb
  ·obtain⟨u,rfl⟩: ∃u,x= .word u:=by
    cases x with
    |word u=>exact⟨u,rfl⟩
    |num m=>cases en
    |sign s=>cases en
    |eof=>cases en
    |bad=>cases en
   have en:dv (.word u)=true:=en
   rw[bM] at en
   rw[043]
   have ek:Vbemac.knownBlock B ((.word u,xp)::t')=if B.contains u=true then .ok (u,t') else Vbemac.fail 3 ((.word u,xp)::t'):=by
    unfold Vbemac.knownBlock
    rw[cC,if_neg [0006]]
   refine⟨r,dr,_,rfl,er,rfl,r,q,kd,fn,ds,bl,n,(.word u,xp),t',rfl,S.rd,hb,fun _ p ⟨dx,et⟩=>[087]⟩
   refine⟨r,_,dr,_,_,rfl,er,T.cl_Reader,T.no_Reader_blocks,rfl,bl.p,_,rfl,yi_.k (k:=nk u) S.bl_,_,rfl,?_⟩
   have hBu:(cP bl.c (nk u)).isSome=B.contains u:=hB u
   rw[hBu]
   cases hc:B.contains u with
   |false=>
    rw[027]
    rw[hc,if_neg Bool.false_ne_true] at ek
    refine⟨r,dr,_,rfl,er,rfl,r,q,kd,fn,ds,bl,n,(.word u,xp),t',3,rfl,S.rd,?_⟩
    rw[if_neg nb]
    exact bQ ek nb hW H az.refl
   |true=>
    rw[008]
    rw[hc,if_pos rfl] at ek
    rw[dJ ek] at hW
    refine⟨r,dr,_,rfl,er,rfl,r,q,kd,fn,ds,bl,n,(.word u,xp),t',rfl,S.rd,hb,fun _ H1 hp1=>?_⟩
    exact hW H1 (Nat.lt_succ_self _) (S.past [014] hp1) (bt hp1)
end
end
section
open Vbemac (Bytes Toks SIGNS KEYS peek place text isSign isKey expr newName anyName DEEP stmt stmts)
def gR:Option Bytes->V
 |none=> .non
 |some u=> .str (sb u)
mutual
def bu (a:cu) (M:Addr->Prop) (H:Hp):Vbemac.Stmt->V->Prop
 | .bind x e,v=> ∃u,cW M H a.c_Let [("name", .str (sb x)),("exp",u)] v/\ao a M H e u
 | .loop x lo hi l,v=> ∃u1 u2 q us,cW M H a.c_For [("name", .str (sb x)),("first",u1),("last",u2),("statements",q)] v/\ao a M H lo u1/\ao a M H hi u2/\cn M H us q/\bo a M H l us
 | .cond c x y,v=> ∃u q us g ws,cW M H a.c_If [("condition",u),("statements",q),("else_statements",g)] v/\ao a M H c u/\cn M H us q/\bo a M H x us/\cn M H ws g/\bo a M H y ws
 | .step b z qu p top am,v=> ∃u1 u2 u3 u4 u5,cW M H a.c_Step [("side",sideV b),("zone",u1),("quarter",u2),("price",u3),("to_price",u4),("amount",u5)] v/\ao a M H z u1/\ao a M H qu u2/\ao a M H p u3/\gw a M H top u4/\ao a M H am u5
 | .block nm b z p x am un g,v=> ∃u1 u2 u3 u4,cW M H a.c_Block [("name",gR nm),("side",sideV b),("zone",u1),("price",u2),("amounts",u3),("under",gR un),("group",u4)] v/\ao a M H z u1/\ao a M H p u2/\AmAt a M H (x,am) u3/\gw a M H g u4
def bo (a:cu) (M:Addr->Prop) (H:Hp):Vbemac.Stmts->List V->Prop
 | .nil,us=>us=[]
 | .cons s l,us=> ∃u vs,us=u::vs/\bu a M H s u/\bo a M H l vs
end
section
variable {M M':Addr->Prop}{H H':Hp}
theorem gw.keep2 (k:db M M' H H'): ∀(e:Option Vbemac.Exp) {v:V},gw a M H e v->gw a M' H' e v
 |none,v,h=>h
 |some e,v,h=>ao.keep2 k e h
theorem AmAt.keep2 (k:db M M' H H') {x:Bytes×Vbemac.Exp}{v:V}(h:AmAt a M H x v):AmAt a M' H' x v:=by
 obtain⟨u,h1,h2⟩:=h
 exact⟨u,h1.keep k,ao.keep2 k _ h2⟩
mutual
theorem bu.keep2 (k:db M M' H H'): ∀(s:Vbemac.Stmt) {v:V},bu a M H s v->bu a M' H' s v
 | .bind x e,v,h=>by
  unfold bu at h ⊢
  obtain⟨u,h1,h2⟩:=h
  exact⟨u,h1.keep k,ao.keep2 k e h2⟩
 | .loop x lo hi l,v,h=>by
  unfold bu at h ⊢
  obtain⟨u1,u2,q,us,h1,h2,h3,h4,h5⟩:=h
  exact⟨u1,u2,q,us,h1.keep k,ao.keep2 k lo h2,ao.keep2 k hi h3,h4.keep k,bo.keep2 k l h5⟩
 | .cond c x y,v,h=>by
  unfold bu at h ⊢
  obtain⟨u,q,us,g,ws,h1,h2,h3,h4,h5,h6⟩:=h
  exact⟨u,q,us,g,ws,h1.keep k,ao.keep2 k c h2,h3.keep k,bo.keep2 k x h4,h5.keep k,bo.keep2 k y h6⟩
 | .step b z qu p top am,v,h=>by
  unfold bu at h ⊢
  obtain⟨u1,u2,u3,u4,u5,h1,h2,h3,h4,h5,h6⟩:=h
  exact⟨u1,u2,u3,u4,u5,h1.keep k,ao.keep2 k z h2,ao.keep2 k qu h3,ao.keep2 k p h4,gw.keep2 k top h5,ao.keep2 k am h6⟩
 | .block nm b z p x am un g,v,h=>by
  unfold bu at h ⊢
  obtain⟨u1,u2,u3,u4,h1,h2,h3,h4,h5⟩:=h
  exact⟨u1,u2,u3,u4,h1.keep k,ao.keep2 k z h2,ao.keep2 k p h3,h4.keep2 k,gw.keep2 k g h5⟩
theorem bo.keep2 (k:db M M' H H'): ∀(l:Vbemac.Stmts) {us:List V},bo a M H l us->bo a M' H' l us
 | .nil,us,h=>by unfold bo at h ⊢; exact h
 | .cons s l,us,h=>by
  unfold bo at h ⊢
  obtain⟨u,vs,h1,h2,h3⟩:=h
  exact⟨u,vs,h1,bu.keep2 k s h2,bo.keep2 k l h3⟩
end
end
abbrev eA.at_ (bl:eA) (c:List (bW×V)):eA:=⟨bl.p,c,bl.x⟩
def StB (a:cu) (r q kd fn:Addr) (ds bl:eA) (n:Nat) (t:Toks) (Kn:Vbemac.Known) (B:Vbemac.Blocks) (H:Hp) (Q:VK) (E:XK) (p:Vbemac.P (Vbemac.Stmt×Vbemac.Known×Vbemac.Blocks)):Prop:=
 bP a H r q kd fn ds bl n t Kn/\Bk bl B/\bl.c.length+t.length<=4000/\
 W3 p t (fun s t'=>t'.length<t.length-> ∀H' v n' c',Bk [0019] s.2.2->c'.length+t'.length<=4000->bP a H' r q kd fn ds [0019] n' t' s.2.1->az (br r kd fn ds bl) H H'->bu a (br r kd fn ds bl) H' s.1 v->Q v H') (QE a r kd fn ds bl H E)
inductive spSt0 (a:cu) (ok:Toks->Prop) (vs:List V) (H:Hp) (Q:VK) (E:XK):Prop
 |mk (r q kd fn:Addr) (ds bl:eA) (n:Nat) (t:Toks) (Kn:Vbemac.Known) (B:Vbemac.Blocks) (d fuel:Nat) (_:vs=[.ref r]) (_:ok t) (_:16*t.length+14<=fuel) (_:StB a r q kd fn ds bl n t Kn B H Q E (stmt fuel d Kn B)):spSt0 a ok vs H Q E
section
variable {f:Nat}{Kn:Vbemac.Known}{β:Type}{s:String}{g:Vbemac.Exp->Vbemac.P β}{t:Toks}{Ro:β->Toks->Prop}{Qe:Nat->Vbemac.Pos->Prop}
theorem qt_ (hs: ∀e,bA (g e)) (h:W (Vbemac.key s>>=fun _=>expr f DEEP Kn>>=fun z=>g z) t Ro Qe):W2 (Vbemac.key s>>=fun _=>expr f DEEP Kn) t (fun e t'=>W (g e) t' Ro Qe) Qe:=by
 unfold W2
 rw[aK] at h ⊢
 refine h.mono (fun u t1 w=>?_) fun _ _ z=>z
 exact W2.of hs w
end
theorem litLet:dP "let" (text "let"):=[005]
theorem litZone:dP "zone" (text "zone"):=[005]
theorem j65_:dP "quarter" (text "quarter"):=[005]
theorem j49_:dP "price" (text "price"):=[005]
theorem litTo:dP "to" (text "to"):=[005]
section
variable {k:Nat}
theorem ok_P (T:Txt K mg a) (XC:XT K a) (hk:7<=k)
  (G_o:aJ P w K mg base (cH P w) k a.f_o a.fd_o ["reader"] (ym_ a)):
  aJ P w K mg base (cH P w) (k+1) a.f_P a.fd_P ["reader"] (spSt0 a fun t=>isKey t "let"=true):=by
 rw[03]
 rw[016]
 have G_ax:=j3w_ (P:=P) (w:=w) (base:=base) T
 refine fh T.d_P.F sc_P [04] [03]
 ·obtain⟨r,q,kd,fn,ds,bl,n,t,Kn,B,d,fuel,rfl,_⟩:=h
  rfl
 ·obtain⟨r,q,kd,fn,ds,bl,n,t,Kn,B,d,fuel,rfl,hkw,hf,S,hB,hBl,hW⟩:=h
  refine⟨_,(ae [000]
    (ae (aE (i:=1) sc_P.nd rfl [05] [063])
    (ae (aE (i:=2) sc_P.nd rfl [05] (al G_o [01] (by rfl) T.d_o.c aj [009]))
    (ae (au (aA (pv 0) T.cl_Reader T.d_q.c G_q [01] aQ [002]))
    (ai (ay (cv T.mk_Let G_ax [01] (by rfl) T.mg_Let T.d_ax.c.b .nil aQ (aa (pv 1) [027])))))))),?_⟩
  rw[00]
  obtain rfl:x= .word (text "let"):=beq_iff_eq.mp hkw
  rw[015]
  rw[List.length_cons] at hf room hBl
  rw[000]
  have hW:=W3_as (j3o_ hkw) hW
  unfold W3 at hW
  rw[026]
  refine ja_ litLet S fun H1 S1 k1=>?_
  rw[018]
  refine j9_ S1 (fun k x z=>z H1 k1) hW fun u H2 t2 l2 ft S2 k2 hW2=>?_
  rw[037]
  have fv:Kn.values.contains u=false:=by
   rw[045]
   cases h:Kn.values.contains u with
   |false=>rfl
   |true=>rw[h] at ft;cases ft
  have hG:=j3i_ hW2
  refine⟨r,q,kd,fn,ds,bl,_,t2,Kn,f,rfl,S2,by lia,hG.mono (fun e t3 w3 l3 H3 v n3 S3 k3 ev=>?_) fun _ _ z H' k'=>z H' (k02.trans k')⟩
  rw[033]
  obtain⟨kk,kk1,kk2,kk3⟩:=S3.kn.vals
  have S4:=S3.learn (u:=u) fv (by lia) kk1
  have k34:az (br r kd fn ds bl) H3 (bg H3 kd (.dK (dI kk (nk u) (.bl true)))):=fun b o e m=>by rw[ag fun z=>m [013]];exact e
  refine [0024]
  rw[023]
  have k4d:=k34.trans (OS.aW.keeps (M:=br r kd fn ds bl) scd)
  refine w3.2 [052] Hd (.ref p) _ bl.c hB (by lia) (S4.same scd) ((k02.trans k3).trans k4d) ?_
  unfold bu
  exact⟨v,⟨p,dx,rfl,S4.fresh hp,hd'⟩,ao.keep k4d _ ev⟩
theorem ok_x (T:Txt K mg a) (XC:XT K a) (hk:7<=k)
  (G_l:aJ P w K mg base (cH P w) k a.f_l a.fd_l ["reader","word"] (j0i_ a))
  (G_C:aJ P w K mg base (cH P w) k a.f_C a.fd_C ["reader","word"] (yg_ a)):
  aJ P w K mg base (cH P w) (k+1) a.f_x a.fd_x ["reader"] (spSt0 a fun t=>isKey t "let"=false/\isKey t "for"=false/\isKey t "if"=false/\isKey t "block"=false):=by
 rw[03]
 have G_R:=ok_R (P:=P) (w:=w) (base:=base) T XC
 have G_aA:=j2f_ (P:=P) (w:=w) (base:=base) T
 refine fh T.d_x.F sc_x [04] [03]
 ·obtain⟨r,q,kd,fn,ds,bl,n,t,Kn,B,d,fuel,rfl,_⟩:=h
  rfl
 ·obtain⟨r,q,kd,fn,ds,bl,n,t,Kn,B,d,fuel,rfl,⟨n1,n2,n3,n4⟩,hf,S,hB,hBl,hW⟩:=h
  refine⟨_,(ae (aE (i:=1) sc_x.nd rfl [05] (al G_R [01] (by rfl) T.d_R.c aj [009]))
    (ae (aE (i:=2) sc_x.nd rfl [05] [083])
    (ae (aE (i:=3) sc_x.nd rfl [05] [083])
    (ae (aE (i:=4) sc_x.nd rfl [05] [083])
    (ae (aE (i:=5) sc_x.nd rfl [05] (al G_C [01] (by rfl) T.d_C.c aj [038]))
    (ae (aE (i:=6) sc_x.nd rfl [05] [083])
    (ae [000]
    (ai (ay (cv T.mk_Step G_aA [01] (by rfl) T.mg_Step T.d_aA.c.b .nil aQ (aa (pv 1) (aa (pv 2) (aa (pv 3) (aa (pv 4) (aa (pv 5) (aa (pv 6) af)))))))))))))))),?_⟩
  rw[000]
  have hW:=W3_as (j1l_ n1 n2 n3 n4) hW
  unfold W3 at hW
  rw[aK] at hW
  refine⟨r,q,kd,fn,ds,bl,n,t,Kn,rfl,S,hW.mono (fun b t1 w1 H1 l1 S1 k1=>?_) fun _ _ z=>z⟩
  have h1:=qt_ (fun _=>(c9 "quarter").bind) w1
  refine⟨r,q,kd,fn,ds,bl,_,t1,Kn,f,_,_,rfl,litZone,S1,by lia,h1.mono (fun e1 t2 nb2 w2 l2 H2 v1 n2 S2 k2 ev1=>?_) fun _ _ z H' k'=>z H' (k1.trans k')⟩
  rw[037]
  have h2:=qt_ (fun _=>(c9 "price").bind) w2
  refine⟨r,q,kd,fn,ds,bl,_,t2,Kn,f,_,_,rfl,j65_,S2,by lia,h2.mono (fun e2 t3 nb3 w3 l3 H3 v2 n3 S3 k3 ev2=>?_) fun _ _ z H' k'=>z H' (k02.trans k')⟩
  have k03:=k02.trans k3
  have h3:=qt_ (fun _=>(fB "to" _).strict fun _=>(c9 "amount").bind) w3
  refine⟨r,q,kd,fn,ds,bl,_,t3,Kn,f,_,_,rfl,j49_,S3,by lia,h3.mono (fun e3 t4 nb4 w4 l4 H4 v3 n4 S4 k4 ev3=>?_) fun _ _ z H' k'=>z H' (k03.trans k')⟩
  have k04:=k03.trans k4
  have h4:=W2.of (fun _=>(c9 "amount").bind) w4
  refine⟨r,q,kd,fn,ds,bl,_,t4,Kn,f,_,_,rfl,litTo,S4,by lia,h4.mono (fun e4 t5 nb5 w5 l5 H5 v4 n5 S5 k5 ev4=>?_) fun _ _ z H' k'=>z H' (k04.trans k')⟩
  have k05:=k04.trans k5
  have h5:=qt_ (fun _=>(bC ";").bind) w5
  refine⟨r,q,kd,fn,ds,bl,_,t5,Kn,f,_,_,rfl,j1u_,S5,by lia,h5.mono (fun e5 t6 nb6 w6 l6 H6 v5 n6 S6 k6 ev5=>?_) fun _ _ z H' k'=>z H' (k05.trans k')⟩
  have k06:=k05.trans k6
  obtain⟨dr6,er6⟩:=S6.rd.ins
  refine⟨r,dr6,_,rfl,er6,rfl,?_⟩
  refine dH litSc S6 (fun k x z=>z H6 k06) w6 fun H7 t7 l7 S7 k7 w7=>?_
  rw[006]
  refine⟨p,dx,_,_,_,_,_,_,rfl,ah,fun Hd hd' kd'=>⟨rfl,?_⟩⟩
  rw[007]
  have k6d:=k7.trans (OS.aW.keeps (M:=br r kd fn ds bl) scd)
  have k5d:=k6.trans k6d
  have k4d:=k5.trans k5d
  have k3d:=k4.trans k4d
  have k2d:=k3.trans k3d
  refine w7.2 (by lia) Hd (.ref p) _ bl.c hB (by lia) (S7.same scd) (k02.trans k2d) ?_
  unfold bu
  exact⟨v1,v2,v3,v4,v5,⟨p,dx,rfl,S7.fresh hp,hd'⟩,ao.keep k2d _ ev1,ao.keep k3d _ ev2,ao.keep k4d _ ev3,gw.keep2 k5d.two _ ev4,ao.keep k6d _ ev5⟩
end
end
section
open Vbemac (Bytes Toks SIGNS KEYS peek place text isSign isKey expr newName anyName DEEP stmt stmts)
theorem j4l_:dP "block" (text "block"):=[005]
theorem litUnder:dP "under" (text "under"):=[005]
theorem litGroup:dP "group" (text "group"):=[005]
section
variable {H0 H:Hp}{r q kd fn:Addr}{ds bl:eA}{n:Nat}{t:Toks}{Kn:Vbemac.Known}{β:Type}{E:XK}{Q:VK}{Qe:Nat->Vbemac.Pos->Prop}
theorem j43_ {v:Str}{s:String}(lit:dP v (text s)) (S:bP a H r q kd fn ds bl n t Kn) (hb:peek t= .bad->fw a.c_Fault E H 1 (place t)) (no:peek t≠ .bad->isKey t s=false->Q (.bl false) H)
  (yes:isKey t s=true-> ∀H' t',t=t.take 1++t'->t'.length+1=t.length->t.drop 1=t'->bP a H' r q kd fn ds bl (n+1) t' Kn->az (br r kd fn ds bl) H H'->Q (.bl true) H'):um_ a [.ref r, .str v] H Q E:=by
 rw[00]
 refine⟨r,q,kd,fn,ds,bl,n,(x,xp),t',v,rfl,S.rd,hb,fun nb e=>?_,fun nb e H' hp=>?_⟩
 ·rw[cA (x:=v) tok lit] at e
  exact no nb e
 ·rw[cA (x:=v) tok lit] at e
  have ex:x= .word (text s):=beq_iff_eq.mp e
  exact yes e H' t' rfl rfl rfl [066] (bt hp)
theorem j7n_ {v:Str}{s:String}(lit:gF v (text s)) (S:bP a H r q kd fn ds bl n t Kn) (hb:peek t= .bad->fw a.c_Fault E H 1 (place t)) (no:peek t≠ .bad->isSign t s=false->Q (.bl false) H)
  (yes:isSign t s=true-> ∀H' t',t'.length+1=t.length->t.drop 1=t'->bP a H' r q kd fn ds bl (n+1) t' Kn->az (br r kd fn ds bl) H H'->Q (.bl true) H'):um_ a [.ref r, .str v] H Q E:=by
 rw[00]
 refine⟨r,q,kd,fn,ds,bl,n,(x,xp),t',v,rfl,S.rd,hb,fun nb e=>?_,fun nb e H' hp=>?_⟩
 ·rw[cq (x:=v) tok lit] at e
  exact no nb e
 ·rw[cq (x:=v) tok lit] at e
  have ex:x= .sign (text s):=beq_iff_eq.mp e
  exact yes e H' t' rfl rfl [066] (bt hp)
end
def blkGo (f:Nat) (Kn:Vbemac.Known) (B:Vbemac.Blocks) (m:Option Bytes) (buy:Bool):Vbemac.P (Vbemac.Stmt×Vbemac.Known×Vbemac.Blocks):=
 Vbemac.key "zone">>=fun _=>expr f DEEP Kn>>=fun z=>Vbemac.key "price">>=fun _=>expr f DEEP Kn>>=fun p=>Vbemac.key "amount">>=fun _=>newName Kn>>=fun x=>Vbemac.sign ":">>=fun _=>expr f DEEP (Kn.with x)>>=fun q=>
  Vbemac.behind "under" (Vbemac.knownBlock B)>>=fun u=>Vbemac.behind "group" (expr f DEEP Kn)>>=fun g=>Vbemac.sign ";">>=fun _=>pure (.block m buy z p x q u g,Kn,moreB m B)
theorem W_amount {β:Type}{f:Nat}{Kn:Vbemac.Known}{g:Bytes->Vbemac.Exp->Vbemac.P β}{t:Toks}{Ro:β->Toks->Prop}{Qe:Nat->Vbemac.Pos->Prop}(hs: ∀x e,bA (g x e)) (h:W (Vbemac.key "amount">>=fun _=>newName Kn>>=fun x=>Vbemac.sign ":">>=fun _=>expr f DEEP (Kn.with x)>>=fun e=>g x e) t Ro Qe):
  W2 (uz_ f Kn) t (fun e t'=>W (g e.1 e.2) t' Ro Qe) Qe:=by
 unfold W2 uz_
 rw[aK] at h ⊢
 refine h.mono (fun u t1 h=>?_) fun _ _ z=>z
 rw[aK] at h ⊢
 refine h.mono (fun x t2 h=>?_) fun _ _ z=>z
 rw[aK] at h ⊢
 refine h.mono (fun u t3 h=>?_) fun _ _ z=>z
 have h:=W2.of (fun e=>hs x e) h
 rw[aK]
 exact h
theorem j7f_ {B:Vbemac.Blocks}{x:Vbemac.Tok}{xp:Vbemac.Pos}{t:Toks}(nb:x≠ .bad) (en:dv x=false) (g:Option Bytes->Bool->Vbemac.P (Vbemac.Stmt×Vbemac.Known×Vbemac.Blocks)) {Ro:Vbemac.Stmt×Vbemac.Known×Vbemac.Blocks->Toks->Prop}{Qe:Nat->Vbemac.Pos->Prop}
  (h:W (Vbemac.maybeName B>>=fun m=>Vbemac.side>>=fun b=>g m b) ((x,xp)::t) Ro Qe):W Vbemac.side ((x,xp)::t) (fun b t'=>W (g none b) t' Ro Qe) Qe:=by
 by_cases c:isKey ((x,xp)::t) "sell"=true\/isKey ((x,xp)::t) "buy"=true
 ·have e:Vbemac.maybeName B ((x,xp)::t)= .ok (none,(x,xp)::t):=by unfold Vbemac.maybeName;rw[if_pos c]
  rw[aK,dJ e,aK] at h
  exact h
 ·have e:Vbemac.maybeName B ((x,xp)::t)=(Vbemac.fail 2:Vbemac.P (Option Bytes)) ((x,xp)::t):=by
   unfold Vbemac.maybeName
   rw[if_neg c]
   cases x with
   |word u=>
    rw[bM] at en
    rw[044]
    unfold Vbemac.blockName
    rw[cC,if_pos hkw]
    rfl
   |num m=>rfl
   |sign s=>rfl
   |eof=>rfl
   |bad=>exact absurd rfl nb
  rw[aK] at h
  have h:=bQ e nb h
  have e2:Vbemac.side ((x,xp)::t)=(Vbemac.fail 2:Vbemac.P Bool) ((x,xp)::t):=by
   unfold Vbemac.side
   rw[if_neg fun z=>c (.inl z),if_neg fun z=>c (.inr z)]
  have e3:Vbemac.side ((x,xp)::t)= .error (2,place ((x,xp)::t)):=by rw[e2];unfold Vbemac.fail;rw[if_neg (show¬peek ((x,xp)::t)= .bad from nb)]
  rw[ux_ e3]
  exact h
theorem maybe_is {B:Vbemac.Blocks}{u:Bytes}{xp:Vbemac.Pos}{t:Toks}(hkw:KEYS.contains u=false):Vbemac.maybeName B ((.word u,xp)::t)=if B.contains u=true then Vbemac.fail 4 ((.word u,xp)::t) else .ok (some u,t):=by
 have c: ¬(isKey ((.word u,xp)::t) "sell"=true\/isKey ((.word u,xp)::t) "buy"=true):=fun z=>z.elim (fun z=>by
  have:Vbemac.Tok.word u= .word (text "sell"):=beq_iff_eq.mp z
  cases this
  exact absurd hkw [02]) fun z=>by
  have:Vbemac.Tok.word u= .word (text "buy"):=beq_iff_eq.mp z
  cases this
  exact absurd hkw [02]
 unfold Vbemac.maybeName
 rw[if_neg c]
 unfold Vbemac.blockName
 rw[cC,if_neg [0006]]
 dsimp only
 by_cases h:B.contains u=true
 ·rw[if_pos h,if_pos h]
  rfl
 ·rw[if_neg h,if_neg h]
theorem bP.putB {a:cu}{H:Hp}{r q kd fn:Addr}{ds bl:eA}{n:Nat}{t:Toks}{Kn:Vbemac.Known}{c:List (bW×V)}(S:bP a H r q kd fn ds bl n t Kn):bP a (bg H bl.p (.dK c)) r q kd fn ds (bl.at_ c) n t Kn:=by
 rw[01]
 rw[012]
 rw[07]
 have hy:=S.ds_
 have e:=S.bl_
 rw[025]
 have nr:r≠bl.p:=fun w=>by rw[w,e] at er;cases er
 have nq:q≠bl.p:=fun w=>by rw[w,e] at h1;cases h1
 refine⟨[059],S.wh,⟨⟨kk,by rw[ag d3];exact k1,k2,k3⟩,⟨ff,by rw[ag d5];exact f1,f2⟩,S.kn.len,⟨ff,by rw[ag d5];exact f1,S.kn.fl f1⟩⟩,(by rw[ag d6];exact hy),ah,S.dif,fun b xs h=>?_⟩
 ·rw[ag fun w=>by rw[w,e] at ex;cases ex]
  exact ex
 ·have e2:=S.fr b xs h
  rw[034]
  exact e2
section
variable {k:Nat}
theorem ok_t (T:Txt K mg a) (XC:XT K a) (hk:7<=k)
  (G_l:aJ P w K mg base (cH P w) k a.f_l a.fd_l ["reader","word"] (j0i_ a))
  (G_C:aJ P w K mg base (cH P w) k a.f_C a.fd_C ["reader","word"] (yg_ a))
  (G_S:aJ P w K mg base (cH P w) k a.f_S a.fd_S ["reader"] (vp_ a)):
  aJ P w K mg base (cH P w) (k+1) a.f_t a.fd_t ["reader"] (spSt0 a fun t=>isKey t "let"=false/\isKey t "for"=false/\isKey t "if"=false/\isKey t "block"=true):=by
 rw[03]
 have G_ac:=wf_ (P:=P) (w:=w) (base:=base) T XC
 have G_al:=fQ (P:=P) (w:=w) (base:=base) T XC
 have G_V:=wz_ (P:=P) (w:=w) (base:=base) T XC
 have G_an:=ok_an (P:=P) (w:=w) (base:=base) T XC
 have G_R:=ok_R (P:=P) (w:=w) (base:=base) T XC
 have G_aC:=j1f_ (P:=P) (w:=w) (base:=base) T
 refine fh T.d_t.F sc_t [04] [03]
 ·obtain⟨r,q,kd,fn,ds,bl,n,t,Kn,B,d,fuel,rfl,_⟩:=h
  rfl
 ·obtain⟨r,q,kd,fn,ds,bl,n,t,Kn,B,d,fuel,rfl,⟨c1,c2,c3,hkw⟩,hf,S,hB,hBl,hW⟩:=h
  refine⟨_,(ae [000]
    (ae (aE (i:=1) sc_t.nd rfl [05] pe_non)
    (ae (fY (aZ (bd (a0 (pv 0) T.cl_Reader T.d_ac.c G_ac [01] aj)) (ai (aE (i:=1) sc_t.nd rfl [05] (aA (pv 0) T.cl_Reader T.d_al.c G_al [01] aj [019]))) aG))
    (ae (aE (i:=2) sc_t.nd rfl [05] (al G_R [01] (by rfl) T.d_R.c aj [009]))
    (ae (aE (i:=3) sc_t.nd rfl [05] [083])
    (ae (aE (i:=4) sc_t.nd rfl [05] [083])
    (ae (aE (i:=5) sc_t.nd rfl [05] (al G_S [01] (by rfl) T.d_S.c aj [009]))
    (ae (aE (i:=6) sc_t.nd rfl [05] pe_non)
    (ae (fY (aZ (bd (aA (pv 0) T.cl_Reader T.d_V.c G_V [01] aj (aa ax af))) (ai (aE (i:=6) sc_t.nd rfl [05] (al G_an [01] (by rfl) T.d_an.c aj [009]))) aG))
    (ae (aE (i:=7) sc_t.nd rfl [05] (al G_C [01] (by rfl) T.d_C.c aj [038]))
    (ae [000]
    (ae (fY (aZ (fe (j28_ (pv 1))) (ai (ur_ (fG hr) [07] (pv 1) pe_bl rfl)) aG))
    (ai (ay (cv T.mk_Block G_aC [01] (by rfl) T.mg_Block T.d_aC.c.b .nil aQ (aa (pv 1) (aa (pv 2) (aa (pv 3) (aa (pv 4) (aa (pv 5) (aa (pv 6) (aa (pv 7) af)))))))))))))))))))))),?_⟩
  rw[00]
  obtain rfl:x= .word (text "block"):=beq_iff_eq.mp hkw
  rw[015]
  rw[List.length_cons] at hf room hBl
  rw[000]
  have hW:=W3_as (j0c_ c1 c2 c3 hkw) hW
  unfold W3 at hW
  rw[026]
  refine ja_ j4l_ S fun H1 S1 k1=>?_
  obtain⟨⟨y,yp⟩,ty,rfl,toky,hpky,hply,_⟩:=S1.wh.first
  have hb1:y= .bad->fw a.c_Fault E H1 1 yp:=fun b=>by
   rw[aK] at hW
   exact(vz_ B).at_bad (hpky.trans b) hW H1 k1
  refine⟨fun σ' H'=> ∃(m:Option Bytes) (n2:Nat) (t2:Toks),σ'=[some (.ref r),some (gR m),none,none,none,none,none,none]/\t2.length<=((y,yp)::ty).length/\bP a H' r q kd fn ds bl n2 t2 Kn/\az (br r kd fn ds bl) H H'/\(∀u,m=some u->t2.length<((y,yp)::ty).length)/\
   W Vbemac.side t2 (fun b t3=>W (blkGo f Kn B m b) t3 (fun s t'=>(peek t'= .bad->QE a r kd fn ds bl H E 1 (place t'))/\(t'.length<((y,yp)::ty).length+1-> ∀H' v n' c',Bk [0019] s.2.2->c'.length+t'.length<=4000->bP a H' r q kd fn ds [0019] n' t' s.2.1->az (br r kd fn ds bl) H H'->bu a (br r kd fn ds bl) H' s.1 v->Q v H')) (QE a r kd fn ds bl H E)) (QE a r kd fn ds bl H E),?_,?_⟩
  ·obtain⟨dr1,er1⟩:=S1.rd.ins
   refine⟨r,dr1,_,rfl,er1,rfl,r,q,kd,fn,ds,bl,n+1,(y,yp),ty,rfl,S1.rd,hb1,fun nb=>[016]⟩
   refine bB (fun en=>?_) fun en=>?_
   ·obtain⟨u,rfl⟩: ∃u,y= .word u:=by
     cases y with
     |word u=>exact⟨u,rfl⟩
     |num m=>cases en
     |sign s=>cases en
     |eof=>cases en
     |bad=>cases en
    have en':dv (.word u)=true:=en
    rw[bM] at en'
    have hkw':KEYS.contains u=false:=by cases h:KEYS.contains u;rfl;rw[h] at en';cases en'
    have em:=maybe_is (B:=B) (xp:=yp) (t:=ty) hkw'
    rw[aK] at hW
    refine⟨r,dr1,_,rfl,er1,rfl,r,_,dr1,_,_,rfl,er1,T.cl_Reader,T.no_Reader_blocks,rfl,?_⟩
    refine⟨r,q,kd,fn,ds,bl,bl.p,n+1,(.word u,yp),ty,bl.c,rfl,S1.rd,S1.bl_,hb1,fun _ z=>(by rw[en] at z;cases z),fun u' e1 _ hu=>?_,fun u' e1 _ hu H2 hp2=>?_⟩
    ·cases e1
     have hu:B.contains u=true:=(hB u).symm.trans hu
     rw[if_pos hu] at em
     exact bQ em [003] hW H1 k1
    ·cases e1
     have hu:B.contains u=false:=(hB u).symm.trans hu
     rw[if_neg (by rw[hu];exact Bool.false_ne_true)] at em
     rw[dJ em,aK] at hW
     exact⟨some u,n+1+1,ty,rfl,Nat.le_succ _,S1.past [014] hp2,k1.trans (bt hp2),fun _ _=>Nat.lt_succ_self _,hW⟩
   ·exact⟨none,n+1,_,rfl,Nat.le_refl _,S1,k1,(fun _ z=>nomatch z),j7f_ nb en (fun m b=>blkGo f Kn B m b) hW⟩
  rintro σ2 H2 ⟨m,n2,t2,rfl,l2,S2,k02,lm,hS⟩
  refine⟨r,q,kd,fn,ds,bl,n2,t2,Kn,rfl,S2,hS.mono (fun b t3 w3 H3 l3 S3 k3=>?_) fun _ _ z H' k'=>z H' (k02.trans k')⟩
  have k03:=k02.trans k3
  unfold blkGo at w3
  have h3:=qt_ (fun _=>(c9 "price").bind) w3
  refine⟨r,q,kd,fn,ds,bl,_,t3,Kn,f,_,_,rfl,litZone,S3,by rw[List.length_cons] at *; lia,h3.mono (fun e1 t4 nb4 w4 l4 H4 v1 n4 S4 k4 ev1=>?_) fun _ _ z H' k'=>z H' (k03.trans k')⟩
  have k04:=k03.trans k4
  have h4:=qt_ (fun _=>(c9 "amount").bind) w4
  refine⟨r,q,kd,fn,ds,bl,_,t4,Kn,f,_,_,rfl,j49_,S4,by rw[List.length_cons] at *; lia,h4.mono (fun e2 t5 nb5 w5 l5 H5 v2 n5 S5 k5 ev2=>?_) fun _ _ z H' k'=>z H' (k04.trans k')⟩
  have k05:=k04.trans k5
  have h5:=W_amount (fun _ _=>(fB "under" _).strict fun _=>(fB "group" _).strict fun _=>(bC ";").bind) w5
  refine⟨r,q,kd,fn,ds,bl,_,t5,Kn,f,rfl,S5,by rw[List.length_cons] at *; lia,h5.mono (fun e3 t6 nb6 w6 l6 H6 v3 n6 S6 k6 ev3=>?_) fun _ _ z H' k'=>z H' (k05.trans k')⟩
  have k06:=k05.trans k6
  refine⟨fun σ' H'=> ∃(un:Option Bytes) (n7:Nat) (t7:Toks),σ'=[some (.ref r),some (gR m),some (sideV b),some v1,some v2,some v3,some (gR un),none]/\t7.length<=t6.length/\bP a H' r q kd fn ds bl n7 t7 Kn/\az (br r kd fn ds bl) H6 H'/\
   W (Vbemac.behind "group" (expr f DEEP Kn)>>=fun g=>Vbemac.sign ";">>=fun _=>pure (.block m b e1 e2 e3.1 e3.2 un g,Kn,moreB m B):Vbemac.P (Vbemac.Stmt×Vbemac.Known×Vbemac.Blocks)) t7 (fun s t'=>(peek t'= .bad->QE a r kd fn ds bl H E 1 (place t'))/\(t'.length<((y,yp)::ty).length+1-> ∀H' v n' c',Bk [0019] s.2.2->c'.length+t'.length<=4000->bP a H' r q kd fn ds [0019] n' t' s.2.1->az (br r kd fn ds bl) H H'->bu a (br r kd fn ds bl) H' s.1 v->Q v H')) (QE a r kd fn ds bl H E),?_,?_⟩
  ·obtain⟨dr6,er6⟩:=S6.rd.ins
   refine⟨r,dr6,_,rfl,er6,rfl,?_⟩
   refine j43_ litUnder S6 (fun b=>absurd b nb6) (fun nb no=>⟨_,rfl,cR ?_⟩) fun yes H7 t7 _ l7 d7 S7 k7=>⟨_,rfl,dQ ?_⟩
   ·rw[aK,dJ (j0x_ no)] at w6
    exact⟨none,n6,t6,rfl,Nat.le_refl _,S6,az.refl,w6⟩
   ·rw[aK] at w6
    have w6:=du (j1s_ yes) w6
    rw[aK] at w6
    have ek:Vbemac.key "under" t6= .ok ((),t7):=by unfold Vbemac.key;rw[if_pos yes,d7]
    rw[dJ ek,aK] at w6
    refine⟨r,q,kd,fn,ds,bl,_,t7,Kn,B,rfl,S7,hB,w6.mono (fun u t8 w8 H8 l8 S8 k8=>?_) fun _ _ z H' k'=>z H' ((k06.trans k7).trans k')⟩
    exact⟨some u,_,t8,rfl,by lia,S8,k7.trans k8,w8⟩
  rintro σ7 H7 ⟨un,n7,t7,rfl,l7,S7,k7,w7⟩
  have k07:=k06.trans k7
  have h7:=W2.of (fun _=>(bC ";").bind) w7
  refine⟨r,q,kd,fn,ds,bl,_,t7,Kn,f,_,_,rfl,litGroup,S7,by rw[List.length_cons] at *; lia,h7.mono (fun e4 t8 nb8 w8 l8 H8 v4 n8 S8 k8 ev4=>?_) fun _ _ z H' k'=>z H' (k07.trans k')⟩
  have k08:=k07.trans k8
  obtain⟨dr8,er8⟩:=S8.rd.ins
  refine⟨r,dr8,_,rfl,er8,rfl,?_⟩
  refine dH litSc S8 (fun k x z=>z H8 k08) w8 fun H9 t9 l9 S9 k9 w9=>?_
  have k09:=k08.trans k9
  refine⟨fun σ' H'=> ∃c',σ'=[some (.ref r),some (gR m),some (sideV b),some v1,some v2,some v3,some (gR un),some v4]/\Bk [0019] (moreB m B)/\c'.length+t9.length<=4000/\bP a H' r q kd fn ds [0019] (n8+1) t9 Kn/\az (br r kd fn ds bl) H9 H',?_,?_⟩
  ·refine [016]
   cases m with
   |none=>
    rw[008]
    exact⟨bl.c,rfl,hB,by rw[List.length_cons] at *; lia,S9,az.refl⟩
   |some u=>
    rw[027]
    obtain⟨dr9,er9⟩:=S9.rd.ins
    have lu:=lm u rfl
    refine⟨r,_,dr9,_,_,rfl,er9,T.cl_Reader,T.no_Reader_blocks,rfl,bl.p,_,rfl, .inl ⟨bl.c,nk u,S9.bl_,rfl,Nat.lt_of_le_of_lt (show bl.c.length<=4000 by rw[List.length_cons] at *; lia) [06],rfl⟩,?_⟩
    refine⟨dI bl.c (nk u) (.bl true),rfl,fun v=>?_,?_,S9.putB,fun b' o e m'=>by rw[ag fun z=>m' (.inr (.inr [0010]))];exact e⟩
    ·show has (dI bl.c (nk u) (.bl true)) v=(u::B).contains v
     rw[j2q_,List.contains_cons,hB v]
     congr 1
     rw[Bool.eq_iff_iff,decide_eq_true_iff,beq_iff_eq]
    ·have:=eZ bl.c (nk u) (.bl true)
     rw[List.length_cons] at*
     lia
  rintro σa Ha ⟨c',rfl,hBa,hca,Sa,ka⟩
  rw[006]
  refine⟨p,dx,_,_,_,_,_,_,_,rfl,ah,fun Hd hd' kd'=>⟨rfl,?_⟩⟩
  rw[007]
  have k8d:az (br r kd fn ds bl) H8 Hd:=k9.trans (ka.trans [0002])
  have k6d:=k7.trans (k8.trans k8d)
  have k5d:=k6.trans k6d
  have k4d:=k5.trans k5d
  refine w9.2 (by rw[List.length_cons] at *; lia) Hd (.ref p) _ c' hBa hca (Sa.same scd) (k04.trans k4d) ?_
  unfold bu
  exact⟨v1,v2,v3,v4,⟨p,dx,rfl,Sa.fresh hp,hd'⟩,ao.keep k4d _ ev1,ao.keep k5d _ ev2,AmAt.keep2 k6d.two ev3,gw.keep2 k8d.two _ ev4⟩
end
end
section
open Vbemac (Bytes Toks SIGNS KEYS peek place text isSign isKey expr newName anyName DEEP stmt stmts)
structure IsLet (K:PySem.W.Frag) (a:cu):Prop where
 t1:TyK K a.c_Let
 t2:TyK K a.c_For
 t3:TyK K a.c_If
 t4:TyK K a.c_Step
 t5:TyK K a.c_Block
 k1:PySem.W.kitOne K (.ref a.c_Let) (.ref a.c_Let)=some true
 k2:PySem.W.kitOne K (.ref a.c_For) (.ref a.c_Let)=some false
 k3:PySem.W.kitOne K (.ref a.c_If) (.ref a.c_Let)=some false
 k4:PySem.W.kitOne K (.ref a.c_Step) (.ref a.c_Let)=some false
 k5:PySem.W.kitOne K (.ref a.c_Block) (.ref a.c_Let)=some false
theorem IsLet.of {K:PySem.W.Frag}{a:cu}{M:Addr->Prop}{H:Hp}{s:Vbemac.Stmt}{v:V}(I:IsLet K a) (h:bu a M H s v): ∃C,iu K H v (.ref C)/\PySem.W.kitOne K (.ref C) (.ref a.c_Let)=some (letOf s).isSome:=by
 cases s with
 |bind x e=>
  unfold bu at h
  obtain⟨u,⟨p,dx,rfl,m,z⟩,_⟩:=h
  exact⟨_,I.t1.of z,I.k1⟩
 |loop x lo hi l=>
  unfold bu at h
  obtain⟨u1,u2,q,us,⟨p,dx,rfl,m,z⟩,_⟩:=h
  exact⟨_,I.t2.of z,I.k2⟩
 |cond c x y=>
  unfold bu at h
  obtain⟨u,q,us,g,ws,⟨p,dx,rfl,m,z⟩,_⟩:=h
  exact⟨_,I.t3.of z,I.k3⟩
 |step b z qu p top am=>
  unfold bu at h
  obtain⟨u1,u2,u3,u4,u5,⟨p,dx,rfl,m,z⟩,_⟩:=h
  exact⟨_,I.t4.of z,I.k4⟩
 |block nm b z p x am un g=>
  unfold bu at h
  obtain⟨u1,u2,u3,u4,⟨p,dx,rfl,m,z⟩,_⟩:=h
  exact⟨_,I.t5.of z,I.k5⟩
theorem bP.forgetG {a:cu}{H:Hp}{r q kd fn:Addr}{ds bl:eA}{n:Nat}{t:Toks}{K1 K2:Vbemac.Known}{u:Bytes}(S:bP a H r q kd fn ds bl n t K1) (hc:K1.values.contains u=true) (hf:K2.funs=K1.funs) (hl:K2.values.length+1=K1.values.length)
  (hv: ∀v,K2.values.contains v=(!decide (v=u)&&K1.values.contains v)) {kk:List (bW×V)}(e:H kd=some (.dK kk)):has kk u=true/\bP a (bg H kd (.dK (eE kk (nk u)))) r q kd fn ds bl n t K2:=by
 rw[01]
 rw[012]
 obtain⟨kk',k1,k2,k3⟩:=S.kn.vals
 rw[08]
 rw[028]
 obtain rfl:kk'=kk:=by rw[e] at k1;cases k1;rfl
 rw[025]
 have nr:r≠kd:=fun w=>by rw[w,e] at er;cases er
 have nq:q≠kd:=fun w=>by rw[w,e] at h1;cases h1
 have hu:has kk' u=true:=by rw[k3];exact hc
 have len:=S.kn.len
 refine⟨hu,[059],S.wh,⟨⟨_,ah,?_,fun v=>?_⟩,⟨ff,by rw[ag d1.symm];exact f1,by rw[hf];exact f2⟩,by lia,⟨ff,by rw[ag d1.symm];exact f1,(by rw[hf];exact S.kn.fl f1)⟩⟩,(by rw[ag d2.symm];exact hy),(by rw[ag d3.symm];exact hz),S.dif,fun b xs h=>?_⟩
 ·rw[ag fun w=>by rw[w,e] at ex;cases ex]
  exact ex
 ·have:(eE kk' (nk u)).length<kk'.length:=by
   unfold eE
   refine Nat.lt_of_le_of_ne (List.length_filter_le _ _) fun w=>?_
   rw[List.length_filter_eq_length_iff] at w
   unfold has cP at hu
   rw[Option.isSome_map,List.find?_isSome] at hu
   obtain⟨p,hp,e1⟩:=hu
   have:=w p hp
   simp only[decide_eq_true_eq] at this e1
   exact this e1
  lia
 ·rw[j5k_,k3,hv]
 ·have e2:=S.fr b xs h
  rw[034]
  exact e2
def Kof (Kn:Vbemac.Known) (ss:List Vbemac.Stmt):Vbemac.Known:=⟨(jt_ ss).reverse++Kn.values,Kn.funs⟩
theorem j5b_ {x:Bytes}{rest V:List Bytes}(h1:x∉rest) (h2:x∉V) (v:Bytes):(rest.reverse++V).contains v=(!decide (v=x)&&((x::rest).reverse++V).contains v):=by
 by_cases e:v=x
 ·subst e
  rw[decide_eq_true rfl]
  show _=false
  rw[Bool.eq_false_iff]
  intro z
  rcases List.mem_append.mp (List.contains_iff_mem.mp z) with z|z
  ·exact h1 (List.mem_reverse.mp z)
  ·exact h2 z
 ·rw[decide_eq_false e]
  show _=((x::rest).reverse++V).contains v
  rw[Bool.eq_iff_iff,List.contains_iff_mem,List.contains_iff_mem,List.mem_append,List.mem_append,List.mem_reverse,List.mem_reverse,List.mem_cons]
  constructor
  ·rintro(z|z)
   ·exact .inl (.inr z)
   ·exact .inr z
  ·rintro((z|z)|z)
   ·exact absurd z e
   ·exact .inl z
   ·exact .inr z
inductive spBr (a:cu) (m:Nat) (vs:List V) (H:Hp) (Q:VK) (E:XK):Prop
 |mk (r q kd fn:Addr) (ds bl:eA) (n:Nat) (t:Toks) (Kn:Vbemac.Known) (B:Vbemac.Blocks) (d fuel:Nat) (_:vs=[.ref r, .int d]) (_:d<=6) (_:7<=d+m) (_:16*t.length<=fuel) (_:bP a H r q kd fn ds bl n t Kn) (_:Bk bl B) (_:bl.c.length+t.length<=4000) (_:W (Vbemac.sign "{">>=fun _=>stmts fuel (6-d) Kn B) t (fun l t'=>t'.length<t.length-> ∀H' v n' c',Bk (bl.at_ c') l.2->c'.length+t'.length<=4000->bP a H' r q kd fn ds (bl.at_ c') n' t' Kn->az (br r kd fn ds bl) H H'->(∃us,cn (br r kd fn ds bl) H' us v/\bo a (br r kd fn ds bl) H' l.1 us)->Q v H') (QE a r kd fn ds bl H E)):spBr a m vs H Q E
inductive spStD (a:cu) (m:Nat) (ok:Toks->Prop) (vs:List V) (H:Hp) (Q:VK) (E:XK):Prop
 |mk (r q kd fn:Addr) (ds bl:eA) (n:Nat) (t:Toks) (Kn:Vbemac.Known) (B:Vbemac.Blocks) (d fuel:Nat) (_:vs=[.ref r, .int d]) (_:d<=6) (_:7<=d+m) (_:ok t) (_:16*t.length+14<=fuel) (_:StB a r q kd fn ds bl n t Kn B H Q E (stmt fuel (6-d) Kn B)):spStD a m ok vs H Q E
abbrev StL (a:cu) (M:Addr->Prop) (H:Hp) (ss:List Vbemac.Stmt) (us:List V):Prop:=Paired (fun s v=>bu a M H s v) ss us
theorem stL_at {a:cu}{M:Addr->Prop}{H:Hp} : ∀ {ss:List Vbemac.Stmt}{us:List V},StL a M H ss us->bo a M H (toS ss .nil) us
 |_,_, .nil=>by unfold toS bo;rfl
 |_,_, .cons h t=>by unfold toS bo;exact⟨_,_,rfl,h,stL_at t⟩
section
variable {k m:Nat}
theorem ok_k (T:Txt K mg a) (XC:XT K a) (IL:IsLet K a) (hk:7<=k)
  (G_5:aJ P w K mg base (cH P w) k a.f_5 a.fd_5 ["reader","depth"] (spStD a m fun _=>True)):
  aJ P w K mg base (cH P w) (k+1) a.f_k a.fd_k ["reader","depth"] (spBr a m):=by
 rw[03]
 rw[05]
 have G_w:=gv (P:=P) (w:=w) (base:=base) T
 refine fh T.d_k.F sc_k [04] [03]
 ·obtain⟨r,q,kd,fn,ds,bl,n,t,Kn,B,d,fuel,rfl,_⟩:=h
  rfl
 ·obtain⟨r,q,kd,fn,ds,bl,n,t,Kn,B,d,fuel,rfl,hd,hm,hf,S,hB,hBl,hW⟩:=h
  refine⟨_,(ae [000]
    (ae (aE (i:=2) sc_k.nd rfl [05] (be af))
    (ae (dR PassesOwn.leaving (eS [010]) (ai (au (cr PySem.F.plainAttrs_list PySem.F.slot_list_append PySem.F.type_list_append bR (pv 2) (aa (al G_5 [01] (by rfl) T.d_5.c aj [012]) af)))))
    (ae [000]
    (ae (gX PassesOwn.leaving rfl (fX (pv 2)) (dS (i:=3) sc_k.nd rfl [05]) (ai (aZ (bd (aY cb (by rfl) T.n_isinstance boot_isinstance (aa (pv 3) (aa (de (by rfl) T.mg_Let) af)))) (ai (au (aA (pv 0) T.cl_Reader T.d_w.c G_w [01] aQ (aa (aI (pv 3) rfl) af)))) aG)))
    (ai (ay (pv 2)))))))),?_⟩
  rw[015]
  rw[004]
  refine dH litLb S [072] hW fun H1 t1 l1 S1 k1 hW1=>?_
  refine [0021]
  have nL: ¬br r kd fn ds bl L:=S1.fresh hL
  have nq:L≠q:=fun z=>by obtain⟨as,all,h1,_⟩:=S1.rd.toks;rw[z,h1] at hL;cases hL
  have H0L:H L=none:=by
   cases e:H L with
   |none=>rfl
   |some o=>rw[k1 L o e nL] at hL;cases hL
  have ap: ∀zs,¬bl.x L zs:=fun zs z=>by rw[S1.fr L zs z] at hL;cases hL
  have S2:bP a (bg H1 L (.lst [])) r q kd fn ds ((bl.at_ bl.c).more L []) (n+1) t1 Kn:=(S1.same (bf hL)).more ah
  have k02:az (br r kd fn ds bl) H (bg H1 L (.lst [])):=k1.trans (OS.aW.keeps (bf hL))
  let Ro:Vbemac.Stmts×Vbemac.Blocks->Toks->Prop:=fun l t'=>t'.length<t.length-> ∀H' v n' c',Bk [0019] l.2->c'.length+t'.length<=4000->bP a H' r q kd fn ds [0019] n' t' Kn->az (br r kd fn ds bl) H H'->(∃us,cn (br r kd fn ds bl) H' us v/\bo a (br r kd fn ds bl) H' l.1 us)->Q v H'
  let Iv:List Vbemac.Stmt->List V->Vbemac.Known->Vbemac.Blocks->List (bW×V)->Nat->Toks->Nat->Hp->Prop:=fun ss us K1 B1 c1 n1 t1 f1 H'=>us.length+t1.length<t.length/\bP a H' r q kd fn ds ((bl.at_ c1).more L us) n1 t1 K1/\Bk (bl.at_ c1) B1/\c1.length+t1.length<=4000/\16*t1.length+15<=f1/\
   az (br r kd fn ds bl) H H'/\StL a (br r kd fn ds (bl.more L us)) H' ss us/\jq_ Kn ss K1/\W (stmts f1 (6-d) K1 B1) t1 (fun l t'=>Ro (toS ss l.1,l.2) t') (QE a r kd fn ds bl H E)
  refine⟨fun mm σ H'=> ∃(ss:List Vbemac.Stmt) (us:List V) (K1:Vbemac.Known) (B1:Vbemac.Blocks) (c1:List (bW×V)) (n1:Nat) (t1:Toks) (f1:Nat),mm=t1.length/\σ=[some (.ref r),some (.int d),some (.ref L),none]/\Iv ss us K1 B1 c1 n1 t1 f1 H',
   ⟨_,[],[],Kn,B,bl.c,_,t1,fuel,rfl,rfl,by show 0+t1.length<_;lia,S2,hB,by lia,by lia,k02, .nil,jq_.nil,hW1⟩,?_⟩
  rintro mm σ H3 ⟨ss,us,K1,B1,c1,n3,t3,f3,rfl,rfl,ul,S3,hB3,hc3,hf3,k03,sv,lo,w3⟩
  obtain⟨f3,rfl⟩: ∃f',f3=f'+1:=⟨f3-1,by lia⟩
  rw[033]
  refine⟨r,dr3,_,rfl,er3,rfl,?_⟩
  refine j40_ litRb S3 (fun b=>(vh_ _ _ _ _).at_bad b w3 H3 k03) fun nb=>[016]
  cases hs:isSign t3 "}" with
  |false=>
   refine⟨fun σ' H'=> ∃(ss:List Vbemac.Stmt) (us:List V) (K1:Vbemac.Known) (B1:Vbemac.Blocks) (c1:List (bW×V)) (n1:Nat) (t1:Toks) (f1:Nat),t1.length<t3.length/\σ'=[some (.ref r),some (.int d),some (.ref L),none]/\Iv ss us K1 B1 c1 n1 t1 f1 H',?_,?_⟩
   ·rintro σ' H' ⟨ss',us',K',B',c',n',t',f',l',rfl,I'⟩
    exact⟨_,l',ss',us',K',B',c',n',t',f',rfl,rfl,I'⟩
   have w4:=du (stmts_go hs) w3
   have w4:=W_and (W3.of (fun s=>(vh_ f3 (6-d) s.2.1 s.2.2).bind) w4) (stmt_kn f3 (6-d) K1 B1 t3)
   refine⟨.inl ⟨rfl,_,cK.of S3.the⟩,?_⟩
   refine⟨r,q,kd,fn,ds,(bl.at_ c1).more L us,n3,t3,K1,B1,d,f3,rfl,hd,hm,True.intro,by lia,S3,hB3,hc3,?_⟩
   unfold W3
   refine w4.mono (fun x t4 z=>⟨fun b=>?_,fun l4 H4 v n4 c4 hB4 hc4 S4 k4 ev4=>?_⟩) fun _ _ z H' k'=>z.1 H' (k03.cut k' H0L)
   ·exact fun H' k'=>z.1.1 b H' (k03.cut k' H0L)
   have S4:bP a H4 r q kd fn ds ((bl.at_ c4).more L us) n4 t4 x.2.1:=S4
   have k04:=k03.cut k4 H0L
   refine⟨L,_,_,rfl,rfl,S4.the,Nat.lt_of_le_of_lt (show us.length<=4000 by lia) [06],?_⟩
   have w5:=z.1.2
   dsimp only at w5
   rw[aK] at w5
   refine⟨ss++[x.1],us++[v],x.2.1,x.2.2,c4,n4,t4,f3,l4,rfl,by rw[List.length_append,List.length_singleton];lia,S4.write ap nq,hB4,hc4,by lia,fun b o e m=>?_,?_,lo.snoc z.2,?_⟩
   ·rw[ag fun z=>by rw[z,H0L] at e;cases e]
    exact k04 b o e m
   ·have up:db (br r kd fn ds (bl.more L us)) (br r kd fn ds (bl.more L (us++[v]))) H4 (bg H4 L (.lst (us++[v]))):=fun b o e m=>⟨fun z=>m (qh_ z),by rw[ag fun z=>m (by rw[z];exact dm)];exact e⟩
    have up3:db (br r kd fn ds (bl.more L us)) (br r kd fn ds (bl.more L (us++[v]))) H3 (bg H4 L (.lst (us++[v]))):=fun b o e m=>up b o (k4 b o e m) m
    exact dA (Paired.mapP sv fun s v h=>bu.keep2 up3 _ h) (bu.keep2 up _ ev4)
   ·simp only[toS_snoc]
    exact w5
  |true=>
   rw[dJ (j6g_ hs)] at w3
   obtain⟨⟨x,xp⟩,t5,rfl,tok,hpk,hpl,_⟩:=S3.wh.first
   obtain rfl:x= .sign (text "}"):=beq_iff_eq.mp hs
   refine⟨r,dr3,_,rfl,er3,rfl,?_⟩
   refine at_sign litRb S3 fun H5 S5 k5=>?_
   have eK:K1=Kof Kn ss:=by
    obtain⟨v1,f1⟩:=K1
    unfold Kof
    rw[<-lo.vals,<-lo.funs]
   rw[eK] at S5
   have hR:Ro (toS ss .nil,B1) t5:=w3
   refine⟨L,rfl,⟨_,cK.of S5.the⟩,ga (K:=K) (a:=L) (xs:=us) (fun i σ H'=> ∃v:Option V,σ=[some (.ref r),some (.int d),some (.ref L),v]/\bP a H' r q kd fn ds ((bl.at_ c1).more L us) (n3+1) t5 (Kof Kn (ss.drop i))/\az (br r kd fn ds (bl.more L us)) H3 H') ⟨none,rfl,S5,k5⟩ (fun i σ H' _ ⟨_,_,S',_⟩=>cK.of S'.the) ?_ ?_⟩
   ·rintro i y σ H6 hi ⟨v,rfl,S6,k6⟩
    obtain⟨s,hs,sa⟩:=ig sv hi
    have sa6:=bu.keep2 k6.two _ sa
    have ed:ss.drop i=s::ss.drop (i+1):=by
     obtain⟨h,e⟩:=List.getElem?_eq_some_iff.mp hs
     rw[<-e]
     exact List.drop_eq_getElem_cons h
    rw[ed] at S6
    obtain⟨C,ty,kit⟩:=IL.of sa6
    refine⟨_,_,_,_,rfl,ty,kit,_,rfl,?_⟩
    cases hl:letOf s with
    |none=>
     rw[008]
     refine⟨_,rfl,?_,k6⟩
     have e:Kof Kn (s::ss.drop (i+1))=Kof Kn (ss.drop (i+1)):=by
      unfold Kof jt_
      rw[List.filterMap_cons,hl]
     rw[e] at S6
     exact S6
    |some x=>
     rw[027]
     obtain⟨dr6,er6⟩:=S6.rd.ins
     obtain⟨kb,kb1,_,_⟩:=S6.kn.vals
     obtain⟨e1,rfl⟩: ∃e1,s= .bind x e1:=by
      cases s with
      |bind y e1=>cases hl;exact⟨e1,rfl⟩
      |loop _ _ _ _=>cases hl
      |cond _ _ _=>cases hl
      |step _ _ _ _ _ _=>cases hl
      |block _ _ _ _ _ _ _ _=>cases hl
     have el:jt_ (Vbemac.Stmt.bind x e1::ss.drop (i+1))=x::jt_ (ss.drop (i+1)):=rfl
     have sub:(x::jt_ (ss.drop (i+1))).Sublist (jt_ ss):=by
      rw[<-el,<-ed]
      exact(List.drop_sublist i ss).filterMap letOf
     have nd:=sub.nodup lo.nodup
     have nin:=(List.nodup_cons.mp nd).1
     have nV:=lo.free x (sub.subset [076])
     obtain⟨hu,S7⟩:=S6.forgetG (u:=x) (K2:=Kof Kn (ss.drop (i+1))) (by
      unfold Kof
      rw[el]
      exact List.contains_iff_mem.mpr (List.mem_append.mpr (.inl (List.mem_reverse.mpr [076])))) rfl (by
      unfold Kof
      rw[el]
      simp only[List.length_append,List.length_reverse,List.length_cons]
      lia) (fun v=>by
      unfold Kof
      rw[el]
      exact j5b_ nin nV v) kb1
     unfold bu at sa6
     obtain⟨ue,⟨p,dx,rfl,mp,zp⟩,_⟩:=sa6
     refine⟨r,dr6,_,rfl,er6,rfl,p,_,dx,_,_,rfl,zp,T.cl_Let,T.no_Let_name,rfl,r,dr6,q,kd,fn,ds,_,_,x,kb,rfl,er6,kb1,hu,?_⟩
     exact⟨_,rfl,S7,k6.trans fun b o e m=>by rw[ag fun z=>m [013]];exact e⟩
   ·rintro σ H6 ⟨v,rfl,S6,k6⟩
    have ed:ss.drop us.length=[]:=by rw[<-gb sv];exact List.drop_length
    rw[ed] at S6
    have S6:bP a H6 r q kd fn ds ((bl.at_ c1).more L us) (n3+1) t5 Kn:=S6
    refine(hR (by rw[List.length_cons] at ul;lia) H6 (.ref L) _ c1 hB3 (by rw[List.length_cons] at hc3;lia) S6.less (k03.cut k6 H0L) ⟨us,⟨L,rfl,nL,S6.the⟩,stL_at (Paired.mapP sv fun s v h=>bu.keep2 (fun b o e m=>⟨fun z=>m (b8 z),k6 b o e m⟩) _ h)⟩)
end
end
section
open Vbemac (Bytes Toks SIGNS KEYS peek place text isSign isKey expr newName anyName DEEP stmt stmts)
theorem litFor:dP "for" (text "for"):=[005]
section
variable {H:Hp}{r q kd fn:Addr}{ds bl:eA}{n:Nat}{t:Toks}{Kn:Vbemac.Known}{β:Type}{E:XK}{Q:VK}{Qe:Nat->Vbemac.Pos->Prop}
theorem db_step {d:Nat}{g:Nat->Vbemac.P β}{Ro:β->Toks->Prop}(hd:d<=6) (S:bP a H r q kd fn ds bl n t Kn) (nb:peek t≠ .bad) (hq: ∀k x,Qe k x->fw a.c_Fault E H k x) (hW:W (Vbemac.deeper (6-d)>>=g) t Ro Qe)
  (cont:d<6->W (g (6-(d+1))) t Ro Qe->Q [092] H):j2j_ a [.ref r, .int d] H Q E:=by
 rw[00]
 rw[aK] at hW
 have nx:x≠ .bad:=nb
 refine⟨r,q,kd,fn,ds,bl,n,(x,xp),t',d,rfl,S.rd,fun e=>?_,fun e=>?_⟩
 ·rw[if_neg nx]
  exact hq _ _ (bQ (p:=Vbemac.deeper (6-d)) (n:=6) (by unfold Vbemac.deeper;rw[if_pos (by lia)]) nb hW)
 ·have ed:Vbemac.deeper (6-d) ((x,xp)::t')= .ok (6-(d+1),(x,xp)::t'):=by unfold Vbemac.deeper;rw[if_neg (by lia),show 6-d-1=6-(d+1) by lia]
  rw[dJ ed] at hW
  exact cont (by lia) hW
end
theorem W_br {β:Type}{f d:Nat}{K:Vbemac.Known}{B:Vbemac.Blocks}{g:Vbemac.Stmts×Vbemac.Blocks->Vbemac.P β}{t:Toks}{Ro:β->Toks->Prop}{Qe:Nat->Vbemac.Pos->Prop}(h:W (Vbemac.sign "{">>=fun _=>stmts f d K B>>=g) t Ro Qe):
  W (Vbemac.sign "{">>=fun _=>stmts f d K B) t (fun l t'=>W (g l) t' Ro Qe) Qe:=by
 rw[aK] at h ⊢
 refine h.mono (fun u t1 h=>?_) fun _ _ z=>z
 rw[aK] at h
 exact h
section
variable {k m:Nat}
theorem ok_A (T:Txt K mg a) (XC:XT K a) (hk:7<=k) (G_b:ExpOk P w K mg base a k)
  (G_k:aJ P w K mg base (cH P w) k a.f_k a.fd_k ["reader","depth"] (spBr a m)):
  aJ P w K mg base (cH P w) (k+1) a.f_A a.fd_A ["reader","depth"] (spStD a (m+1) fun t=>isKey t "let"=false/\isKey t "for"=true):=by
 have G_Q:=ok_Q (P:=P) (w:=w) (base:=base) T XC
 rw[03]
 rw[016]
 have G_w:=gv (P:=P) (w:=w) (base:=base) T
 have G_ay:=j50_ (P:=P) (w:=w) (base:=base) T
 refine fh T.d_A.F sc_A [04] [03]
 ·obtain⟨r,q,kd,fn,ds,bl,n,t,Kn,B,d,fuel,rfl,_⟩:=h
  rfl
 ·obtain⟨r,q,kd,fn,ds,bl,n,t,Kn,B,d,fuel,rfl,hd,hm,⟨c1,hkw⟩,hf,S,hB,hBl,hW⟩:=h
  refine⟨_,(ae (aE (i:=2) sc_A.nd rfl [05] (al G_Q [01] (by rfl) T.d_Q.c aj [012]))
    (ae [000]
    (ae (aE (i:=3) sc_A.nd rfl [05] [063])
    (ae [000]
    (ae (aE (i:=4) sc_A.nd rfl [05] [070])
    (ae [000]
    (ae (aE (i:=5) sc_A.nd rfl [05] [070])
    (ae (au (aA (pv 0) T.cl_Reader T.d_q.c G_q [01] aQ (aa (pv 3) af)))
    (ae (aE (i:=6) sc_A.nd rfl [05] (al G_k [01] (by rfl) T.d_k.c aj (aa (pv 0) [027])))
    (ae (au (aA (pv 0) T.cl_Reader T.d_w.c G_w [01] aQ (aa (pv 3) af)))
    (ai (ay (cv T.mk_For G_ay [01] (by rfl) T.mg_For T.d_ay.c.b .nil aQ (aa (pv 3) (aa (pv 4) (aa (pv 5) (aa (pv 6) af))))))))))))))))),?_⟩
  rw[00]
  obtain rfl:x= .word (text "for"):=beq_iff_eq.mp hkw
  have nb:peek ((.word (text "for"),xp)::t')≠ .bad:=fun z=>nomatch z
  rw[015]
  rw[List.length_cons] at hf room hBl
  rw[000]
  have hW:=W3_as (j4d_ c1 hkw) hW
  unfold W3 at hW
  refine db_step hd S nb [072] hW fun lt hW=>?_
  rw[026]
  refine ja_ litFor S fun H1 S1 k1=>?_
  rw[018]
  refine j9_ S1 (fun k x z=>z H1 k1) hW fun u H2 t2 l2 ft S2 k2 hW2=>?_
  rw[037]
  rw[017]
  refine [078]
  refine uw_ litIn S2 (fun k x z=>z H2 k02) hW2 fun H3 t3 l3 S3 k3 hW3=>?_
  have k03:=k02.trans k3
  have h3:=W2.of (fun _=>(bC "..").bind) hW3
  refine⟨r,q,kd,fn,ds,bl,_,t3,Kn,0,f,rfl,Nat.zero_le _,lv13,S3,by lia,h3.mono (fun e1 t4 nb4 hW4 H4 v1 n4 l4 S4 k4 ev1=>?_) fun _ _ z H' k'=>z H' (k03.trans k')⟩
  have k04:=k03.trans k4
  rw[022]
  refine [077]
  refine dH litDD S4 (fun k x z=>z H4 k04) hW4 fun H5 t5 l5 S5 k5 hW5=>?_
  have k05:=k04.trans k5
  have h5:=W2.of (fun _=>(bC "{").bind) hW5
  refine⟨r,q,kd,fn,ds,bl,_,t5,Kn,0,f,rfl,Nat.zero_le _,lv13,S5,by lia,h5.mono (fun e2 t6 nb6 hW6 H6 v2 n6 l6 S6 k6 ev2=>?_) fun _ _ z H' k'=>z H' (k05.trans k')⟩
  have k06:=k05.trans k6
  have fv:Kn.values.contains u=false:=by
   rw[045]
   cases h:Kn.values.contains u with
   |false=>rfl
   |true=>rw[h] at ft;cases ft
  obtain⟨dr6,er6⟩:=S6.rd.ins
  obtain⟨kk,kk1,kk2,kk3⟩:=S6.kn.vals
  have S7:=S6.learn (u:=u) fv (by lia) kk1
  have k67:az (br r kd fn ds bl) H6 (bg H6 kd (.dK (dI kk (nk u) (.bl true)))):=fun b o e m=>by rw[ag fun z=>m [013]];exact e
  refine⟨r,dr6,_,rfl,er6,rfl,r,dr6,q,kd,fn,ds,bl,_,u,kk,rfl,er6,kk1,Nat.lt_of_le_of_lt [093] [06],?_⟩
  have k07:=k06.trans k67
  have h7:=W_br hW6
  refine⟨r,q,kd,fn,ds,bl,_,t6,Kn.with u,B,d+1,f,rfl,lt,by lia,by lia,S7,hB,by lia,h7.mono (fun l t8 hW8 l8 H8 v3 n8 c8 hB8 hc8 S8 k8 sv8=>?_) fun _ _ z H' k'=>z H' (k07.trans k')⟩
  obtain⟨us,la,sa⟩:=sv8
  have k08:=k07.trans k8
  obtain⟨dr8,er8⟩:=S8.rd.ins
  obtain⟨kb,kb1,_,_⟩:=S8.kn.vals
  obtain⟨hu,S9⟩:=S8.forget (u:=u) fv kb1
  have k89:az (br r kd fn ds bl) H8 (bg H8 kd (.dK (eE kb (nk u)))):=fun b o e m=>by rw[ag fun z=>m [013]];exact e
  refine⟨r,dr8,_,rfl,er8,rfl,r,dr8,q,kd,fn,ds,bl,_,u,kb,rfl,er8,kb1,hu,?_⟩
  rw[006]
  refine⟨p,dx,_,_,_,_,rfl,ah,fun Hd hd' kd'=>⟨rfl,?_⟩⟩
  rw[007]
  have k8d:=k89.trans (OS.aW.keeps (M:=br r kd fn ds bl) scd)
  have k6d:=k67.trans (k8.trans k8d)
  have k4d:=k5.trans (k6.trans k6d)
  have hW8:_/\_:=hW8
  refine hW8.2 [052] Hd (.ref p) _ c8 hB8 hc8 (S9.same scd) (k04.trans k4d) ?_
  unfold bu
  exact⟨v1,v2,v3,us,⟨p,dx,rfl,S9.fresh hp,hd'⟩,ao.keep k4d _ ev1,ao.keep k6d _ ev2,la.keep k8d.two,bo.keep2 k8d.two _ sa⟩
theorem ok_B (T:Txt K mg a) (XC:XT K a) (hk:7<=k) (G_b:ExpOk P w K mg base a k)
  (G_k:aJ P w K mg base (cH P w) k a.f_k a.fd_k ["reader","depth"] (spBr a m)):
  aJ P w K mg base (cH P w) (k+1) a.f_B a.fd_B ["reader","depth"] (spStD a (m+1) fun t=>isKey t "let"=false/\isKey t "for"=false/\isKey t "if"=true):=by
 have G_Q:=ok_Q (P:=P) (w:=w) (base:=base) T XC
 rw[03]
 have G_V:=wz_ (P:=P) (w:=w) (base:=base) T XC
 have G_az:=j5o_ (P:=P) (w:=w) (base:=base) T
 refine fh T.d_B.F sc_B [04] [03]
 ·obtain⟨r,q,kd,fn,ds,bl,n,t,Kn,B,d,fuel,rfl,_⟩:=h
  rfl
 ·obtain⟨r,q,kd,fn,ds,bl,n,t,Kn,B,d,fuel,rfl,hd,hm,⟨c1,c2,hkw⟩,hf,S,hB,hBl,hW⟩:=h
  refine⟨_,(ae (aE (i:=2) sc_B.nd rfl [05] (al G_Q [01] (by rfl) T.d_Q.c aj [012]))
    (ae [000]
    (ae (aE (i:=3) sc_B.nd rfl [05] [070])
    (ae (aE (i:=4) sc_B.nd rfl [05] (al G_k [01] (by rfl) T.d_k.c aj (aa (pv 0) [027])))
    (ae (aE (i:=5) sc_B.nd rfl [05] (be af))
    (ae (fY (aZ (bd (aA (pv 0) T.cl_Reader T.d_V.c G_V [01] aj (aa ax af))) (ai (aE (i:=5) sc_B.nd rfl [05] (al G_k [01] (by rfl) T.d_k.c aj (aa (pv 0) [027])))) aG))
    (ai (ay (cv T.mk_If G_az [01] (by rfl) T.mg_If T.d_az.c.b .nil aQ (aa (pv 3) (aa (pv 4) (aa (pv 5) af)))))))))))),?_⟩
  rw[00]
  obtain rfl:x= .word (text "if"):=beq_iff_eq.mp hkw
  have nb:peek ((.word (text "if"),xp)::t')≠ .bad:=fun z=>nomatch z
  rw[015]
  rw[List.length_cons] at hf room hBl
  rw[000]
  have hW:=W3_as (stmt_if c1 c2 hkw) hW
  unfold W3 at hW
  refine db_step hd S nb [072] hW fun lt hW=>?_
  rw[026]
  refine ja_ litIf S fun H1 S1 k1=>?_
  have h1:=W2.of (fun _=>(bC "{").bind) hW
  refine⟨r,q,kd,fn,ds,bl,_,t',Kn,0,f,rfl,Nat.zero_le _,lv13,S1,by lia,h1.mono (fun e1 t2 nb2 hW2 H2 v1 n2 l2 S2 k2 ev1=>?_) fun _ _ z H' k'=>z H' (k1.trans k')⟩
  rw[037]
  have h2:=W_br hW2
  refine⟨r,q,kd,fn,ds,bl,_,t2,Kn,B,d+1,f,rfl,lt,by lia,by lia,S2,hB,by lia,h2.mono (fun l3 t3 hW3 l3' H3 v3 n3 c3 hB3 hc3 S3 k3 sv3=>?_) fun _ _ z H' k'=>z H' (k02.trans k')⟩
  obtain⟨us3,la3,sa3⟩:=sv3
  have k03:=k02.trans k3
  refine [0021]
  have nL: ¬br r kd fn ds bl L:=S3.fresh hL
  have s34:=bf hL (o:= .lst [])
  have S4:=S3.same s34
  have k34:az (br r kd fn ds bl) H3 (bg H3 L (.lst [])):=OS.aW.keeps s34
  have k04:=k03.trans k34
  have hL4:bg H3 L (.lst []) L=some (.lst []):=ah
  generalize bg H3 L (.lst [])=H4 at S4 k34 k04 hL4
  unfold condGo at hW3
  rw[aK] at hW3
  refine⟨fun σ' H'=> ∃(y:Vbemac.Stmts) (B5:Vbemac.Blocks) (v5:V) (us5:List V) (c5:List (bW×V)) (n5:Nat) (t5:Toks),σ'=[some (.ref r),some (.int d),some [092],some v1,some v3,some v5]/\t5.length<=t3.length/\Bk (bl.at_ c5) B5/\c5.length+t5.length<=4000/\bP a H' r q kd fn ds (bl.at_ c5) n5 t5 Kn/\az (br r kd fn ds bl) H4 H'/\
   cn (br r kd fn ds bl) H' us5 v5/\bo a (br r kd fn ds bl) H' y us5/\(t5.length<t'.length+1-> ∀H' v n' c',Bk [0019] B5->c'.length+t5.length<=4000->bP a H' r q kd fn ds [0019] n' t5 Kn->az (br r kd fn ds bl) H H'->bu a (br r kd fn ds bl) H' (.cond e1 l3.1 y) v->Q v H'),?_,?_⟩
  ·obtain⟨dr4,er4⟩:=S4.rd.ins
   refine [077]
   have ifno:isKey t3 "else"=false->Vbemac.ifKey "else" t3= .ok (false,t3):=fun no=>by unfold Vbemac.ifKey;rw[if_neg (by rw[no];exact Bool.false_ne_true)]
   refine j43_ litElse S4 (fun b=>?_) (fun nb no=>⟨_,rfl,cR ?_⟩) fun yes H5 t5 _ l5 d5 S5 k5=>⟨_,rfl,dQ ?_⟩
   ·rw[dJ (ifno (cF b "else")),if_neg Bool.false_ne_true] at hW3
    have hW3:_/\_:=hW3
    exact hW3.1 b H4 k04
   ·rw[dJ (ifno no),if_neg Bool.false_ne_true] at hW3
    have hW3:_/\_:=hW3
    exact⟨.nil,l3.2, .ref L,[],c3,n3,t3,rfl,Nat.le_refl _,hB3,hc3,S4,az.refl,⟨L,rfl,nL,hL4⟩,by unfold bo;rfl,hW3.2⟩
   ·have ek:Vbemac.ifKey "else" t3= .ok (true,t5):=by unfold Vbemac.ifKey;rw[if_pos yes,d5]
    rw[dJ ek,if_pos rfl] at hW3
    have h5:=W_br hW3
    refine⟨r,q,kd,fn,ds,bl.at_ c3,_,t5,Kn,l3.2,d+1,f,rfl,lt,by lia,by lia,S5,hB3,(by show c3.length+t5.length<=4000;lia),h5.mono (fun l6 t6 hW6 l6' H6 v6 n6 c6 hB6 hc6 S6 k6 sv6=>?_) fun _ _ z H' k'=>z H' ((k04.trans k5).trans k')⟩
    obtain⟨us6,la6,sa6⟩:=sv6
    have hW6:_/\_:=hW6
    exact⟨l6.1,l6.2,v6,us6,c6,n6,t6,rfl,by lia,hB6,hc6,S6,k5.trans k6,la6,sa6,hW6.2⟩
  rintro σ5 H5 ⟨y,B5,v5,us5,c5,n5,t5,rfl,l5,hB5,hc5,S5,k5,la5,sa5,hR⟩
  rw[035]
  have k5d:az (br r kd fn ds bl) H5 Hd:=OS.aW.keeps scd
  have k3d:=k34.trans (k5.trans k5d)
  have k2d:=k3.trans k3d
  refine hR (by lia) Hd (.ref p) _ c5 hB5 hc5 (S5.same scd) (k02.trans k2d) ?_
  unfold bu
  exact⟨v1,v3,us3,v5,us5,⟨p,dx,rfl,S5.fresh hp,hd'⟩,ao.keep k2d _ ev1,la3.keep k3d.two,bo.keep2 k3d.two _ sa3,la5.keep k5d.two,bo.keep2 k5d.two _ sa5⟩
theorem ok_5 (T:Txt K mg a) (XC:XT K a) (hk:7<=k)
  (G_P:aJ P w K mg base (cH P w) k a.f_P a.fd_P ["reader"] (spSt0 a fun t=>isKey t "let"=true))
  (G_A:aJ P w K mg base (cH P w) k a.f_A a.fd_A ["reader","depth"] (spStD a m fun t=>isKey t "let"=false/\isKey t "for"=true))
  (G_B:aJ P w K mg base (cH P w) k a.f_B a.fd_B ["reader","depth"] (spStD a m fun t=>isKey t "let"=false/\isKey t "for"=false/\isKey t "if"=true))
  (G_t:aJ P w K mg base (cH P w) k a.f_t a.fd_t ["reader"] (spSt0 a fun t=>isKey t "let"=false/\isKey t "for"=false/\isKey t "if"=false/\isKey t "block"=true))
  (G_x:aJ P w K mg base (cH P w) k a.f_x a.fd_x ["reader"] (spSt0 a fun t=>isKey t "let"=false/\isKey t "for"=false/\isKey t "if"=false/\isKey t "block"=false)):
  aJ P w K mg base (cH P w) (k+1) a.f_5 a.fd_5 ["reader","depth"] (spStD a m fun _=>True):=by
 rw[05]
 refine fh T.d_5.F sc_5 [04] [03]
 ·obtain⟨r,q,kd,fn,ds,bl,n,t,Kn,B,d,fuel,rfl,_⟩:=h
  rfl
 ·obtain⟨r,q,kd,fn,ds,bl,n,t,Kn,B,d,fuel,rfl,hd,hm,_,hf,SB⟩:=h
  refine⟨_,(ae (aZ [010] (ai (ay (al G_P [01] (by rfl) T.d_P.c aj [009]))) aG)
    (ae (aZ [010] (ai (ay (al G_A [01] (by rfl) T.d_A.c aj [012]))) aG)
    (ae (aZ [010] (ai (ay (al G_B [01] (by rfl) T.d_B.c aj [012]))) aG)
    (ae (aZ [010] (ai (ay (al G_t [01] (by rfl) T.d_t.c aj [009]))) aG)
    (ai (ay (al G_x [01] (by rfl) T.d_x.c aj [009]))))))),?_⟩
  have S:=SB.1
  have hb:peek t= .bad->fw a.c_Fault E H 1 (place t):=fun b=>(qz_ _ _ _ _).at_bad b SB.2.2.2.w H az.refl
  rw[004]
  refine fZ litLet S hb fun nb=>⟨_,rfl,bB (fun e1=>?_) fun e1=>?_⟩
  ·exact⟨r,q,kd,fn,ds,bl,n,t,Kn,B,6-d,fuel,rfl,e1,hf,SB⟩
  refine [006]
  refine fZ litFor S hb fun nb=>⟨_,rfl,bB (fun e2=>?_) fun e2=>?_⟩
  ·exact⟨r,q,kd,fn,ds,bl,n,t,Kn,B,d,fuel,rfl,hd,hm,⟨e1,e2⟩,hf,SB⟩
  refine [006]
  refine fZ litIf S hb fun nb=>⟨_,rfl,bB (fun e3=>?_) fun e3=>?_⟩
  ·exact⟨r,q,kd,fn,ds,bl,n,t,Kn,B,d,fuel,rfl,hd,hm,⟨e1,e2,e3⟩,hf,SB⟩
  refine [006]
  refine fZ j4l_ S hb fun nb=>⟨_,rfl,bB [0009] fun e4=>?_⟩
  ·exact⟨r,q,kd,fn,ds,bl,n,t,Kn,B,6-d,fuel,rfl,⟨e1,e2,e3,e4⟩,hf,SB⟩
  ·exact⟨r,q,kd,fn,ds,bl,n,t,Kn,B,6-d,fuel,rfl,⟨e1,e2,e3,e4⟩,hf,SB⟩
theorem j55_ {vs:List V}{H:Hp}{Q:VK}{E:XK}(h:spBr a 0 vs H Q E):False:=by
 obtain⟨r,q,kd,fn,ds,bl,n,t,Kn,B,d,fuel,e,hd,hm,_⟩:=h
 lia
theorem j72_ (T:Txt K mg a) (XC:XT K a) (IL:IsLet K a) (hk:7<=k) (G_b:ExpOk P w K mg base a k): ∀m:Nat,
  aJ P w K mg base (cH P w) (k+3+3*m) a.f_k a.fd_k ["reader","depth"] (spBr a m):=by
 intro m
 induction m with
 |zero=>exact fh T.d_k.F sc_k (fun _ _ _ _ h=>(j55_ h).elim) (fun _ _ _ _ _ _ _ _ _ h=>(j55_ h).elim)
 |succ m ih=>
  have G:=ok_o T XC hk G_b
  have Pa:=ok_l T XC hk G_b
  have Pi:=ok_C T XC (by lia) Pa
  have Am:=ok_S T XC hk G_b
  have Le:=ok_P T XC (by lia) G
  have St:=ok_x T XC (by lia) (Pa.mono (by lia:k+1<=k+1+1)) Pi
  have Bl:=ok_t T XC (by lia) (Pa.mono (by lia:k+1<=k+1+1)) Pi (Am.mono (by lia))
  have Fo:=ok_A T XC (by lia) (G_b.mono (by lia:k<=k+3+3*m)) ih
  have If_:=ok_B T XC (by lia) (G_b.mono (by lia:k<=k+3+3*m)) ih
  have Sm:=ok_5 T XC (by lia) (Le.mono (by lia)) Fo If_ (Bl.mono (by lia)) (St.mono (by lia))
  have:=ok_k T XC IL (by lia) Sm
  exact this.mono (by lia)
end
end
section
open Vbemac (Bytes Toks SIGNS KEYS peek place text isSign isKey expr newName anyName DEEP stmt stmts)
def fm (ps:List Bytes):List V:=ps.map fun p=>V.str (sb p)
def gW (a:cu) (M:Addr->Prop) (H:Hp):Vbemac.Top->V->Prop
 | .const x e,v=> ∃u,cW M H a.c_Const [("name", .str (sb x)),("exp",u)] v/\ao a M H e u
 | .func x ps e,v=> ∃q u,cW M H a.c_Fun [("name", .str (sb x)),("parameters",q),("exp",u)] v/\cn M H (fm ps) q/\ao a M H e u
 | .desk x l,v=> ∃q us,cW M H a.c_Desk [("name", .str (sb x)),("statements",q)] v/\cn M H us q/\bo a M H l us
theorem gW.keep2 {a:cu}{M M':Addr->Prop}{H H':Hp}(k:db M M' H H'): ∀(x:Vbemac.Top) {v:V},gW a M H x v->gW a M' H' x v
 | .const x e,v,⟨u,h1,h2⟩=>⟨u,h1.keep k,ao.keep2 k e h2⟩
 | .func x ps e,v,⟨q,u,h1,h2,h3⟩=>⟨q,u,h1.keep k,h2.keep k,ao.keep2 k e h3⟩
 | .desk x l,v,⟨q,us,h1,h2,h3⟩=>⟨q,us,h1.keep k,h2.keep k,bo.keep2 k l h3⟩
def TopCn (a:cu) (r q kd fn:Addr) (ds bl:eA) (H:Hp) (Q:VK) (m:Nat):ip->Toks->Prop:=fun x t'=>t'.length<m-> ∀H' v n' dc bl',(∀u,has dc u=x.2.2.2.contains u)->dc.length+t'.length<=4000->bl'.x=bl.x->(bl'.p=bl.p\/H bl'.p=none)->bP a H' r q kd fn (ds.at_ dc) bl' n' t' x.2.1->x.2.1.funs.length+x.2.2.1=9->
 az (br r kd fn ds bl) H H'->gW a (br r kd fn ds bl') H' x.1 v->Q v H'
inductive yl_ (a:cu) (ok:Toks->Prop) (vs:List V) (H:Hp) (Q:VK) (E:XK):Prop
 |mk (r q kd fn:Addr) (ds bl:eA) (n:Nat) (t:Toks) (Kn:Vbemac.Known) (nf:Nat) (D:List Bytes) (fuel:Nat) (_:vs=[.ref r]) (_:ok t) (_:16*t.length<=fuel) (_:bP a H r q kd fn ds bl n t Kn) (_:(∀u,has ds.c u=D.contains u)) (_:ds.c.length+t.length<=4000) (_:Kn.funs.length+nf=9) (_:W (vg_ fuel Kn nf D) t (TopCn a r q kd fn ds bl H Q t.length) (QE a r kd fn ds bl H E)):yl_ a ok vs H Q E
theorem j45_:dP "const" (text "const"):=[005]
inductive spParam (a:cu) (vs:List V) (H:Hp) (Q:VK) (E:XK):Prop
 |mk (r q kd fn:Addr) (ds bl:eA) (n:Nat) (t:Toks) (Kn Kf:Vbemac.Known) (fname:Bytes) (_:vs=[.ref r, .str (sb fname)]) (_:dP (sb fname) fname) (_:KEYS.contains fname=false) (_:bP a H r q kd fn ds bl n t Kn) (_:(∀u,Kf.taken u=(decide (u=fname)||Kn.taken u))) (_:W (newName Kf) t (fun u t'=> ∀H',t'.length+1=t.length->Kn.values.contains u=false->bP a H' r q kd fn ds bl (n+1) t' (Kn.with u)->az (br r kd fn ds bl) H H'->Q (.str (sb u)) H') (QE a r kd fn ds bl H E)):spParam a vs H Q E
inductive j4p_ (a:cu) (vs:List V) (H:Hp) (Q:VK) (E:XK):Prop
 |mk (r q kd fn:Addr) (ds bl:eA) (n:Nat) (t:Toks) (Kn:Vbemac.Known) (fname:Bytes) (fuel:Nat) (Ro:List Bytes->Toks->Prop) (_:vs=[.ref r, .str (sb fname)]) (_:dP (sb fname) fname) (_:KEYS.contains fname=false) (_:bP a H r q kd fn ds bl n t Kn) (_:t.length<fuel) (_:W (Vbemac.params fuel 6 (Kn.with fname)) t Ro (QE a r kd fn ds bl H E)) (_: ∀ps t' H' L n',t'.length<t.length->ps.length<=6->ps.Nodup->(∀x∈ps,x∉Kn.values)->W (Vbemac.sign ")") t' (fun _ t2=>Ro ps t2) (QE a r kd fn ds bl H E)->bP a H' r q kd fn ds bl n' t' { Kn with values:=ps.reverse++Kn.values } ->az (br r kd fn ds bl) H H'->H L=none->H' L=some (.lst (fm ps))->Q (.ref L) H'):j4p_ a vs H Q E
section
variable {k m:Nat}
theorem ok_O (T:Txt K mg a) (XC:XT K a) (hk:7<=k)
  (G_o:aJ P w K mg base (cH P w) k a.f_o a.fd_o ["reader"] (ym_ a)):
  aJ P w K mg base (cH P w) (k+1) a.f_O a.fd_O ["reader"] (yl_ a fun t=>isKey t "const"=true):=by
 rw[03]
 rw[016]
 have G_aD:=j1c_ (P:=P) (w:=w) (base:=base) T
 refine fh T.d_O.F sc_O [04] [03]
 ·obtain⟨r,q,kd,fn,ds,bl,n,t,Kn,nf,D,fuel,rfl,_⟩:=h
  rfl
 ·obtain⟨r,q,kd,fn,ds,bl,n,t,Kn,nf,D,fuel,rfl,hkw,hf,S,hD,hDl,hn,hW⟩:=h
  refine⟨_,(ae [000]
    (ae (aE (i:=1) sc_O.nd rfl [05] [063])
    (ae (aE (i:=2) sc_O.nd rfl [05] (al G_o [01] (by rfl) T.d_o.c aj [009]))
    (ae (au (aA (pv 0) T.cl_Reader T.d_q.c G_q [01] aQ [002]))
    (ai (ay (cv T.mk_Const G_aD [01] (by rfl) T.mg_Const T.d_aD.c.b .nil aQ (aa (pv 1) [027])))))))),?_⟩
  rw[00]
  obtain rfl:x= .word (text "const"):=beq_iff_eq.mp hkw
  rw[015]
  rw[List.length_cons] at hf room hDl
  have hW:W (Vbemac.next>>=fun _=>j02_ fuel Kn nf D) _ _ _:=du (by unfold vg_;rw[if_pos hkw]) hW
  have hW:=uf_ hW
  unfold j02_ at hW
  rw[004]
  refine ja_ j45_ S fun H1 S1 k1=>?_
  rw[018]
  refine j9_ S1 (fun k x z=>z H1 k1) hW fun u H2 t2 l2 ft S2 k2 hW2=>?_
  rw[037]
  have fv:Kn.values.contains u=false:=by
   rw[045]
   cases h:Kn.values.contains u with
   |false=>rfl
   |true=>rw[h] at ft;cases ft
  have hG:=j3i_ hW2
  refine⟨r,q,kd,fn,ds,bl,_,t2,Kn,fuel,rfl,S2,by lia,hG.mono (fun e t3 w3 l3 H3 v n3 S3 k3 ev=>?_) fun _ _ z H' k'=>z H' (k02.trans k')⟩
  rw[033]
  obtain⟨kk,kk1,kk2,kk3⟩:=S3.kn.vals
  have S4:=S3.learn (u:=u) fv (by lia) kk1
  have k34:az (br r kd fn ds bl) H3 (bg H3 kd (.dK (dI kk (nk u) (.bl true)))):=fun b o e m=>by rw[ag fun z=>m [013]];exact e
  refine [0024]
  rw[023]
  have k4d:=k34.trans (OS.aW.keeps (M:=br r kd fn ds bl) scd)
  have w3:TopCn a r q kd fn ds bl H Q _ _ t3:=w3
  refine w3 [052] Hd (.ref p) _ ds.c bl hD (by lia) rfl (.inl rfl) (S4.same scd) hn ((k02.trans k3).trans k4d) ?_
  exact⟨v,⟨p,dx,rfl,S4.fresh hp,hd'⟩,ao.keep k4d _ ev⟩
theorem ok_Y (T:Txt K mg a) (XC:XT K a):aJ P w K mg base (cH P w) 8 a.f_Y a.fd_Y ["reader","function"] (spParam a):=by
 rw[05]
 rw[06]
 rw[016]
 refine fh T.d_Y.F sc_Y [04] [03]
 ·obtain⟨r,q,kd,fn,ds,bl,n,t,Kn,Kf,fname,rfl,_⟩:=h
  rfl
 ·obtain⟨r,q,kd,fn,ds,bl,n,t,Kn,Kf,fname,rfl,lit,nkey,S,hK,hW⟩:=h
  refine⟨_,(ae (aZ (bd (aA (pv 0) T.cl_Reader T.d_c.c G_c [01] aj [002])) (ai (au (aA (pv 0) T.cl_Reader T.d_e.c G_e [01] aj (aa (bN (by rfl) T.g_NOT_FREE) af)))) aG)
    (ae (aE (i:=2) sc_Y.nd rfl [05] [063])
    (ae (au (aA (pv 0) T.cl_Reader T.d_q.c G_q [01] aQ [027]))
    (ai (ay (pv 2)))))),?_⟩
  rw[00]
  rw[015]
  rw[List.length_cons] at room
  have hb:x= .bad->fw a.c_Fault E H 1 xp:=fun b=>(eD Kf).at_bad [0008] hW H az.refl
  rw[01]
  refine⟨r,dr,_,rfl,er,rfl,r,q,kd,fn,ds,bl,n,(x,xp),t',sb fname,rfl,S.rd,hb,fun nb=>[016]⟩
  rw[cA (x:=sb fname) tok lit]
  rw[003]
  ·obtain rfl:x= .word fname:=beq_iff_eq.mp e
   refine⟨r,dr,_,rfl,er,rfl,r,q,kd,fn,ds,bl,n,(.word fname,xp),t',4,rfl,S.rd,?_⟩
   rw[if_neg nb]
   refine bQ (p:=newName Kf) (n:=4) (t:=(.word fname,xp)::t') ?_ nb hW H az.refl
   rw[cT nkey,if_pos (by rw[hK,decide_eq_true rfl];rfl)]
  ·have nf: ∀u,x= .word u->decide (u=fname)=false:=fun u ex=>by
    refine decide_eq_false fun z=>?_
    rw[ex,z] at e
    rw[beq_self_eq_true] at e
    cases e
   refine [006]
   have hW2:W (newName Kn>>=fun u=>pure u:Vbemac.P Bytes) ((x,xp)::t') (fun u t1=> ∀H',t1.length+1=((x,xp)::t').length->Kn.values.contains u=false->bP a H' r q kd fn ds bl (n+1) t1 (Kn.with u)->az (br r kd fn ds bl) H H'->Q (.str (sb u)) H') (QE a r kd fn ds bl H E):=by
    have en:newName Kn ((x,xp)::t')=newName Kf ((x,xp)::t'):=by
     cases x with
     |word u=>
      cases hkw:KEYS.contains u with
      |true=>rw[e6 hkw,e6 hkw]
      |false=>rw[cT hkw,cT hkw,hK,nf u rfl];rfl
     |num m=>rfl
     |sign s=>rfl
     |eof=>rfl
     |bad=>rfl
    rw[aK]
    have z:=du (p':=newName Kn) (t':=(x,xp)::t') en.symm hW
    exact z.mono (fun u t w=>w) fun _ _ w=>w
   refine j9_ S [072] hW2 fun u H2 t2 l2 ft S2 k2 hW3=>?_
   have fv:Kn.values.contains u=false:=by
    rw[045]
    cases h:Kn.values.contains u with
    |false=>rfl
    |true=>rw[h] at ft;cases ft
   obtain⟨dr3,er3⟩:=S2.rd.ins
   obtain⟨kk,kk1,kk2,kk3⟩:=S2.kn.vals
   have l2':=l2
   rw[List.length_cons] at l2
   have S4:=S2.learn (u:=u) fv (by lia) kk1
   have k34:az (br r kd fn ds bl) H2 (bg H2 kd (.dK (dI kk (nk u) (.bl true)))):=fun b o e m=>by rw[ag fun z=>m [013]];exact e
   refine [0024]
   exact(hW3 _ l2' fv S4 (k2.trans k34))
end
end
section
open Vbemac (Bytes Toks SIGNS KEYS peek place text isSign isKey expr newName anyName DEEP stmt stmts params)
def fC (f n:Nat) (K:Vbemac.Known):Vbemac.P (List Bytes):=Vbemac.ifSign ",">>=fun m=>(if m=true then params f n K else(Vbemac.sign ")">>=fun _=>pure []))
theorem j1m_ {f n:Nat}{K:Vbemac.Known}{t:Toks}{Ro:List Bytes->Toks->Prop}{Qe:Nat->Vbemac.Pos->Prop}(hn:n≠0) (h:W (params (f+1) n K) t Ro Qe):
  W (newName K) t (fun x t'=>W (fC f (n-1) [086]) t' (fun l t2=>Ro (x::l) t2) Qe) Qe:=by
 have h:=du (j73_ hn) h
 rw[aK] at h
 refine h.mono (fun x t1 h=>?_) fun _ _ z=>z
 unfold fC
 rw[aK] at h ⊢
 refine h.mono (fun m t2 h=>?_) fun _ _ z=>z
 cases m with
 |true=>
  rw[if_pos rfl] at h ⊢
  rw[aK] at h
  exact h
 |false=>
  rw[if_neg Bool.false_ne_true] at h ⊢
  rw[aK] at h ⊢
  exact h
theorem j63_ {f n:Nat}{K:Vbemac.Known}{t:Toks}{Ro:List Bytes->Toks->Prop}{Qe:Nat->Vbemac.Pos->Prop}(no:isSign t ","=false) (h:W (fC f n K) t Ro Qe):W (Vbemac.sign ")") t (fun _ t2=>Ro [] t2) Qe:=by
 unfold fC at h
 rw[aK,dJ (show Vbemac.ifSign "," t= .ok (false,t) by unfold Vbemac.ifSign;rw[if_neg (by rw[no];exact Bool.false_ne_true)]),if_neg Bool.false_ne_true,aK] at h
 exact h
theorem j4o_ {f n:Nat}{K:Vbemac.Known}{t:Toks}{Ro:List Bytes->Toks->Prop}{Qe:Nat->Vbemac.Pos->Prop}(yes:isSign t ","=true) (h:W (fC f n K) t Ro Qe):W (params f n K) (t.drop 1) Ro Qe:=by
 unfold fC at h
 rw[aK,dJ (show Vbemac.ifSign "," t= .ok (true,t.drop 1) by unfold Vbemac.ifSign;rw[if_pos yes]),if_pos rfl] at h
 exact h
theorem j0t_ (f n:Nat) (K:Vbemac.Known):bA (fC f n K):=(j44_ ",").strict fun m=>by
 cases m with
 |true=>
  rw[if_pos rfl]
  exact jf_ f n K
 |false=>
  rw[if_neg Bool.false_ne_true]
  exact(bC ")").bind
theorem bP.recast {a:cu}{H:Hp}{r q kd fn:Addr}{ds bl:eA}{n:Nat}{t:Toks}{K1 K2:Vbemac.Known}(S:bP a H r q kd fn ds bl n t K1) (hc: ∀u,K2.values.contains u=K1.values.contains u) (hl:K2.values.length=K1.values.length) (hf:K2.funs=K1.funs):bP a H r q kd fn ds bl n t K2:=by
 rw[07]
 refine⟨S.rd,S.wh,⟨⟨kk,k1,by rw[hl];exact k2,fun u=>by rw[hc];exact k3 u⟩,⟨ff,f1,by rw[hf];exact f2⟩,by rw[hl];exact S.kn.len,⟨ff,f1,by rw[hf];exact S.kn.fl f1⟩⟩,S.ds_,S.bl_,S.dif,S.fr⟩
theorem j0j_ {K:Vbemac.Known}{f u:Bytes}{vs:List Bytes} :(⟨vs++f::K.values,K.funs⟩:Vbemac.Known).taken u=(decide (u=f)||(⟨vs++K.values,K.funs⟩:Vbemac.Known).taken u):=by
 unfold Vbemac.Known.taken
 rw[<-Bool.or_assoc]
 congr 1
 rw[Bool.eq_iff_iff,Bool.or_eq_true,decide_eq_true_iff,List.contains_iff_mem,List.contains_iff_mem,List.mem_append,List.mem_append,List.mem_cons]
 constructor
 ·rintro(h|h|h)
  ·exact .inr (.inl h)
  ·exact .inl h
  ·exact .inr (.inr h)
 ·rintro(h|h|h)
  ·exact .inr (.inl h)
  ·exact .inl h
  ·exact .inr (.inr h)
theorem putK_new {kvs:List (bW×V)}{j:bW}{v:V}(h:cP kvs j=none):(dI kvs j v).length=kvs.length+1:=by
 unfold dI
 rw[if_neg,List.length_append]
 ·rfl
 ·intro z
  rw[List.any_eq_true] at z
  obtain⟨p,hp,e⟩:=z
  have:(cP kvs j).isSome=true:=by
   unfold cP
   rw[Option.isSome_map,List.find?_isSome]
   exact⟨p,hp,e⟩
  rw[h] at this
  cases this
theorem bP.putF {a:cu}{H:Hp}{r q kd fn:Addr}{ds bl:eA}{n:Nat}{t:Toks}{Kn:Vbemac.Known}{x:Bytes}{c:Nat}{ff:List (bW×V)}(S:bP a H r q kd fn ds bl n t Kn) (hx:Kn.taken x=false) (e:H fn=some (.dK ff)):
  bP a (bg H fn (.dK (dI ff (nk x) (.int (c:Nat))))) r q kd fn ds bl n t { Kn with funs:=(x,c)::Kn.funs } :=by
 rw[01]
 rw[012]
 obtain⟨kk,k1,k2,k3⟩:=S.kn.vals
 obtain⟨ff',f1,f2⟩:=S.kn.funs
 rw[028]
 have fl:=S.kn.fl e
 obtain rfl:ff'=ff:=by rw[e] at f1;cases f1;rfl
 rw[025]
 have nr:r≠fn:=fun w=>by rw[w,e] at er;cases er
 have nq:q≠fn:=fun w=>by rw[w,e] at h1;cases h1
 unfold Vbemac.Known.taken at hx
 rw[Bool.or_eq_false_iff] at hx
 have none_:cP ff' (nk x)=none:=by
  rw[f2]
  have:Kn.funs.find? (fun f=>f.1 == x)=none:=by
   rw[List.find?_eq_none]
   intro y hy z
   have:=hx.2
   rw[List.any_eq_false] at this
   exact this y hy z
  rw[this]
  rfl
 refine⟨[059],S.wh,⟨⟨kk,by rw[ag d1];exact k1,k2,k3⟩,⟨_,ah,fun u=>?_⟩,S.kn.len,⟨_,ah,?_⟩⟩,(by rw[ag d4.symm];exact hy),(by rw[ag d5.symm];exact hz),S.dif,fun b xs h=>?_⟩
 ·rw[ag fun w=>by rw[w,e] at ex;cases ex]
  exact ex
 ·rw[j5a_,List.find?_cons]
  by_cases w:u=x
  ·rw[if_pos (by rw[w]),w,show((x,c).1 == x)=true from beq_self_eq_true x]
   rfl
  ·rw[if_neg fun z=>w (fJ (Sum.inr.inj z)),show((x,c).1 == u)=false from beq_eq_false_iff_ne.mpr (Ne.symm w)]
   exact f2 u
 ·rw[putK_new none_,fl]
  rfl
 ·have e2:=S.fr b xs h
  rw[034]
  exact e2
theorem j5x_ {X:Cx} :io X (.builtin "len") (fun xs H Q=> ∃a kvs,xs=[V.ref a]/\KdK X.prog X.w X.K a kvs/\Q (.int kvs.length) H):=by
 rw[029]
 obtain⟨a,kvs,rfl,kd,q⟩:=h
 obtain⟨u,rfl,ru⟩:=vals1 r
 cases ru
 obtain⟨vs,dd,rel⟩:=kd.at_
 have z:=kd.len
 refine call_len_dict kd.no (dd _ I.kIn) (by rw[<-rel.length];rw[sizeLine_eq] at z;lia) ?_
 rw[<-rel.length]
 exact⟨.int kvs.length,H,I.tok _,⟨_,rfl⟩,q⟩
theorem litFun:dP "fun" (text "fun"):=[005]
section
variable {k m:Nat}
theorem ok_ai (T:Txt K mg a) (XC:XT K a):aJ P w K mg base (cH P w) 9 a.f_ai a.fd_ai ["reader","function"] (j4p_ a):=by
 have G_Y:=ok_Y (P:=P) (w:=w) (base:=base) T XC
 have G_V:=wz_ (P:=P) (w:=w) (base:=base) T XC
 rw[06]
 refine fh T.d_ai.F sc_ai [04] [03]
 ·obtain⟨r,q,kd,fn,ds,bl,n,t,Kn,fname,fuel,Ro,rfl,_⟩:=h
  rfl
 ·obtain⟨r,q,kd,fn,ds,bl,n,t,Kn,fname,fuel,Ro,rfl,lit,nkey,S,hf,hW,hQ⟩:=h
  refine⟨_,(ae (aE (i:=2) sc_ai.nd rfl [05] (be (aa (al G_Y [01] (by rfl) T.d_Y.c aj [012]) af)))
    (ae (dR PassesOwn.leaving (bd (aA (pv 0) T.cl_Reader T.d_V.c G_V [01] aj (aa ax af))) (ae (aZ (bv dw (aY bj (by rfl) T.n_len PySem.boot_len [027]) (bN (by rfl) T.g_MOST_PARAMETERS) (bx _)) (ai (au (aA (pv 0) T.cl_Reader T.d_e.c G_e [01] aj (aa (bN (by rfl) T.g_TOO_MANY) af)))) aG)
    (ai (au (cr PySem.F.plainAttrs_list PySem.F.slot_list_append PySem.F.type_list_append bR (pv 2) (aa (al G_Y [01] (by rfl) T.d_Y.c aj [012]) af))))))
    (ai (ay (pv 2))))),?_⟩
  rw[015]
  rw[000]
  have h0:=j1m_ [06] hW
  refine⟨r,q,kd,fn,ds,bl,n,t,Kn,Kn.with fname,fname,rfl,lit,nkey,S,fun u=>j0j_ (vs:=[]),h0.mono (fun u t1 w1 H1 l1 fv S1 k1=>?_) fun _ _ z=>z⟩
  refine⟨by show 1<=sizeLine;decide,fun L hL=>?_⟩
  have nL: ¬br r kd fn ds bl L:=S1.fresh hL
  have nq:L≠q:=fun z=>by obtain⟨as,all,h1,_⟩:=S1.rd.toks;rw[z,h1] at hL;cases hL
  have H0L:H L=none:=by
   cases e:H L with
   |none=>rfl
   |some o=>rw[k1 L o e nL] at hL;cases hL
  have ap: ∀zs,¬bl.x L zs:=fun zs z=>by rw[S1.fr L zs z] at hL;cases hL
  have S2:bP a (bg H1 L (.lst (fm [u]))) r q kd fn ds (bl.more L (fm [u])) (n+1) t1 ⟨[u].reverse++Kn.values,Kn.funs⟩:=(S1.same (bf hL)).more ah
  have k02:az (br r kd fn ds bl) H (bg H1 L (.lst (fm [u]))):=k1.trans (OS.aW.keeps (bf hL))
  let Iv:List Bytes->Nat->Toks->Nat->Hp->Prop:=fun ps n1 t1 f1 H'=>ps≠[]/\ps.length<=6/\ps.Nodup/\(∀x∈ps,x∉Kn.values)/\ps.length+t1.length<=t.length/\bP a H' r q kd fn ds (bl.more L (fm ps)) n1 t1 ⟨ps.reverse++Kn.values,Kn.funs⟩/\t1.length<f1/\az (br r kd fn ds bl) H H'/\
   W (fC f1 (6-ps.length) ⟨ps.reverse++fname::Kn.values,Kn.funs⟩) t1 (fun l t2=>Ro (ps++l) t2) (QE a r kd fn ds bl H E)
  refine⟨fun mm σ H'=> ∃(ps:List Bytes) (n1:Nat) (t1:Toks) (f1:Nat),mm=t1.length/\σ=[some (.ref r),some (.str (sb fname)),some (.ref L)]/\Iv ps n1 t1 f1 H',
   ⟨_,[u],n+1,t1,f,rfl,rfl,List.cons_ne_nil _ _,(by show 1<=6;decide),List.nodup_cons.mpr ⟨List.not_mem_nil,List.nodup_nil⟩,fun x hx z=>?_,by show 1+t1.length<=_;lia,S2,by lia,k02,w1⟩,?_⟩
  ·rw[List.mem_singleton.mp hx] at z
   rw[List.contains_iff_mem.mpr z] at fv
   cases fv
  rintro mm σ H3 ⟨ps,n3,t3,f3,rfl,rfl,pne,p6,pnd,pfr,pl,S3,hf3,k03,w3⟩
  rw[033]
  refine⟨r,dr3,_,rfl,er3,rfl,?_⟩
  refine j7n_ litCm S3 (fun b=>(j0t_ _ _ _).at_bad b w3 H3 k03) (fun nb no=>⟨_,rfl,cR ?_⟩) fun yes H4 t4 l4 d4 S4 k4=>⟨_,rfl,dQ ?_⟩
  ·refine ?_
   have z:=j63_ no w3
   simp only[List.append_nil] at z
   exact hQ ps t3 H3 L n3 (by have:0<ps.length:=List.length_pos_iff.mpr pne;lia) p6 pnd pfr z S3.less k03 H0L S3.the
  ·have w4:=j4o_ yes w3
   rw[d4] at w4
   have k04:=k03.cut k4 H0L
   obtain⟨f3,rfl⟩: ∃f',f3=f'+1:=⟨f3-1,by lia⟩
   refine⟨fun σ' H'=> ∃(ps:List Bytes) (n1:Nat) (t1:Toks) (f1:Nat),t1.length<t3.length/\σ'=[some (.ref r),some (.str (sb fname)),some (.ref L)]/\Iv ps n1 t1 f1 H',?_,?_⟩
   ·rintro σ' H' ⟨ps',n',t',f',l',rfl,I'⟩
    exact⟨_,l',ps',n',t',f',rfl,rfl,I'⟩
   refine⟨_,_,rfl, .inl (cK.of S4.the),rfl,_,rfl,?_⟩
   rw[dz]
   have sl:(fm ps).length=ps.length:=List.length_map ..
   rw[sl]
   rw[003]
   ·have p6':ps.length=6:=by have:=of_decide_eq_true e;lia
    obtain⟨⟨x,xp⟩,t5,rfl,tok,hpk,hpl,_⟩:=S4.wh.first
    rw[022]
    refine⟨r,dr4,_,rfl,er4,rfl,r,q,kd,fn,ds,_,_,(x,xp),t5,7,rfl,S4.rd,?_⟩
    have w4:=du (p':=(Vbemac.fail 7:Vbemac.P (List Bytes))) (t':=(x,xp)::t5) (j5l_ (by lia)) w4
    rw[W_fail] at w4
    exact w4 H4 k04
   ·have p5:ps.length<6:=by have:=of_decide_eq_false e;lia
    have h4:=j1m_ (by lia) w4
    refine⟨.inl ⟨rfl,_,cK.of S4.the⟩,?_⟩
    refine⟨r,q,kd,fn,ds,bl.more L (fm ps),_,t4,⟨ps.reverse++Kn.values,Kn.funs⟩,⟨ps.reverse++fname::Kn.values,Kn.funs⟩,fname,rfl,lit,nkey,S4,fun u=>j0j_,h4.mono (fun u t5 w5 H5 l5 fv5 S5 k5=>?_) fun _ _ z H' k'=>z H' (k04.cut k' H0L)⟩
    have k05:=k04.cut k5 H0L
    refine⟨L,_,_,rfl,rfl,S5.the,Nat.lt_of_le_of_lt (show(fm ps).length<=6 by rw[sl];exact p6) [06],?_⟩
    have ns:fm ps++[V.str (sb u)]=fm (ps++[u]):=by unfold fm;rw[List.map_append];rfl
    rw[ns]
    have nu:u∉ps.reverse++Kn.values:=fun z=>by rw[List.contains_iff_mem.mpr z] at fv5;cases fv5
    have er: ∀(V:List Bytes),(ps++[u]).reverse++V=u::(ps.reverse++V):=fun V=>by rw[List.reverse_append];rfl
    refine⟨ps++[u],n3+1+1,t5,f3,by lia,rfl,(fun z=>by rw[List.append_eq_nil_iff] at z;exact nomatch z.2),by rw[List.length_append,List.length_singleton];lia,?_,fun x hx z=>?_,by rw[List.length_append,List.length_singleton];lia,?_,by lia,fun b o e m=>?_,?_⟩
    ·rw[List.nodup_append]
     refine⟨pnd,List.nodup_cons.mpr ⟨List.not_mem_nil,List.nodup_nil⟩,fun x hx y hy z=>?_⟩
     rw[List.mem_singleton.mp hy] at z
     exact nu (List.mem_append.mpr (.inl (List.mem_reverse.mpr (by rw[<-z];exact hx))))
    ·rcases List.mem_append.mp hx with hx|hx
     ·exact pfr x hx z
     ·rw[List.mem_singleton.mp hx] at z
      exact nu (List.mem_append.mpr (.inr z))
    ·rw[er]
     exact S5.write ap nq
    ·rw[ag fun z=>by rw[z,H0L] at e;cases e]
     exact k05 b o e m
    ·rw[er,List.length_append,List.length_singleton]
     have e2: ∀l,Ro (ps++[u]++l)=Ro (ps++u::l):=fun l=>by rw[List.append_assoc];rfl
     simp only[e2]
     exact w5
end
end
section
open Vbemac (Bytes Toks SIGNS KEYS peek place text isSign isKey expr newName anyName DEEP stmt stmts params)
def j2t_ (k:Nat) (K:Vbemac.Known) (n:Nat) (D:List Bytes) (x:Bytes) (ps:List Bytes):Vbemac.P ip:=Vbemac.sign "=">>=fun _=>expr k DEEP { K with values:=ps++K.values } >>=fun e=>Vbemac.sign ";">>=fun _=>pure (.func x ps e,{ K with funs:=(x,ps.length)::K.funs },n-1,D)
theorem nameLit {H:Hp}{a:cu}{r q kd fn:Addr}{ds bl:eA}{n:Nat}{t:Toks}{Kn:Vbemac.Known}(S:bP a H r q kd fn ds bl n t Kn) {u:Bytes}{t':Toks}(e:newName Kn t= .ok (u,t')):dP (sb u) u/\KEYS.contains u=false:=by
 obtain⟨⟨x,xp⟩,t1,rfl,tok,hpk,hpl,_⟩:=S.wh.first
 cases x with
 |word v=>
  cases hkw:KEYS.contains v with
  |true=>rw[e6 hkw] at e;cases e
  |false=>
   rw[cT hkw] at e
   by_cases h:Kn.taken v=true
   ·rw[if_pos h] at e;cases e
   ·rw[if_neg h] at e
    cases e
    exact⟨⟨rfl,tok.1,tok.2⟩,hkw⟩
 |num m=>cases e
 |sign s=>cases e
 |eof=>cases e
 |bad=>cases e
theorem j5r_ {K:Vbemac.Known}{t:Toks} :W (newName K) t (fun u t'=>newName K t= .ok (u,t')) (fun _ _=>True):=by
 unfold W
 cases h:newName K t with
 |error e=>exact True.intro
 |ok z=>rfl
theorem W_gv {α:Type}{p:Vbemac.P α}{t:Toks}{Qo:α->Toks->Prop}{Qe:Nat->Vbemac.Pos->Prop}(h:W p t Qo Qe):W (p>>=fun u=>Vbemac.give u) t Qo Qe:=by
 rw[aK]
 exact h
theorem bP.newB {a:cu}{H:Hp}{r q kd fn:Addr}{ds bl:eA}{n:Nat}{t:Toks}{Kn:Vbemac.Known}{nb:Addr}(S:bP a H r q kd fn ds bl n t Kn) (hnb:H nb=none) (dr:Addr) (er:H r=some (.ins a.c_Reader dr (rdF q kd fn ds.p bl.p n))):
  bP a (bg (bg H nb (.dK [])) r (.ins a.c_Reader dr (rdF q kd fn ds.p nb n))) r q kd fn ds ⟨nb,[],bl.x⟩ n t Kn/\az (br r kd fn ds bl) H (bg (bg H nb (.dK [])) r (.ins a.c_Reader dr (rdF q kd fn ds.p nb n))):=by
 rw[012]
 rw[07]
 have hy:=S.ds_
 rw[025]
 have old: ∀ {b:Addr}{o:HO},H b=some o->b≠r->bg (bg H nb (.dK [])) r (.ins a.c_Reader dr (rdF q kd fn ds.p nb n)) b=some o:=fun e w=>by
  rw[ag w,ag (aD e hnb)]
  exact e
 have nir: ∀ {b:Addr}{o:HO},H b=some o->(∀C dx fs,o≠ .ins C dx fs)->b≠r:=fun e no w=>by
  rw[w,er] at e
  exact no _ _ _ (Option.some.inj e).symm
 have nbr:nb≠r:=(aD er hnb).symm
 have tokr: ∀ {b:Addr}{x:Vbemac.Tok×Vbemac.Pos},f9 a.c_Token H b x->b≠r:=fun {b x} ⟨dx,ex⟩ w=>by
  rw[w,er] at ex
  have:=congrArg (fun o:HO=>match o with| .ins _ _ fs=>fs.length|_=>0) (Option.some.inj ex)
  exact absurd this (by show¬(6=4);decide)
 refine⟨⟨⟨⟨dr,ah⟩,as,all,old h1 (nir h1 fun _ _ _ z=>nomatch z),Paired.mapP h2 fun b x h=>?_,h3⟩,S.wh,⟨⟨kk,old k1 (nir k1 fun _ _ _ z=>nomatch z),k2,k3⟩,⟨ff,old f1 (nir f1 fun _ _ _ z=>nomatch z),f2⟩,S.kn.len,⟨ff,old f1 (nir f1 fun _ _ _ z=>nomatch z),S.kn.fl f1⟩⟩,old hy (nir hy fun _ _ _ z=>nomatch z),by show bg (bg H nb (.dK [])) r _ nb=some (.dK []);rw[ag nbr];exact ah,⟨d1,d2,aD k1 hnb,d4,aD f1 hnb,aD hy hnb⟩,fun b xs h=>?_⟩,fun b o e m=>old e fun z=>m (.inl z)⟩
 ·have w:=tokr h
  obtain⟨dx,ex⟩:=h
  exact⟨dx,old ex w⟩
 ·have e2:=S.fr b xs h
  exact old e2 (nir e2 fun _ _ _ z=>nomatch z)
theorem j3q_ {q kd fn ds bl nb:Addr}{n:Nat} :putF "blocks" (.ref nb) (rdF q kd fn ds bl n)=rdF q kd fn ds nb n:=by
 unfold rdF
 simp only[putF]
 rfl
theorem litDesk:dP "desk" (text "desk"):=[005]
theorem bP.putD {a:cu}{H:Hp}{r q kd fn:Addr}{ds bl:eA}{n:Nat}{t:Toks}{Kn:Vbemac.Known}{c:List (bW×V)}(S:bP a H r q kd fn ds bl n t Kn):bP a (bg H ds.p (.dK c)) r q kd fn (ds.at_ c) bl n t Kn:=by
 rw[01]
 rw[012]
 rw[07]
 have hy:=S.bl_
 have e:=S.ds_
 rw[025]
 have nr:r≠ds.p:=fun w=>by rw[w,e] at er;cases er
 have nq:q≠ds.p:=fun w=>by rw[w,e] at h1;cases h1
 refine⟨[059],S.wh,⟨⟨kk,by rw[ag d2];exact k1,k2,k3⟩,⟨ff,by rw[ag d4];exact f1,f2⟩,S.kn.len,⟨ff,by rw[ag d4];exact f1,S.kn.fl f1⟩⟩,ah,(by rw[ag d6.symm];exact hy),S.dif,fun b xs h=>?_⟩
 ·rw[ag fun w=>by rw[w,e] at ex;cases ex]
  exact ex
 ·have e2:=S.fr b xs h
  rw[034]
  exact e2
section
variable {k m:Nat}
theorem ok_z (T:Txt K mg a) (XC:XT K a) (kF:KdK P w K a.k_FIRST_FUNCTIONS dU) (hk:9<=k)
  (G_o:aJ P w K mg base (cH P w) k a.f_o a.fd_o ["reader"] (ym_ a)):
  aJ P w K mg base (cH P w) (k+1) a.f_z a.fd_z ["reader"] (yl_ a fun t=>isKey t "const"=false/\isKey t "fun"=true):=by
 rw[03]
 rw[06]
 rw[05]
 have G_n:=ca (P:=P) (w:=w) (base:=base) T XC
 have G_w:=gv (P:=P) (w:=w) (base:=base) T
 have G_ai:=ok_ai (P:=P) (w:=w) (base:=base) T XC
 have G_aE:=j52_ (P:=P) (w:=w) (base:=base) T
 refine fh T.d_z.F sc_z [04] [03]
 ·obtain⟨r,q,kd,fn,ds,bl,n,t,Kn,nf,D,fuel,rfl,_⟩:=h
  rfl
 ·obtain⟨r,q,kd,fn,ds,bl,n,t,Kn,nf,D,fuel,rfl,⟨nc,hkw⟩,hf,S,hD,hDl,hn,hW⟩:=h
  refine⟨_,(ae (aZ (bv dw (aY j7b_ (by rfl) T.n_len PySem.boot_len [019]) (bh dq (aY j5x_ (by rfl) T.n_len PySem.boot_len (aa (de (by rfl) T.g_FIRST_FUNCTIONS) af)) (bN (by rfl) T.g_MOST_FUNCTIONS)) (bx _)) (ai (au (aA (pv 0) T.cl_Reader T.d_e.c G_e [01] aj (aa (bN (by rfl) T.g_TOO_MANY) af)))) aG)
    (ae [000]
    (ae (aE (i:=1) sc_z.nd rfl [05] [063])
    (ae [000]
    (ae (aE (i:=2) sc_z.nd rfl [05] (be af))
    (ae (fY (aZ (eS [010]) (ai (aE (i:=2) sc_z.nd rfl [05] (al G_ai [01] (by rfl) T.d_ai.c aj [012]))) aG))
    (ae [000]
    (ae (aE (i:=3) sc_z.nd rfl [05] (al G_o [01] (by rfl) T.d_o.c aj [009]))
    (ae (gX PassesOwn.leaving rfl (fX (pv 2)) (dS (i:=4) sc_z.nd rfl [05]) (ai (au (aA (pv 0) T.cl_Reader T.d_w.c G_w [01] aQ (aa (pv 4) af)))))
    (ae (ur_ (fG hr) [07] (pv 1) (aY bj (by rfl) T.n_len PySem.boot_len [027]) rfl)
    (ai (ay (cv T.mk_Fun G_aE [01] (by rfl) T.mg_Fun T.d_aE.c.b .nil aQ (aa (pv 1) (aa (pv 2) (aa (pv 3) af)))))))))))))))),?_⟩
  rw[00]
  obtain rfl:x= .word (text "fun"):=beq_iff_eq.mp hkw
  have nb:peek ((.word (text "fun"),xp)::t')≠ .bad:=fun z=>nomatch z
  rw[015]
  rw[List.length_cons] at hf room hDl
  rw[01]
  rw[08]
  have fl:=S.kn.fl f1
  refine⟨r,_,dr,_,_,rfl,er,T.cl_Reader,T.no_Reader_functions,rfl,fn,ff,rfl,f1,a.k_FIRST_FUNCTIONS,dU,rfl,kF,_,_,rfl,rfl,rfl,_,rfl,?_⟩
  rw[dz]
  have c1: ¬isKey ((.word (text "fun"),xp)::t') "const"=true:=by rw[nc];exact Bool.false_ne_true
  rw[003]
  ·have e:=of_decide_eq_true e
   have e:(ff.length:Int)=3+6:=e
   have n0:nf=0:=by lia
   have hW:=du (p':=(Vbemac.fail 7:Vbemac.P ip)) (t':=(.word (text "fun"),xp)::t') (by unfold vg_;rw[if_neg c1,if_pos hkw,if_pos n0]) hW
   refine⟨r,dr,_,rfl,er,rfl,r,q,kd,fn,ds,bl,n,_,t',7,rfl,S.rd,?_⟩
   rw[W_fail] at hW
   exact hW H az.refl
  have n0:nf≠0:=fun z=>of_decide_eq_false e (by show(ff.length:Int)=3+6;lia)
  have hW:W (Vbemac.next>>=fun _=>funP fuel Kn nf D) _ _ _:=du (by unfold vg_;rw[if_neg c1,if_pos hkw,if_neg n0]) hW
  have hW:=uf_ hW
  unfold funP at hW
  refine [006]
  refine ja_ litFun S fun H1 S1 k1=>?_
  rw[018]
  rw[aK] at hW
  have hW:=W_and hW j5r_
  have hW:=W_gv hW
  refine j9_ S1 (fun k x z=>z.1 H1 k1) hW fun u H2 t2 l2 ft S2 k2 hW2=>?_
  obtain⟨hW2,eN⟩:=(show _/\_ from hW2)
  obtain⟨lit,nkey⟩:=nameLit S1 eN
  rw[037]
  rw[017]
  refine [078]
  refine dH litO S2 (fun k x z=>z H2 k02) hW2 fun H3 t3 l3 S3 k3 hW3=>?_
  have k03:=k02.trans k3
  refine [0021]
  have nL: ¬br r kd fn ds bl L:=S3.fresh hL
  have s34:=bf hL (o:= .lst [])
  have S4:=S3.same s34
  have k34:az (br r kd fn ds bl) H3 (bg H3 L (.lst [])):=OS.aW.keeps s34
  have k04:=k03.trans k34
  have hL4:bg H3 L (.lst []) L=some (.lst []):=ah
  generalize bg H3 L (.lst [])=H4 at S4 k34 k04 hL4
  rw[aK] at hW3
  refine⟨fun σ' H'=> ∃(ps:List Bytes) (Lp:Addr) (n5:Nat) (t5:Toks),σ'=[some (.ref r),some (.str (sb u)),some (.ref Lp),none,none]/\t5.length<=t3.length/\ps.length<=6/\ps.Nodup/\(∀x∈ps,x∉Kn.values)/\ ¬br r kd fn ds bl Lp/\H' Lp=some (.lst (fm ps))/\bP a H' r q kd fn ds bl n5 t5 ⟨ps.reverse++Kn.values,Kn.funs⟩/\az (br r kd fn ds bl) H4 H'/\
   W (Vbemac.sign ")") t5 (fun _ t6=>W (j2t_ fuel Kn nf D u ps) t6 (TopCn a r q kd fn ds bl H Q (t'.length+1)) (QE a r kd fn ds bl H E)) (QE a r kd fn ds bl H4 E),?_,?_⟩
  ·obtain⟨dr4,er4⟩:=S4.rd.ins
   refine [077]
   have ifno:isSign t3 ")"=false->Vbemac.ifSign ")" t3= .ok (false,t3):=fun no=>by unfold Vbemac.ifSign;rw[if_neg (by rw[no];exact Bool.false_ne_true)]
   refine j40_ litC S4 (fun b=>?_) fun nb=>[016]
   ·rw[dJ (ifno (c7 b ")")),if_neg Bool.false_ne_true,aK] at hW3
    exact(jf_ _ _ _).at_bad b hW3 H4 k04
   ·cases hs:isSign t3 ")" with
    |true=>
     rw[008]
     have ek:Vbemac.ifSign ")" t3= .ok (true,t3.drop 1):=by unfold Vbemac.ifSign;rw[if_pos hs]
     rw[dJ ek,if_pos rfl,aK,W_give] at hW3
     have es:Vbemac.sign ")" t3= .ok ((),t3.drop 1):=by unfold Vbemac.sign;rw[if_pos hs]
     refine⟨[],L,_,t3,rfl,Nat.le_refl _,Nat.zero_le _,List.nodup_nil,(fun _ z=>nomatch z),nL,hL4,S4,az.refl,?_⟩
     rw[dJ es]
     exact hW3
    |false=>
     rw[027]
     rw[dJ (ifno hs),if_neg Bool.false_ne_true,aK] at hW3
     refine⟨r,q,kd,fn,ds,bl,_,t3,Kn,u,fuel,_,rfl,lit,nkey,S4,by lia,hW3.mono (fun _ _ z=>z) (fun _ _ z H' k'=>z H' (k04.trans k')),fun ps t5 H5 Lp n5 l5 p6 pnd pfr w5 S5 k5 H4L H5L=>?_⟩
     exact⟨ps,Lp,n5,t5,rfl,by lia,p6,pnd,pfr,S4.fresh H4L,H5L,S5,k5,w5⟩
  rintro σ5 H5 ⟨ps,Lp,n5,t5,rfl,l5,p6,pnd,pfr,nLp,hLp,S5,k45,w5⟩
  have k05:=k04.trans k45
  obtain⟨dr5,er5⟩:=S5.rd.ins
  refine⟨r,dr5,_,rfl,er5,rfl,?_⟩
  refine dH litC S5 (fun k x z=>z H5 k45) (W_gv w5) fun H6 t6 l6 S6 k6 w6=>?_
  have k06:=k05.trans k6
  have w6:W (j2t_ fuel Kn nf D u ps) t6 (TopCn a r q kd fn ds bl H Q (t'.length+1)) (QE a r kd fn ds bl H E):=w6
  unfold j2t_ at w6
  have S7:bP a H6 r q kd fn ds bl (n5+1) t6 { Kn with values:=ps++Kn.values } :=S6.recast (fun v=>by
   rw[Bool.eq_iff_iff,List.contains_iff_mem,List.contains_iff_mem,List.mem_append,List.mem_append,List.mem_reverse]) (by
   show(ps++Kn.values).length=(ps.reverse++Kn.values).length
   rw[List.length_append,List.length_append,List.length_reverse]) rfl
  have hG:=j3i_ w6
  refine⟨r,q,kd,fn,ds,bl,_,t6,{ Kn with values:=ps++Kn.values },fuel,rfl,S7,by lia,hG.mono (fun e t8 w8 l8 H8 v n8 S8 k8 ev=>?_) fun _ _ z H' k'=>z H' (k06.trans k')⟩
  have k08:=k06.trans k8
  have hL8:H8 Lp=some (.lst (fm ps)):=k8 _ _ (k6 _ _ hLp nLp) nLp
  refine⟨Lp,rfl,⟨_,cK.of hL8⟩,ga (K:=K) (a:=Lp) (xs:=fm ps) (fun i σ H'=> ∃y:Option V,σ=[some (.ref r),some (.str (sb u)),some (.ref Lp),some v,y]/\bP a H' r q kd fn ds bl n8 t8 { Kn with values:=ps.drop i++Kn.values } /\az (br r kd fn ds bl) H8 H') ⟨none,rfl,S8,az.refl⟩ (fun i σ H' _ ⟨_,_,S',k'⟩=>cK.of (k' _ _ hL8 nLp)) ?_ ?_⟩
  ·rintro i y σ H9 hi ⟨y0,rfl,S9,k9⟩
   obtain⟨x,hx,rfl⟩: ∃x,ps[i]?=some x/\y=V.str (sb x):=by
    unfold fm at hi
    rw[List.getElem?_map] at hi
    cases e:ps[i]? with
    |none=>rw[e] at hi;cases hi
    |some c=>rw[e] at hi;exact⟨c,rfl,(Option.some.inj hi).symm⟩
   have ed:ps.drop i=x::ps.drop (i+1):=by
    obtain⟨h,e⟩:=List.getElem?_eq_some_iff.mp hx
    rw[<-e]
    exact List.drop_eq_getElem_cons h
   rw[ed] at S9
   have sub:(x::ps.drop (i+1)).Sublist ps:=by
    rw[<-ed]
    exact List.drop_sublist i ps
   have nin:=(List.nodup_cons.mp (sub.nodup pnd)).1
   have nV:=pfr x (sub.subset [076])
   obtain⟨dr9,er9⟩:=S9.rd.ins
   obtain⟨kb,kb1,_,_⟩:=S9.kn.vals
   obtain⟨hu,Sa⟩:=S9.forgetG (u:=x) (K2:= { Kn with values:=ps.drop (i+1)++Kn.values }) (List.contains_iff_mem.mpr [076]) rfl rfl (fun z=>by
    show(ps.drop (i+1)++Kn.values).contains z=(!decide (z=x)&&(x::(ps.drop (i+1)++Kn.values)).contains z)
    rw[List.contains_cons]
    by_cases e:z=x
    ·subst e
     rw[decide_eq_true rfl]
     show _=false
     rw[Bool.eq_false_iff]
     intro w
     rcases List.mem_append.mp (List.contains_iff_mem.mp w) with w|w
     ·exact nin w
     ·exact nV w
    ·rw[decide_eq_false e,show(z == x)=false from beq_eq_false_iff_ne.mpr e]
     rfl) kb1
   refine⟨r,dr9,_,rfl,er9,rfl,r,dr9,q,kd,fn,ds,bl,_,x,kb,rfl,er9,kb1,hu,?_⟩
   exact⟨_,rfl,Sa,k9.trans fun b o e m=>by rw[ag fun z=>m [013]];exact e⟩
  ·rintro σ H9 ⟨y0,rfl,S9,k9⟩
   have ed:ps.drop (fm ps).length=[]:=by unfold fm;rw[List.length_map];exact List.drop_length
   rw[ed] at S9
   have S9:bP a H9 r q kd fn ds bl n8 t8 Kn:=S9
   obtain⟨dr9,er9⟩:=S9.rd.ins
   obtain⟨gg,g1,_⟩:=S9.kn.funs
   have gl:=S9.kn.fl g1
   have hL9:=k9 _ _ hL8 nLp
   have sl:(fm ps).length=ps.length:=List.length_map ..
   refine⟨_,_,rfl, .inl (cK.of hL9),r,_,dr9,_,_,rfl,er9,T.cl_Reader,T.no_Reader_functions,rfl,fn,_,rfl, .inl ⟨gg,nk u,g1,rfl,Nat.lt_of_le_of_lt (show gg.length<=9 by lia) [06],rfl⟩,?_⟩
   have Sa:=S9.putF (x:=u) (c:=(fm ps).length) ft g1
   have k9a:az (br r kd fn ds bl) H9 (bg H9 fn (.dK (dI gg (nk u) (.int ((fm ps).length:Nat))))):=fun b o e m=>by rw[ag fun z=>m [0010]];exact e
   rw[035]
   have k9d:=k9a.trans (OS.aW.keeps (M:=br r kd fn ds bl) scd)
   have k8d:=k9.trans k9d
   have w8:TopCn a r q kd fn ds bl H Q (t'.length+1) _ t8:=w8
   have Sb:=Sa.recast (K2:= { Kn with funs:=(u,ps.length)::Kn.funs }) (fun _=>rfl) rfl (by show(u,ps.length)::Kn.funs=(u,(fm ps).length)::Kn.funs;rw[sl])
   refine w8 (by lia) Hd (.ref p) _ ds.c bl hD (by lia) rfl (.inl rfl) (Sb.same scd) (by show Kn.funs.length+1+(nf-1)=9;lia) (k08.trans k8d) ?_
   exact⟨.ref Lp,v,⟨p,dx,rfl,Sa.fresh hp,hd'⟩,cn.keep k8d.two ⟨Lp,rfl,nLp,hL8⟩,ao.keep k8d _ ev⟩
theorem ok_Z (T:Txt K mg a) (XC:XT K a) (hk:8<=k)
  (G_k:aJ P w K mg base (cH P w) k a.f_k a.fd_k ["reader","depth"] (spBr a 7)):
  aJ P w K mg base (cH P w) (k+1) a.f_Z a.fd_Z ["reader"] (yl_ a fun t=>isKey t "const"=false/\isKey t "fun"=false):=by
 rw[03]
 have G_al:=fQ (P:=P) (w:=w) (base:=base) T XC
 have G_aF:=j2e_ (P:=P) (w:=w) (base:=base) T
 refine fh T.d_Z.F sc_Z [04] [03]
 ·obtain⟨r,q,kd,fn,ds,bl,n,t,Kn,nf,D,fuel,rfl,_⟩:=h
  rfl
 ·obtain⟨r,q,kd,fn,ds,bl,n,t,Kn,nf,D,fuel,rfl,⟨nc,nfu⟩,hf,S,hD,hDl,hn,hW⟩:=h
  refine⟨_,(ae [000]
    (ae (aE (i:=1) sc_Z.nd rfl [05] (aA (pv 0) T.cl_Reader T.d_al.c G_al [01] aj [019]))
    (ae (ur_ (fG hr) [07] (pv 1) pe_bl rfl)
    (ae (aX (pv 0) vc_ rfl)
    (ai (ay (cv T.mk_Desk G_aF [01] (by rfl) T.mg_Desk T.d_aF.c.b .nil aQ (aa (pv 1) (aa (al G_k [01] (by rfl) T.d_k.c aj (aa (pv 0) (aa aU af))) af))))))))),?_⟩
  rw[015]
  have c1: ¬isKey t "const"=true:=by rw[nc];exact Bool.false_ne_true
  have c2: ¬isKey t "fun"=true:=by rw[nfu];exact Bool.false_ne_true
  have hW:W (Vbemac.key "desk">>=fun _=>deskP fuel Kn nf D) t (TopCn a r q kd fn ds bl H Q t.length) (QE a r kd fn ds bl H E):=by
   cases hd:isKey t "desk" with
   |true=>
    have h:=du (p':=(Vbemac.next>>=fun _=>deskP fuel Kn nf D:Vbemac.P ip)) (t':=t) (by unfold vg_;rw[if_neg c1,if_neg c2,if_pos hd]) hW
    rw[aK] at h ⊢
    rw[dJ (show Vbemac.key "desk" t= .ok ((),t.drop 1) by unfold Vbemac.key;rw[if_pos hd])]
    exact h
   |false=>
    have c3: ¬isKey t "desk"=true:=by rw[hd];exact Bool.false_ne_true
    have h:=du (p':=(Vbemac.fail 2:Vbemac.P ip)) (t':=t) (by unfold vg_;rw[if_neg c1,if_neg c2,if_neg c3]) hW
    rw[aK]
    exact du (p:=(Vbemac.fail 2:Vbemac.P Unit)) (t:=t) (by unfold Vbemac.key;rw[if_neg c3]) h
  rw[004]
  refine uw_ litDesk S [072] hW fun H1 t1 l1 S1 k1 hW1=>?_
  unfold deskP at hW1
  obtain⟨⟨x,xp⟩,t2,rfl,tok,hpk,hpl,_⟩:=S1.wh.first
  obtain⟨dr1,er1⟩:=S1.rd.ins
  rw[aK] at hW1
  refine⟨r,dr1,_,rfl,er1,rfl,r,_,dr1,_,_,rfl,er1,T.cl_Reader,T.no_Reader_desks,rfl,?_⟩
  refine⟨r,q,kd,fn,ds,bl,ds.p,n+1,(x,xp),t2,ds.c,rfl,S1.rd,S1.ds_,fun b=>(ud_ D).at_bad [0008] hW1 H1 k1,fun nb en=>?_,fun u ex en hu=>?_,fun u ex en hu H2 hp2=>?_⟩
  ·refine bQ (p:=dN D) (n:=2) (t:=(x,xp)::t2) ?_ nb hW1 H1 k1
   cases x with
   |word u=>
    have en:dv (.word u)=false:=en
    rw[bM] at en
    rw[044]
    unfold dN
    rw[cC,if_pos hkw]
    rfl
   |num m=>rfl
   |sign s=>rfl
   |eof=>rfl
   |bad=>exact absurd rfl nb
  ·obtain rfl:x= .word u:=ex
   have en:dv (.word u)=true:=en
   rw[bM] at en
   rw[043]
   refine bQ (p:=dN D) (n:=4) (t:=(.word u,xp)::t2) ?_ [003] hW1 H1 k1
   unfold dN
   rw[cC,if_neg [0006]]
   dsimp only
   rw[if_pos ((hD u).symm.trans hu)]
  obtain rfl:x= .word u:=ex
  have en:dv (.word u)=true:=en
  rw[bM] at en
  rw[043]
  have hu':D.contains u=false:=(hD u).symm.trans hu
  have ed:dN D ((.word u,xp)::t2)= .ok (u,t2):=by
   unfold dN
   rw[cC,if_neg [0006]]
   dsimp only
   rw[if_neg (by rw[hu'];exact Bool.false_ne_true)]
  rw[dJ ed] at hW1
  have S2:=S1.past [014] hp2
  have k02:=k1.trans (bt hp2)
  rw[017]
  rw[List.length_cons] at l1
  refine⟨r,_,dr2,_,_,rfl,er2,T.cl_Reader,T.no_Reader_desks,rfl,ds.p,_,rfl, .inl ⟨ds.c,nk u,S2.ds_,rfl,Nat.lt_of_le_of_lt (show ds.c.length<=4000 by lia) [06],rfl⟩,?_⟩
  have S3:bP a (bg H2 ds.p (.dK (dI ds.c (nk u) (.bl true)))) r q kd fn (ds.at_ (dI ds.c (nk u) (.bl true))) bl (n+1+1) t2 Kn:=S2.putD
  have k23:az (br r kd fn ds bl) H2 (bg H2 ds.p (.dK (dI ds.c (nk u) (.bl true)))):=fun b o e m=>by rw[ag fun z=>m (.inr [0010])];exact e
  have hD3: ∀v,has (dI ds.c (nk u) (.bl true)) v=(u::D).contains v:=fun v=>by
   rw[j2q_,List.contains_cons,hD v]
   congr 1
   rw[Bool.eq_iff_iff,decide_eq_true_iff,beq_iff_eq]
  have hD3l:(dI ds.c (nk u) (.bl true)).length+t2.length<=4000:=by
   have:=eZ ds.c (nk u) (.bl true)
   lia
  have k03:=k02.trans k23
  generalize hc3:dI ds.c (nk u) (.bl true)=c3 at S3 hD3 hD3l k23 k03 ⊢
  generalize hH3:bg H2 ds.p (.dK c3)=H3 at S3 k23 k03 ⊢
  intro nb hnb
  have S4:=S3.newB hnb
  rw[033]
  have rn:r≠nb:=fun z=>by rw[<-z,er3] at hnb;cases hnb
  have nbM: ¬br r kd fn ds bl nb:=S3.fresh (ds:=ds.at_ c3) hnb
  refine⟨r,_,dr3,_,rfl,(by rw[ag rn];exact er3),T.cl_Reader,T.no_Reader_blocks,(by show 6<1000;decide),?_⟩
  rw[show(ds.at_ c3).p=ds.p from rfl] at er3
  rw[j3q_]
  obtain⟨S5,k35⟩:=S4 dr3 er3
  generalize hH5:bg (bg H3 nb (.dK [])) r (.ins a.c_Reader dr3 (rdF q kd fn ds.p nb (n+1+1)))=H5 at S5 k35 ⊢
  have k05:az (br r kd fn ds bl) H H5:=k03.trans k35
  have H0nb:H nb=none:=by
   cases e:H nb with
   |none=>rfl
   |some o=>rw[k03 nb o e nbM] at hnb;cases hnb
  have ext: ∀ {H':Hp},az (br r kd fn ds ⟨nb,[],bl.x⟩) H5 H'->az (br r kd fn ds bl) H H':=fun k' b o e m=>k' b o (k05 b o e m) fun z=>by
   rcases z with z|z|z|z|z|z
   ·exact m (.inl z)
   ·exact m [013]
   ·exact m [0010]
   ·exact m (.inr [0010])
   ·have z:b=nb:=z
    rw[z,H0nb] at e
    cases e
   ·exact m (.inr (.inr (.inr (.inr (.inr z)))))
  have h5:=W_br hW1
  refine⟨r,q,kd,fn,ds.at_ c3,⟨nb,[],bl.x⟩,_,t2,Kn,[],0,fuel,rfl,Nat.zero_le _,by decide,by lia,S5,(fun v=>rfl),(by show 0+t2.length<=4000;lia),h5.mono (fun l t6 w6 l6 H6 v n6 c6 hB6 hc6 S6 k6 sv6=>?_) fun _ _ z H' k'=>z H' (ext k')⟩
  obtain⟨us,la,sa⟩:=sv6
  rw[023]
  have k6d:az (br r kd fn ds ⟨nb,[],bl.x⟩) H6 Hd:=OS.aW.keeps scd
  have w6:TopCn a r q kd fn ds bl H Q t.length _ t6:=w6
  exact w6 (by lia) Hd (.ref p) _ c3 ⟨nb,c6,bl.x⟩ hD3 (by lia) rfl (.inr H0nb) (S6.same scd) hn (ext (k6.trans k6d)) ⟨v,us,⟨p,dx,rfl,S6.fresh hp,hd'⟩,la.keep k6d.two,bo.keep2 k6d.two _ sa⟩
theorem ok_4 (T:Txt K mg a) (XC:XT K a) (hk:7<=k)
  (G_O:aJ P w K mg base (cH P w) k a.f_O a.fd_O ["reader"] (yl_ a fun t=>isKey t "const"=true))
  (G_z:aJ P w K mg base (cH P w) k a.f_z a.fd_z ["reader"] (yl_ a fun t=>isKey t "const"=false/\isKey t "fun"=true))
  (G_Z:aJ P w K mg base (cH P w) k a.f_Z a.fd_Z ["reader"] (yl_ a fun t=>isKey t "const"=false/\isKey t "fun"=false)):
  aJ P w K mg base (cH P w) (k+1) a.f_4 a.fd_4 ["reader"] (yl_ a fun _=>True):=by
 rw[05]
 refine fh T.d_4.F sc_4 [04] [03]
 ·obtain⟨r,q,kd,fn,ds,bl,n,t,Kn,nf,D,fuel,rfl,_⟩:=h
  rfl
 ·obtain⟨r,q,kd,fn,ds,bl,n,t,Kn,nf,D,fuel,rfl,_,hf,S,hD,hDl,hn,hW⟩:=h
  refine⟨_,(ae (aZ [010] (ai (ay (al G_O [01] (by rfl) T.d_O.c aj [009]))) aG)
    (ae (aZ [010] (ai (ay (al G_z [01] (by rfl) T.d_z.c aj [009]))) aG)
    (ai (ay (al G_Z [01] (by rfl) T.d_Z.c aj [009]))))),?_⟩
  have hb:peek t= .bad->fw a.c_Fault E H 1 (place t):=fun b=>(j4u_ _ _ _ _).at_bad b hW H az.refl
  rw[004]
  refine fZ j45_ S hb fun nb=>⟨_,rfl,bB (fun e1=>?_) fun e1=>?_⟩
  ·exact⟨r,q,kd,fn,ds,bl,n,t,Kn,nf,D,fuel,rfl,e1,hf,S,hD,hDl,hn,hW⟩
  refine [006]
  refine fZ litFun S hb fun nb=>⟨_,rfl,bB (fun e2=>?_) fun e2=>?_⟩
  ·exact⟨r,q,kd,fn,ds,bl,n,t,Kn,nf,D,fuel,rfl,⟨e1,e2⟩,hf,S,hD,hDl,hn,hW⟩
  ·exact⟨r,q,kd,fn,ds,bl,n,t,Kn,nf,D,fuel,rfl,⟨e1,e2⟩,hf,S,hD,hDl,hn,hW⟩
end
end
section
open Vbemac (Bytes Toks SIGNS KEYS peek place text isSign isKey tokens known0 FUNS BUILT)
abbrev TopL (a:cu) (M:Addr->Prop) (H:Hp) (ss:List Vbemac.Top) (us:List V):Prop:=Paired (fun s v=>gW a M H s v) ss us
inductive j32_ (K:PySem.W.Frag) (a:cu) (vs:List V) (H:Hp) (Q:VK) (E:XK):Prop
 |mk (l:Addr) (bs:Bytes) (_:vs=[.ref l]) (_:cK K H l (bsV bs)) (_:bs.length<=3000) (_:W (Vbemac.tops (Vbemac.fuel (tokens bs)) known0 FUNS []) (tokens bs) (fun ss _=> ∀H' (L:Addr) (us:List V) (M:Addr->Prop),aW H H'->H L=none-> ¬M L->H' L=some (.lst us)->TopL a M H' ss us->Q (.ref L) H') (fun k x=> ∀H',aW H H'->fw a.c_Fault E H' k x)):j32_ K a vs H Q E
section
variable {k m:Nat}
theorem ok_N (T:Txt K mg a) (XC:XT K a) (kS:KdT P w K a.k_SIGNS eO) (kF:KdK P w K a.k_FIRST_FUNCTIONS dU) (hk:7<=k)
  (G_4:aJ P w K mg base (cH P w) k a.f_4 a.fd_4 ["reader"] (yl_ a fun _=>True)):
  aJ P w K mg base (cH P w) (k+1) a.f_N a.fd_N ["text"] (j32_ K a):=by
 have G_aH:=j10_ (P:=P) (w:=w) (base:=base) T kF
 have G_s:=ok_s (P:=P) (w:=w) (base:=base) T kS
 have G_aI:=j69_ (P:=P) (w:=w) (base:=base) T XC
 refine fh T.d_N.F sc_N [04] [03]
 ·obtain⟨l,bs,rfl,_⟩:=h
  rfl
 ·obtain⟨l,bs,rfl,hS,hl,hW⟩:=h
  refine⟨_,(ae (aE (i:=1) sc_N.nd rfl [05] (cv T.mk_Reader G_aH [01] (by rfl) T.mg_Reader T.d_aH.c.b .nil aQ (aa (al G_s [01] (by rfl) T.d_s.c aQ [009]) af)))
    (ae (aE (i:=2) sc_N.nd rfl [05] (be af))
    (ae (dR PassesOwn.leaving (eS (bd (a0 (pv 1) T.cl_Reader T.d_aI.c G_aI [01] aj))) (ai (au (cr PySem.F.plainAttrs_list PySem.F.slot_list_append PySem.F.type_list_append bR (pv 2) (aa (al G_4 [01] (by rfl) T.d_4.c aj [002]) af)))))
    (ai (ay (pv 2)))))),?_⟩
  refine⟨l,bs,rfl,hS,hl,fun H1 q as s1 hq0 hq1 tk=>?_⟩
  intro r dr hr0 hdr ne
  refine⟨r,dr,q,rfl,ah,fun H2 kd fn ds bl N=>⟨rfl,?_⟩⟩
  have qr:q≠r:=(aD hq1 hr0)
  have up1: ∀ {b:Addr}{o:HO},H1 b=some o->bg (bg H1 dr (.own r)) r (.ins a.c_Reader dr []) b=some o:=fun e=>by
   rw[ag (aD e hr0),ag (aD e hdr)]
   exact e
  have ntok: ∀ {as:List Addr}{ts:Toks},Paired (f9 a.c_Token H1) as ts-> ∀b∈as,b≠r:=fun tk=>by
   induction tk with
   |nil=>exact fun b hb=>nomatch hb
   |cons h t ih=>
    intro b hb
    rcases List.mem_cons.mp hb with hb|hb
    ·obtain⟨dx,e⟩:=h
     rw[hb]
     exact aD e hr0
    ·exact ih b hb
  have S2:=N.st (up1 hq1) qr (Paired.mapP tk fun b x ⟨dx,e⟩=>⟨dx,up1 e⟩) (ntok tk) hl
  have s02:aW H H2:=fun b o e=>N.kept b o (up1 (s1 b o e)) (aD (s1 b o e) hr0)
  have upn: ∀ {b:Addr},bg (bg H1 dr (.own r)) r (.ins a.c_Reader dr []) b=none->H b=none:=fun {b} e=>by
   cases z:H b with
   |none=>rfl
   |some o=>rw[up1 (s1 b o z)] at e;cases e
  have M2: ∀b,br r kd fn ⟨ds,[],F0⟩ ⟨bl,[],F0⟩ b->H b=none:=fun b z=>by
   rcases z with z|z|z|z|z|⟨_,z⟩
   ·rw[z]
    cases e:H r with
    |none=>rfl
    |some o=>rw[s1 r o e] at hr0;cases hr0
   ·rw[z];exact upn N.kd0
   ·rw[z];exact upn N.fn0
   ·rw[z];exact upn N.ds0
   ·rw[z];exact upn N.bl0
   ·exact z.elim
  refine [0021]
  have H0L:H L=none:=by
   cases e:H L with
   |none=>rfl
   |some o=>rw[s02 L o e] at hL;cases hL
  have nq:L≠q:=fun z=>by obtain⟨as,all,h1,_⟩:=S2.rd.toks;rw[z,h1] at hL;cases hL
  have S3:bP a (bg H2 L (.lst [])) r q kd fn ⟨ds,[],F0⟩ ((⟨bl,[],F0⟩:eA).more L []) 0 (tokens bs) known0:=(S2.same (bf hL)).more ah
  let Ro:Vbemac.Sheet->Toks->Prop:=fun ss _=> ∀H' (L:Addr) (us:List V) (M:Addr->Prop),aW H H'->H L=none-> ¬M L->H' L=some (.lst us)->TopL a M H' ss us->Q (.ref L) H'
  let Qe:Nat->Vbemac.Pos->Prop:=fun k x=> ∀H',aW H H'->fw a.c_Fault E H' k x
  let Iv:List Vbemac.Top->List V->Vbemac.Known->Nat->List Bytes->List (bW×V)->Addr->List (bW×V)->Nat->Toks->Nat->Hp->Prop:=fun ss us K1 nf D dc bp bc n1 t1 f1 H'=>us.length+t1.length<=(tokens bs).length/\bP a H' r q kd fn ⟨ds,dc,F0⟩ ((⟨bp,bc,F0⟩:eA).more L us) n1 t1 K1/\(∀u,has dc u=D.contains u)/\dc.length+t1.length<=4000/\K1.funs.length+nf=9/\16*t1.length+1<=f1/\aW H H'/\
   (∀b,br r kd fn ⟨ds,dc,F0⟩ (⟨bp,bc,F0⟩:eA) b->H b=none)/\ ¬br r kd fn ⟨ds,dc,F0⟩ (⟨bp,bc,F0⟩:eA) L/\TopL a (br r kd fn ⟨ds,dc,F0⟩ ((⟨bp,bc,F0⟩:eA).more L us)) H' ss us/\W (Vbemac.tops f1 K1 nf D) t1 (fun l t'=>Ro (ss++l) t') Qe
  have tl:(tokens bs).length<=3002:=by
   have:=dD (bs.length+1) (1,1) bs
   unfold tokens
   lia
  refine⟨fun mm σ H'=> ∃(ss:List Vbemac.Top) (us:List V) (K1:Vbemac.Known) (nf:Nat) (D:List Bytes) (dc:List (bW×V)) (bp:Addr) (bc:List (bW×V)) (n1:Nat) (t1:Toks) (f1:Nat),mm=t1.length/\σ=[some (.ref l),some (.ref r),some (.ref L)]/\Iv ss us K1 nf D dc bp bc n1 t1 f1 H',
   ⟨_,[],[],known0,FUNS,[],[],bl,[],0,tokens bs,Vbemac.fuel (tokens bs),rfl,rfl,by show 0+_<=_;lia,S3,(fun u=>rfl),by show 0+_<=_;lia,rfl,by unfold Vbemac.fuel;lia,s02.trans (bf hL),M2,S2.fresh hL, .nil,hW⟩,?_⟩
  rintro mm σ H4 ⟨ss,us,K1,nf,D,dc,bp,bc,n4,t4,f4,rfl,rfl,ul,S4,hD,hDl,hn,hf4,s04,M4,nL,tv,w4⟩
  obtain⟨f4,rfl⟩: ∃f',f4=f'+1:=⟨f4-1,by lia⟩
  obtain⟨⟨x,xp⟩,t5,rfl,tok,hpk,hpl,_⟩:=S4.wh.first
  rw[022]
  refine⟨r,dr4,_,rfl,er4,rfl,r,q,kd,fn,ds,bp,n4,(x,xp),t5,rfl,S4.rd,(fun b=>(j5h_ _ _ _ _).at_bad [0008] w4 H4 s04),fun nb=>[016]⟩
  have ee:isEnd x=true->x= .eof:=fun h=>by cases x<;>first|rfl|cases h
  cases he:isEnd x with
  |true=>
   have ex:=ee he
   subst ex
   rw[008]
   rw[dJ (tops_end (t:=(.eof,xp)::t5) rfl)] at w4
   have w4:Ro (ss++[]) ((.eof,xp)::t5):=w4
   rw[List.append_nil] at w4
   exact w4 H4 L us (br r kd fn ⟨ds,dc,F0⟩ (⟨bp,bc,F0⟩:eA)) s04 H0L nL S4.the (Paired.mapP tv fun s v h=>gW.keep2 (fun b o e m=>⟨fun z=>m (b8 z),e⟩) _ h)
  |false=>
   have ne:peek ((x,xp)::t5)≠ .eof:=fun z=>by
    have z:x= .eof:=z
    rw[z] at he
    cases he
   rw[027]
   refine⟨fun σ' H'=> ∃(ss:List Vbemac.Top) (us:List V) (K1:Vbemac.Known) (nf:Nat) (D:List Bytes) (dc:List (bW×V)) (bp:Addr) (bc:List (bW×V)) (n1:Nat) (t1:Toks) (f1:Nat),t1.length<((x,xp)::t5).length/\σ'=[some (.ref l),some (.ref r),some (.ref L)]/\Iv ss us K1 nf D dc bp bc n1 t1 f1 H',?_,?_⟩
   ·rintro σ' H' ⟨ss',us',K',nf',D',dc',bp',bc',n',t',f',l',rfl,I'⟩
    exact⟨_,l',ss',us',K',nf',D',dc',bp',bc',n',t',f',rfl,rfl,I'⟩
   have ext: ∀ {H':Hp},az (br r kd fn ⟨ds,dc,F0⟩ ((⟨bp,bc,F0⟩:eA).more L us)) H4 H'->aW H H':=fun k' b o e=>k' b o (s04 b o e) fun z=>by
    rcases dk z with z|z
    ·rw[z,H0L] at e;cases e
    ·rw[M4 b z] at e;cases e
   have h5:=tops_go ne w4
   refine⟨.inl ⟨rfl,_,cK.of S4.the⟩,?_⟩
   refine⟨r,q,kd,fn,⟨ds,dc,F0⟩,(⟨bp,bc,F0⟩:eA).more L us,n4,(x,xp)::t5,K1,nf,D,f4,rfl,True.intro,by lia,S4,hD,hDl,hn,h5.mono (fun y t6 w6 l6 H6 v n6 dc6 bl6 hD6 hD6l bx6 bp6 S6 hn6 k6 ta6=>?_) fun _ _ z H' k'=>z H' (ext k')⟩
   obtain⟨bp',bc',bx'⟩:=bl6
   obtain rfl:bx'=((⟨bp,bc,F0⟩:eA).more L us).x:=bx6
   have s06:=ext k6
   have S6:bP a H6 r q kd fn ⟨ds,dc6,F0⟩ ((⟨bp',bc',F0⟩:eA).more L us) n6 t6 y.2.1:=S6
   have bp6:bp'=bp\/H4 bp'=none:=bp6
   have hb0:H bp'=none:=bp6.elim (fun z=>by rw[z];exact M4 bp (.inr (.inr (.inr (.inr (.inl rfl)))))) fun z=>by
    cases e:H bp' with
    |none=>rfl
    |some o=>rw[s04 bp' o e] at z;cases z
   have Lb:L≠bp':=fun z=>bp6.elim (fun w=>nL (.inr (.inr (.inr (.inr (.inl (z.trans w))))))) fun w=>by rw[<-z,S4.the] at w;cases w
   have M6: ∀b,br r kd fn ⟨ds,dc6,F0⟩ (⟨bp',bc',F0⟩:eA) b->H b=none:=fun b z=>by
    rcases z with z|z|z|z|z|⟨_,z⟩
    ·exact M4 b (.inl z)
    ·exact M4 b [013]
    ·exact M4 b [0010]
    ·exact M4 b (.inr [0010])
    ·have z:b=bp':=z
     rw[z];exact hb0
    ·exact z.elim
   have nL6: ¬br r kd fn ⟨ds,dc6,F0⟩ (⟨bp',bc',F0⟩:eA) L:=fun z=>by
    rcases z with z|z|z|z|z|⟨_,z⟩
    ·exact nL (.inl z)
    ·exact nL [013]
    ·exact nL [0010]
    ·exact nL (.inr [0010])
    ·exact Lb z
    ·exact z.elim
   refine⟨L,_,_,rfl,rfl,S6.the,Nat.lt_of_le_of_lt (show us.length<=4000 by lia) [06],?_⟩
   have up6:db (br r kd fn ⟨ds,dc6,F0⟩ ((⟨bp',bc',F0⟩:eA).more L us)) (br r kd fn ⟨ds,dc6,F0⟩ ((⟨bp',bc',F0⟩:eA).more L (us++[v]))) H6 (bg H6 L (.lst (us++[v]))):=fun b o e m=>⟨fun z=>m (qh_ z),by rw[ag fun z=>m (by rw[z];exact dm)];exact e⟩
   have up4:db (br r kd fn ⟨ds,dc,F0⟩ ((⟨bp,bc,F0⟩:eA).more L us)) (br r kd fn ⟨ds,dc6,F0⟩ ((⟨bp',bc',F0⟩:eA).more L (us++[v]))) H4 (bg H6 L (.lst (us++[v]))):=fun b o e m=>up6 b o (k6 b o e m) fun z=>by
    rcases dk z with z|z
    ·exact m (by rw[z];exact dm)
    ·rcases z with z|z|z|z|z|⟨_,z⟩
     ·exact m (b8 (.inl z))
     ·exact m (b8 [013])
     ·exact m (b8 [0010])
     ·exact m (b8 (.inr [0010]))
     ·have z:b=bp':=z
      rcases bp6 with w|w
      ·exact m (b8 (.inr (.inr (.inr (.inr (.inl (z.trans w)))))))
      ·rw[z,w] at e;cases e
     ·exact z.elim
   refine⟨ss++[y.1],us++[v],y.2.1,y.2.2.1,y.2.2.2,dc6,bp',bc',n6,t6,f4,l6,rfl,by rw[List.length_append,List.length_singleton];rw[List.length_cons] at ul l6;lia,S6.write (fun zs z=>z) nq,hD6,hD6l,hn6,by rw[List.length_cons] at hf4 l6;lia,fun b o e=>?_,M6,nL6,?_,?_⟩
   ·rw[ag fun z=>by rw[z,H0L] at e;cases e]
    exact s06 b o e
   ·exact dA (Paired.mapP tv fun s v h=>gW.keep2 up4 _ h) (gW.keep2 up6 _ ta6)
   ·have e2: ∀l,Ro (ss++[y.1]++l)=Ro (ss++y.1::l):=fun l=>by rw[List.append_assoc];rfl
    simp only[e2]
    exact w6
end
end
section
open Vbemac (Bytes Toks tokens bytesOf)
def dL (zs:List Int):List V:=zs.map V.int
def ie (z:Int):Bool:=decide (0<=z)&&decide (z<=255)
def qp_ (zs:List Int):Bool:=decide (zs.length<=3000)&&zs.all ie
inductive j5f_ (K:PySem.W.Frag) (vs:List V) (H:Hp) (Q:VK) (_E:XK):Prop
 |mk (l:Addr) (zs:List Int) (_:vs=[.ref l]) (_:cK K H l (dL zs)) (_:zs.length<=4000) (_: ∀H',aW H H'->Q (.bl (qp_ zs)) H'):j5f_ K vs H Q _E
theorem j59_ {zs:List Int}(h:qp_ zs=false):bytesOf zs=none:=by
 unfold bytesOf
 rw[if_neg]
 intro z
 have:qp_ zs=true:=z
 rw[h] at this
 cases this
theorem j61_ {zs:List Int}(h:qp_ zs=true): ∃bs:Bytes,bytesOf zs=some bs/\bsV bs=dL zs/\bs.length<=3000:=by
 have h0:=h
 unfold qp_ at h
 rw[Bool.and_eq_true,decide_eq_true_iff] at h
 refine⟨zs.map fun c=>UInt8.ofNat c.toNat,?_,?_,by rw[List.length_map];exact h.1⟩
 ·unfold bytesOf
  exact if_pos h0
 ·unfold bsV dL
  rw[List.map_map]
  refine List.map_congr_left fun z hz=>?_
  have b:=List.all_eq_true.mp h.2 z hz
  unfold ie at b
  rw[Bool.and_eq_true,decide_eq_true_iff,decide_eq_true_iff] at b
  show V.int (nb (UInt8.ofNat z.toNat))=V.int z
  unfold nb
  congr 1
  rw[UInt8.toNat_ofNat']
  lia
section
variable {k m:Nat}
theorem ok_1 (T:Txt K mg a):aJ P w K mg base dE 1 a.f_1 a.fd_1 ["text"] (j5f_ K):=by
 refine T.d_1.F.ok sc_1 [04] [03]
 ·obtain⟨l,zs,rfl,_⟩:=h
  rfl
 ·obtain⟨l,zs,rfl,hS,hl,hQ⟩:=h
  refine⟨_,(ai (ay (pe_and (fU jg_ [062] (bN (by rfl) T.g_LONGEST_TEXT) (bx _)) (j36_ (aY (cr_all rfl) (by rfl) T.n_all boot_all (aa (pe_lc rfl sc_1.nd (fX (pv 0)) (own:=[("byte",1)]) (j13_ (by show blkC ["text","byte"] (ak s_1) _ [("byte",1)]=true;decide+kernel)) (fun _ _ _ _ _=>dS (i:=1) sc_1.nd rfl [05]) (fun _ _ _ _ _=>j2y_) (fun _ _ _ _ _=>(jz_ jg_ jg_ aU (pv 1) aU))) af)))))),?_⟩
  have il:(dL zs).length=zs.length:=List.length_map ..
  refine [099]
  rw[il]
  unfold qp_ at hQ
  rw[003]
  ·have le:zs.length<=3000:=by have:=of_decide_eq_true e;lia
   rw[decide_eq_true le] at hQ
   refine⟨l,rfl,⟨_,hS⟩,fun D hD=>?_⟩
   refine lc_list (K:=K) (a:=l) (xs:=dL zs) (fun i H'=>aW H H'/\H' D=some (.lst (((zs.take i).map ie).map V.bl))) ⟨bf hD,ah⟩ (fun i H' _ z=>z.1.seq hS) ?_ ?_
   ·rintro i y H' hi ⟨s1,hD'⟩
    obtain⟨z,hz,rfl⟩: ∃z,zs[i]?=some z/\y=V.int z:=by
     unfold dL at hi
     rw[List.getElem?_map] at hi
     cases e:zs[i]? with
     |none=>rw[e] at hi;cases hi
     |some c=>rw[e] at hi;exact⟨c,rfl,(Option.some.inj hi).symm⟩
    have fin: ∀b:Bool,b=ie z-> ∃acc,H' D=some (.lst acc)/\acc.length<sizeLine/\(aW H (bg H' D (.lst (acc++[V.bl b])))/\bg H' D (.lst (acc++[V.bl b])) D=some (.lst (((zs.take (i+1)).map ie).map V.bl))):=fun b hb=>by
     refine⟨_,hD',?_,fun b' o e=>by rw[ag (aD e hD)];exact s1 b' o e,?_⟩
     ·rw[List.length_map,List.length_map]
      exact Nat.lt_of_le_of_lt (Nat.le_trans (List.length_take_le' i zs) hl) [06]
     ·rw[ah,List.take_add_one,hz,hb]
      show some (HO.lst (((zs.take i).map ie).map V.bl++[V.bl (ie z)]))=some (HO.lst (((zs.take i++[z]).map ie).map V.bl))
      rw[List.map_append,List.map_append]
      rfl
    refine⟨rfl,?_⟩
    unfold tYes
    dsimp only
    rw[if_pos rfl]
    refine⟨_,_,rfl,rfl,_,rfl,?_⟩
    refine bB (fun e0=>?_) fun e0=>?_
    ·refine⟨_,_,rfl,rfl,fin _ ?_⟩
     unfold ie
     rw[e0]
     rfl
    ·refine fin _ ?_
     unfold ie
     rw[e0]
     rfl
   ·rintro H' ⟨s1,hD'⟩
    rw[il,List.take_length] at hD'
    refine⟨D,zs.map ie,rfl,cK.of hD',?_⟩
    have:=hQ H' s1
    rw[Bool.true_and] at this
    rw[List.all_map]
    exact this
  ·have le: ¬zs.length<=3000:=by have:=of_decide_eq_false e;lia
   rw[decide_eq_false le] at hQ
   exact hQ H fun _ _ e=>e
end
end
section
def dOf:Data->List DictEntry
 | .dict es _=>es.toList
 |_=>[]
theorem dOf_at {d:Data}{e:DictEntry}{r:List DictEntry}(h:dOf d=e::r): ∃es ep,d= .dict es ep/\es.toList=e::r:=by
 cases d with
 |dict es n=>exact⟨es,n,rfl,h⟩
 |_=>cases h
noncomputable def dEnt (K:PySem.W.Frag) (a:Addr):List DictEntry:=((K.lookup a).map fun o=>if o.cls= .type "dict"/\o.dict=none/\o.slots.size=0 then dOf o.data else []).getD []
theorem dEnt_at {K:PySem.W.Frag}{a:Addr}{e:DictEntry}{r:List DictEntry}(h:dEnt K a=e::r): ∃o es ep,K.lookup a=some o/\o.ExactDict/\o.data= .dict es ep/\es.toList=e::r:=by
 unfold dEnt at h
 cases q:K.lookup a with
 |none=>rw[q] at h;cases h
 |some o=>
  rw[q] at h
  have h:(if o.cls= .type "dict"/\o.dict=none/\o.slots.size=0 then dOf o.data else [])=e::r:=h
  by_cases c:o.cls= .type "dict"/\o.dict=none/\o.slots.size=0
  ·rw[if_pos c] at h
   obtain⟨es,n,h1,h2⟩:=dOf_at h
   exact⟨o,es,n,rfl,⟨c.1,c.2.1,Array.eq_empty_of_size_eq_zero c.2.2⟩,h1,h2⟩
  ·rw[if_neg c] at h
   cases h
section
variable {a:Addr}
theorem ns_some {h:Heap}{N:Addr}{mg:Str->Option Value}{n:Str}{v:Value}(X:K.In h) (G:h.Ns N mg) (e:PySem.W.nsIn K N n=some (some v)):mg n=some v:=by
 obtain⟨o,es,ep,ho,hd,_,hf⟩:=G
 unfold PySem.W.nsIn at e
 split at e
 ·rename_i c d es' n' sl q
  have:=X _ _ q
  rw[ho] at this
  cases this
  cases hd
  split at e
  ·rename_i en he
   cases e
   rw[<-hf]
   unfold nsFind findBy
   rw[<-Array.find?_toList,he]
   rfl
  ·split at e<;>cases e
 ·cases e
def iOf:Value->Option Int
 | .int i _=>some i
 |_=>none
def xOf:Value->Option Str
 | .str i _=>some i
 |_=>none
def rOf:Value->Option Addr
 | .ref i=>some i
 |_=>none
theorem iOf_at {v:Value}{i:Int}(h:iOf v=some i): ∃t,v= .int i t:=by
 cases v with
 |int j t=>cases h;exact⟨t,rfl⟩
 |_=>cases h
theorem xOf_at {v:Value}{i:Str}(h:xOf v=some i): ∃t,v= .str i t:=by
 cases v with
 |str j t=>cases h;exact⟨t,rfl⟩
 |_=>cases h
theorem rOf_at {v:Value}{i:Addr}(h:rOf v=some i):v= .ref i:=by
 cases v with
 |ref j=>cases h;rfl
 |_=>cases h
abbrev allOf {A:Type}(f:Value->Option A) (l:List Value):Option (List A):=l.mapM f
abbrev j0o_:=allOf iOf
abbrev j01_:=allOf xOf
abbrev refsOf:=allOf rOf
theorem ia {A B:Type}{f:Value->Option A}{g:A->B}{R:B->Value->Prop}(hf: ∀v x,f v=some x->R (g x) v): ∀ {vs:List Value}{l:List A},allOf f vs=some l->Paired R (l.map g) vs
 |[],l,h=>by cases h;exact .nil
 |v::r,l,h=>by
  rw[allOf,List.mapM_cons] at h
  cases e:f v with
  |none=>rw[e] at h;cases h
  |some x=>
   cases q:r.mapM f with
   |none=>rw[e,q] at h;cases h
   |some l'=>rw[e,q] at h;cases h;exact .cons (hf v x e) (ia hf q)
def qOf:Data->Option (Array Value)
 | .seq its _=>some its
 |_=>none
theorem qOf_at {d:Data}{its:Array Value}(h:qOf d=some its): ∃n,d= .seq its n:=by
 cases d with
 |seq es n=>cases h;exact⟨n,rfl⟩
 |_=>cases h
noncomputable def tupOf (K:PySem.W.Frag) (a:Addr):Option (List Value):=(K.lookup a).bind fun o=>(qOf o.data).bind fun its=>if o.cls= .type "tuple"/\its.size<=1000 then some its.toList else none
theorem j57_ {l:List Value}(h:tupOf K a=some l): ∃o its n,K.lookup a=some o/\o.cls= .type "tuple"/\o.data= .seq its n/\its.size<=sizeLine/\its.toList=l:=by
 obtain⟨o,h1,h⟩:=Option.bind_eq_some_iff.mp h
 obtain⟨its,h2,h⟩:=Option.bind_eq_some_iff.mp h
 obtain⟨n,h2⟩:=qOf_at h2
 by_cases c:o.cls= .type "tuple"/\its.size<=1000
 ·rw[if_pos c] at h
  exact⟨o,its,n,h1,c.1,h2,Nat.le_trans c.2 [06],Option.some.inj h⟩
 ·rw[if_neg c] at h
  cases h
theorem j4z_ {vs:List Value}{l:List Int}(h:j0o_ vs=some l):bL (l.map V.int) vs:=ia (fun _ _ e=>iOf_at e) h
theorem j5d_ {vs:List Value}{l:List Str}(h:j01_ vs=some l):bL (l.map V.str) vs:=ia (fun _ _ e=>xOf_at e) h
theorem j4b_ {vs:List Value}{l:List Addr}(h:refsOf vs=some l):bL (l.map V.ref) vs:=ia (fun _ _ e=>rOf_at e) h
theorem j3d_ {vs:List Value}{xs:List V}(h:tupOf K a=some vs) (v:bL xs vs):KTup K a xs:=by
 obtain⟨o,its,n,h1,h2,h3,h4,h5⟩:=j57_ h
 exact⟨o,its,n,h1,h2,h3,h4,by rw[h5];exact v⟩
theorem ktup_int {l:List Int}(h:(tupOf K a).bind j0o_=some l):KTup K a (l.map V.int):=by
 cases e:tupOf K a with
 |none=>rw[e] at h;cases h
 |some vs=>rw[e] at h;exact j3d_ e (j4z_ h)
theorem j48_ {l:List Str}(h:(tupOf K a).bind j01_=some l):KTup K a (l.map V.str):=by
 cases e:tupOf K a with
 |none=>rw[e] at h;cases h
 |some vs=>rw[e] at h;exact j3d_ e (j5d_ h)
noncomputable def tsEnt (K:PySem.W.Frag) (e:DictEntry):Option (Int×List Int×Str):=(rOf e.key).bind fun p=>(xOf e.val).bind fun x=>((tupOf K p).bind j0o_).map fun l=>(e.hash,l,x)
theorem tsEnt_at {e:DictEntry}{h:Int}{l:List Int}{x:Str}(z:tsEnt K e=some (h,l,x)): ∃p t,e.key= .ref p/\e.val= .str x t/\e.hash=h/\(tupOf K p).bind j0o_=some l:=by
 obtain⟨p,h1,z⟩:=Option.bind_eq_some_iff.mp z
 obtain⟨x',h2,z⟩:=Option.bind_eq_some_iff.mp z
 obtain⟨l',h3,z⟩:=Option.map_eq_some_iff.mp z
 cases z
 obtain⟨t,h2⟩:=xOf_at h2
 exact⟨p,t,rOf_at h1,h2,rfl,h3⟩
theorem items_of {ks:List bW}{vs:List Value}(h:Paired (fun k v=>(bJ P w).is k v=true) ks vs):ItemsAre (bJ P w) ks vs:=by
 induction h with
 |nil=>exact .nil
 |cons h _ i=>exact .cons h i
theorem j7j_ {vs:List Value}{l:List Int}(h:j0o_ vs=some l):ItemsAre (bJ P w) (l.map fun i=>[096]) vs:=
 items_of (ia (f:=iOf) (g:=fun i=>[096]) (fun v i e=>by
  obtain⟨t,rfl⟩:=iOf_at e
  exact beq_self_eq_true i) h)
theorem ts_list: ∀ {es:List DictEntry}{L:List (List Int×Str)},es.map (tsEnt K)=(L.map fun p=>some (tupleKeyHash (bJ P w) (p.1.map fun i=>[096]),p.1,p.2))->
  ∃xs:List (List bW×Addr×Value),Paired (fun(p:List bW×V) (q:List bW×Addr×Value)=>p.1=q.1/\bE p.2 q.2.2) (L.map fun p=>(p.1.map fun i=>[096],V.str p.2)) xs/\es=xs.map (entryOfKey (tupleKind (bJ P w)))/\(xs.map (·.1))=(L.map fun p=>p.1.map fun i=>[096])/\ ∀h:Heap,K.In h-> ∀x∈xs,(tupleKind (bJ P w)).is h x.1 x.2.1
 |[],[],_=>⟨[], .nil,rfl,rfl,fun _ _ _ z=>nomatch z⟩
 |[],_::_,h=>by cases h
 |_::_,[],h=>by cases h
 |e::es,p::L,h=>by
  rw[List.map_cons,List.map_cons] at h
  obtain⟨h1,h2⟩:=List.cons.inj h
  obtain⟨xs,k1,k2,k3,k4⟩:=ts_list h2
  obtain⟨q,t,e1,e2,e3,e4⟩:=tsEnt_at h1
  refine⟨(p.1.map fun i=>Sum.inl i,q, .str p.2 t)::xs, .cons ⟨rfl,⟨t,rfl⟩⟩ k1,?_,by rw[List.map_cons,List.map_cons,k3],fun hp hK y hy=>?_⟩
  ·rw[List.map_cons,<-k2]
   congr 1
   obtain⟨eh,ek,ev⟩:=e
   cases e1
   cases e2
   cases e3
   rfl
  ·rcases List.mem_cons.mp hy with rfl|hy
   ·cases z:tupOf K q with
    |none=>rw[z] at e4;cases e4
    |some vs=>
     rw[z] at e4
     obtain⟨o,its,n,g1,g2,g3,g4,g5⟩:=j57_ z
     exact⟨o,its,n,hK _ _ g1,g2,g3,by rw[g5];exact j7j_ e4⟩
   ·exact k4 hp hK y hy
theorem kdT_ts {L:List (List Int×Str)}(ne:L≠[]) (h:(dEnt K a).map (tsEnt K)=(L.map fun p=>some (tupleKeyHash (bJ P w) (p.1.map fun i=>[096]),p.1,p.2))) (nd:(L.map fun p=>p.1.map fun i=>[096]).Nodup) (no:[074]=false):
  KdT P w K a (L.map fun p=>(p.1.map fun i=>[096],V.str p.2)):=by
 obtain⟨xs,k1,k2,k3,k4⟩:=ts_list (P:=P) (w:=w) h
 cases he:dEnt K a with
 |nil=>rw[he] at h;exact absurd (List.map_eq_nil_iff.mp h.symm) ne
 |cons e r=>
  obtain⟨o,es,ep,lk,ex,od,el⟩:=dEnt_at he
  refine⟨⟨xs,fun hp hK=>⟨o,es,ep,hK a o lk,ex,od,by rw[el,<-he];exact k2,k4 hp hK,by rw[k3];exact nd⟩,k1⟩,no⟩
def signL:List (List Int×Str):=Vbemac.SIGNS.map fun s=>(s.map nb,cX s)
theorem signL_kv:eO=signL.map fun p=>(p.1.map fun i=>[096],V.str p.2):=by decide+kernel
theorem signs_k {mg:Str->Option Value}{a:cu}(_:Txt K mg a) (e:(dEnt K a.k_SIGNS).map (tsEnt K)=(signL.map fun p=>some (tupleKeyHash (bJ P w) (p.1.map fun i=>[096]),p.1,p.2))) (no:(a.k_SIGNS == sysModules)=false):KdT P w K a.k_SIGNS eO:=by
 rw[signL_kv]
 exact kdT_ts [02] e [02] no
theorem us {A:Type}{C:List A->Prop}{n:Nat}{us:List A}(h:us.length=n+1) (k: ∀a r,r.length=n->C (a::r)):C us:=by
 cases us with
 |nil=>cases h
 |cons a r=>exact k a r (Nat.succ.inj h)
theorem v0 {A:Type}{C:List A->Prop}{us:List A}(h:us.length=0) (k:C []):C us:=by
 cases us with
 |nil=>exact k
 |cons a r=>cases h
theorem v1 {A:Type}{C:List A->Prop}{us:List A}(h:us.length=1) (k: ∀a,C [a]):C us:=OS.us h fun a r h=>v0 (C:=fun r=>C (a::r)) h (k a)
theorem v2 {A:Type}{C:List A->Prop}{us:List A}(h:us.length=2) (k: ∀a b,C [a,b]):C us:=OS.us h fun a r h=>v1 (C:=fun r=>C (a::r)) h (k a)
theorem v3 {A:Type}{C:List A->Prop}{us:List A}(h:us.length=3) (k: ∀a b c,C [a,b,c]):C us:=OS.us h fun a r h=>v2 (C:=fun r=>C (a::r)) h (k a)
theorem v4 {A:Type}{C:List A->Prop}{us:List A}(h:us.length=4) (k: ∀a b c d,C [a,b,c,d]):C us:=OS.us h fun a r h=>v3 (C:=fun r=>C (a::r)) h (k a)
theorem v5 {A:Type}{C:List A->Prop}{us:List A}(h:us.length=5) (k: ∀a b c d e,C [a,b,c,d,e]):C us:=OS.us h fun a r h=>v4 (C:=fun r=>C (a::r)) h (k a)
theorem v6 {A:Type}{C:List A->Prop}{us:List A}(h:us.length=6) (k: ∀a b c d e f,C [a,b,c,d,e,f]):C us:=OS.us h fun a r h=>v5 (C:=fun r=>C (a::r)) h (k a)
theorem v7 {A:Type}{C:List A->Prop}{us:List A}(h:us.length=7) (k: ∀a b c d e f g,C [a,b,c,d,e,f,g]):C us:=OS.us h fun a r h=>v6 (C:=fun r=>C (a::r)) h (k a)
theorem v8 {A:Type}{C:List A->Prop}{us:List A}(h:us.length=8) (k: ∀a b c d e f g h,C [a,b,c,d,e,f,g,h]):C us:=OS.us h fun a r h=>v7 (C:=fun r=>C (a::r)) h (k a)
theorem u0 {fd:FuncData}{ps:List Str}{us:List Value}(h:us.length=0) (k:bindArgs fd ⟨[],[]⟩=pure (ps.zip [])):bindArgs fd ⟨us,[]⟩=pure [028]:=v0 (C:=fun us=>bindArgs fd ⟨us,[]⟩=pure [028]) h k
theorem u1 {fd:FuncData}{ps:List Str}{us:List Value}(h:us.length=1) (k: ∀a,bindArgs fd ⟨[a],[]⟩=pure (ps.zip [a])):bindArgs fd ⟨us,[]⟩=pure [028]:=v1 (C:=fun us=>bindArgs fd ⟨us,[]⟩=pure [028]) h k
theorem u2 {fd:FuncData}{ps:List Str}{us:List Value}(h:us.length=2) (k: ∀a b,bindArgs fd ⟨[a,b],[]⟩=pure (ps.zip [a,b])):bindArgs fd ⟨us,[]⟩=pure [028]:=v2 (C:=fun us=>bindArgs fd ⟨us,[]⟩=pure [028]) h k
theorem u3 {fd:FuncData}{ps:List Str}{us:List Value}(h:us.length=3) (k: ∀a b c,bindArgs fd ⟨[a,b,c],[]⟩=pure (ps.zip [a,b,c])):bindArgs fd ⟨us,[]⟩=pure [028]:=v3 (C:=fun us=>bindArgs fd ⟨us,[]⟩=pure [028]) h k
theorem u4 {fd:FuncData}{ps:List Str}{us:List Value}(h:us.length=4) (k: ∀a b c d,bindArgs fd ⟨[a,b,c,d],[]⟩=pure (ps.zip [a,b,c,d])):bindArgs fd ⟨us,[]⟩=pure [028]:=v4 (C:=fun us=>bindArgs fd ⟨us,[]⟩=pure [028]) h k
theorem u5 {fd:FuncData}{ps:List Str}{us:List Value}(h:us.length=5) (k: ∀a b c d e,bindArgs fd ⟨[a,b,c,d,e],[]⟩=pure (ps.zip [a,b,c,d,e])):bindArgs fd ⟨us,[]⟩=pure [028]:=v5 (C:=fun us=>bindArgs fd ⟨us,[]⟩=pure [028]) h k
theorem u6 {fd:FuncData}{ps:List Str}{us:List Value}(h:us.length=6) (k: ∀a b c d e f,bindArgs fd ⟨[a,b,c,d,e,f],[]⟩=pure (ps.zip [a,b,c,d,e,f])):bindArgs fd ⟨us,[]⟩=pure [028]:=v6 (C:=fun us=>bindArgs fd ⟨us,[]⟩=pure [028]) h k
theorem u7 {fd:FuncData}{ps:List Str}{us:List Value}(h:us.length=7) (k: ∀a b c d e f g,bindArgs fd ⟨[a,b,c,d,e,f,g],[]⟩=pure (ps.zip [a,b,c,d,e,f,g])):bindArgs fd ⟨us,[]⟩=pure [028]:=v7 (C:=fun us=>bindArgs fd ⟨us,[]⟩=pure [028]) h k
theorem u8 {fd:FuncData}{ps:List Str}{us:List Value}(h:us.length=8) (k: ∀a b c d e f g h,bindArgs fd ⟨[a,b,c,d,e,f,g,h],[]⟩=pure (ps.zip [a,b,c,d,e,f,g,h])):bindArgs fd ⟨us,[]⟩=pure [028]:=v8 (C:=fun us=>bindArgs fd ⟨us,[]⟩=pure [028]) h k
theorem aO {h:Heap}{mg:Str->Option Value}(X:K.In h) (G:h.Ns mainGlobals mg) {x:Str}{st:Stmt}{ps:List Str}{f:Addr}{oc:Value}{od an:Option Addr}{sl:Array (Option Value)}{kV doc pm cd ct:Value}
  (a:PySem.W.nsIn K mainGlobals x=some (some (.ref f))) (l:K.lookup f=some ⟨oc,od, .func (PySem.W.fnOf x x (fE st) (eT st) (ak st) .none kV doc pm an cd ct),sl⟩) (c:PySem.W.codeIn K cd x=true) (k:PySem.W.keepIn K (.ref f)=true)
  (hb: ∀(kV doc pm:Value) (an:Option Addr) (cdv ct:Value) (us:List Value),us.length=ps.length->bindArgs (PySem.W.fnOf x x (fE st) (eT st) (ak st) .none kV doc pm an cdv ct) ⟨us,[]⟩=pure [028]):
  ∃fd,dX K mg x st ps f fd/\ ∀(s:Shared) (us:List Value),us.length=ps.length->BindsTo s fd ⟨us,[]⟩ [028]:=⟨_,⟨j2w_ (st:=st) l c k,PySem.W.mg_of X G a,k,(j2w_ (st:=st) l c k).binds hb⟩,fun s us hu=> .of_eq (hb _ _ _ _ _ _ us hu)⟩
theorem a8 {h:Heap}{mg:Str->Option Value}(_:K.In h) {cx x q:Str}{st:Stmt}{ps:List Str}{C f:Addr}{oc:Value}{od an:Option Addr}{sl:Array (Option Value)}{kV doc pm cd ct:Value}(_:mg cx=some (.ref C))
  (a:PySem.W.findIn K (.ref C) x=some (some (.ref f))) (i:PySem.W.isFn K (.ref f)=true) (l:K.lookup f=some ⟨oc,od, .func (PySem.W.fnOf x q (fE st) (eT st) (ak st) .none kV doc pm an cd ct),sl⟩) (c:PySem.W.codeIn K cd q=true) (k:PySem.W.keepIn K (.ref f)=true)
  (hb: ∀(kV doc pm:Value) (an:Option Addr) (cdv ct:Value) (us:List Value),us.length=ps.length->bindArgs (PySem.W.fnOf x q (fE st) (eT st) (ak st) .none kV doc pm an cdv ct) ⟨us,[]⟩=pure [028]):
  ∃fd,gT K C x q st ps f fd:=⟨_,⟨j2w_ (st:=st) l c k,⟨a,i,k⟩,(j2w_ (st:=st) l c k).binds hb⟩⟩
end
end
section
section
variable {a:Addr}
def cOf:Data->Option ClassData
 | .cls c=>some c
 |_=>none
theorem cOf_at {d:Data}{c:ClassData}(h:cOf d=some c):d= .cls c:=by
 cases d with
 |cls c=>cases h;rfl
 |_=>cases h
theorem six {A:Type}{l:Array A}{x:A}(h:l.toList.length=6):l.toList[4]?=some x-> ∃a b c d f,l= #[a,b,c,d,x,f]:=by
 obtain⟨l⟩:=l
 exact v6 (C:=fun l=>l[4]?=some x-> ∃a b c d f,(⟨l⟩:Array A)= #[a,b,c,d,x,f]) h fun a b c d e f z=>by cases z;exact⟨a,b,c,d,f,rfl⟩
noncomputable def excN (K:PySem.W.Frag) (C:Addr) (u:List Addr):Option Addr:=(K.lookup C).bind fun o=>(cOf o.data).bind fun cd=>
 if o.cls= .type "type"/\cd.mro= .ref C::(u.map Value.ref++dj)/\cd.hasDict=true/\cd.hasDel=false/\o.slots.toList.length=6/\o.slots.toList[4]?=some (some (.builtin "Exception.__new__")) then some cd.ns else none
theorem excN_at {C N:Addr}{u:List Addr}(q:excN K C u=some N) {h:Heap}(X:K.In h):XO h C N (u.map Value.ref++dj):=by
 obtain⟨o,h1,q⟩:=Option.bind_eq_some_iff.mp q
 obtain⟨cd,h2,q⟩:=Option.bind_eq_some_iff.mp q
 split at q
 ·rename_i g
  obtain⟨g1,g2,g3,g4,g5,g6⟩:=g
  cases q
  obtain⟨k0,k1,k2,k3,k5,g5⟩:=six g5 g6
  have h2:=cOf_at h2
  obtain⟨nm,bs,mro,ns,qn,hd,sn,sub,ab,col,del⟩:=cd
  obtain⟨cl,dd,da,sl⟩:=o
  cases g1
  cases g2
  cases g3
  cases g4
  cases h2
  cases g5
  exact⟨nm,qn,bs,sn,sub,ab,col,dd,k0,k1,k2,k3,k5,X _ _ h1⟩
 ·cases q
theorem xcls_of {h0:Heap}{mg:Str->Option Value}{x:Str}{C fI N R NR:Addr}(_:K.In h0) (_:mg x=some (.ref C)) (_:mg "Refusal"=some (.ref R)) (l:excN K C [R]=some N)
  (hok:PySem.W.nsOkIn K N=true) (hi:PySem.W.nsIn K N "__init__"=some (some (.ref fI))) (hq:(dh.map fun n=>PySem.W.nsIn K N n)=dh.map fun _=>some none) (lI:((K.lookup fI).map fun o=>o.cls)=some (.type "function")) (kp:PySem.W.keepIn K (.ref C)=true)
  (lR:excN K R []=some NR) (hokR:PySem.W.nsOkIn K NR=true) (hqR:(dh.map fun n=>PySem.W.nsIn K NR n)=dh.map fun _=>some none):gm K R C fI:=by
 obtain⟨oI,lI,cI⟩:=Option.map_eq_some_iff.mp lI
 refine⟨fun h X=>?_,kp⟩
 have ns:h.Ns N (h.nsMap N):= .of_isNs (PySem.W.isNs_of_in X hok)
 have nR:h.Ns NR (h.nsMap NR):= .of_isNs (PySem.W.isNs_of_in X hokR)
 have all: ∀ {M:Addr},(dh.map fun n=>PySem.W.nsIn K M n)=(dh.map fun _=>some none)-> ∀n∈dh,PySem.W.nsIn K M n=some none:=fun e=>List.map_inj_left.mp e
 exact⟨N,h.nsMap N,oI,NR,h.nsMap NR,excN_at l X,ns,ns_some X ns hi,fun n hn=>PySem.W.nsMap_none_of_in X hok (all hq n hn),X _ _ lI,cI,excN_at lR X,nR,fun n hn=>PySem.W.nsMap_none_of_in X hokR (all hqR n hn)⟩
end
end
section
def siEnt (e:DictEntry):Option (Int×Str×Int):=(xOf e.key).bind fun x=>(iOf e.val).map fun i=>(e.hash,x,i)
theorem siEnt_at {e:DictEntry}{h:Int}{x:Str}{i:Int}(z:siEnt e=some (h,x,i)): ∃t u,e.key= .str x t/\e.val= .int i u/\e.hash=h:=by
 obtain⟨x',h1,z⟩:=Option.bind_eq_some_iff.mp z
 obtain⟨i',h2,z⟩:=Option.map_eq_some_iff.mp z
 cases z
 obtain⟨t,h1⟩:=xOf_at h1
 obtain⟨u,h2⟩:=iOf_at h2
 exact⟨t,u,h1,h2,rfl⟩
section
variable {a:Addr}
theorem si_list: ∀ {es:List DictEntry}{L:List (Str×Int)},es.map siEnt=(L.map fun p=>some (hashStr w p.1,p.1,p.2))->
  ∃vs:List (bW×Value),KV (L.map fun p=>((Sum.inr p.1:bW),V.int p.2)) vs/\PySem.Pairs (bJ P w) es vs/\(vs.map (·.1))=(L.map fun p=>(Sum.inr p.1:bW))/\ ∀e∈es,∃k,(bJ P w).is k e.key=true/\e.hash=(bJ P w).hash k
 |[],[],_=>⟨[], .nil, .nil,rfl,fun _ z=>nomatch z⟩
 |[],_::_,h=>by cases h
 |_::_,[],h=>by cases h
 |e::es,p::L,h=>by
  rw[List.map_cons,List.map_cons] at h
  obtain⟨h1,h2⟩:=List.cons.inj h
  obtain⟨vs,k1,k2,k3,k4⟩:=si_list h2
  obtain⟨t,u,e1,e2,e3⟩:=siEnt_at h1
  have is:(bJ P w).is (Sum.inr p.1) e.key=true:=by rw[e1];show Value.isStrOf p.1 (.str p.1 t)=true;simp [Value.isStrOf]
  refine⟨(Sum.inr p.1, .int p.2 u)::vs, .cons ⟨rfl,⟨u,rfl⟩⟩ k1, .cons is e2 k2,by rw[List.map_cons,List.map_cons,k3],fun y hy=>?_⟩
  rcases List.mem_cons.mp hy with rfl|hy
  ·exact⟨Sum.inr p.1,is,e3⟩
  ·exact k4 y hy
theorem kdK_si {p:Str×Int}{L:List (Str×Int)}(h:(dEnt K a).map siEnt=((p::L).map fun p=>some (hashStr w p.1,p.1,p.2))) (nd:((p::L).map (·.1)).Nodup) (len:(p::L).length<=sizeLine) (no:[074]=false):
  KdK P w K a ((p::L).map fun p=>((Sum.inr p.1:bW),V.int p.2)):=by
 obtain⟨vs,k1,k2,k3,k4⟩:=si_list (P:=P) h
 cases he:dEnt K a with
 |nil=>rw[he] at h;cases h
 |cons e r=>
  obtain⟨o,es,ep,lk,ex,od,el⟩:=dEnt_at he
  rw[he,<-el] at k2
  rw[he] at k4
  refine⟨⟨vs,fun hp hK=>⟨o,es,ep,hK a o lk,ex,od,fun y hy=>k4 y (by rw[<-el];exact Array.mem_toList_iff.mpr hy),k2,?_⟩,k1⟩,by rw[List.length_map];exact len,no⟩
  rw[k3,List.map_cons]
  rw[show(fun p:Str×Int=>(Sum.inr p.1:bW))=(fun x=>Sum.inr x) ∘ (fun p:Str×Int=>p.1) from rfl]
  rw[show(Sum.inr p.1:bW)::L.map ((fun x=>(Sum.inr x:bW)) ∘ fun p=>p.1)=((p::L).map (·.1)).map (fun x=>(Sum.inr x:bW)) by rw[List.map_cons,List.map_cons,List.map_map]]
  exact List.Pairwise.map (fun x=>(Sum.inr x:bW)) (fun _ _ h z=>h (Sum.inr.inj z)) nd
theorem rows_of: ∀ {qs:List Addr}{rows:List (List Str)},(qs.map fun q=>(tupOf K q).bind j01_)=rows.map some->Paired (fun q xs=>KTup K q xs) qs (rows.map fun r=>r.map V.str)
 |[],[],_=> .nil
 |[],_::_,h=>by cases h
 |_::_,[],h=>by cases h
 |q::qs,r::rows,h=>by
  rw[List.map_cons,List.map_cons] at h
  obtain⟨h1,h2⟩:=List.cons.inj h
  exact .cons (j48_ h1) (rows_of h2)
theorem ktt_of {qs:List Addr}{rows:List (List Str)}(h:(tupOf K a).bind refsOf=some qs) (h2:(qs.map fun q=>(tupOf K q).bind j01_)=rows.map some):KTT K a (rows.map fun r=>r.map V.str):=by
 cases e:tupOf K a with
 |none=>rw[e] at h;cases h
 |some vs=>rw[e] at h;exact⟨qs,j3d_ e (j4b_ h),rows_of h2⟩
theorem first_k {mg:Str->Option Value}{a:cu}(_:Txt K mg a) (e:(dEnt K a.k_FIRST_FUNCTIONS).map siEnt=(([("min",2),("max",2),("abs",1)]:List (Str×Int)).map fun p=>some (hashStr w p.1,p.1,p.2))) (no:(a.k_FIRST_FUNCTIONS == sysModules)=false):KdK P w K a.k_FIRST_FUNCTIONS dU:=kdK_si (p:=("min",2)) (L:=[("max",2),("abs",1)]) e [02] [06] no
theorem chain_k {mg:Str->Option Value}{a:cu}(_:Txt K mg a) (e:(((tupOf K a.k_CHAIN_SIGNS).bind refsOf).map fun qs=>qs.map fun q=>(tupOf K q).bind j01_)=some (([["||"],["&&"],["==","!=","<=",">=","<",">"],["+","-"],["*","/","/rest"]]:List (List Str)).map some)):KTT K a.k_CHAIN_SIGNS eP:=by
 obtain⟨qs,e1,e2⟩:=Option.map_eq_some_iff.mp e
 exact ktt_of e1 e2
end
end
end OS
namespace OS
open Vbemac
open PySem (Str)
def uc_ (n:Nat):Str:=Str.ofString (toString (n:Int))
abbrev tx (s:String):Str:=Str.ofString s
def pF (w:Nat) (e:Exp) (ps:List Str):List Str:=if strength e<w then tx "("::(ps++[tx ")"]) else ps
mutual
def xF:Exp->List Str
 | .num n=>[uc_ n]
 | .name x=>[sb x]
 | .call f l=>sb f::tx "("::(aF l++[tx ")"])
 | .neg e=>tx "-"::pF 5 e (xF e)
 | .not e=>tx "!"::pF 5 e (xF e)
 | .sums e r=>pF 4 e (xF e)++rF 4 r
 | .prods e r=>pF 5 e (xF e)++rF 5 r
 | .cmp op a b=>pF 3 a (xF a)++(tx " "::cX op::tx " "::pF 3 b (xF b))
 | .both e l=>pF 2 e (xF e)++mF 2 (tx "&&") l
 | .either e l=>pF 1 e (xF e)++mF 1 (tx "||") l
 | .pick c a b=>tx "if "::(xF c++(tx " then "::(xF a++(tx " else "::xF b))))
 | .sum x lo hi e=>tx "sum("::sb x::tx " in "::(xF lo++(tx " .. "::(xF hi++(tx ": "::(xF e++[tx ")"])))))
def aF:Exps->List Str
 | .nil=>[]
 | .cons e .nil=>xF e
 | .cons e l=>xF e++(tx ", "::aF l)
def mF (w:Nat) (g:Str):Exps->List Str
 | .nil=>[]
 | .cons e l=>tx " "::g::tx " "::(pF w e (xF e)++mF w g l)
def rF (w:Nat):Rest->List Str
 | .nil=>[]
 | .cons op e r=>tx " "::cX op::tx " "::(pF w e (xF e)++rF w r)
def fr:Exp->Nat
 | .num n=>if n<1000000000000000000 then 4 else 1000
 | .name _=>4
 | .call _ l=>4+frL l
 | .neg e=>2+fr e
 | .not e=>2+fr e
 | .sums e r=>3+max (fr e) (frR r)
 | .prods e r=>3+max (fr e) (frR r)
 | .cmp _ a b=>3+max (fr a) (fr b)
 | .both e l=>3+max (fr e) (frL l)
 | .either e l=>3+max (fr e) (frL l)
 | .pick c a b=>4+max (fr c) (max (fr a) (fr b))
 | .sum _ lo hi e=>4+max (fr lo) (max (fr hi) (fr e))
def frL:Exps->Nat
 | .nil=>0
 | .cons e l=>max (fr e) (frL l)
def frR:Rest->Nat
 | .nil=>0
 | .cons _ e r=>max (fr e) (frR r)
end
def bO (p:Str):List Int:=if p=qb_ then [37] else p.cps.toList.map Int.ofNat
def bF (ps:List Str):List Int:=ps.flatMap bO
def mS (ps:List Str):Nat:=(ps.map fun p=>p.cps.size+1).sum
theorem dM:bF []=[]:=rfl
theorem aH (p:Str) (ps:List Str):bF (p::ps)=bO p++bF ps:=rfl
theorem bH (a b:List Str):bF (a++b)=bF a++bF b:=List.flatMap_append
theorem dC:mS []=0:=rfl
theorem aB (p:Str) (ps:List Str):mS (p::ps)=p.cps.size+1+mS ps:=by unfold mS;rw[List.map_cons,List.sum_cons]
theorem bz (a b:List Str):mS (a++b)=mS a+mS b:=by unfold mS;rw[List.map_append,List.sum_append]
theorem mS_len (ps:List Str):ps.length<=mS ps:=by
 induction ps with
 |nil=>exact Nat.le_refl _
 |cons p r ih=>rw[aB,List.length_cons];lia
theorem bF_len (ps:List Str):(bF ps).length<=mS ps:=by
 induction ps with
 |nil=>exact Nat.le_refl _
 |cons p r ih=>
  rw[aB,aH,List.length_append]
  have:(bO p).length<=p.cps.size+1:=by
   unfold bO
   split
   ·simp
   ·simp
  lia
structure Wd (x:Bytes):Prop where
 ne:x≠[]
 ok: ∀c∈x,b6 c=true
 len:x.length<=24
def TB (t:Toks):Prop:= ∀x∈t,(∀w,x.1= .word w->Wd w)/\ ∀n,x.1= .num n->n<1000000000000000000
theorem TB.drop {t:Toks}(h:TB t) (k:Nat):TB (t.drop k):=fun x hx=>h x (List.mem_of_mem_drop hx)
theorem j0f_ {t:Toks}{k:Tok}(h:peek t=k) (hk:k≠ .eof): ∃p r,t=(k,p)::r:=by
 cases t with
 |nil=>exact absurd h.symm hk
 |cons x r=>obtain⟨a,p⟩:=x;cases h;exact⟨p,r,rfl⟩
theorem TB.word {t:Toks}(h:TB t) {w:Bytes}(e:peek t= .word w):Wd w:=by
 obtain⟨p,r,rfl⟩:=j0f_ e [053]
 exact(h _ List.mem_cons_self).1 w rfl
theorem TB.num {t:Toks}(h:TB t) {n:Nat}(e:peek t= .num n):n<1000000000000000000:=by
 obtain⟨p,r,rfl⟩:=j0f_ e [053]
 exact(h _ List.mem_cons_self).2 n rfl
theorem len_of {t:Toks}{k:Tok}(e:peek t=k) (hk:k≠ .eof):(t.drop 1).length+1=t.length:=by
 obtain⟨p,r,rfl⟩:=j0f_ e hk
 rfl
theorem ii {x:Bytes}(h:Wd x):bO (sb x)=«ints» x:=by
 unfold bO
 rw[if_neg]
 ·show(x.map UInt8.toNat).toArray.toList.map Int.ofNat=_
  unfold «ints»
  rw[List.map_map]
  rfl
 ·intro z
  rw[j20_] at z
  have z:=fJ z
  have:=h.ok 47 (by rw[z];exact List.mem_cons_self)
  exact absurd this [06]
theorem eI {x:Bytes}(h:Wd x):(sb x).cps.size<=24:=by
 show(x.map UInt8.toNat).toArray.size<=24
 rw[List.size_toArray,List.length_map]
 exact h.len
theorem bO_sgn: ∀s∈SIGNS,bO (cX s)=«ints» s:=by decide+kernel
theorem size_sgn: ∀s∈SIGNS,(cX s).cps.size<=5:=by decide+kernel
theorem wl_ (n:Nat):(uc_ n).cps.toList=(Nat.toDigits 10 n).map Char.toNat:=by
 unfold uc_
 rw[Str.ofString_eq_toList]
 show(((toString n:String).toList.map Char.toNat).toArray).toList=_
 rw[Nat.toString_eq_ofList_toDigits,String.toList_ofList]
theorem dig_lt {n:Nat}{c:Char}(h:c∈Nat.toDigits 10 n):c.toNat<58/\48<=c.toNat:=by
 have:=Nat.isDigit_of_mem_toDigits [06] [06] h
 unfold Char.isDigit at this
 rw[Bool.and_eq_true,decide_eq_true_iff,decide_eq_true_iff] at this
 have h1:=UInt32.le_iff_toNat_le.mp this.1
 have h2:=UInt32.le_iff_toNat_le.mp this.2
 have e1:(48:UInt32).toNat=48:=rfl
 have e2:(57:UInt32).toNat=57:=rfl
 show c.val.toNat<58/\48<=c.val.toNat
 constructor
 ·have:c.val.toNat<=57:=h2
  lia
 ·exact h1
theorem bO_dec (n:Nat):bO (uc_ n)=«ints» (decimal n):=by
 unfold bO
 rw[if_neg,wl_]
 ·unfold «ints» decimal text
  rw[Nat.toString_eq_ofList_toDigits,String.toList_ofList,List.map_map,List.map_map]
  refine List.map_congr_left fun c hc=>?_
  have:=(dig_lt hc).1
  show Int.ofNat c.toNat=Int.ofNat (UInt8.ofNat c.toNat).toNat
  rw[show(UInt8.ofNat c.toNat).toNat=c.toNat from UInt8.toNat_ofNat_of_lt' (by show c.toNat<256;lia)]
 ·intro z
  have:(uc_ n).cps.toList=qb_.cps.toList:=congrArg (fun x=>x.cps.toList) z
  rw[wl_] at this
  have m:(115:Nat)∈(Nat.toDigits 10 n).map Char.toNat:=by rw[this];decide
  obtain⟨c,hc,e⟩:=List.mem_map.mp m
  have:=(dig_lt hc).1
  lia
theorem j3v_ {n:Nat}(h:n<1000000000000000000):(uc_ n).cps.size<=18:=by
 rw[<-Array.length_toList,wl_,List.length_map]
 exact(Nat.length_toDigits_le_iff [06] [06]).mpr h
theorem bi (a b:Bytes):«ints» (a++b)=«ints» a++«ints» b:=List.map_append
end OS
namespace OS
open Vbemac
open PySem (Str)
abbrev T0:Nat->Pos->Prop:=fun _ _=>True
section
variable {α β:Type}{p:P α}{f:α->P β}{t:Toks}{Qo:α->Toks->Prop}{Ro:β->Toks->Prop}
theorem W.then (h:W p t Qo T0) (g: ∀a r,Qo a r->W (f a) r Ro T0):W (p>>=f) t Ro T0:=by
 rw[aK]
 exact h.mono g fun _ _ z=>z
theorem W.of (h: ∀a r,p t= .ok (a,r)->Qo a r):W p t Qo T0:=by
 unfold W
 split
 ·rename_i a r e
  exact h a r e
 ·trivial
theorem W.to (h:W p t Qo T0) {a:α}{r:Toks}(e:p t= .ok (a,r)):Qo a r:=by
 rw[dJ e] at h
 exact h
theorem cS {n:Nat} :W (fail n:P α) t Qo T0:=trivial
end
def Go (t r:Toks):Prop:=TB r/\r.length+1=t.length
section
variable {t:Toks}(h:TB t)
include h
theorem go1 {k:Tok}(e:peek t=k) (hk:k≠ .eof):Go t (t.drop 1):=⟨h.drop 1,len_of e hk⟩
theorem goK {w:String}(e:isKey t w=true):Go t (t.drop 1):=go1 h (beq_iff_eq.mp e) [053]
theorem goS {w:String}(e:isSign t w=true):Go t (t.drop 1):=go1 h (beq_iff_eq.mp e) [053]
theorem ic (w:String):W (key w) t (fun _ r=>Go t r) T0:=by
 unfold key
 rw[ql_ (p:=fun t=> .ok ((),t.drop 1)) (q:=fail 2)]
 split
 ·rename_i e
  exact goK h e
 ·exact cS
theorem cw (w:String):W (sign w) t (fun _ r=>Go t r) T0:=by
 unfold sign
 rw[ql_ (p:=fun t=> .ok ((),t.drop 1)) (q:=fail 2)]
 split
 ·rename_i e
  exact goS h e
 ·exact cS
theorem vf_ (w:String):W (ifSign w) t (fun b r=>if b=true then Go t r else r=t) T0:=by
 unfold ifSign
 rw[ql_ (p:=fun t=> .ok (true,t.drop 1)) (q:=fun t=> .ok (false,t))]
 split
 ·rename_i e
  exact goS h e
 ·exact rfl
theorem w_ifKey (w:String):W (ifKey w) t (fun b r=>if b=true then Go t r else r=t) T0:=by
 unfold ifKey
 rw[ql_ (p:=fun t=> .ok (true,t.drop 1)) (q:=fun t=> .ok (false,t))]
 split
 ·rename_i e
  exact goK h e
 ·exact rfl
theorem w_f (d:Nat):W (deeper d) t (fun e r=>r=t/\e+1=d) T0:=by
 unfold deeper
 rw[ql_ (c:=fun _=>d=0) (p:=fail 6) (q:=fun t=> .ok (d-1,t))]
 split
 ·exact cS
 ·exact⟨rfl,by lia⟩
theorem j8_:W anyName t (fun x r=>Wd x/\Go t r) T0:=by
 unfold W anyName
 cases e:peek t with
 |word w=>
  dsimp only
  split
  ·rename_i z
   split at z
   ·cases z
   ·cases z
    exact⟨h.word e,go1 h e [053]⟩
  ·trivial
 |_=>trivial
theorem eM (K:Known):W (newName K) t (fun x r=>Wd x/\Go t r) T0:=by
 have q:=j8_ h
 unfold W at q ⊢
 unfold newName
 cases e:anyName t with
 |error z=>trivial
 |ok z=>
  rw[e] at q
  dsimp only
  split
  ·rename_i y
   split at y
   ·cases y
   ·cases y
    exact q
  ·trivial
theorem j0k_ (l:List String):W (signOf l) t (fun o r=>match o with
  |some s=>s∈l.map text/\Go t r
  |none=>r=t) T0:=by
 unfold W signOf
 cases e:peek t with
 |sign s=>
  dsimp only
  by_cases c:(l.map text).contains s=true
  ·rw[if_pos c]
   exact⟨List.contains_iff_mem.mp c,go1 h e [053]⟩
  ·rw[if_neg c]
 |_=>exact rfl
end
structure Gd (c d:Nat) (t:Toks) (e:Exp) (r:Toks):Prop where
 tb:TB r
 fr:fr e<=c+19*d
 ms:mS (xF e)+8+64*r.length<=64*t.length
 bs:bF (xF e)=«ints» (shown e)
structure Gl (c d:Nat) (t:Toks) (f m:Nat) (ps:List Str) (b:Bytes) (r:Toks):Prop where
 tb:TB r
 fr:f<=c+19*d
 ms:mS ps+m+64*r.length<=64*t.length
 bs:bF ps=«ints» b
def kL:Exps->Nat
 | .nil=>0
 |_=>8
def kR:Rest->Nat
 | .nil=>0
 |_=>8
theorem Gd.up {c c' d:Nat}{t t1 r:Toks}{e:Exp}(g:Gd c d t e r) (h:c<=c'):Gd c' d t e r:=⟨g.tb,by have:=g.fr;lia,g.ms,g.bs⟩
theorem bF_pF {w:Nat}{e:Exp}{ps:List Str}{b:Bytes}(h:bF ps=«ints» b):bF (pF w e ps)=«ints» (guarded w e b):=by
 unfold pF guarded
 split
 ·rw[aH,bH,h,bi,bi]
  rfl
 ·exact h
theorem mS_pF (w:Nat) (e:Exp) (ps:List Str):mS (pF w e ps)<=mS ps+4:=by
 unfold pF
 split
 ·rw[aB,bz]
  show 1+1+(mS ps+(1+1+0))<=_
  lia
 ·lia
theorem sz (s:String) (n:Nat) (h:(tx s).cps.size=n:=by decide+kernel):(tx s).cps.size=n:=h
theorem b4 (s:String) (b:Bytes) (h:bO (tx s)=«ints» b:=by decide+kernel):bO (tx s)=«ints» b:=h
theorem W.ite {α:Type}{t:Toks}{c:Toks->Bool}{p q:P α}{Qo:α->Toks->Prop}(h1:c t=true->W p t Qo T0) (h2:W q t Qo T0):W (fun t=>if c t=true then p t else q t) t Qo T0:=by
 rw[ql_]
 split
 ·rename_i e
  exact h1 e
 ·exact h2
theorem mS_more {w:Nat}{g:Str}{e:Exp}{l:Exps} :mS (mF w g (.cons e l))<=9+g.cps.size+mS (xF e)+mS (mF w g l):=by
 rw[mF]
 have:=mS_pF w e (xF e)
 rw[aB,aB,aB,bz]
 show 1+1+(_+1+(1+1+_))<=_
 lia
theorem mS_rest {w:Nat}{op:Bytes}{e:Exp}{r:Rest} :mS (rF w (.cons op e r))<=9+(cX op).cps.size+mS (xF e)+mS (rF w r):=by
 rw[rF]
 have:=mS_pF w e (xF e)
 rw[aB,aB,aB,bz]
 show 1+1+(_+1+(1+1+_))<=_
 lia
structure PF (k:Nat):Prop where
 expr: ∀d K t,TB t->W (expr k d K) t (Gd 21 d t) T0
 moreOr: ∀d K t,TB t->W (moreOr k d K) t (fun l=>Gl 18 d t (frL l) (kL l) (mF 1 (tx "||") l) (shownMore 1 (text " || ") l)) T0
 ands: ∀d K t,TB t->W (ands k d K) t (Gd 18 d t) T0
 moreAnd: ∀d K t,TB t->W (moreAnd k d K) t (fun l=>Gl 15 d t (frL l) (kL l) (mF 2 (tx "&&") l) (shownMore 2 (text " && ") l)) T0
 compared: ∀d K t,TB t->W (compared k d K) t (Gd 15 d t) T0
 added: ∀d K t,TB t->W (added k d K) t (Gd 12 d t) T0
 moreAdded: ∀d K t,TB t->W (moreAdded k d K) t (fun l=>Gl 9 d t (frR l) (kR l) (rF 4 l) (shownRest 4 l)) T0
 times: ∀d K t,TB t->W (times k d K) t (Gd 9 d t) T0
 moreTimes: ∀d K t,TB t->W (moreTimes k d K) t (fun l=>Gl 6 d t (frR l) (kR l) (rF 5 l) (shownRest 5 l)) T0
 unary: ∀d K t,TB t->W (unary k d K) t (Gd 6 d t) T0
 primary: ∀d K t,TB t->W (primary k d K) t (Gd 6 d t) T0
 arguments: ∀d K n t,TB t->W (arguments k d K n) t (fun l=>Gl 21 d t (frL l) 64 (aF l) (shownAll l)) T0
theorem opOk {l:List String}{op:Bytes}(h:op∈l.map text) (hl: ∀s∈l.map text,s∈SIGNS):bO (cX op)=«ints» op/\(cX op).cps.size<=5:=⟨bO_sgn _ (hl _ h),size_sgn _ (hl _ h)⟩
theorem gl_more {c d w:Nat}{g:String}{t t1 t2 t3:Toks}{e:Exp}{l:Exps}(hg:bO (tx g)=«ints» (text g)) (hs:(tx g).cps.size=2) (sep:text (" "++g++" ")=text " "++(text g++text " ")) (G:Go t t1) (a:Gd c d t1 e t2) (b:Gl c d t2 (frL l) (kL l) (mF w (tx g) l) (shownMore w (text (" "++g++" ")) l) t3):
  Gl c d t (frL (.cons e l)) (kL (.cons e l)) (mF w (tx g) (.cons e l)) (shownMore w (text (" "++g++" ")) (.cons e l)) t3:=by
 have h1:=a.fr
 have h2:=a.ms
 have h3:=b.fr
 have h4:=b.ms
 have h5:=G.2
 have h6:=mS_more (w:=w) (g:=tx g) (e:=e) (l:=l)
 refine⟨b.tb,?_,?_,?_⟩
 ·unfold frL;exact Nat.max_le.mpr ⟨h1,h3⟩
 ·rw[hs] at h6
  show _+8+_<=_
  lia
 ·unfold mF shownMore
  rw[aH,aH,aH,bH,bF_pF a.bs,b.bs,hg,sep]
  simp only[bi,List.append_assoc]
  rfl
theorem j37_ {c d w:Nat}{op:Bytes}{t t1 t2 t3:Toks}{e:Exp}{l:Rest}(ho:bO (cX op)=«ints» op/\(cX op).cps.size<=5) (G:Go t t1) (a:Gd c d t1 e t2) (b:Gl c d t2 (frR l) (kR l) (rF w l) (shownRest w l) t3):
  Gl c d t (frR (.cons op e l)) (kR (.cons op e l)) (rF w (.cons op e l)) (shownRest w (.cons op e l)) t3:=by
 have h1:=a.fr
 have h2:=a.ms
 have h3:=b.fr
 have h4:=b.ms
 have h5:=G.2
 have h6:=mS_rest (w:=w) (op:=op) (e:=e) (r:=l)
 have h7:=ho.2
 refine⟨b.tb,?_,?_,?_⟩
 ·unfold frR;exact Nat.max_le.mpr ⟨h1,h3⟩
 ·show _+8+_<=_
  lia
 ·unfold rF shownRest
  rw[aH,aH,aH,bH,bF_pF a.bs,b.bs,ho.1]
  simp only[bi]
  rfl
theorem qk_ {c d:Nat}{t:Toks}(h:TB t):Gl c d t 0 0 [] [] t:=⟨h,by lia,by show 0+0+_<=_;lia,rfl⟩
theorem gZ {c d w f:Nat}{t t1 t2:Toks}{e x:Exp}{ps:List Str}{b:Bytes}(a:Gd c d t e t1) (g:Gl c d t1 f 8 ps b t2) (h1:fr x=3+max (fr e) f) (h2:xF x=pF w e (xF e)++ps) (h3:shown x=guarded w e (shown e)++b):Gd (c+3) d t x t2:=by
 have q1:=a.fr
 have q2:=a.ms
 have q3:=g.fr
 have q4:=g.ms
 have q5:=mS_pF w e (xF e)
 refine⟨g.tb,?_,?_,?_⟩
 ·rw[h1]
  have:max (fr e) f<=c+19*d:=Nat.max_le.mpr ⟨q1,q3⟩
  lia
 ·rw[h2,bz]
  lia
 ·rw[h2,h3,bH,bF_pF a.bs,g.bs,bi]
theorem j30_ {c d f:Nat}{t t1 t2:Toks}{e:Exp}{ps:List Str}{b:Bytes}(a:Gd c d t e t1) (g:Gl c d t1 f 0 ps b t2):Gd (c+3) d t e t2:=⟨g.tb,by have:=a.fr;lia,by have:=a.ms;have:=g.ms;lia,a.bs⟩
theorem gd_un {d d':Nat}{c:String}{t t1 t2:Toks}{e x:Exp}(hd:d'+1=d) (G:Go t t1) (a:Gd 6 d' t1 e t2) (h1:fr x=2+fr e) (h2:xF x=tx c::pF 5 e (xF e)) (h3:shown x=text c++guarded 5 e (shown e)) (hs:(tx c).cps.size=1) (hb:bO (tx c)=«ints» (text c)):Gd 6 d t x t2:=by
 have q1:=a.fr
 have q2:=a.ms
 have q3:=G.2
 have q5:=mS_pF 5 e (xF e)
 refine⟨a.tb,by rw[h1];lia,?_,?_⟩
 ·rw[h2,aB,hs]
  lia
 ·rw[h2,h3,aH,bF_pF a.bs,hb,bi]
theorem j35_: ∀k,PF k
 |0=>by
  refine⟨?_,?_,?_,?_,?_,?_,?_,?_,?_,?_,?_,?_⟩<;>intros<;>first|(unfold Vbemac.expr;exact cS)|(unfold Vbemac.moreOr;exact cS)|(unfold Vbemac.ands;exact cS)|(unfold Vbemac.moreAnd;exact cS)|(unfold Vbemac.compared;exact cS)|(unfold Vbemac.added;exact cS)|(unfold Vbemac.moreAdded;exact cS)|(unfold Vbemac.times;exact cS)|(unfold Vbemac.moreTimes;exact cS)|(unfold Vbemac.unary;exact cS)|(unfold Vbemac.primary;exact cS)|(unfold Vbemac.arguments;exact cS)
 |k+1=>by
  have I:=j35_ k
  refine⟨fun d K t h=>?_,fun d K t h=>?_,fun d K t h=>?_,fun d K t h=>?_,fun d K t h=>?_,fun d K t h=>?_,fun d K t h=>?_,fun d K t h=>?_,fun d K t h=>?_,fun d K t h=>?_,fun d K t h=>?_,fun d K n t h=>?_⟩
  ·unfold Vbemac.expr
   refine W.ite [024] ?_
   ·refine(w_f h d).then fun d' r ⟨hr,hd⟩=>?_
    rw[031]
    obtain⟨h1,l1⟩:=goK h e
    refine(I.expr d' K _ h1).then fun c t2 gc=>(ic gc.tb _).then fun _ t3 ⟨h3,l3⟩=>(I.expr d' K _ h3).then fun x t4 gx=>(ic gx.tb _).then fun _ t5 ⟨h5,l5⟩=>(I.expr d' K _ h5).then fun y t6 gy=>?_
    rw[cD]
    have a1:=gc.ms
    have a2:=gx.ms
    have a3:=gy.ms
    have b1:=gc.fr
    have b2:=gx.fr
    have b3:=gy.fr
    refine⟨gy.tb,?_,?_,?_⟩
    ·unfold fr
     have:max (fr c) (max (fr x) (fr y))<=21+19*d':=Nat.max_le.mpr ⟨b1,Nat.max_le.mpr ⟨b2,b3⟩⟩
     lia
    ·unfold xF
     rw[aB,bz,aB,bz,aB,sz "if " 3,sz " then " 6,sz " else " 6]
     lia
    ·unfold xF shown
     rw[aH,bH,aH,bH,aH,gc.bs,gx.bs,gy.bs,b4 "if " (text "if "),b4 " then " (text " then "),b4 " else " (text " else ")]
     simp only[bi]
   ·refine(I.ands d K t h).then fun x t1 gx=>(I.moreOr d K t1 gx.tb).then fun l t2 gl=>?_
    rw[cD]
    cases l with
    |nil=>exact j30_ gx gl
    |cons y s=>exact gZ gx gl (by rw[fr]) (by rw[xF]) (by rw[shown])
  ·unfold Vbemac.moreOr
   refine(vf_ h _).then fun m t1 hm=>?_
   split
   ·rename_i e
    rw[if_pos e] at hm
    refine(I.ands d K t1 hm.1).then fun x t2 gx=>(I.moreOr d K t2 gx.tb).then fun l t3 gl=>?_
    exact gl_more (g:="||") [02] [02] [02] hm gx gl
   ·rename_i e
    rw[if_neg e] at hm
    subst hm
    exact qk_ h
  ·unfold Vbemac.ands
   refine(I.compared d K t h).then fun x t1 gx=>(I.moreAnd d K t1 gx.tb).then fun l t2 gl=>?_
   rw[cD]
   cases l with
   |nil=>exact j30_ gx gl
   |cons y s=>exact gZ gx gl (by rw[fr]) (by rw[xF]) (by rw[shown])
  ·unfold Vbemac.moreAnd
   refine(vf_ h _).then fun m t1 hm=>?_
   split
   ·rename_i e
    rw[if_pos e] at hm
    refine(I.compared d K t1 hm.1).then fun x t2 gx=>(I.moreAnd d K t2 gx.tb).then fun l t3 gl=>?_
    exact gl_more (g:="&&") [02] [02] [02] hm gx gl
   ·rename_i e
    rw[if_neg e] at hm
    subst hm
    exact qk_ h
  ·unfold Vbemac.compared
   refine(I.added d K t h).then fun x t1 gx=>(j0k_ gx.tb _).then fun s t2 hs=>?_
   cases s with
   |none=>
    subst hs
    exact gx.up (t1:=[]) [06]
   |some op=>
    obtain⟨ho,hg⟩:=hs
    have o:=opOk ho [02]
    refine(I.added d K t2 hg.1).then fun y t3 gy=>?_
    rw[cD]
    have q:=j37_ (w:=3) o hg gy (l:= .nil) (qk_ gy.tb)
    refine gZ (w:=3) gx (ps:=rF 3 (.cons op y .nil)) ⟨q.tb,q.fr,q.ms,q.bs⟩ ?_ ?_ ?_
    ·rw[fr,frR,frR,Nat.max_zero]
    ·rw[xF,rF,rF,List.append_nil]
    ·rw[shown,shownRest,shownRest,List.append_nil]
  ·unfold Vbemac.added
   refine(I.times d K t h).then fun x t1 gx=>(I.moreAdded d K t1 gx.tb).then fun l t2 gl=>?_
   rw[cD]
   cases l with
   |nil=>exact j30_ gx gl
   |cons op y s=>exact gZ gx gl (by rw[fr]) (by rw[xF]) (by rw[shown])
  ·unfold Vbemac.moreAdded
   refine(j0k_ h _).then fun s t1 hs=>?_
   cases s with
   |none=>
    subst hs
    exact qk_ h
   |some op=>
    obtain⟨ho,hg⟩:=hs
    exact(I.times d K t1 hg.1).then fun y t2 gy=>(I.moreAdded d K t2 gy.tb).then fun r t3 gr=>j37_ (opOk ho [02]) hg gy gr
  ·unfold Vbemac.times
   refine(I.unary d K t h).then fun x t1 gx=>(I.moreTimes d K t1 gx.tb).then fun l t2 gl=>?_
   rw[cD]
   cases l with
   |nil=>exact j30_ gx gl
   |cons op y s=>exact gZ gx gl (by rw[fr]) (by rw[xF]) (by rw[shown])
  ·unfold Vbemac.moreTimes
   refine(j0k_ h _).then fun s t1 hs=>?_
   cases s with
   |none=>
    subst hs
    exact qk_ h
   |some op=>
    obtain⟨ho,hg⟩:=hs
    exact(I.unary d K t1 hg.1).then fun y t2 gy=>(I.moreTimes d K t2 gy.tb).then fun r t3 gr=>j37_ (opOk ho [02]) hg gy gr
  ·unfold Vbemac.unary
   refine W.ite [024] (W.ite [024] (I.primary d K t h))
   ·obtain⟨h1,l1⟩:=goS h e
    show W (fun t=>match peek (t.drop 1) with
     | .num n=> .ok (.neg (.num n),t.drop 2)
     |_=>(deeper d>>=fun e=>next>>=fun _=>Vbemac.unary k e K>>=fun a=>pure (.neg a):P Exp) t) t _ _
    have un:W (deeper d>>=fun e=>next>>=fun _=>Vbemac.unary k e K>>=fun a=>pure (.neg a):P Exp) t (Gd 6 d t) T0:=by
     rw[020]
     refine(I.unary d' K _ h1).then fun x t2 gx=>?_
     exact gd_un hd ⟨h1,l1⟩ gx (by rw[fr]) (by rw[xF]) (by rw[shown]) [02] [02]
    unfold W at un ⊢
    dsimp only
    split
    ·rename_i z
     split at z
     ·rename_i n hn
      cases z
      have nn:=h1.num hn
      have l2:=len_of hn [053]
      rw[List.drop_drop] at l2
      refine⟨h.drop 2,by rw[fr,fr,if_pos nn];lia,?_,?_⟩
      ·rw[xF,xF,aB,sz "-" 1]
       have:=mS_pF 5 (.num n) [uc_ n]
       have:mS [uc_ n]=(uc_ n).cps.size+1+0:=aB _ _
       have:=j3v_ nn
       have:(List.drop (1+1) t).length+1=(List.drop 1 t).length:=l2
       show _+8+64*(List.drop (1+1) t).length<=_
       lia
      ·rw[xF,xF,shown,shown,aH,bF_pF (w:=5) (e:= .num n) (ps:=[uc_ n]) (b:=decimal n) (by rw[aH,dM,List.append_nil,bO_dec]),b4 "-" (text "-"),bi]
     ·rename_i z'
      rw[z] at un
      exact un
    ·trivial
   ·obtain⟨h1,l1⟩:=goS h e
    rw[020]
    refine(I.unary d' K _ h1).then fun x t2 gx=>?_
    exact gd_un hd ⟨h1,l1⟩ gx (by rw[fr]) (by rw[xF]) (by rw[shown]) [02] [02]
  ·unfold Vbemac.primary
   refine W.of fun a r e=>?_
   split at e
   ·rename_i n hn
    cases e
    have nn:=h.num hn
    have l1:=len_of hn [053]
    refine⟨h.drop 1,by rw[fr,if_pos nn];lia,?_,by rw[xF,shown,aH,dM,List.append_nil,bO_dec]⟩
    rw[xF,aB,dC]
    have:=j3v_ nn
    lia
   ·split at e
    ·rename_i hp
     refine W.to (show W (deeper d>>=fun e=>next>>=fun _=>Vbemac.expr k e K>>=fun a=>sign ")">>=fun _=>pure a:P Exp) t (Gd 6 d t) T0 from ?_) e
     obtain⟨h1,l1⟩:=goS h hp
     rw[020]
     refine(I.expr d' K _ h1).then fun x t2 gx=>(cw gx.tb _).then fun _ t3 ⟨h3,l3⟩=>?_
     exact⟨h3,by have:=gx.fr;lia,by have:=gx.ms;lia,gx.bs⟩
    ·cases e
   ·rename_i w hw
    have ww:=h.word hw
    obtain⟨h1,l1⟩:=go1 h hw [053]
    split at e
    ·refine W.to (show W (deeper d>>=fun e=>next>>=fun _=>sign "(">>=fun _=>newName K>>=fun x=>key "in">>=fun _=>Vbemac.expr k e K>>=fun lo=>sign "..">>=fun _=>Vbemac.expr k e K>>=fun hi=>sign ":">>=fun _=>Vbemac.expr k e [086]>>=fun a=>sign ")">>=fun _=>pure (.sum x lo hi a):P Exp) t (Gd 6 d t) T0 from ?_) e
     rw[020]
     refine(cw h1 _).then fun _ t2 ⟨h2,l2⟩=>(eM h2 K).then fun x t3 ⟨wx,h3,l3⟩=>(ic h3 _).then fun _ t4 ⟨h4,l4⟩=>(I.expr d' K _ h4).then fun lo t5 g5=>(cw g5.tb _).then fun _ t6 ⟨h6,l6⟩=>(I.expr d' K _ h6).then fun hi t7 g7=>(cw g7.tb _).then fun _ t8 ⟨h8,l8⟩=>(I.expr d' [086] _ h8).then fun y t9 g9=>(cw g9.tb _).then fun _ t10 ⟨h10,l10⟩=>?_
     rw[cD]
     have a1:=g5.ms
     have a2:=g7.ms
     have a3:=g9.ms
     have a4:=eI wx
     refine⟨h10,?_,?_,?_⟩
     ·rw[fr]
      have:=Nat.max_le.mpr ⟨g5.fr,Nat.max_le.mpr ⟨g7.fr,g9.fr⟩⟩
      lia
     ·rw[xF,aB,aB,aB,bz,aB,bz,aB,bz,aB,dC,sz "sum(" 4,sz " in " 4,sz " .. " 4,sz ": " 2,sz ")" 1]
      lia
     ·rw[xF,shown,aH,aH,aH,bH,aH,bH,aH,bH,aH,dM,g5.bs,g7.bs,g9.bs,ii wx,b4 "sum(" (text "sum("),b4 " in " (text " in "),b4 " .. " (text " .. "),b4 ": " (text ": "),b4 ")" (text ")")]
      rw[024]
    split at e
    ·cases e
    split at e
    ·rename_i f hf
     refine W.to (show W (deeper d>>=fun e=>next>>=fun _=>sign "(">>=fun _=>(if f.2=0 then(sign ")">>=fun _=>pure (.call w .nil)) else(Vbemac.arguments k e K f.2>>=fun l=>pure (.call w l)):P Exp)) t (Gd 6 d t) T0 from ?_) e
     rw[020]
     refine(cw h1 _).then fun _ t2 ⟨h2,l2⟩=>?_
     have end_: ∀(l:Exps) (t3:Toks),Gl 21 d' t2 (frL l) 64 (aF l) (shownAll l) t3->Gd 6 d r (.call w l) t3:=fun l t3 g=>by
      have a1:=g.ms
      have a2:=g.fr
      have a4:=eI ww
      refine⟨g.tb,by rw[fr];lia,?_,?_⟩
      ·rw[xF,aB,aB,bz,aB,dC,sz "(" 1,sz ")" 1]
       lia
      ·rw[xF,shown,aH,aH,bH,aH,dM,g.bs,ii ww,b4 "(" (text "("),b4 ")" (text ")")]
       rw[024]
     split
     ·refine(cw h2 _).then fun _ t3 ⟨h3,l3⟩=>?_
      rw[cD]
      exact end_ _ _ ⟨h3,by rw[frL];lia,by rw[aF,dC];lia,by rw[aF,shownAll];rfl⟩
     ·refine(I.arguments d' K f.2 t2 h2).then fun l t3 gl=>?_
      exact end_ _ _ gl
    ·split at e
     ·cases e
      have a4:=eI ww
      refine⟨h1,by rw[fr];lia,?_,by rw[xF,shown,aH,dM,List.append_nil,ii ww]⟩
      rw[xF,aB,dC]
      lia
     ·cases e
   ·cases e
  ·unfold Vbemac.arguments
   refine W.ite (fun _=>cS) ((I.expr d K t h).then fun x t1 gx=>?_)
   split
   ·refine W.ite (fun _=>cS) ((cw gx.tb _).then fun _ t2 ⟨h2,l2⟩=>?_)
    rw[cD]
    refine⟨h2,?_,?_,?_⟩
    ·rw[frL,frL,Nat.max_zero];exact gx.fr
    ·rw[aF]
     have:=gx.ms
     lia
    ·rw[aF,shownAll];exact gx.bs
   ·refine W.ite (fun _=>cS) ((cw gx.tb _).then fun _ t2 ⟨h2,l2⟩=>(I.arguments d K _ t2 h2).then fun l t3 gl=>?_)
    rw[cD]
    have b1:=gl.ms
    have b2:=gx.ms
    refine⟨gl.tb,?_,?_,?_⟩
    ·rw[frL];exact Nat.max_le.mpr ⟨gx.fr,gl.fr⟩
    ·cases l with
     |nil=>
      rw[aF]
      lia
     |cons y s=>
      rw[aF,bz,aB,sz ", " 2]
      ·lia
      ·intro z;cases z
    ·cases l with
     |nil=>
      rw[aF,shownAll]
      exact gx.bs
     |cons y s=>
      rw[aF,shownAll,bH,aH,gx.bs,gl.bs,b4 ", " (text ", "),bi,bi]
      all_goals intro z;cases z
end OS
namespace OS
open Vbemac
open PySem (Str)
def gu (n:Nat):Str:=⟨Array.replicate (2*n) 32⟩
def ua_ (b:Bool):Str:=if b=true then tx "buy" else tx "sell"
def ptF (w:String) (e:Exp):List Str:=tx " "::tx w::tx " "::xF e
def opF (w:String):Option Exp->List Str
 |none=>[]
 |some e=>ptF w e
def nmF:Option Bytes->List Str
 |none=>[]
 |some x=>[sb x,tx " "]
def nmB:Option Bytes->Bytes
 |none=>[]
 |some x=>x++text " "
def unF:Option Bytes->List Str
 |none=>[]
 |some x=>[tx " under ",sb x]
def brF (n:Nat) (ls:List Str):List Str:=tx " {\n"::(ls++[gu n,tx "}"])
mutual
def gI (n:Nat):Stmt->List Str
 | .bind x e=>tx "let "::sb x::tx " = "::(xF e++[tx ";"])
 | .loop x lo hi l=>tx "for "::sb x::tx " in "::(xF lo++(tx " .. "::(xF hi++brF n (lsF (n+1) l))))
 | .cond c a .nil=>tx "if "::(xF c++brF n (lsF (n+1) a))
 | .cond c a b=>tx "if "::(xF c++(brF n (lsF (n+1) a)++(tx " else"::brF n (lsF (n+1) b))))
 | .step buy z q p top a=>ua_ buy::(ptF "zone" z++(ptF "quarter" q++(ptF "price" p++(opF "to" top++(ptF "amount" a++[tx ";"])))))
 | .block m buy z p x q u g=>tx "block "::(nmF m++(ua_ buy::(ptF "zone" z++(ptF "price" p++(tx " amount "::sb x::tx ": "::(xF q++(unF u++(opF "group" g++[tx ";"]))))))))
def lsF (n:Nat):Stmts->List Str
 | .nil=>[]
 | .cons s l=>gu n::(gI n s++(tx "\n"::lsF n l))
end
def frO:Option Exp->Nat
 |none=>0
 |some e=>fr e
mutual
def frS:Stmt->Nat
 | .bind _ e=>2+fr e
 | .loop _ lo hi l=>max (3+fr lo) (max (3+fr hi) (1+frB l))
 | .cond c a b=>max (3+fr c) (max (2+frB a) (2+frB b))
 | .step _ z q p top a=>4+max (fr z) (max (fr q) (max (fr p) (max (frO top) (fr a))))
 | .block _ _ z p _ q _ g=>4+max (fr z) (max (fr p) (max (fr q) (frO g)))
def frB:Stmts->Nat
 | .nil=>1
 | .cons s l=>max (1+frS s) (frB l)
end
theorem bO_ind (n:Nat):bO (gu n)=«ints» (indent n):=by
 unfold bO
 rw[if_neg]
 ·show(Array.replicate (2*n) 32).toList.map Int.ofNat=(List.replicate (2*n) (32:UInt8)).map _
  rw[Array.toList_replicate,List.map_replicate,List.map_replicate]
  rfl
 ·intro z
  have e:(Array.replicate (2*n) 32).toList=qb_.cps.toList:=congrArg (fun x=>x.cps.toList) z
  have m:(47:Nat)∈(Array.replicate (2*n) 32).toList:=by rw[e];decide
  rw[Array.toList_replicate] at m
  have:=(List.mem_replicate.mp m).2
  lia
theorem j4k_ (n:Nat):(gu n).cps.size=2*n:=Array.size_replicate
theorem bO_side (b:Bool):bO (ua_ b)=«ints» (sideWord b):=by cases b<;>decide+kernel
theorem j1k_ (b:Bool):(ua_ b).cps.size<=4:=by cases b<;>decide+kernel
theorem bF_pt {w:String}{e:Exp}(hw:bO (tx w)=«ints» (text w)) (h:bF (xF e)=«ints» (shown e)):bF (ptF w e)=«ints» (text " "++(text w++(text " "++shown e))):=by
 unfold ptF
 rw[aH,aH,aH,h,hw,bi,bi,bi]
 rfl
theorem mS_pt {w:String}{n:Nat}{e:Exp}(hw:(tx w).cps.size=n):mS (ptF w e)=n+5+mS (xF e):=by
 unfold ptF
 rw[aB,aB,aB,hw,sz " " 1]
 lia
section
variable {t:Toks}(h:TB t)
include h
theorem w_side:W side t (fun _ r=>Go t r) T0:=by
 refine W.of fun a r e=>?_
 unfold side at e
 split at e
 ·rename_i k
  cases e
  exact goK h k
 split at e
 ·rename_i k
  cases e
  exact goK h k
 ·cases e
theorem j4n_ {α:Type}{p:P α}{Q:Toks->α->Toks->Prop}{w:String}(hp: ∀t1,Go t t1->W p t1 (Q t1) T0):W (behind w p) t (fun o r=>match o with
  |none=>r=t
  |some a=> ∃t1,Go t t1/\Q t1 a r) T0:=by
 refine W.of fun o r e=>?_
 unfold behind at e
 split at e
 ·rename_i k
  have g:=goK h k
  split at e
  ·cases e
  ·rename_i z
   cases e
   exact⟨_,g,(hp _ g).to z⟩
 ·cases e
  exact rfl
theorem j4r_ (B:Blocks):W (blockName B) t (fun x r=>Wd x/\Go t r) T0:=by
 refine W.of fun o r e=>?_
 unfold blockName at e
 split at e
 ·cases e
 ·rename_i z
  split at e
  ·cases e
  ·cases e
   exact(j8_ h).to z
theorem j2p_ (B:Blocks):W (knownBlock B) t (fun x r=>Wd x/\Go t r) T0:=by
 refine W.of fun o r e=>?_
 unfold knownBlock at e
 split at e
 ·cases e
 ·rename_i z
  split at e
  ·cases e
   exact(j8_ h).to z
  ·cases e
theorem j4x_ (B:Blocks):W (maybeName B) t (fun o r=>match o with
  |none=>r=t
  |some x=>Wd x/\Go t r) T0:=by
 refine W.of fun o r e=>?_
 unfold maybeName at e
 split at e
 ·cases e
  exact rfl
 split at e
 ·cases e
 ·rename_i z
  cases e
  exact(j4r_ h B).to z
theorem w_part {w:String}{k:Nat}{K:Known}(hs:(tx w).cps.size<=8) (hw:bO (tx w)=«ints» (text w)):W (behind w (expr k DEEP K)) t (fun o=>Gl 21 12 t (frO o) 0 (opF w o) (opt w shown o)) T0:=by
 refine(j4n_ h (fun t1 g=>(j35_ k).expr DEEP K t1 g.1)).mono (fun o r q=>?_) fun _ _ z=>z
 cases o with
 |none=>
  cases q
  exact qk_ h
 |some e=>
  obtain⟨t1,g,q⟩:=q
  have a1:=q.ms
  have a2:=g.2
  refine⟨q.tb,q.fr,?_,bF_pt hw q.bs⟩
  have:mS (opF w (some e))=_:=mS_pt (e:=e) (rfl:(tx w).cps.size=_)
  lia
end
structure Gs (n d:Nat) (t:Toks) (f m:Nat) (ps:List Str) (b:Bytes) (r:Toks):Prop where
 tb:TB r
 fr:f<=253+3*d
 ms:mS ps+m+64*r.length<=64*t.length
 bs:bF ps=«ints» b
structure PS (k:Nat):Prop where
 stmts: ∀n d K B t,n+d<=7->TB t->W (stmts k d K B) t (fun l r=>Gs n d t (frB l.1-1) 64 (lsF n l.1) (shownStmts n l.1) r) T0
 stmt: ∀n d K B t,n+d<=7->TB t->W (stmt k d K B) t (fun s r=>Gs n d t (frS s.1) 0 (gu n::(gI n s.1++[tx "\n"])) (shownStmt n s.1) r) T0
theorem mS_br (n:Nat) (ls:List Str):mS (brF n ls)=7+2*n+mS ls:=by
 unfold brF
 rw[aB,bz,aB,aB,dC,j4k_,sz " {\n" 3,sz "}" 1]
 lia
theorem bF_br {n:Nat}{ls:List Str}{b:Bytes}(h:bF ls=«ints» b):bF (brF n ls)=«ints» (text " {\n"++(b++(indent n++text "}"))):=by
 unfold brF
 rw[aH,bH,aH,aH,dM,h,bO_ind,b4 " {\n" (text " {\n"),b4 "}" (text "}")]
 rw[024]
theorem line {n d f:Nat}{t r:Toks}{s:Stmt}(tb:TB r) (hn:n+d<=7) (hf:frS s=f) (h1:f<=253+3*d) (h2:mS (gI n s)+17+64*r.length<=64*t.length) {b:Bytes}(h3:bF (gI n s)=«ints» b) (h4:shownStmt n s=indent n++(b++[10])):Gs n d t (frS s) 0 (gu n::(gI n s++[tx "\n"])) (shownStmt n s) r:=by
 refine⟨tb,by rw[hf];exact h1,?_,?_⟩
 ·rw[aB,bz,aB,dC,j4k_,sz "\n" 1]
  lia
 ·rw[aH,bH,aH,dM,h3,h4,bO_ind,bi,bi,b4 "\n" [10]]
  simp only[List.append_nil]
theorem ps_all: ∀k,PS k
 |0=>by
  refine⟨?_,?_⟩<;>intros<;>first|(unfold Vbemac.stmts;exact cS)|(unfold Vbemac.stmt;exact cS)
 |k+1=>by
  have I:=ps_all k
  have X: ∀K t,TB t->W (Vbemac.expr k DEEP K) t (Gd 21 12 t) T0:=(j35_ k).expr 12
  refine⟨fun n d K B t hn h=>?_,fun n d K B t hn h=>?_⟩
  ·unfold Vbemac.stmts
   refine W.ite (p:=fun t=> .ok ((Stmts.nil,B),t.drop 1)) [024] ?_
   ·obtain⟨h1,l1⟩:=goS h e
    refine⟨h1,by show frB .nil-1<=_;rw[frB];lia,?_,?_⟩
    ·show mS (lsF n .nil)+64+64*(t.drop 1).length<=_
     rw[lsF,dC]
     lia
    ·show bF (lsF n .nil)=«ints» (shownStmts n .nil)
     rw[lsF,shownStmts]
     rfl
   ·refine(I.stmt n d K B t hn h).then fun s t1 gs=>(I.stmts n d s.2.1 s.2.2 t1 hn gs.tb).then fun l t2 gl=>?_
    rw[cD]
    have a1:=gs.ms
    have a2:=gl.ms
    have a3:=gs.fr
    have a4:=gl.fr
    have a5:=gs.bs
    refine⟨gl.tb,?_,?_,?_⟩
    ·show frB (.cons s.1 l.1)-1<=_
     rw[frB]
     have:max (1+frS s.1) (frB l.1)<=254+3*d:=Nat.max_le.mpr ⟨by lia,by lia⟩
     lia
    ·show mS (lsF n (.cons s.1 l.1))+64+_<=_
     rw[lsF,aB,bz,aB]
     rw[aB,bz,aB,dC] at a1
     lia
    ·show bF (lsF n (.cons s.1 l.1))=«ints» (shownStmts n (.cons s.1 l.1))
     rw[lsF,shownStmts,bi,<-a5,<-gl.bs]
     simp only[aH,bH,dM,List.append_assoc,List.append_nil]
  ·unfold Vbemac.stmt
   refine W.ite [024] (W.ite [024] (W.ite [024] (W.ite [024] ?_)))
   ·rw[aK,eL]
    obtain⟨h1,l1⟩:=goK h e
    refine(eM h1 K).then fun x t2 ⟨wx,h2,l2⟩=>(cw h2 _).then fun _ t3 ⟨h3,l3⟩=>(X K t3 h3).then fun y t4 gy=>(cw gy.tb _).then fun _ t5 ⟨h5,l5⟩=>?_
    rw[cD]
    have a1:=gy.ms
    have a2:=gy.fr
    have a3:=eI wx
    refine line h5 hn (by rw[frS]) (by lia) ?_ (b:=text "let "++(x++(text " = "++(shown y++[59])))) ?_ ?_
    ·rw[gI,aB,aB,aB,bz,aB,dC,sz "let " 4,sz " = " 3,sz ";" 1]
     lia
    ·rw[gI,aH,aH,aH,bH,aH,dM,gy.bs,ii wx,b4 "let " (text "let "),b4 " = " (text " = "),b4 ";" [59]]
     rw[024]
    ·rw[shownStmt]
     rw[038]
   ·refine(w_f h d).then fun d' r ⟨hr,hd⟩=>?_
    rw[031]
    obtain⟨h1,l1⟩:=goK h e
    refine(eM h1 K).then fun x t2 ⟨wx,h2,l2⟩=>(ic h2 _).then fun _ t3 ⟨h3,l3⟩=>(X K t3 h3).then fun lo t4 g4=>(cw g4.tb _).then fun _ t5 ⟨h5,l5⟩=>(X K t5 h5).then fun hi t6 g6=>(cw g6.tb _).then fun _ t7 ⟨h7,l7⟩=>(I.stmts (n+1) d' [086] B t7 (by lia) h7).then fun l t8 g8=>?_
    rw[cD]
    have a1:=g4.ms
    have a2:=g6.ms
    have a3:=g8.ms
    have a4:=eI wx
    have b1:=g4.fr
    have b2:=g6.fr
    have b3:=g8.fr
    refine line g8.tb hn (by rw[frS]) (Nat.max_le.mpr ⟨by lia,Nat.max_le.mpr ⟨by lia,by lia⟩⟩) ?_ (b:=text "for "++(x++(text " in "++(shown lo++(text " .. "++(shown hi++(text " {\n"++(shownStmts (n+1) l.1++(indent n++text "}"))))))))) ?_ ?_
    ·rw[gI,aB,aB,aB,bz,aB,bz,mS_br,sz "for " 4,sz " in " 4,sz " .. " 4]
     lia
    ·rw[gI,aH,aH,aH,bH,aH,bH,bF_br g8.bs,g4.bs,g6.bs,ii wx,b4 "for " (text "for "),b4 " in " (text " in "),b4 " .. " (text " .. ")]
     simp only[bi]
    ·rw[shownStmt]
     rw[038]
   ·refine(w_f h d).then fun d' r ⟨hr,hd⟩=>?_
    rw[031]
    obtain⟨h1,l1⟩:=goK h e
    refine(X K _ h1).then fun c t2 g2=>(cw g2.tb _).then fun _ t3 ⟨h3,l3⟩=>(I.stmts (n+1) d' K B t3 (by lia) h3).then fun x t4 g4=>(w_ifKey g4.tb _).then fun m t5 hm=>?_
    have a1:=g2.ms
    have a2:=g4.ms
    have b1:=g2.fr
    have b2:=g4.fr
    have one: ∀ {t5:Toks},TB t5->t5.length<=t4.length->Gs n d r (frS (.cond c x.1 .nil)) 0 (gu n::(gI n (.cond c x.1 .nil)++[tx "\n"])) (shownStmt n (.cond c x.1 .nil)) t5:=fun h5 l5=>by
     refine line h5 hn (by rw[frS,frB]) (Nat.max_le.mpr ⟨by lia,Nat.max_le.mpr ⟨by lia,by lia⟩⟩) ?_ (b:=text "if "++(shown c++(text " {\n"++(shownStmts (n+1) x.1++(indent n++text "}"))))) ?_ ?_
     ·rw[gI,aB,bz,mS_br,sz "if " 3]
      lia
     ·rw[gI,aH,bH,bF_br g4.bs,g2.bs,b4 "if " (text "if ")]
      simp only[bi]
     ·rw[shownStmt]
      rw[038]
    split
    ·rename_i em
     rw[if_pos em] at hm
     obtain⟨h5,l5⟩:=hm
     refine(cw h5 _).then fun _ t6 ⟨h6,l6⟩=>(I.stmts (n+1) d' K x.2 t6 (by lia) h6).then fun y t7 g7=>?_
     rw[cD]
     have a3:=g7.ms
     have b3:=g7.fr
     show Gs n d r (frS (.cond c x.1 y.1)) 0 (gu n::(gI n (.cond c x.1 y.1)++[tx "\n"])) (shownStmt n (.cond c x.1 y.1)) t7
     cases hy:y.1 with
     |nil=>exact one g7.tb (by lia)
     |cons s l=>
      rw[hy] at a3 b3
      have g7b:=g7.bs
      rw[hy] at g7b
      refine line g7.tb hn (by rw[frS]) (Nat.max_le.mpr ⟨by lia,Nat.max_le.mpr ⟨by lia,by lia⟩⟩) ?_ (b:=text "if "++(shown c++((text " {\n"++(shownStmts (n+1) x.1++(indent n++text "}")))++(text " else"++(text " {\n"++(shownStmts (n+1) (.cons s l)++(indent n++text "}"))))))) ?_ ?_
      ·rw[gI,aB,bz,bz,mS_br,aB,mS_br,sz "if " 3,sz " else" 5]
       ·lia
       ·intro z;cases z
      ·rw[gI,aH,bH,bH,bF_br g4.bs,aH,bF_br g7b,g2.bs,b4 "if " (text "if "),b4 " else" (text " else")]
       ·simp only[bi]
       ·intro z;cases z
      ·rw[shownStmt]
       ·simp only[cat,List.flatten_cons,List.flatten_nil,List.append_assoc,List.append_nil]
        rfl
       ·intro z;cases z
    ·rename_i em
     rw[if_neg em] at hm
     subst hm
     rw[cD]
     exact one g4.tb [007]
   ·rw[aK,eL]
    obtain⟨h1,l1⟩:=goK h e
    refine(j4x_ h1 B).then fun m t2 hm=>?_
    have m2:TB t2/\mS (nmF m)+64*t2.length<=64*(t.drop 1).length/\bF (nmF m)=«ints» (nmB m):=by
     cases m with
     |none=>
      cases hm
      exact⟨h1,by show 0+_<=_;lia,rfl⟩
     |some x=>
      obtain⟨wx,h2,l2⟩:=hm
      have:=eI wx
      refine⟨h2,?_,?_⟩
      ·show mS [sb x,tx " "]+_<=_
       rw[aB,aB,dC,sz " " 1]
       lia
      ·show bF [sb x,tx " "]=«ints» (x++text " ")
       rw[aH,aH,dM,ii wx,b4 " " (text " "),bi,List.append_nil]
    obtain⟨h2,l2,e2⟩:=m2
    refine(w_side h2).then fun by_ t3 ⟨h3,l3⟩=>(ic h3 _).then fun _ t4 ⟨h4,l4⟩=>(X K t4 h4).then fun z t5 g5=>(ic g5.tb _).then fun _ t6 ⟨h6,l6⟩=>(X K t6 h6).then fun p t7 g7=>(ic g7.tb _).then fun _ t8 ⟨h8,l8⟩=>(eM h8 K).then fun x t9 ⟨wx,h9,l9⟩=>(cw h9 _).then fun _ t10 ⟨h10,l10⟩=>(X [086] t10 h10).then fun q t11 g11=>?_
    refine(j4n_ g11.tb (w:="under") (fun t1 g=>j2p_ g.1 B)).then fun u t12 hu=>?_
    have u2:TB t12/\mS (unF u)+64*t12.length<=64*t11.length/\bF (unF u)=«ints» (opt "under" (fun w=>w) u):=by
     cases u with
     |none=>
      cases hu
      exact⟨g11.tb,by show 0+_<=_;lia,rfl⟩
     |some y=>
      obtain⟨t1,q1,wy,q2⟩:=hu
      have:=eI wy
      have:=q1.2
      have:=q2.2
      refine⟨q2.1,?_,?_⟩
      ·show mS [tx " under ",sb y]+_<=_
       rw[aB,aB,dC,sz " under " 7]
       lia
      ·show bF [tx " under ",sb y]=«ints» (text " "++(text "under"++(text " "++y)))
       rw[aH,aH,dM,ii wy,b4 " under " (text " "++(text "under"++text " "))]
       simp only[bi,List.append_assoc,List.append_nil]
    obtain⟨h12,l12,e12⟩:=u2
    refine(w_part h12 (w:="group") [02] [02]).then fun g t13 g13=>(cw g13.tb _).then fun _ t14 ⟨h14,l14⟩=>?_
    rw[cD]
    have a5:=g5.ms
    have a7:=g7.ms
    have a11:=g11.ms
    have a13:=g13.ms
    have b5:=g5.fr
    have b7:=g7.fr
    have b11:=g11.fr
    have b13:=g13.fr
    have s1:=eI wx
    have s2:=j1k_ by_
    refine line h14 hn (f:=4+max (fr z) (max (fr p) (max (fr q) (frO g)))) (by rw[frS]) ?_ ?_ (b:=text "block "++(nmB m++(sideWord by_++((text " "++(text "zone"++(text " "++shown z)))++((text " "++(text "price"++(text " "++shown p)))++(text " amount "++(x++(text ": "++(shown q++(opt "under" (fun w=>w) u++(opt "group" shown g++[59]))))))))))) ?_ ?_
    ·have:max (fr z) (max (fr p) (max (fr q) (frO g)))<=249:=Nat.max_le.mpr ⟨b5,Nat.max_le.mpr ⟨b7,Nat.max_le.mpr ⟨b11,b13⟩⟩⟩
     lia
    ·rw[gI,aB,bz,aB,bz,bz,mS_pt (sz "zone" 4),mS_pt (sz "price" 5),aB,aB,aB,bz,bz,bz,aB,dC,sz "block " 6,sz " amount " 8,sz ": " 2,sz ";" 1]
     lia
    ·rw[gI,aH,bH,aH,bH,bH,bF_pt (w:="zone") [02] g5.bs,bF_pt (w:="price") [02] g7.bs,aH,aH,aH,bH,bH,bH,aH,dM,e2,e12,g11.bs,g13.bs,bO_side,ii wx,b4 "block " (text "block "),b4 " amount " (text " amount "),b4 ": " (text ": "),b4 ";" [59]]
     rw[024]
    ·rw[shownStmt.eq_def]
     cases m<;>simp only[nmB,cat,List.flatten_cons,List.flatten_nil,List.append_assoc,List.append_nil]<;>rfl
   ·refine(w_side h).then fun by_ t3 ⟨h3,l3⟩=>(ic h3 _).then fun _ t4 ⟨h4,l4⟩=>(X K t4 h4).then fun z t5 g5=>(ic g5.tb _).then fun _ t6 ⟨h6,l6⟩=>(X K t6 h6).then fun q t7 g7=>(ic g7.tb _).then fun _ t8 ⟨h8,l8⟩=>(X K t8 h8).then fun p t9 g9=>(w_part g9.tb (w:="to") [02] [02]).then fun u t10 g10=>(ic g10.tb _).then fun _ t11 ⟨h11,l11⟩=>(X K t11 h11).then fun y t12 g12=>(cw g12.tb _).then fun _ t14 ⟨h14,l14⟩=>?_
    rw[cD]
    have a5:=g5.ms
    have a7:=g7.ms
    have a9:=g9.ms
    have a10:=g10.ms
    have a12:=g12.ms
    have b5:=g5.fr
    have b7:=g7.fr
    have b9:=g9.fr
    have b10:=g10.fr
    have b12:=g12.fr
    have s2:=j1k_ by_
    refine line h14 hn (f:=4+max (fr z) (max (fr q) (max (fr p) (max (frO u) (fr y))))) (by rw[frS]) ?_ ?_ (b:=sideWord by_++((text " "++(text "zone"++(text " "++shown z)))++((text " "++(text "quarter"++(text " "++shown q)))++((text " "++(text "price"++(text " "++shown p)))++(opt "to" shown u++((text " "++(text "amount"++(text " "++shown y)))++[59])))))) ?_ ?_
    ·have:max (fr z) (max (fr q) (max (fr p) (max (frO u) (fr y))))<=249:=Nat.max_le.mpr ⟨b5,Nat.max_le.mpr ⟨b7,Nat.max_le.mpr ⟨b9,Nat.max_le.mpr ⟨b10,b12⟩⟩⟩⟩
     lia
    ·rw[gI,aB,bz,bz,bz,bz,bz,mS_pt (sz "zone" 4),mS_pt (sz "quarter" 7),mS_pt (sz "price" 5),mS_pt (sz "amount" 6),aB,dC,sz ";" 1]
     lia
    ·rw[gI,aH,bH,bH,bH,bH,bH,bF_pt (w:="zone") [02] g5.bs,bF_pt (w:="quarter") [02] g7.bs,bF_pt (w:="price") [02] g9.bs,bF_pt (w:="amount") [02] g12.bs,aH,dM,g10.bs,bO_side,b4 ";" [59]]
     rw[024]
    ·rw[shownStmt]
     rw[038]
end OS
namespace OS
open Vbemac
open PySem (Str)
def tpF:Top->List Str
 | .const x e=>tx "const "::sb x::tx " = "::(xF e++[tx ";\n"])
 | .func x ps e=>tx "fun "::sb x::tx "("::sb (commas ps)::tx ") = "::(xF e++[tx ";\n"])
 | .desk x l=>tx "desk "::sb x::(brF 0 (lsF 1 l)++[tx "\n"])
def shF (s:Sheet):List Str:=s.flatMap tpF
def frT:Top->Nat
 | .const _ e=>2+fr e
 | .func _ _ e=>2+fr e
 | .desk _ l=>1+frB l
theorem ik (x y:Bytes) (l:List Bytes):commas (x::y::l)=x++(text ", "++commas (y::l)):=rfl
theorem qe_: ∀(ps:List Bytes),(∀x∈ps,Wd x)->(∀c∈commas ps,b6 c=true\/c=44\/c=32)/\(commas ps).length<=26*ps.length
 |[],_=>⟨fun _ h=>(nomatch h),Nat.le_refl _⟩
 |[x],h=>by
  have w:=h x List.mem_cons_self
  have e:commas [x]=x:=by unfold commas;simp
  rw[e]
  exact⟨fun c hc=> .inl (w.ok c hc),by have:=w.len;show _<=26*1;lia⟩
 |x::y::l,h=>by
  have w:=h x List.mem_cons_self
  have i:=qe_ (y::l) fun z hz=>h z (List.mem_cons_of_mem _ hz)
  rw[ik]
  constructor
  ·intro c hc
   rcases List.mem_append.mp hc with z|z
   ·exact .inl (w.ok c z)
   rcases List.mem_append.mp z with z|z
   ·have:c∈[44,32]:=z
    rcases List.mem_cons.mp this with q|q
    ·exact .inr (.inl q)
    ·exact .inr (.inr (List.mem_singleton.mp q))
   ·exact i.1 c z
  ·rw[List.length_append,List.length_append]
   have:=w.len
   have:=i.2
   have:(text ", ").length=2:=by decide+kernel
   rw[List.length_cons]
   lia
theorem bO_com {ps:List Bytes}(h: ∀x∈ps,Wd x):bO (sb (commas ps))=«ints» (commas ps):=by
 unfold bO
 rw[if_neg]
 ·show((commas ps).map UInt8.toNat).toArray.toList.map Int.ofNat=_
  unfold «ints»
  rw[List.map_map]
  rfl
 ·intro z
  rw[j20_] at z
  have z:=fJ z
  have:=(qe_ ps h).1 47 (by rw[z];exact List.mem_cons_self)
  exact absurd this [06]
theorem size_com {ps:List Bytes}(h: ∀x∈ps,Wd x) (h6:ps.length<=6):(sb (commas ps)).cps.size<=156:=by
 show((commas ps).map UInt8.toNat).toArray.size<=156
 rw[List.size_toArray,List.length_map]
 have:=(qe_ ps h).2
 lia
theorem j3x_: ∀(k n:Nat) (K:Known) (t:Toks),TB t->W (params k n K) t (fun ps r=>TB r/\r.length<=t.length/\ps.length<=n/\ ∀x∈ps,Wd x) T0
 |0,n,K,t,h=>by unfold params;exact cS
 |k+1,n,K,t,h=>by
  refine W.of fun a r e=>?_
  unfold params at e
  split at e
  ·cases e
  ·rename_i n0
   refine W.to (Qo:=fun ps r=>TB r/\r.length<=t.length/\ps.length<=n/\ ∀x∈ps,Wd x) (show W (newName K>>=fun x=>ifSign ",">>=fun m=>(if m=true then(params k (n-1) [086]>>=fun l=>pure (x::l)) else(sign ")">>=fun _=>pure [x]):P (List Bytes))) t _ T0 from ?_) e
   refine(eM h K).then fun x t1 ⟨wx,h1,l1⟩=>(vf_ h1 _).then fun m t2 hm=>?_
   split
   ·rename_i em
    rw[if_pos em] at hm
    refine(j3x_ k (n-1) [086] t2 hm.1).then fun l t3 ⟨h3,l3,q,w⟩=>?_
    have:=hm.2
    refine⟨h3,by lia,by rw[List.length_cons];lia,fun y hy=>?_⟩
    rcases List.mem_cons.mp hy with z|z
    ·rw[z];exact wx
    ·exact w y z
   ·rename_i em
    rw[if_neg em] at hm
    subst hm
    refine(cw h1 _).then fun _ t3 ⟨h3,l3⟩=>?_
    exact⟨h3,by lia,by show 1<=n;lia,fun y hy=>by rw[List.mem_singleton.mp hy];exact wx⟩
structure Gt (t:Toks) (ss:Sheet):Prop where
 fr: ∀s∈ss,frT s<=273
 ms:mS (shF ss)<=64*t.length
 bs:bF (shF ss)=«ints» (print ss)
theorem j3b_ {t t1:Toks}{s:Top}{l:Sheet}(h1:frT s<=273) (h2:mS (tpF s)+64*t1.length<=64*t.length) (h3:bF (tpF s)=«ints» (shownTop s)) (g:Gt t1 l):Gt t (s::l):=by
 refine⟨fun x hx=>?_,?_,?_⟩
 ·rcases List.mem_cons.mp hx with z|z
  ·rw[z];exact h1
  ·exact g.fr x z
 ·have:=g.ms
  show mS (tpF s++shF l)<=_
  rw[bz]
  lia
 ·show bF (tpF s++shF l)=«ints» (shownTop s++print l)
  rw[bH,bi,h3,g.bs]
theorem j26_: ∀(k:Nat) (K:Known) (f:Nat) (D:List Bytes) (t:Toks),TB t->W (tops k K f D) t (fun ss _=>Gt t ss) T0
 |0,K,f,D,t,h=>by unfold tops;exact cS
 |k+1,K,f,D,t,h=>by
  have X: ∀K t,TB t->W (Vbemac.expr k DEEP K) t (Gd 21 12 t) T0:=(j35_ k).expr 12
  refine W.of fun a r e=>?_
  unfold tops at e
  split at e
  ·cases e
   exact⟨fun _ z=>(nomatch z),Nat.zero_le _,rfl⟩
  split at e
  ·rename_i ek
   refine W.to (Qo:=fun ss _=>Gt t ss) (show W (next>>=fun _=>newName K>>=fun x=>sign "=">>=fun _=>Vbemac.expr k DEEP K>>=fun e=>sign ";">>=fun _=>tops k [086] f D>>=fun l=>pure (.const x e::l):P Sheet) t _ T0 from ?_) e
   rw[aK,eL]
   obtain⟨h1,l1⟩:=goK h ek
   refine(eM h1 K).then fun x t2 ⟨wx,h2,l2⟩=>(cw h2 _).then fun _ t3 ⟨h3,l3⟩=>(X K t3 h3).then fun y t4 gy=>(cw gy.tb _).then fun _ t5 ⟨h5,l5⟩=>(j26_ k _ _ _ t5 h5).then fun l t6 gl=>?_
   rw[cD]
   have a1:=gy.ms
   have a2:=gy.fr
   have a3:=eI wx
   refine j3b_ (by rw[frT];lia) ?_ ?_ gl
   ·rw[tpF,aB,aB,aB,bz,aB,dC,sz "const " 6,sz " = " 3,sz ";\n" 2]
    lia
   ·rw[tpF,shownTop,aH,aH,aH,bH,aH,dM,gy.bs,ii wx,b4 "const " (text "const "),b4 " = " (text " = "),b4 ";\n" [59,10]]
    rw[024]
  split at e
  ·rename_i ek
   split at e
   ·cases e
   refine W.to (Qo:=fun ss _=>Gt t ss) (show W (next>>=fun _=>newName K>>=fun x=>sign "(">>=fun _=>ifSign ")">>=fun none_=>(if none_=true then give [] else params k PARAMS [086])>>=fun ps=>sign "=">>=fun _=>Vbemac.expr k DEEP { K with values:=ps++K.values } >>=fun e=>sign ";">>=fun _=>tops k { K with funs:=(x,ps.length)::K.funs } (f-1) D>>=fun l=>pure (.func x ps e::l):P Sheet) t _ T0 from ?_) e
   rw[aK,eL]
   obtain⟨h1,l1⟩:=goK h ek
   refine(eM h1 K).then fun x t2 ⟨wx,h2,l2⟩=>(cw h2 _).then fun _ t3 ⟨h3,l3⟩=>(vf_ h3 _).then fun m t4 hm=>?_
   have hp:W (if m=true then give [] else params k PARAMS [086]) t4 (fun ps r=>TB r/\r.length<=t3.length/\ps.length<=6/\ ∀x∈ps,Wd x) T0:=by
    split
    ·rename_i em
     rw[if_pos em] at hm
     have:=hm.2
     exact⟨hm.1,by lia,Nat.zero_le _,fun _ z=>nomatch z⟩
    ·rename_i em
     rw[if_neg em] at hm
     subst hm
     exact j3x_ k 6 [086] t4 h3
   refine hp.then fun ps t5 ⟨h5,l5,p6,wp⟩=>(cw h5 _).then fun _ t6 ⟨h6,l6⟩=>(X _ t6 h6).then fun y t7 gy=>(cw gy.tb _).then fun _ t8 ⟨h8,l8⟩=>(j26_ k _ _ _ t8 h8).then fun l t9 gl=>?_
   rw[cD]
   have a1:=gy.ms
   have a2:=gy.fr
   have a3:=eI wx
   have a4:=size_com wp p6
   refine j3b_ (by rw[frT];lia) ?_ ?_ gl
   ·rw[tpF,aB,aB,aB,aB,aB,bz,aB,dC,sz "fun " 4,sz "(" 1,sz ") = " 4,sz ";\n" 2]
    lia
   ·rw[tpF,shownTop,aH,aH,aH,aH,aH,bH,aH,dM,gy.bs,ii wx,bO_com wp,b4 "fun " (text "fun "),b4 "(" (text "("),b4 ") = " (text ") = "),b4 ";\n" [59,10]]
    rw[024]
  split at e
  ·rename_i ek
   refine W.to (Qo:=fun ss _=>Gt t ss) (show W (next>>=fun _=>(fun u=>match anyName u with
    | .error e=> .error e
    | .ok (w,r)=>if D.contains w=true then fail 4 u else .ok (w,r):P Bytes)>>=fun x=>sign "{">>=fun _=>Vbemac.stmts k NEST K []>>=fun l=>tops k K f (x::D)>>=fun r=>pure (.desk x l.1::r):P Sheet) t _ T0 from ?_) e
   rw[aK,eL]
   obtain⟨h1,l1⟩:=goK h ek
   have hx:W (fun u=>match anyName u with
    | .error e=> .error e
    | .ok (w,r)=>if D.contains w=true then fail 4 u else .ok (w,r):P Bytes) (t.drop 1) (fun x r=>Wd x/\Go (t.drop 1) r) T0:=by
    refine W.of fun o r e=>?_
    split at e
    ·cases e
    ·rename_i z
     split at e
     ·cases e
     ·cases e
      exact(j8_ h1).to z
   refine hx.then fun x t2 ⟨wx,h2,l2⟩=>(cw h2 _).then fun _ t3 ⟨h3,l3⟩=>((ps_all k).stmts 1 6 K [] t3 [06] h3).then fun l t4 gl=>(j26_ k _ _ _ t4 gl.tb).then fun s t5 gs=>?_
   rw[cD]
   have a1:=gl.ms
   have a2:=gl.fr
   have a3:=eI wx
   refine j3b_ (by rw[frT];lia) ?_ ?_ gs
   ·rw[tpF,aB,aB,bz,mS_br,aB,dC,sz "desk " 5,sz "\n" 1]
    lia
   ·rw[tpF,shownTop,aH,aH,bH,bF_br gl.bs,aH,dM,ii wx,b4 "desk " (text "desk "),b4 "\n" (text "\n")]
    simp only[bi,List.append_nil,List.append_assoc]
    rfl
  ·cases e
theorem tw_ok {p:UInt8->Bool} : ∀(l:Bytes),∀c∈l.takeWhile p,p c=true
 |[],_,h=>nomatch h
 |x::l,c,h=>by
  rw[List.takeWhile_cons] at h
  split at h
  ·rename_i hx
   rcases List.mem_cons.mp h with z|z
   ·rw[z];exact hx
   ·exact tw_ok l c z
  ·cases h
theorem val_lt: ∀(w:Bytes) (n k:Nat),(∀c∈w,digit c=true)->n<10 ^ k->w.foldl (fun n c=>10*n+(c.toNat-48)) n<10 ^ (k+w.length)
 |[],n,k,_,h=>h
 |c::w,n,k,hd,h=>by
  rw[List.foldl_cons]
  have hc:c.toNat<=57:=by
   have:=hd c [076]
   unfold digit at this
   rw[Bool.and_eq_true,decide_eq_true_iff,decide_eq_true_iff] at this
   exact UInt8.le_iff_toNat_le.mp this.2
  have z:=val_lt w (10*n+(c.toNat-48)) (k+1) (fun x hx=>hd x (List.mem_cons_of_mem _ hx)) (by rw[Nat.pow_succ];lia)
  rw[show k+(c::w).length=k+1+w.length by rw[List.length_cons];lia]
  exact z
theorem qm_: ∀(k:Nat) (p:Pos) (b:Bytes),TB (lex k p b)
 |0,p,b=>by intro x hx;unfold lex at hx;rw[List.mem_singleton.mp hx];exact⟨fun _ e=>(nomatch e),fun _ e=>nomatch e⟩
 |k+1,p,[]=>by intro x hx;unfold lex at hx;rw[List.mem_singleton.mp hx];exact⟨fun _ e=>(nomatch e),fun _ e=>nomatch e⟩
 |k+1,p,c::r=>by
  have one: ∀ {y:Tok}{t:Toks},((∀w,y= .word w->Wd w)/\ ∀n,y= .num n->n<1000000000000000000)->TB t->TB ((y,p)::t):=fun h1 h2 x hx=>by
   rcases List.mem_cons.mp hx with z|z
   ·rw[z];exact h1
   ·exact h2 x z
  have nil:TB []:=fun x hx=>nomatch hx
  unfold lex
  split
  ·exact qm_ k _ _
  split
  ·exact qm_ k _ _
  split
  ·rename_i hl
   dsimp only
   split
   ·exact one ⟨fun _ e=>(nomatch e),fun _ e=>nomatch e⟩ nil
   ·rename_i hn
    refine one ⟨fun w e=>?_,fun _ e=>nomatch e⟩ (qm_ k _ _)
    cases e
    refine⟨?_,fun c hc=>tw_ok (p:=fun x=>letter x||digit x) _ c hc,by lia⟩
    rw[List.takeWhile_cons,if_pos (by rw[hl];rfl)]
    exact List.cons_ne_nil _ _
  split
  ·dsimp only
   split
   ·exact one ⟨fun _ e=>(nomatch e),fun _ e=>nomatch e⟩ nil
   ·rename_i h
    refine one ⟨fun _ e=>(nomatch e),fun n e=>?_⟩ (qm_ k _ _)
    cases e
    have z:=val_lt ((c::r).takeWhile digit) 0 0 (tw_ok _) [06]
    rw[not_or] at h
    exact Nat.lt_of_lt_of_le z (Nat.pow_le_pow_right [06] (show 0+((c::r).takeWhile digit).length<=18 by lia))
  ·split
   ·exact one ⟨fun _ e=>(nomatch e),fun _ e=>nomatch e⟩ (qm_ k _ _)
   ·exact one ⟨fun _ e=>(nomatch e),fun _ e=>nomatch e⟩ nil
theorem j6w_ {b:Bytes}{ss:Sheet}(h:Vbemac.read b= .ok ss):Gt (tokens b) ss:=by
 unfold Vbemac.read at h
 dsimp only at h
 split at h
 ·cases h
 ·rename_i z
  cases h
  exact(j26_ _ _ _ _ _ (qm_ _ _ _)).to z
end OS
namespace OS
open PySem PySem.Spec L2
open PyProof.Rows hiding St
variable {P:Program}{w:World}{K:PySem.W.Frag}{mg:Str->Option Value}{base:Heap}{a:cu}
section
open Vbemac (Bytes Exp Exps Rest strength)
def ncs (a:cu):List Addr:=[a.c_Number,a.c_Name,a.c_Call,a.c_Unary,a.c_Chain,a.c_Choice,a.c_Sum,a.c_Let,a.c_For,a.c_If,a.c_Step,a.c_Block,a.c_Const,a.c_Fun,a.c_Desk]
structure NdK (K:PySem.W.Frag) (a:cu):Prop where
 ty: ∀C∈ncs a,TyK K C
 kit:((ncs a).map fun C=>(ncs a).map fun D=>PySem.W.kitOne K (.ref C) (.ref D))=(List.range 15).map fun i=>(List.range 15).map fun j=>some (decide (i=j))
def cidx:Exp->Nat
 | .num _=>0
 | .name _=>1
 | .call _ _=>2
 | .neg _=>3
 | .not _=>3
 | .pick _ _ _=>5
 | .sum _ _ _ _=>6
 |_=>4
theorem NdK.is {K:PySem.W.Frag}{a:cu}{H:Hp}(I:NdK K a) {i j:Nat}{C D q dx:Addr}{fs:List (Str×V)}(hi:(ncs a)[i]?=some C) (hj:(ncs a)[j]?=some D) (z:H q=some [034]):iu K H (.ref q) (.ref C)/\PySem.W.kitOne K (.ref C) (.ref D)=some (decide (i=j)):=by
 refine⟨(I.ty C (List.mem_of_getElem? hi)).of z,?_⟩
 have i7:i<15:=(List.getElem?_eq_some_iff.mp hi).1
 have j7:j<15:=(List.getElem?_eq_some_iff.mp hj).1
 have:=congrArg (fun l:List (List (Option Bool))=>(l[i]?.bind fun r=>r[j]?)) I.kit
 simpa [hi,hj,List.getElem?_range i7,List.getElem?_range j7] using this
abbrev rIsin (K:PySem.W.Frag):List V->Hp->VK->Prop:=fun xs H Q=> ∃(x:V) (C:Addr) (t:Value) (b:Bool),xs=[x, .ref C]/\iu K H x t/\PySem.W.kitOne K t (.ref C)=some b/\Q (.bl b) H
theorem if_is {K:PySem.W.Frag}{a:cu}{H:Hp}{σ:L2.St}{t u:TS}{Z:fi}(I:NdK K a) {i j n:Nat}{C D q dx:Addr}{fs:List (Str×V)}(hi:(ncs a)[i]?=some C) (hj:(ncs a)[j]?=some D) (z:H q=some [034]) (hv:σ[n]?=some (some (.ref q)))
  (h1:i=j->t Z σ H) (h2:i≠j->u Z σ H):tIfS (tB (tCB (rIsin K) (fR (d9 n) (fR (tC (.ref D)) jx_)))) t u Z σ H:=by
 obtain⟨q1,q2⟩:=I.is hi hj z
 refine tv_of ⟨_,D,_,_,rfl,q1,q2,_,rfl,?_⟩ hv
 by_cases e:i=j
 ·exact hZ (decide_eq_true e) (h1 e)
 ·exact jk_ (decide_eq_false e) (h2 e)
abbrev fz (ps:List Str):List V:=ps.map V.str
def Nw (H:Hp) (ps:List Str) (Q:VK):Prop:= ∀(H':Hp) (p:Addr),aW H H'->H p=none->H' p=some (.lst (fz ps))->Q (.ref p) H'
def Ev (te:TE) (σ:L2.St) (H:Hp) (v:V):Prop:= ∀Q:VK,Q v H->te σ H Q
def Evs (ta:TA) (σ:L2.St) (H:Hp) (vs:List V):Prop:= ∀Q:List V->Hp->Prop,Q vs H->ta σ H Q
def Fr (te:TE) (σ:L2.St) (H:Hp) (ps:List Str):Prop:= ∀Q:VK,Nw H ps Q->te σ H Q
structure eB (H0:Hp) (L:Addr) (H:Hp) (ps:List Str):Prop where
 nw:H0 L=none
 sm:aW H0 H
 at_:H L=some (.lst (fz ps))
section
variable {σ:L2.St}{H H0:Hp}{te ta' tb':TE}{ta:TA}{v:V}{vs:List V}{ps qs:List Str}{L:Addr}
theorem f7 {H H':Hp}(s:aW H H') {p:Addr}(h:H' p=none):H p=none:=by
 cases e:H p with
 |none=>rfl
 |some o=>rw[s p o e] at h;cases h
theorem cj:Ev (tC v) σ H v:=fun _ q=>q
theorem bG {i:Nat}(h:σ[i]?=some (some v)):Ev (d9 i) σ H v:=fun _ q=>tv_of q h
theorem cG {p C dx:Addr}{fs:List (Str×V)}{f:Str}(h:Ev te σ H (.ref p)) (e:H p=some [034]) (c:Cls K C) (n:aR K C f) (l:fs.lookup f=some v):Ev (wo_ K te f) σ H v:=fun Q q=>h _ ⟨p,C,dx,fs,v,rfl,e,c,n,l,q⟩
theorem aM:Evs jx_ σ H []:=fun _ q=>q
theorem aq (h1:Ev te σ H v) (h2:Evs ta σ H vs):Evs (fR te ta) σ H (v::vs):=fun Q q=>h1 _ (h2 _ q)
theorem Fr.eq (h:Fr te σ H ps) (e:ps=qs):Fr te σ H qs:=e▸h
theorem j2_ (h:Evs ta σ H vs) (e:vs=fz ps) (hl:ps.length<=sizeLine):Fr (tLst ta) σ H ps:=fun Q q=>h _ ⟨by rw[e,List.length_map];exact hl,fun p hp=>q _ p (bf hp) hp (by rw[<-e];exact ah)⟩
theorem bS (h1:Fr ta' σ H ps) (h2: ∀H',aW H H'->Fr tb' σ H' qs) (hl:ps.length+qs.length<=sizeLine):Fr (tOp rCat ta' tb') σ H (ps++qs):=fun Q q=>
 h1 _ fun H1 l s1 n1 e1=>h2 H1 s1 _ fun H2 b s2 n2 e2=>⟨l,b,_,_,rfl,rfl,s2 _ _ e1,e2,by rw[List.length_map,List.length_map];exact hl,fun p hp=>
  q _ p ((s1.trans s2).trans (bf hp)) (f7 (s1.trans s2) hp) (by rw[show fz (ps++qs)=fz ps++fz qs from List.map_append];exact ah)⟩
theorem j2z_ (h1:Ev ta' σ H (.ref L)) (e1:H L=some (.lst (fz ps))) (h2:Fr tb' σ H qs) (hl:ps.length+qs.length<=sizeLine):Fr (tOp rCat ta' tb') σ H (ps++qs):=fun Q q=>
 h1 _ (h2 _ fun H2 b s2 n2 e2=>⟨L,b,_,_,rfl,rfl,s2 _ _ e1,e2,by rw[List.length_map,List.length_map];exact hl,fun p hp=>
  q _ p (s2.trans (bf hp)) (f7 s2 hp) (by rw[show fz (ps++qs)=fz ps++fz qs from List.map_append];exact ah)⟩)
theorem Nw.up {Q:VK}(s:aW H0 H) (q:Nw H0 ps Q):Nw H ps Q:=fun H' p s' n e=>q H' p (s.trans s') (f7 s n) e
theorem di {sp:Sp}{E:XK}(h:Evs ta σ H vs) (hs: ∀Q,Nw H ps Q->sp (vs++[]) H Q E):Fr (yo_ sp [] E ta) σ H ps:=fun Q q=>h _ (hs Q q)
theorem eB.of {H':Hp}(s:aW H H') (n:H L=none) (e:H' L=some (.lst (fz ps))):eB H L H' ps:=⟨n,s,e⟩
theorem eB.put (g:eB H0 L H ps) {H':Hp}(s:aW H H'):eB H0 L (bg H' L (.lst (fz qs))) qs:=
 ⟨g.nw,fun b o e=>by rw[ag (aD e g.nw)];exact s b o (g.sm b o e),ah⟩
theorem eB.end_ (g:eB H0 L H ps) {Q:VK}(q:Nw H0 ps Q):Q (.ref L) H:=q H L g.sm g.nw g.at_
theorem seq {t u:TS}{Z:fi}(h:t { Z with nx:=u Z } σ H):tSeq t u Z σ H:=h
theorem set_fr {i:Nat}{Z:fi}(h:Fr te σ H ps) (q: ∀H1 L,eB H L H1 ps->Z.nx (σ.set i (some (.ref L))) H1):tAsg te (gName i) Z σ H:=h _ fun H1 L s1 n1 e1=>q H1 L (eB.of s1 n1 e1)
theorem dg {Z:fi}(h:Fr te σ H ps) (q:Nw H ps Z.rt):tRet te Z σ H:=h _ q
theorem jn_ {i:Nat}{Z:fi}(g:eB H0 L H ps) (hv:σ[i]?=some (some (.ref L))) (h:Fr te σ H qs) (hl:ps.length+qs.length<=sizeLine) (q: ∀H',eB H0 L H' (ps++qs)->Z.nx σ H'):tDrop (tBM K "list" uu_ (d9 i) (fR te jx_)) Z σ H:=
 tv_of ⟨.inl ⟨rfl,_,cK.of g.at_⟩,h _ fun H1 b s1 n1 e1=>⟨L,b,_,_,rfl,rfl,s1 _ _ g.at_,e1,by rw[List.length_map,List.length_map];exact hl,by
  rw[<-List.map_append]
  exact q _ (g.put s1)⟩⟩ hv
theorem gr_app {i:Nat}{p:Str}{Z:fi}(g:eB H0 L H ps) (hv:σ[i]?=some (some (.ref L))) (h:Ev te σ H (.str p)) (hl:ps.length+1<=sizeLine) (q: ∀H',eB H0 L H' (ps++[p])->Z.nx σ H'):tDrop (tBM K "list" uo_ (d9 i) (fR te jx_)) Z σ H:=
 tv_of ⟨.inl ⟨rfl,_,cK.of g.at_⟩,h _ ⟨L,_,_,rfl,rfl,g.at_,by rw[List.length_map];exact hl,by
  rw[show ps.map V.str++[V.str p]=(ps++[p]).map V.str by simp]
  exact q _ (g.put fun _ _ e=>e)⟩⟩ hv
theorem gH {i:Nat}{u:TS}{Z:fi}(h:Fr te σ H ps) (q: ∀H1 L,eB H L H1 ps->u Z (σ.set i (some (.ref L))) H1):tSeq (tAsg te (gName i)) u Z σ H:=set_fr (Z:= { Z with nx:=u Z }) h q
theorem eW {i:Nat}{u:TS}{Z:fi}(g:eB H0 L H ps) (hv:σ[i]?=some (some (.ref L))) (h:Fr te σ H qs) (hl:ps.length+qs.length<=sizeLine) (q: ∀H',eB H0 L H' (ps++qs)->u Z σ H'):tSeq (tDrop (tBM K "list" uu_ (d9 i) (fR te jx_))) u Z σ H:=jn_ (Z:= { Z with nx:=u Z }) g hv h hl q
theorem yn_ {i:Nat}{p:Str}{u:TS}{Z:fi}(g:eB H0 L H ps) (hv:σ[i]?=some (some (.ref L))) (h:Ev te σ H (.str p)) (hl:ps.length+1<=sizeLine) (q: ∀H',eB H0 L H' (ps++[p])->u Z σ H'):tSeq (tDrop (tBM K "list" uo_ (d9 i) (fR te jx_))) u Z σ H:=gr_app (Z:= { Z with nx:=u Z }) g hv h hl q
theorem j0v_ {t u:TS}{Z:fi}(J:L2.St->Hp->Prop) (h:t { Z with nx:=J } σ H) (q: ∀σ' H',J σ' H'->u Z σ' H'):tSeq (tJoin t) u Z σ H:=⟨J,h,q⟩
theorem cz {a:cu}{t v:TS}{Z:fi}(I:NdK K a) {i j n:Nat}{C D q dx:Addr}{fs:List (Str×V)}(hi:(ncs a)[i]?=some C) (hj:(ncs a)[j]?=some D) (z:H q=some [034]) (hv:σ[n]?=some (some (.ref q)))
  (h1:i=j->t { Z with nx:=v Z } σ H) (h2:i≠j->v Z σ H):tSeq (tIfS (tB (tCB (rIsin K) (fR (d9 n) (fR (tC (.ref D)) jx_)))) t tNext) v Z σ H:=if_is (Z:= { Z with nx:=v Z }) I hi hj z hv h1 h2
end
theorem gS: ∀e:Exp,4<=fr e
 | .num n=>by rw[fr];split<;>lia
 | .name _=>by rw[fr];exact Nat.le_refl _
 | .call _ l=>by rw[fr];lia
 | .neg e=>by rw[fr];have:=gS e;lia
 | .not e=>by rw[fr];have:=gS e;lia
 | .sums e r=>by rw[fr];have:=gS e;have:=Nat.le_max_left (fr e) (frR r);lia
 | .prods e r=>by rw[fr];have:=gS e;have:=Nat.le_max_left (fr e) (frR r);lia
 | .cmp _ e b=>by rw[fr];have:=gS e;have:=Nat.le_max_left (fr e) (fr b);lia
 | .both e r=>by rw[fr];have:=gS e;have:=Nat.le_max_left (fr e) (frL r);lia
 | .either e r=>by rw[fr];have:=gS e;have:=Nat.le_max_left (fr e) (frL r);lia
 | .pick c _ _=>by rw[fr];lia
 | .sum _ _ _ _=>by rw[fr];lia
theorem j3c_ {a:cu}{M:Addr->Prop}{H:Hp}{e:Exp}{v:V}(h:ao a M H e v): ∃C q dx fs,(ncs a)[cidx e]?=some C/\v= .ref q/\H q=some [034]/\(cidx e=4->fs.lookup ("strength":Str)=some (V.int (strength e:Nat))):=by
 cases e<;>unfold ao at h
 ·obtain⟨p,dx,rfl,_,z⟩:=h;exact [065]
 ·obtain⟨p,dx,rfl,_,z⟩:=h;exact [065]
 ·obtain⟨_,_,⟨p,dx,rfl,_,z⟩,_⟩:=h;exact [065]
 ·obtain⟨_,⟨p,dx,rfl,_,z⟩,_⟩:=h;exact [065]
 ·obtain⟨_,⟨p,dx,rfl,_,z⟩,_⟩:=h;exact [065]
 ·obtain⟨_,_,_,_,_,⟨p,dx,rfl,_,z⟩,_⟩:=h;exact [0012]
 ·obtain⟨_,_,_,_,_,⟨p,dx,rfl,_,z⟩,_⟩:=h;exact [0012]
 ·obtain⟨_,_,_,_,⟨p,dx,rfl,_,z⟩,_⟩:=h;exact [0012]
 ·obtain⟨_,_,_,_,⟨p,dx,rfl,_,z⟩,_⟩:=h;exact [0012]
 ·obtain⟨_,_,_,_,⟨p,dx,rfl,_,z⟩,_⟩:=h;exact [0012]
 ·obtain⟨_,_,_,⟨p,dx,rfl,_,z⟩,_⟩:=h;exact [065]
 ·obtain⟨_,_,_,⟨p,dx,rfl,_,z⟩,_⟩:=h;exact [065]
inductive spStr (a:cu) (vs:List V) (H:Hp) (Q:VK) (_E:XK):Prop
 |mk (e:Exp) (v:V) (M:Addr->Prop) (_:vs=[v]) (_:ao a M H e v) (_:Q (.int (strength e:Nat)) H):spStr a vs H Q _E
inductive spPl (a:cu) (k:Nat) (vs:List V) (H:Hp) (Q:VK) (_E:XK):Prop
 |mk (e:Exp) (v:V) (M:Addr->Prop) (w:Nat) (_:vs=[v, .int (w:Nat)]) (_:ao a M H e v) (_:fr e<=k) (_:(pF w e (xF e)).length<=sizeLine) (_:Nw H (pF w e (xF e)) Q):spPl a k vs H Q _E
inductive spXF (a:cu) (ok:Exp->Prop) (vs:List V) (H:Hp) (Q:VK) (_E:XK):Prop
 |mk (e:Exp) (v:V) (M:Addr->Prop) (_:vs=[v]) (_:ao a M H e v) (_:ok e) (_:(xF e).length<=sizeLine) (_:Nw H (xF e) Q):spXF a ok vs H Q _E
section
variable {k:Nat}
theorem ok_am (T:Txt K mg a) (I:NdK K a):aJ P w K mg base dE 1 a.f_am a.fd_am ["exp"] (spStr a):=by
 refine T.d_am.F.ok sc_am [04] [03]
 ·obtain⟨e,v,M,rfl,_⟩:=h
  rfl
 ·obtain⟨e,v,M,rfl,he,hQ⟩:=h
  refine⟨_,(ae (aZ (bd (aY cb (by rfl) T.n_isinstance boot_isinstance (aa (pv 0) (aa (de (by rfl) T.mg_Chain) af)))) (ai (ay [07])) aG)
    (ae (aZ (bd (aY cb (by rfl) T.n_isinstance boot_isinstance (aa (pv 0) (aa (de (by rfl) T.mg_Choice) af)))) (ai (ay aU)) aG)
    (ae (aZ (bd (aY cb (by rfl) T.n_isinstance boot_isinstance (aa (pv 0) (aa (de (by rfl) T.mg_Unary) af)))) (ai (ay (bN (by rfl) T.g_UNARY_STRENGTH))) aG)
    (ai (ay (bN (by rfl) T.g_FULL_STRENGTH)))))),?_⟩
  obtain⟨C,q,dx,fs,hC,rfl,z,l⟩:=j3c_ he
  refine if_is I hC (j:=4) rfl z rfl [0009] (fun n4=>?_)
  ·rw[e4] at hC
   cases hC
   exact cG (bG rfl) z T.cl_Chain T.no_Chain_strength (l e4) _ hQ
  refine if_is I hC (j:=5) rfl z rfl [0009] (fun n5=>?_)
  ·have:strength e=0:=by cases e<;>first|rfl|cases e4
   rw[this] at hQ
   exact hQ
  refine if_is I hC (j:=3) rfl z rfl [0009] (fun n3=>?_)
  ·have:strength e=5:=by cases e<;>first|rfl|cases e4
   rw[this] at hQ
   exact hQ
  have:strength e=6:=by cases e<;>first|rfl|exact absurd rfl n4|exact absurd rfl n5|exact absurd rfl n3
  rw[this] at hQ
  exact hQ
theorem ok_r (T:Txt K mg a) (I:NdK K a) (G_M:aJ P w K mg base dE k a.f_M a.fd_M ["exp"] (spXF a fun e=>fr e<=k+1)):aJ P w K mg base dE (k+1) a.f_r a.fd_r ["exp","weakest"] (spPl a (k+1)):=by
 have G_am:=ok_am (P:=P) (w:=w) (base:=base) T I
 refine T.d_r.F.ok sc_r [04] [03]
 ·obtain⟨e,v,M,w',rfl,_⟩:=h
  rfl
 ·obtain⟨e,v,M,w',rfl,he,hf,hl,hQ⟩:=h
  have:=gS e
  refine⟨_,(ae (aZ (bv op_lt (al G_am [01] (by rfl) T.d_am.c aQ [009]) (pv 1) (bx _)) (ai (ay (bh bI (bh bI [025] (al G_M [01] (by rfl) T.d_M.c aQ [009])) [025]))) aG)
    (ai (ay (al G_M [01] (by rfl) T.d_M.c aQ [009])))),?_⟩
  refine⟨e,v,M,rfl,he,_,_,rfl,rfl,_,rfl,?_⟩
  unfold pF at hl hQ
  have lx:(xF e).length<=sizeLine:=by
   split at hl
   ·rw[List.length_cons,List.length_append] at hl;lia
   ·exact hl
  by_cases c:strength e<w'
  ·rw[if_pos c] at hl hQ
   rw[List.length_cons,List.length_append] at hl
   refine hZ (decide_eq_true (by lia)) ?_
   refine((bS (bS (j2_ (ps:=[tx "("]) (aq cj aM) rfl [06]) (fun H1 s1=>di [040] fun Q1 q1=>⟨e,v,M,rfl,ao.keep (aW.keeps s1) e he,hf,lx,q1⟩) ?_) (fun H1 s1=>j2_ (ps:=[tx ")"]) (aq cj aM) rfl [06]) ?_).eq ?_) _ hQ
   ·show 1+_<=_;lia
   ·rw[List.length_append];show 1+_+1<=_;have:[tx ")"].length=1:=rfl;lia
   ·rfl
  ·rw[if_neg c] at hl hQ
   refine jk_ (decide_eq_false (by lia)) ?_
   exact di (ps:=xF e) [040] (fun Q1 q1=>⟨e,v,M,rfl,he,hf,lx,q1⟩) _ hQ
theorem ok_d (T:Txt K mg a) (G_r:aJ P w K mg base dE k a.f_r a.fd_r ["exp","weakest"] (spPl a k)):aJ P w K mg base dE (k+1) a.f_d a.fd_d ["exp"] (spXF a fun e=>fr e<=k):=by
 refine T.d_d.F.ok sc_d [04] [03]
 ·obtain⟨e,v,M,rfl,_⟩:=h
  rfl
 ·obtain⟨e,v,M,rfl,he,hf,hl,hQ⟩:=h
  refine⟨_,(ai (ay (al G_r [01] (by rfl) T.d_r.c aQ (aa (pv 0) (aa aU af))))),?_⟩
  have e0:pF 0 e (xF e)=xF e:=if_neg (Nat.not_lt_zero _)
  exact di (ps:=xF e) (aq (bG rfl) (aq cj aM)) (fun Q1 q1=>⟨e,v,M,0,rfl,he,hf,by rw[e0];exact hl,by rw[e0];exact q1⟩) _ hQ
end
end
section
open Vbemac (Bytes Exp Exps Rest strength)
abbrev rgF (x:Bytes) (lo hi:Exp):List Str:=sb x::tx " in "::(xF lo++(tx " .. "::xF hi))
inductive spRg (K:PySem.W.Frag) (a:cu) (k:Nat) (vs:List V) (H:Hp) (Q:VK) (_E:XK):Prop
 |mk (x:Bytes) (lo hi:Exp) (p C dx:Addr) (fs:List (Str×V)) (u1 u2:V) (M:Addr->Prop) (_:vs=[.ref p]) (_:H p=some [034]) (_:Cls K C) (_:aR K C "name") (_:aR K C "first") (_:aR K C "last") (_:fs.lookup ("name":Str)=some (.str (sb x))) (_:fs.lookup ("first":Str)=some u1) (_:fs.lookup ("last":Str)=some u2) (_:ao a M H lo u1) (_:ao a M H hi u2) (_:fr lo<=k) (_:fr hi<=k) (_:(rgF x lo hi).length<=sizeLine) (_:Nw H (rgF x lo hi) Q):spRg K a k vs H Q _E
inductive spAr (a:cu) (k:Nat) (vs:List V) (H:Hp) (Q:VK) (_E:XK):Prop
 |mk (l:Exps) (v:V) (us:List V) (M:Addr->Prop) (_:vs=[v]) (_:cn M H us v) (_:bD a M H l us) (_:frL l<=k) (_:(aF l).length<=sizeLine) (_:Nw H (aF l) Q):spAr a k vs H Q _E
section
variable {k:Nat}
abbrev AnyOk (P:Program) (w:World) (K:PySem.W.Frag) (mg:Str->Option Value) (base:Heap) (a:cu) (k:Nat):Prop:=aJ P w K mg base dE (k+1) a.f_d a.fd_d ["exp"] (spXF a fun e=>fr e<=k)
theorem dW {M:Addr->Prop}{H H':Hp}{E:XK}{ta:TA}{σ:L2.St}{e:Exp}{v:V}{ok:Exp->Prop}(he:ao a M H e v) (s:aW H H') (hf:ok e) (hl:(xF e).length<=sizeLine) (h:Evs ta σ H' [v]):Fr (yo_ (spXF a ok) [] E ta) σ H' (xF e):=di h fun Q q=>⟨e,v,M,rfl,ao.keep (aW.keeps s) e he,hf,hl,q⟩
theorem fk {ta:TA}{σ:L2.St}{H:Hp}{p:Str}(h:Evs ta σ H [.str p]):Fr (tLst ta) σ H [p]:=j2_ h rfl (by show 1<=sizeLine;decide)
theorem aW.rfl {H:Hp} :aW H H:=fun _ _ e=>e
theorem ok_L (T:Txt K mg a) (G_d:AnyOk P w K mg base a k):aJ P w K mg base dE (k+2) a.f_L a.fd_L ["node"] (spRg K a k):=by
 refine T.d_L.F.ok sc_L [04] [03]
 ·obtain⟨x,lo,hi,p,C,dx,fs,u1,u2,M,rfl,_⟩:=h
  rfl
 ·obtain⟨x,lo,hi,p,C,dx,fs,u1,u2,M,rfl,z,c,n1,n2,n3,l1,l2,l3,h1,h2,f1,f2,hl,hQ⟩:=h
  refine⟨_,(ai (ay (bh bI (bh bI (bh bI (be (aa [07] (aa ax af))) [036]) [025]) [036]))),?_⟩
  have hl':2+((xF lo).length+(1+(xF hi).length))<=sizeLine:=by
   simp only[List.length_cons,List.length_append] at hl
   lia
  refine(Fr.eq (bS (bS (bS (j2_ (ps:=[sb x,tx " in "]) (aq (cG (bG rfl) z c n1 l1) (aq cj aM)) rfl (by show 2<=sizeLine;decide))
   (fun H1 s1=>dW h1 s1 f1 (by lia) (aq (cG (bG rfl) [0004] c n2 l2) aM)) ?_) (fun H1 s1=>fk (aq cj aM)) ?_)
   (fun H1 s1=>dW h2 s1 f2 (by lia) (aq (cG (bG rfl) [0004] c n3 l3) aM)) ?_) [022]) _ hQ
  ·show 2+_<=_;lia
  ·simp only[List.length_cons,List.length_append,List.length_nil];lia
  ·simp only[List.length_cons,List.length_append,List.length_nil];lia
theorem ok_ah (T:Txt K mg a) (G_d:AnyOk P w K mg base a k):aJ P w K mg base dE (k+2) a.f_ah a.fd_ah ["choice"] (spXF a fun e=>cidx e=5/\fr e<=k+4):=by
 refine T.d_ah.F.ok sc_ah [04] [03]
 ·obtain⟨e,v,M,rfl,_⟩:=h
  rfl
 ·obtain⟨e,v,M,rfl,he,⟨hc,hf⟩,hl,hQ⟩:=h
  obtain⟨c,x,y,rfl⟩: ∃c x y,e= .pick c x y:=by cases e<;>first|exact⟨_,_,_,rfl⟩|cases hc
  unfold ao at he
  obtain⟨u1,u2,u3,⟨p,dx,rfl,m,z⟩,h1,h2,h3⟩:=he
  rw[fr] at hf
  have f1:=Nat.le_max_left (fr c) (max (fr x) (fr y))
  have f2:=Nat.le_max_right (fr c) (max (fr x) (fr y))
  have f3:=Nat.le_max_left (fr x) (fr y)
  have f4:=Nat.le_max_right (fr x) (fr y)
  have hl':1+((xF c).length+(1+((xF x).length+(1+(xF y).length))))<=sizeLine:=by
   rw[xF] at hl
   simp only[List.length_cons,List.length_append] at hl
   lia
  refine⟨_,(ae (aE (i:=1) sc_ah.nd rfl [05] (bh bI (bh bI (bh bI [025] [036]) [025]) [036]))
    (ai (ay (bh bI (bh bI (pv 1) [025]) [036])))),?_⟩
  refine bS (bS (bS (fk (p:=tx "if ") (aq cj aM)) (fun H1 s1=>dW h1 s1 (by lia) (by lia) (aq (cG (bG rfl) [0004] T.cl_Choice T.no_Choice_condition rfl) aM)) ?_) (fun H1 s1=>fk (p:=tx " then ") (aq cj aM)) ?_)
   (fun H1 s1=>dW h2 s1 (by lia) (by lia) (aq (cG (bG rfl) [0004] T.cl_Choice T.no_Choice_chosen rfl) aM)) ?_ _ fun H1 L s1 n1 e1=>?_
  ·show 1+_<=_;lia
  ·simp only[List.length_cons,List.length_append,List.length_nil];lia
  ·simp only[List.length_cons,List.length_append,List.length_nil];lia
  have z1:=s1 _ _ z
  refine(Fr.eq (bS (j2z_ (qs:=[tx " else "]) (bG rfl) e1 (fk (aq cj aM)) ?_) (fun H2 s2=>dW h3 (s1.trans s2) (by lia) (by lia) (aq (cG (bG rfl) (s2 _ _ z1) T.cl_Choice T.no_Choice_otherwise rfl) aM)) ?_) (by rw[xF];simp)) _ (hQ.up s1)
  ·simp only[List.length_cons,List.length_append,List.length_nil];lia
  ·simp only[List.length_cons,List.length_append,List.length_nil];lia
end
end
section
open Vbemac (Bytes Exp Exps Rest strength)
def xl:Exps->List Exp
 | .nil=>[]
 | .cons e l=>e::xl l
def aN (d:List Exp):List Str:=d.flatMap fun e=>tx ", "::xF e
def aL:List Exp->List Str
 |[]=>[]
 |e::d=>xF e++aN d
theorem aN_app (x y:List Exp):aN (x++y)=aN x++aN y:=List.flatMap_append
theorem aN_of: ∀l:Exps,aN (xl l)=if xl l=[] then [] else tx ", "::aF l
 | .nil=>rfl
 | .cons e .nil=>by
  rw[xl,xl,if_neg (List.cons_ne_nil _ _),aF]
  show(tx ", "::xF e)++[]=_
  rw[List.append_nil]
 | .cons e (.cons e2 l)=>by
  rw[xl,if_neg (List.cons_ne_nil _ _),aF]
  ·show(tx ", "::xF e)++aN (xl (.cons e2 l))=_
   rw[aN_of (.cons e2 l),xl,if_neg (List.cons_ne_nil _ _)]
   rfl
  ·intro z;cases z
theorem aL_of: ∀l:Exps,aF l=aL (xl l)
 | .nil=>by rw[aF,xl,aL]
 | .cons e .nil=>by rw[aF,xl,xl,aL,aN];simp
 | .cons e (.cons e2 l)=>by
  rw[aF,xl,aL,aN_of,xl,if_neg (List.cons_ne_nil _ _)]
  intro z;cases z
theorem pF_ne {w:Nat}{e:Exp}{ps:List Str}(h:ps≠[]):pF w e ps≠[]:=by
 unfold pF
 split
 ·exact List.cons_ne_nil _ _
 ·exact h
theorem xF_ne: ∀e:Exp,xF e≠[]
 | .num n=>by rw[xF];exact List.cons_ne_nil _ _
 | .name _=>by rw[xF];exact List.cons_ne_nil _ _
 | .call _ l=>by rw[xF];exact List.cons_ne_nil _ _
 | .neg e=>by rw[xF];exact List.cons_ne_nil _ _
 | .not e=>by rw[xF];exact List.cons_ne_nil _ _
 | .sums e r=>by rw[xF];exact List.append_ne_nil_of_left_ne_nil (pF_ne (xF_ne e)) _
 | .prods e r=>by rw[xF];exact List.append_ne_nil_of_left_ne_nil (pF_ne (xF_ne e)) _
 | .cmp _ e b=>by rw[xF];exact List.append_ne_nil_of_left_ne_nil (pF_ne (xF_ne e)) _
 | .both e r=>by rw[xF];exact List.append_ne_nil_of_left_ne_nil (pF_ne (xF_ne e)) _
 | .either e r=>by rw[xF];exact List.append_ne_nil_of_left_ne_nil (pF_ne (xF_ne e)) _
 | .pick c _ _=>by rw[xF];exact List.cons_ne_nil _ _
 | .sum _ _ _ _=>by rw[xF];exact List.cons_ne_nil _ _
def cL (w:Nat) (l:List (Str×Exp)):List Str:=l.flatMap fun x=>tx " "::x.1::tx " "::pF w x.2 (xF x.2)
def ChV (a:cu) (M:Addr->Prop) (H:Hp):List (Str×Exp)->List V->List V->Prop
 |[],us,ss=>us=[]/\ss=[]
 |x::l,us,ss=> ∃u vs ts,us=u::vs/\ss= .str x.1::ts/\ao a M H x.2 u/\ChV a M H l vs ts
section
variable {M:Addr->Prop}{H:Hp}
theorem bD.get: ∀ {l:Exps}{us:List V},bD a M H l us->us.length=(xl l).length/\ ∀(i:Nat) (u:V),us[i]?=some u-> ∃e,(xl l)[i]?=some e/\ao a M H e u/\fr e<=frL l
 | .nil,us,h=>by
  unfold bD at h
  subst h
  exact⟨rfl,fun i u e=>by simp at e⟩
 | .cons e l,us,h=>by
  unfold bD at h
  obtain⟨u,vs,rfl,h1,h2⟩:=h
  obtain⟨n,g⟩:=bD.get h2
  rw[xl,frL]
  refine⟨congrArg (· +1) n,fun i v hi=>?_⟩
  cases i with
  |zero=>cases hi;exact⟨e,rfl,h1,Nat.le_max_left _ _⟩
  |succ i=>
   obtain⟨x,q1,q2,q3⟩:=g i v hi
   exact⟨x,q1,q2,Nat.le_trans q3 (Nat.le_max_right _ _)⟩
theorem ChV.get: ∀ {l:List (Str×Exp)}{us ss:List V},ChV a M H l us ss->us.length=l.length/\ss.length=l.length/\ ∀(i:Nat) (u s:V),us[i]?=some u->ss[i]?=some s-> ∃x,l[i]?=some x/\s= .str x.1/\ao a M H x.2 u
 |[],us,ss,h=>by
  obtain⟨rfl,rfl⟩:=h
  exact⟨rfl,rfl,fun i u s e=>by simp at e⟩
 |x::l,us,ss,h=>by
  obtain⟨u,vs,ts,rfl,rfl,h1,h2⟩:=h
  obtain⟨n,m,g⟩:=ChV.get h2
  refine⟨congrArg (· +1) n,congrArg (· +1) m,fun i v s hi hs=>?_⟩
  cases i with
  |zero=>cases hi;cases hs;exact⟨x,rfl,rfl,h1⟩
  |succ i=>exact g i v s hi hs
theorem j0e_: ∀ {r:Rest}{us ss:List V},dB a M H r us ss-> ∃l,ChV a M H l us ss/\(∀w,rF w r=cL w l)/\ ∀x∈l,fr x.2<=frR r
 | .nil,us,ss,h=>by
  unfold dB at h
  exact⟨[],h,(fun w=>by rw[rF];rfl),fun _ z=>nomatch z⟩
 | .cons op e r,us,ss,h=>by
  unfold dB at h
  obtain⟨u,vs,ts,rfl,rfl,h1,h2⟩:=h
  obtain⟨l,q1,q2,q3⟩:=j0e_ h2
  refine⟨(cX op,e)::l,⟨u,vs,ts,rfl,rfl,h1,q1⟩,(fun w=>by rw[rF,q2];rfl),fun x hx=>?_⟩
  rw[frR]
  rcases List.mem_cons.mp hx with z|z
  ·rw[z];exact Nat.le_max_left _ _
  ·exact Nat.le_trans (q3 x z) (Nat.le_max_right _ _)
theorem j04_ {g:Str} : ∀ {r:Exps}{us:List V},bD a M H r us-> ∃l,ChV a M H l us (us.map fun _=> .str g)/\(∀w,mF w g r=cL w l)/\ ∀x∈l,fr x.2<=frL r
 | .nil,us,h=>by
  unfold bD at h
  subst h
  exact⟨[],⟨rfl,rfl⟩,(fun w=>by rw[mF];rfl),fun _ z=>nomatch z⟩
 | .cons e r,us,h=>by
  unfold bD at h
  obtain⟨u,vs,rfl,h1,h2⟩:=h
  obtain⟨l,q1,q2,q3⟩:=j04_ (g:=g) h2
  refine⟨(g,e)::l,⟨u,vs,_,rfl,rfl,h1,q1⟩,(fun w=>by rw[mF,q2];rfl),fun x hx=>?_⟩
  rw[frL]
  rcases List.mem_cons.mp hx with z|z
  ·rw[z];exact Nat.le_max_left _ _
  ·exact Nat.le_trans (q3 x z) (Nat.le_max_right _ _)
structure IsCh (a:cu) (M:Addr->Prop) (H:Hp) (e:Exp) (p dx:Addr) (q g u:V) (us ss:List V) (e0:Exp) (l:List (Str×Exp)):Prop where
 at_:H p=some (.ins a.c_Chain dx [("strength", .int (strength e:Nat)),("operands",q),("signs",g)])
 hq:cn M H (u::us) q
 hg:cn M H ss g
 h0:ao a M H e0 u
 hl:ChV a M H l us ss
 hx:xF e=pF (strength e+1) e0 (xF e0)++cL (strength e+1) l
 hf: ∀n,fr e<=n+3->fr e0<=n/\ ∀x∈l,fr x.2<=n
theorem fmax {x y n:Nat}(h:3+max x y<=n+3):x<=n/\y<=n:=by
 have:=Nat.le_max_left x y
 have:=Nat.le_max_right x y
 lia
theorem is_ch {e:Exp}{v:V}(h4:cidx e=4) (h:ao a M H e v): ∃p dx q g u us ss e0 l,v= .ref p/\IsCh a M H e p dx q g u us ss e0 l:=by
 cases e<;>first|(cases h4;done)|skip
 ·unfold ao at h
  obtain⟨q,g,u,us,ss,⟨p,dx,rfl,_,z⟩,h1,h2,h3,h5⟩:=h
  obtain⟨l,q1,q2,q3⟩:=j0e_ h5
  exact⟨p,dx,q,g,u,us,ss,_,l,rfl,z,h1,h2,h3,q1,by rw[xF,q2];rfl,fun n f=>by rw[fr] at f;exact⟨(fmax f).1,fun x hx=>Nat.le_trans (q3 x hx) (fmax f).2⟩⟩
 ·unfold ao at h
  obtain⟨q,g,u,us,ss,⟨p,dx,rfl,_,z⟩,h1,h2,h3,h5⟩:=h
  obtain⟨l,q1,q2,q3⟩:=j0e_ h5
  exact⟨p,dx,q,g,u,us,ss,_,l,rfl,z,h1,h2,h3,q1,by rw[xF,q2];rfl,fun n f=>by rw[fr] at f;exact⟨(fmax f).1,fun x hx=>Nat.le_trans (q3 x hx) (fmax f).2⟩⟩
 ·rename_i op x y
  unfold ao at h
  obtain⟨q,g,u,u2,⟨p,dx,rfl,_,z⟩,h1,h2,h3,h5⟩:=h
  refine⟨p,dx,q,g,u,[u2],_,_,[(cX op,y)],rfl,z,h1,h2,h3,⟨u2,[],[],rfl,rfl,h5,rfl,rfl⟩,?_,fun n f=>by rw[fr] at f;exact⟨(fmax f).1,fun x hx=>by rw[List.mem_singleton.mp hx];exact(fmax f).2⟩⟩
  rw[xF]
  show _=_++((tx " "::cX op::tx " "::pF 3 y (xF y))++[])
  rw[List.append_nil]
  rfl
 ·unfold ao at h
  obtain⟨q,g,u,us,⟨p,dx,rfl,_,z⟩,h1,h2,h3,h5⟩:=h
  obtain⟨l,q1,q2,q3⟩:=j04_ (g:=tx "&&") h5
  exact⟨p,dx,q,g,u,us,_,_,l,rfl,z,h1,h2,h3,q1,by rw[xF,q2];rfl,fun n f=>by rw[fr] at f;exact⟨(fmax f).1,fun x hx=>Nat.le_trans (q3 x hx) (fmax f).2⟩⟩
 ·unfold ao at h
  obtain⟨q,g,u,us,⟨p,dx,rfl,_,z⟩,h1,h2,h3,h5⟩:=h
  obtain⟨l,q1,q2,q3⟩:=j04_ (g:=tx "||") h5
  exact⟨p,dx,q,g,u,us,_,_,l,rfl,z,h1,h2,h3,q1,by rw[xF,q2];rfl,fun n f=>by rw[fr] at f;exact⟨(fmax f).1,fun x hx=>Nat.le_trans (q3 x hx) (fmax f).2⟩⟩
end
theorem for_zip {K:PySem.W.Frag}{a b:Addr}{xs ys:List V}{g:TG}{tb:TS}{D:fi}{σ:L2.St}{H:Hp}(Pv:Nat->L2.St->Hp->Prop) (h0:Pv 0 σ H) (hn:xs.length=ys.length) (hl: ∀i σ H,Pv i σ H->cK K H a xs/\cK K H b ys)
  (hs: ∀i x y σ H T,xs[i]?=some x->ys[i]?=some y->H T=none->Pv i σ H->g (.ref T) σ (bg H T (.tup [x,y])) fun σ2 H2=>tb { D with nx:=Pv (i+1),ct:=Pv (i+1),bk:=D.nx } σ2 H2) (hd: ∀σ H,Pv xs.length σ H->D.nx σ H):
  ∃W:Nat->Nat->L2.St->Hp->Prop,(∃m,W 0 m σ H)/\ ∀i m σ H,W i m σ H->
   ((Itz K a b).stop i H/\D.nx σ H)\/((Itz K a b).go i H/\ ∃N:L2.St->Hp->Prop,(∀σ' H',N σ' H'-> ∃m',m'<m/\W (i+1) m' σ' H')/\ ∀x H',(Itz K a b).yld i H x H'->g x σ H' fun σ2 H2=>tb { D with nx:=N,ct:=N,bk:=D.nx } σ2 H2):=by
 refine⟨fun i m σ H=>m=xs.length-i/\i<=xs.length/\Pv i σ H,⟨xs.length,by simp,Nat.zero_le _,h0⟩,?_⟩
 rintro i m σ H ⟨rfl,hi,p⟩
 obtain⟨q,q'⟩:=hl i σ H p
 by_cases hlt:i<xs.length
 ·refine .inr ⟨⟨xs,ys,xs[i],ys[i]'(by lia),q,q',by simp [hlt],by simp [show i<ys.length by lia]⟩,Pv (i+1),fun σ' H' p'=>⟨xs.length-(i+1),by lia,rfl,hlt,p'⟩,fun x H' y=>?_⟩
  obtain⟨T,x1,y1,rfl,nT,rfl,e1,e2⟩:=y
  exact hs i x1 y1 σ H T (e1 xs q) (e2 ys q') nT p
 ·have e:i=xs.length:=by lia
  subst e
  exact .inl ⟨⟨xs,ys,q,q', .inl [007]⟩,hd σ H p⟩
section
variable {k:Nat}
theorem ok_3 (T:Txt K mg a) (G_d:AnyOk P w K mg base a k):aJ P w K mg base dE (k+2) a.f_3 a.fd_3 ["arguments"] (spAr a k):=by
 refine T.d_3.F.ok sc_3 [04] [03]
 ·obtain⟨l,v,us,M,rfl,_⟩:=h
  rfl
 ·obtain⟨l,v,us,M,rfl,⟨q,rfl,_,z⟩,hx,hf,hl,hQ⟩:=h
  refine⟨_,(ae (aE (i:=1) sc_3.nd rfl [05] (be af))
    (ae (gX PassesOwn.never rfl (fX (pv 0)) (dS (i:=2) sc_3.nd rfl [05]) (ae (fY (aZ (bv op_gt (aY bj (by rfl) T.n_len PySem.boot_len [002]) aU (bx _)) (ai (au (cr PySem.F.plainAttrs_list PySem.F.slot_list_append PySem.F.type_list_append bR (pv 1) (aa ax af)))) aG))
    (ai (au (cr PySem.F.plainAttrs_list PySem.F.slot_list_extend PySem.F.type_list_extend bX (pv 1) (aa (al G_d [01] (by rfl) T.d_d.c aQ [027]) af))))))
    [069])),?_⟩
  rw[aL_of] at hl hQ
  obtain⟨n,gt⟩:=hx.get
  refine gH (ps:=[]) (j2_ aM rfl (by show 0<=sizeLine;decide)) fun H1 L g1=>?_
  refine⟨q,rfl,⟨_,cK.of (g1.sm _ _ z)⟩,ga (xs:=us) (fun i σ' H'=> ∃x d r,σ'=[some (.ref q),some (.ref L),x]/\xl l=d++r/\d.length=i/\eB H L H' (aL d)) ⟨_,[],xl l,rfl,rfl,rfl,g1⟩ ?_ ?_ ?_⟩
  ·rintro i σ' H' hi ⟨x,d,r,rfl,_,_,g⟩
   exact cK.of (g.sm _ _ z)
  ·rintro i u σ' H' hu ⟨x,d,r,rfl,ed,dl,g⟩
   obtain⟨e,h1,h2,h3⟩:=gt i u hu
   obtain⟨r',rfl⟩: ∃r',r=e::r':=by
    rw[ed,<-dl,List.getElem?_append_right [007],Nat.sub_self] at h1
    cases r with
    |nil=>cases h1
    |cons y r'=>cases h1;exact⟨r',rfl⟩
   have hl2:(aL (d++e::r')).length<=sizeLine:=by rw[<-ed];exact hl
   refine⟨fun σ2 H2=>σ2=[some (.ref q),some (.ref L),some u]/\ ∃ps,eB H L H2 ps/\ps++xF e=aL (d++[e])/\ps.length+(xF e).length<=sizeLine,?_,?_⟩
   ·refine⟨L,_,rfl, .inl (cK.of g.at_),_,_,rfl,rfl,_,rfl,?_⟩
    cases d with
    |nil=>
     refine jk_ (decide_eq_false (by simp [aL])) ?_
     refine⟨rfl,[],g,by show xF e=xF e++[];simp,?_⟩
     have:(xF e++aN r').length<=sizeLine:=hl2
     rw[List.length_append] at this
     show 0+_<=_
     lia
    |cons y d=>
     have ne:0<(aL (y::d)).length:=by
      show 0<(xF y++aN d).length
      rw[List.length_append]
      have:=List.length_pos_iff.mpr (xF_ne y)
      lia
     have:(xF y++aN (d++e::r')).length<=sizeLine:=hl2
     rw[aN_app,List.length_append,List.length_append] at this
     have:(xF y).length+((aN d).length+((tx ", "::xF e)++aN r').length)<=sizeLine:=this
     rw[List.length_append,List.length_cons] at this
     have ly:(aL (y::d)).length=(xF y).length+(aN d).length:=List.length_append
     refine hZ (decide_eq_true (by rw[List.length_map];lia)) ?_
     refine gr_app g rfl cj (by lia) fun H2 g2=>⟨rfl,_,g2,?_,by rw[List.length_append];show _+1+_<=_;lia⟩
     show(xF y++aN d)++[tx ", "]++xF e=xF y++aN (d++[e])
     rw[aN_app]
     show _=xF y++(aN d++((tx ", "::xF e)++[]))
     simp
   ·rintro σ2 H2 ⟨rfl,ps,g2,ee,ll⟩
    exact jn_ g2 rfl (dW h2 g2.sm (by lia) (by lia) [040]) ll fun H3 g3=>⟨_,d++[e],r',rfl,by rw[ed];simp,by simp [dl],ee▸g3⟩
  ·rintro σ' H' ⟨x,d,r,rfl,ed,dl,g⟩
   have:r=[]:=by
    have:=congrArg List.length ed
    rw[List.length_append] at this
    exact List.eq_nil_of_length_eq_zero (by lia)
   subst this
   rw[List.append_nil] at ed
   rw[ed] at hQ
   exact(g.end_ hQ)
end
end
section
open Vbemac (Bytes Exp Exps Rest strength)
section
variable {k:Nat}
abbrev PlOk (P:Program) (w:World) (K:PySem.W.Frag) (mg:Str->Option Value) (base:Heap) (a:cu) (k:Nat):Prop:=aJ P w K mg base dE k a.f_r a.fd_r ["exp","weakest"] (spPl a k)
theorem fr_pl {M:Addr->Prop}{H H':Hp}{E:XK}{ta:TA}{σ:L2.St}{e:Exp}{v:V}{n:Nat}(he:ao a M H e v) (s:aW H H') (hf:fr e<=k) (hl:(pF n e (xF e)).length<=sizeLine) (h:Evs ta σ H' [v, .int (n:Nat)]):Fr (yo_ (spPl a k) [] E ta) σ H' (pF n e (xF e)):=di h fun Q q=>⟨e,v,M,n,rfl,ao.keep (aW.keeps s) e he,hf,hl,q⟩
theorem cL_app (n:Nat) (x y:List (Str×Exp)):cL n (x++y)=cL n x++cL n y:=List.flatMap_append
theorem ev_op {te tf:TE}{σ:L2.St}{H:Hp}{i j:Int}(h1:Ev te σ H (.int i)) (h2:Ev tf σ H (.int j)):Ev (tOp (rI0 fun i j=> .int (i+j)) te tf) σ H (.int (i+j)):=fun Q q=>h1 _ (h2 _ ⟨_,_,rfl,rfl,q⟩)
theorem zip_for {t1 t2:TE}{gg:TG}{tb:TS}{Z:fi}{σ:L2.St}{H:Hp}{xs ys:List V}{g:Addr}(h1:Ev t1 σ H (.ref g)) (h2: ∀Q:VK,(∀t,H t=none->Q (.ref t) (bg H t (.lst ys)))->t2 σ H Q) (zx:H g=some [085])
  (h: ∀t,H t=none-> ∃W:Nat->Nat->L2.St->Hp->Prop,(∃m,W 0 m σ (bg H t (.lst ys)))/\ ∀i m σ H,W i m σ H->
   ((Itz K g t).stop i H/\Z.nx σ H)\/((Itz K g t).go i H/\ ∃N:L2.St->Hp->Prop,(∀σ' H',N σ' H'-> ∃m',m'<m/\W (i+1) m' σ' H')/\ ∀x H',(Itz K g t).yld i H x H'->gg x σ H' fun σ2 H2=>tb { Z with nx:=N,ct:=N,bk:=Z.nx } σ2 H2)):tFor (iZip K (fR t1 (fR t2 jx_))) gg tb Z σ H:=
 h1 _ (h2 _ fun t ht=>⟨g,t,xs,ys,rfl,cK.of ((bf ht) _ _ zx),cK.of ah,h t ht⟩)
theorem ok_X (T:Txt K mg a) (G_r:PlOk P w K mg base a k):aJ P w K mg base dE (k+1) a.f_X a.fd_X ["chain"] (spXF a fun e=>cidx e=4/\fr e<=k+3):=by
 refine T.d_X.F.ok sc_X [04] [03]
 ·obtain⟨e,v,M,rfl,_⟩:=h
  rfl
 ·obtain⟨e,v,M,rfl,he,⟨hc,hf⟩,hl,hQ⟩:=h
  obtain⟨p,dx,q,g,u,us,ss,e0,l,rfl,C⟩:=is_ch hc he
  obtain⟨f0,f1⟩:=C.hf k hf
  obtain⟨q,rfl,_,zq⟩:=C.hq
  obtain⟨g,rfl,_,zg⟩:=C.hg
  have zp:=C.at_
  obtain⟨n1,n2,gt⟩:=C.hl.get
  rw[C.hx] at hl hQ
  rw[List.length_append] at hl
  refine⟨_,(ae (aE (i:=1) sc_X.nd rfl [05] (al G_r [01] (by rfl) T.d_r.c aQ (aa (dZ cZ [07] aU [020]) (aa (bh dq [07] aU) af))))
    (ae (gX PassesOwn.never rfl (pi_zip (by rfl) T.n_zip (aa [07] (aa (yc_ uy_ [07] (gB aU) po_none) af))) (pg_tup rfl (j4h_ (dS (i:=2) sc_X.nd rfl [05]) (j4h_ (dS (i:=3) sc_X.nd rfl [05]) pgs_nil))) (ae (au (cr PySem.F.plainAttrs_list PySem.F.slot_list_extend PySem.F.type_list_extend bX (pv 1) (aa (be (aa ax (aa (pv 2) (aa ax af)))) af)))
    (ai (au (cr PySem.F.plainAttrs_list PySem.F.slot_list_extend PySem.F.type_list_extend bX (pv 1) (aa (al G_r [01] (by rfl) T.d_r.c aQ (aa (pv 3) (aa (bh dq [07] aU) af))) af))))))
    [069])),?_⟩
  have fst: ∀ {σ:L2.St}{H':Hp},aW H H'->σ[0]?=some (some (.ref p))->Ev (tOp (rI0 fun i j=> .int (i+j)) (wo_ K (d9 0) "strength") (tC (.int 1))) σ H' (.int ((strength e+1:Nat):Int)):=fun s h=>ev_op (cG (bG h) (s _ _ zp) T.cl_Chain T.no_Chain_strength rfl) cj
  have opn: ∀ {σ:L2.St}{H':Hp},aW H H'->σ[0]?=some (some (.ref p))->Ev (wo_ K (d9 0) "operands") σ H' (.ref q):=fun s h=>cG (bG h) (s _ _ zp) T.cl_Chain T.no_Chain_operands rfl
  refine gH (fr_pl C.h0 aW.rfl f0 (by lia) (aq (v:=u) (fun Q1 q1=>opn aW.rfl rfl _ ⟨q,_,_,_,rfl,rfl,cK.of zq,cY (j:=0) rfl,q1⟩) (aq (fst aW.rfl rfl) aM))) fun H1 L g1=>?_
  have sg:Ev (wo_ K (d9 0) "signs") [some (.ref p),some (.ref L),none,none] H1 (.ref g):=cG (bG rfl) (g1.sm _ _ zp) T.cl_Chain T.no_Chain_signs rfl
  have e1:cutV (u::us) (some 1) none=us:=by
   unfold cutV
   rw[HT.sIx_none,show HT.sIx (u::us).length 0 (some 1)=min 1 (u::us).length from HT.sIx_nat _ _ 1,Nat.min_eq_left [022]]
   exact List.take_of_length_le [022]
  refine seq (zip_for sg (ys:=us) (fun Q1 q1=>opn g1.sm rfl _ ⟨_,rfl,q,_,rfl,cK.of (g1.sm _ _ zq),fun t ht=>by rw[e1];exact q1 t ht⟩) (g1.sm _ _ zg) fun t ht=>?_)
  have gL:L≠t:=aD g1.at_ ht
  have t0:H t=none:=f7 g1.sm ht
  let B:Hp:=bg H t (.lst us)
  have sB:aW H B:=bf t0
  have g2:eB B L (bg H1 t (.lst us)) (pF (strength e+1) e0 (xF e0)):=⟨by show bg H t _ L=none;rw[ag gL];exact g1.nw,fun b o hb=>by
   have hb:bg H t (.lst us) b=some o:=hb
   by_cases z:b=t
   ·rw[z,ah] at hb ⊢; exact hb
   ·rw[ag z] at hb ⊢; exact g1.sm _ _ hb,by rw[ag gL];exact g1.at_⟩
  refine for_zip (xs:=ss) (ys:=us) (fun i σ' H'=> ∃x y d r,σ'=[some (.ref p),some (.ref L),x,y]/\l=d++r/\d.length=i/\eB B L H' (pF (strength e+1) e0 (xF e0)++cL (strength e+1) d)) ⟨_,_,[],l,rfl,rfl,rfl,by simpa [cL] using g2⟩ (by lia) ?_ ?_ ?_
  ·rintro i σ' H' ⟨x,y,d,r,rfl,_,_,g'⟩
   exact⟨cK.of ((sB.trans g'.sm) _ _ zg),cK.of (g'.sm _ _ ah)⟩
  ·rintro i s1 u1 σ' H' T' hs hu nT ⟨x,y,d,r,rfl,ed,dl,g'⟩
   obtain⟨o,h1,rfl,h3⟩:=gt i u1 s1 hu hs
   obtain⟨r',rfl⟩: ∃r',r=o::r':=by
    rw[ed,<-dl,List.getElem?_append_right [007],Nat.sub_self] at h1
    cases r with
    |nil=>cases h1
    |cons y r'=>cases h1;exact⟨r',rfl⟩
   have fo:=f1 o (by rw[ed];simp)
   refine⟨T',_,rfl,SqT.of ah,rfl,_,_,rfl,_,_,rfl,rfl,?_⟩
   have hl2:=hl
   rw[ed,cL_app,List.length_append] at hl2
   have hl2:(pF (strength e+1) e0 (xF e0)).length+((cL (strength e+1) d).length+((tx " "::o.1::tx " "::pF (strength e+1) o.2 (xF o.2))++cL (strength e+1) r').length)<=sizeLine:=hl2
   rw[List.length_append,List.length_cons,List.length_cons,List.length_cons] at hl2
   have g3:eB B L (bg H' T' (.tup [.str o.1,u1])) (pF (strength e+1) e0 (xF e0)++cL (strength e+1) d):=⟨g'.nw,g'.sm.trans (bf nT),by rw[ag (aD g'.at_ nT)];exact g'.at_⟩
   refine eW g3 rfl (j2_ (ps:=[tx " ",o.1,tx " "]) (aq cj (aq (bG rfl) (aq cj aM))) rfl (by show 3<=sizeLine;decide)) (by rw[List.length_append];show _+3<=_;lia) fun H4 g4=>?_
   refine jn_ g4 rfl (fr_pl h3 (sB.trans g4.sm) fo (by lia) (aq (bG rfl) (aq (fst (sB.trans g4.sm) rfl) aM))) (by rw[List.length_append,List.length_append];show _+3+_<=_;lia) fun H5 g5=>⟨_,_,d++[o],r',rfl,by rw[ed];simp,by simp [dl],?_⟩
   rw[cL_app]
   have:cL (strength e+1) [o]=tx " "::o.1::tx " "::pF (strength e+1) o.2 (xF o.2):=List.append_nil _
   rw[this]
   simpa using g5
  ·rintro σ' H' ⟨x,y,d,r,rfl,ed,dl,g'⟩
   have:r=[]:=by
    have:=congrArg List.length ed
    rw[List.length_append] at this
    exact List.eq_nil_of_length_eq_zero (by lia)
   subst this
   rw[List.append_nil] at ed
   rw[ed] at hQ
   exact(g'.end_ (hQ.up sB))
theorem log_lt {n:Nat}(h:n<1000000000000000000):(n:Int).natAbs.log2<1920:=by
 rw[Int.natAbs_natCast]
 by_cases n0:n=0
 ·rw[n0];decide
 ·exact Nat.lt_of_lt_of_le ((Nat.log2_lt n0).mpr (show n<2 ^ 64 by lia)) [06]
theorem ok_M (T:Txt K mg a) (I:NdK K a) (hk:k<=900) (G_r:PlOk P w K mg base a (k+2)) (G2:PlOk P w K mg base a (k+1)) (G3:PlOk P w K mg base a k):aJ P w K mg base dE (k+3) a.f_M a.fd_M ["exp"] (spXF a fun e=>fr e<=k+4):=by
 have G_X:=ok_X T G2
 have G_d:=ok_d T G3
 have G_3:=ok_3 T G_d
 have G_L:=ok_L T G_d
 have G_ah:=ok_ah T G_d
 refine T.d_M.F.ok sc_M [04] [03]
 ·obtain⟨e,v,M,rfl,_⟩:=h
  rfl
 ·obtain⟨e,v,M,rfl,he,hf,hl,hQ⟩:=h
  refine⟨_,(ae (aZ (bd (aY cb (by rfl) T.n_isinstance boot_isinstance (aa (pv 0) (aa (de (by rfl) T.mg_Number) af)))) (ai (ay (be (aa (fL j2g_ (by rfl) T.n_str boot_str [019]) af)))) aG)
    (ae (aZ (bd (aY cb (by rfl) T.n_isinstance boot_isinstance (aa (pv 0) (aa (de (by rfl) T.mg_Name) af)))) (ai (ay (be [019]))) aG)
    (ae (aZ (bd (aY cb (by rfl) T.n_isinstance boot_isinstance (aa (pv 0) (aa (de (by rfl) T.mg_Call) af)))) (ai (ay (bh bI (bh bI (be (aa [07] (aa ax af))) (al G_3 [01] (by rfl) T.d_3.c aQ [019])) [025]))) aG)
    (ae (aZ (bd (aY cb (by rfl) T.n_isinstance boot_isinstance (aa (pv 0) (aa (de (by rfl) T.mg_Unary) af)))) (ai (ay (bh bI (be [019]) (al G_r [01] (by rfl) T.d_r.c aQ (aa [07] (aa (bN (by rfl) T.g_UNARY_STRENGTH) af)))))) aG)
    (ae (aZ (bd (aY cb (by rfl) T.n_isinstance boot_isinstance (aa (pv 0) (aa (de (by rfl) T.mg_Chain) af)))) (ai (ay (al G_X [01] (by rfl) T.d_X.c aQ [009]))) aG)
    (ae (aZ (bd (aY cb (by rfl) T.n_isinstance boot_isinstance (aa (pv 0) (aa (de (by rfl) T.mg_Choice) af)))) (ai (ay (al G_ah [01] (by rfl) T.d_ah.c aQ [009]))) aG)
    (ai (ay (bh bI (bh bI (bh bI (bh bI [025] (al G_L [01] (by rfl) T.d_L.c aQ [009])) [025]) [036]) [025]))))))))),?_⟩
  obtain⟨C,q,dx,fs,hC,rfl,z,l⟩:=j3c_ he
  refine cz I hC (j:=0) rfl z rfl [0009] (fun n0=>?_)
  ·cases e<;>first|(cases e4;done)|skip
   rename_i n
   unfold ao at he
   obtain⟨p,dx,e1,_,z⟩:=he
   cases e1
   rw[fr] at hf
   have hn:n<1000000000000000000:=by
    split at hf
    ·assumption
    ·lia
   rw[xF] at hQ
   refine dg (ps:=[uc_ n]) (fk (aq (v:= .str (uc_ n)) (fun Q1 q1=>?_) aM)) hQ
   exact(cG (bG rfl) z T.cl_Number T.no_Number_worth rfl:Ev (wo_ K (d9 0) "worth") _ H (.int (n:Nat))) _ ⟨_,rfl,log_lt hn,q1⟩
  refine cz I hC (j:=1) rfl z rfl [0009] (fun n1=>?_)
  ·cases e<;>first|(cases e4;done)|skip
   unfold ao at he
   obtain⟨p,dx,e1,_,z⟩:=he
   cases e1
   rw[xF] at hQ
   exact dg (fk (aq (cG (bG rfl) z T.cl_Name T.no_Name_name rfl) aM)) hQ
  refine cz I hC (j:=2) rfl z rfl [0009] (fun n2=>?_)
  ·cases e<;>first|(cases e4;done)|skip
   unfold ao at he
   obtain⟨g,us,⟨p,dx,e1,_,z⟩,h2,h3⟩:=he
   cases e1
   rw[fr] at hf
   rw[xF] at hQ hl
   rw[005]
   refine dg (Fr.eq (bS (bS (j2_ (ps:=[_,tx "("]) (aq (cG (bG rfl) z T.cl_Call T.no_Call_name rfl) (aq cj aM)) rfl (by show 2<=sizeLine;decide))
    (fun H1 s1=>di (aq (cG (bG rfl) [0004] T.cl_Call T.no_Call_arguments rfl) aM) fun Q1 q1=>⟨_,g,us,M,rfl,cn.keep (aW.keeps s1).two h2,bD.keep (aW.keeps s1) _ h3,by lia,by lia,q1⟩) ?_) (fun H1 s1=>fk (p:=tx ")") (aq cj aM)) ?_) [022]) hQ
   ·show 2+_<=_;lia
   ·simp only[List.length_cons,List.length_append,List.length_nil];lia
  refine cz I hC (j:=3) rfl z rfl [0009] (fun n3=>?_)
  ·obtain⟨c,y,u,⟨p,dx,e1,_,z⟩,h2,ex,ef⟩: ∃c y u,cW M H a.c_Unary [("sign", .str c),("operand",u)] (.ref q)/\ao a M H y u/\xF e=c::pF 5 y (xF y)/\fr e=2+fr y:=by
    cases e<;>first|(cases e4;done)|skip
    ·unfold ao at he
     obtain⟨u,h1,h2⟩:=he
     exact⟨_,_,u,h1,h2,by rw[xF],by rw[fr]⟩
    ·unfold ao at he
     obtain⟨u,h1,h2⟩:=he
     exact⟨_,_,u,h1,h2,by rw[xF],by rw[fr]⟩
   cases e1
   rw[ef] at hf
   rw[ex] at hQ hl
   rw[List.length_cons] at hl
   refine dg (bS (fk (aq (cG (bG rfl) z T.cl_Unary T.no_Unary_sign rfl) aM)) (fun H1 s1=>fr_pl (n:=5) h2 s1 (by lia) (by lia) (aq (cG (bG rfl) [0004] T.cl_Unary T.no_Unary_operand rfl) (aq cj aM))) ?_) hQ
   show 1+_<=_
   lia
  refine cz I hC (j:=4) rfl z rfl [0009] (fun n4=>?_)
  ·exact dg (dW he aW.rfl ⟨e4,hf⟩ hl [040]) hQ
  refine cz I hC (j:=5) rfl z rfl [0009] (fun n5=>?_)
  ·exact dg (dW he aW.rfl ⟨e4,hf⟩ hl [040]) hQ
  cases e<;>first|exact absurd rfl n0|exact absurd rfl n1|exact absurd rfl n2|exact absurd rfl n3|exact absurd rfl n4|exact absurd rfl n5|skip
  rename_i x lo hi y
  unfold ao at he
  obtain⟨u1,u2,u3,⟨p,dx,e1,_,z⟩,h1,h2,h3⟩:=he
  cases e1
  rw[fr] at hf
  have f1:=Nat.le_max_left (fr lo) (max (fr hi) (fr y))
  have f2:=Nat.le_max_right (fr lo) (max (fr hi) (fr y))
  have f3:=Nat.le_max_left (fr hi) (fr y)
  have f4:=Nat.le_max_right (fr hi) (fr y)
  rw[xF] at hQ hl
  rw[005]
  have lr:(rgF x lo hi).length=3+(xF lo).length+(xF hi).length:=by
   simp only[rgF,List.length_cons,List.length_append];lia
  refine dg (Fr.eq (bS (bS (bS (bS (fk (p:=tx "sum(") (aq cj aM)) (fun H1 s1=>di (ps:=rgF x lo hi) [040] fun Q1 q1=>⟨x,lo,hi,q,_,_,_,u1,u2,M,rfl,s1 _ _ z,T.cl_Sum,T.no_Sum_name,T.no_Sum_first,T.no_Sum_last,rfl,rfl,rfl,ao.keep (aW.keeps s1) _ h1,ao.keep (aW.keeps s1) _ h2,by lia,by lia,by lia,q1⟩) ?_)
   (fun H1 s1=>fk (p:=tx ": ") (aq cj aM)) ?_) (fun H1 s1=>dW h3 s1 (by lia) (by lia) (aq (cG (bG rfl) [0004] T.cl_Sum T.no_Sum_body rfl) aM)) ?_) (fun H1 s1=>fk (p:=tx ")") (aq cj aM)) ?_) [022]) hQ
  all_goals simp only[List.length_cons,List.length_append,List.length_nil];lia
theorem pl_no {vs:List V}{H:Hp}{Q:VK}{E:XK}(hk:k<4) (h:spPl a k vs H Q E):False:=by
 obtain⟨e,v,M,w',rfl,he,hf,hl,hQ⟩:=h
 have:=gS e
 lia
theorem j4f_ (hk:k<4):PlOk P w K mg base a k:=by
 constructor<;>intros<;>exact(pl_no hk (by assumption)).elim
theorem j0q_ (T:Txt K mg a) (I:NdK K a): ∀n,n<=900-> ∀k,k<=n->PlOk P w K mg base a k
 |0,_,k,hk=>j4f_ (by lia)
 |n+1,h,k,hk=>by
  by_cases h4:k<4
  ·exact j4f_ h4
  ·obtain⟨m,rfl⟩: ∃m,k=m+3+1:=⟨k-4,by lia⟩
   exact ok_r T I (ok_M T I (by lia) (j0q_ T I n (by lia) (m+2) (by lia)) (j0q_ T I n (by lia) (m+1) (by lia)) (j0q_ T I n (by lia) m (by lia)))
end
end
section
open Vbemac (Bytes Exp Exps Rest strength Stmts)
abbrev Stm:=Vbemac.Stmt
theorem j21_: ∀(n:Nat) (acc:Array Nat),((List.replicate n (#[32,32]:Array Nat)).foldl (· ++ ·) acc).toList=acc.toList++List.replicate (2*n) 32
 |0,acc=>by simp
 |n+1,acc=>by
  rw[List.replicate_succ,List.foldl_cons,j21_ n,Array.toList_append,List.append_assoc]
  congr 1
theorem mul_ind {n:Nat}(hn:n<301):Txt.mul (tx "  ") (n:Nat)=gu n/\MulOk (tx "  ") (n:Nat):=by
 have ex:tx "  "=⟨#[32,32]⟩:=by decide+kernel
 rw[ex]
 constructor
 ·unfold Txt.mul
  by_cases h0:n=0
  ·subst h0
   rw[if_pos [06]]
   rfl
  rw[if_neg (by lia)]
  by_cases h1:n=1
  ·subst h1
   rw[if_pos [06]]
   rfl
  rw[if_neg]
  ·show Str.mk _=Str.mk _
   congr 1
   apply Array.toList_inj.mp
   rw[Int.toNat_natCast,j21_,Array.toList_replicate]
   rfl
  ·rw[Bool.or_eq_true,not_or]
   refine⟨fun z=>h1 ?_,by decide⟩
   have:=eq_of_beq z
   lia
 ·refine⟨?_,fun h _=>?_,fun _ _=>?_⟩
  ·rw[decide_eq_false (by lia),decide_eq_false (by lia)]
   rfl
  ·show¬((2:Int)>(2 ^ 63-1) / (n:Int))
   have:(2:Int)<=(2 ^ 63-1) / (n:Int):=Int.le_ediv_of_mul_le (by lia) (by lia)
   lia
  ·show decide (2*(n:Int).toNat>sizeLine)=false
   rw[Int.toNat_natCast]
   exact decide_eq_false (by unfold sizeLine;lia)
theorem op_repS {X:Cx} :OpR X (binaryOp .Mult) (fun x y H Q=> ∃n:Nat,x= .str (tx "  ")/\y= .int (n:Nat)/\n<=300/\Q (.str (gu n)) H):=by
 rw[013]
 obtain⟨n,rfl,rfl,hn,q⟩:=h
 rw[014]
 obtain⟨t',rfl⟩:=ry
 obtain⟨e,m⟩:=mul_ind (n:=n) (by lia)
 refine SB.mul m fun t'' tk=>?_
 rw[e]
 exact⟨.str (gu n),H,I.tok _,⟨_,rfl⟩,q⟩
inductive spPt (a:cu) (k:Nat) (vs:List V) (H:Hp) (Q:VK) (_E:XK):Prop
 |mk (word:String) (o:Option Exp) (v:V) (M:Addr->Prop) (_:vs=[.str (tx word),v]) (_:gw a M H o v) (_:frO o<=k) (_:(opF word o).length<=sizeLine) (_:Nw H (opF word o) Q):spPt a k vs H Q _E
inductive spS1 (a:cu) (ok:Stm->Prop) (vs:List V) (H:Hp) (Q:VK) (_E:XK):Prop
 |mk (s:Stm) (n:Nat) (v:V) (M:Addr->Prop) (_:vs=[v]) (_:bu a M H s v) (_:ok s) (_:(gI n s).length<=sizeLine) (_:Nw H (gI n s) Q):spS1 a ok vs H Q _E
inductive spS2 (a:cu) (k:Nat) (ok:Stm->Prop) (vs:List V) (H:Hp) (Q:VK) (_E:XK):Prop
 |mk (s:Stm) (n:Nat) (v:V) (M:Addr->Prop) (_:vs=[v, .int (n:Nat)]) (_:bu a M H s v) (_:ok s) (_:frS s<=k) (_:n+frS s<=300) (_:(gI n s).length<=sizeLine) (_:Nw H (gI n s) Q):spS2 a k ok vs H Q _E
inductive spBf (a:cu) (k:Nat) (vs:List V) (H:Hp) (Q:VK) (_E:XK):Prop
 |mk (l:Stmts) (n:Nat) (v:V) (us:List V) (M:Addr->Prop) (_:vs=[v, .int (n:Nat)]) (_:cn M H us v) (_:bo a M H l us) (_:frB l<=k) (_:n+frB l<=300) (_:(brF n (lsF (n+1) l)).length<=sizeLine) (_:Nw H (brF n (lsF (n+1) l)) Q):spBf a k vs H Q _E
def sl:Stmts->List Stm
 | .nil=>[]
 | .cons s l=>s::sl l
def lsL (n:Nat) (d:List Stm):List Str:=d.flatMap fun s=>gu n::(gI n s++[tx "\n"])
theorem lsL_of (n:Nat): ∀l:Stmts,lsF n l=lsL n (sl l)
 | .nil=>by rw[lsF];rfl
 | .cons s l=>by
  rw[lsF,lsL_of n l,sl]
  show _=(gu n::(gI n s++[tx "\n"]))++lsL n (sl l)
  simp
theorem bo.get {a:cu}{M:Addr->Prop}{H:Hp} : ∀ {l:Stmts}{us:List V},bo a M H l us->us.length=(sl l).length/\ ∀(i:Nat) (u:V),us[i]?=some u-> ∃s,(sl l)[i]?=some s/\bu a M H s u/\1+frS s<=frB l
 | .nil,us,h=>by
  unfold bo at h
  subst h
  exact⟨rfl,fun i u e=>by simp at e⟩
 | .cons e l,us,h=>by
  unfold bo at h
  obtain⟨u,vs,rfl,h1,h2⟩:=h
  obtain⟨n,g⟩:=bo.get h2
  rw[sl,frB]
  refine⟨congrArg (· +1) n,fun i v hi=>?_⟩
  cases i with
  |zero=>cases hi;exact⟨e,rfl,h1,Nat.le_max_left _ _⟩
  |succ i=>
   obtain⟨x,q1,q2,q3⟩:=g i v hi
   exact⟨x,q1,q2,Nat.le_trans q3 (Nat.le_max_right _ _)⟩
theorem frB_ge: ∀l:Stmts,1<=frB l
 | .nil=>by rw[frB];exact Nat.le_refl _
 | .cons s l=>by rw[frB];exact Nat.le_trans (frB_ge l) (Nat.le_max_right _ _)
theorem frS_ge (s:Stm):4<=frS s:=by
 cases s<;>rw[frS]
 ·rename_i e;have:=gS e;lia
 ·rename_i x lo hi l;have:=gS lo;have:=Nat.le_max_left (3+fr lo) (max (3+fr hi) (1+frB l));lia
 ·rename_i c x y;have:=gS c;have:=Nat.le_max_left (3+fr c) (max (2+frB x) (2+frB y));lia
 ·lia
 ·lia
theorem sideS_V (b:Bool):V.str (ua_ b)=sideV b:=by cases b<;>rfl
section
variable {k:Nat}
theorem ok_m (T:Txt K mg a) (G_d:AnyOk P w K mg base a k):aJ P w K mg base dE (k+2) a.f_m a.fd_m ["word","exp"] (spPt a k):=by
 refine T.d_m.F.ok sc_m [04] [03]
 ·obtain⟨word,o,v,M,rfl,_⟩:=h
  rfl
 ·obtain⟨word,o,v,M,rfl,ho,hf,hl,hQ⟩:=h
  refine⟨_,(ae (aZ (fe (pc_isN (pv 1))) (ai (ay (be af))) aG)
    (ai (ay (bh bI (be (aa ax [038])) (al G_d [01] (by rfl) T.d_d.c aQ [002]))))),?_⟩
  cases o with
  |none=>
   cases ho
   refine⟨_,rfl,hZ (decide_eq_true rfl) ?_⟩
   exact dg (ps:=[]) (j2_ aM rfl (by show 0<=sizeLine;decide)) hQ
  |some e=>
   obtain⟨C,q,dx,fs,hC,rfl,z,_⟩:=j3c_ ho
   refine⟨_,rfl,jk_ (decide_eq_false [053]) ?_⟩
   have hl:(tx " "::tx word::tx " "::xF e).length<=sizeLine:=hl
   rw[List.length_cons,List.length_cons,List.length_cons] at hl
   exact dg (bS (j2_ (ps:=[tx " ",tx word,tx " "]) (aq cj (aq (bG rfl) (aq cj aM))) rfl (by show 3<=sizeLine;decide)) (fun H1 s1=>dW ho s1 hf (by lia) [040]) (by show 3+_<=_;lia)) hQ
theorem qy_ {M:Addr->Prop}{H H':Hp}{E:XK}{ta:TA}{σ:L2.St}{o:Option Exp}{v:V}{word:String}(ho:gw a M H o v) (s:aW H H') (hf:frO o<=k) (hl:(opF word o).length<=sizeLine) (h:Evs ta σ H' [.str (tx word),v]):Fr (yo_ (spPt a k) [] E ta) σ H' (opF word o):=di h fun Q q=>⟨word,o,v,M,rfl,gw.keep2 (aW.keeps s).two o ho,hf,hl,q⟩
theorem cN (w:String) (e:Exp):(ptF w e).length=3+(xF e).length:=by
 unfold ptF
 rw[List.length_cons,List.length_cons,List.length_cons]
 lia
theorem fj (w:String) (e:Exp):opF w (some e)=ptF w e:=rfl
theorem fm2 {x y n:Nat}(h:max x y<=n):x<=n/\y<=n:=⟨Nat.le_trans (Nat.le_max_left x y) h,Nat.le_trans (Nat.le_max_right x y) h⟩
theorem ok_af (T:Txt K mg a) (G_m:aJ P w K mg base dE (k+2) a.f_m a.fd_m ["word","exp"] (spPt a k)):aJ P w K mg base dE (k+3) a.f_af a.fd_af ["step"] (spS1 a fun s=>frS s<=k+4/\ ∃b z q p t m,s=Vbemac.Stmt.step b z q p t m):=by
 refine T.d_af.F.ok sc_af [04] [03]
 ·obtain⟨s,n,v,M,rfl,_⟩:=h
  rfl
 ·obtain⟨s,n,v,M,rfl,hs,⟨hf,by_,z,q,p,t,m,rfl⟩,hl,hQ⟩:=h
  unfold bu at hs
  obtain⟨u1,u2,u3,u4,u5,⟨x,dx,rfl,_,zx⟩,h1,h2,h3,h4,h5⟩:=hs
  rw[frS] at hf
  obtain⟨f1,f'⟩:=fm2 (n:=k) (show max (fr z) (max (fr q) (max (fr p) (max (frO t) (fr m))))<=k by lia)
  obtain⟨f2,f'⟩:=fm2 f'
  obtain⟨f3,f'⟩:=fm2 f'
  obtain⟨f4,f5⟩:=fm2 f'
  rw[gI] at hl hQ
  simp only[List.length_cons,List.length_append,List.length_nil,cN] at hl
  refine⟨_,(ae (aE (i:=1) sc_af.nd rfl [05] (bh bI (bh bI (be [019]) [046]) [046]))
    (ae [082]
    (ae [082]
    (ae [082]
    (ai (ay (bh bI (pv 1) [025]))))))),?_⟩
  refine gH (bS (bS (fk (p:=ua_ by_) (aq (cG (bG rfl) zx T.cl_Step T.no_Step_side (by rw[sideS_V];rfl)) aM)) (fun H1 s1=>qy_ (word:="zone") (o:=some z) h1 s1 f1 [008] (aq cj (aq (cG (bG rfl) (s1 _ _ zx) T.cl_Step T.no_Step_zone rfl) aM))) [008])
   (fun H1 s1=>qy_ (word:="quarter") (o:=some q) h2 s1 f2 [008] (aq cj (aq (cG (bG rfl) (s1 _ _ zx) T.cl_Step T.no_Step_quarter rfl) aM))) [008]) fun H1 L g1=>?_
  refine eW g1 rfl (qy_ (word:="price") (o:=some p) h3 g1.sm f3 [008] (aq cj (aq (cG (bG rfl) (g1.sm _ _ zx) T.cl_Step T.no_Step_price rfl) aM))) [008] fun H2 g2=>?_
  refine eW g2 rfl (qy_ (word:="to") (o:=t) h4 g2.sm f4 (by lia) (aq cj (aq (cG (bG rfl) (g2.sm _ _ zx) T.cl_Step T.no_Step_to_price rfl) aM))) [008] fun H3 g3=>?_
  refine eW g3 rfl (qy_ (word:="amount") (o:=some m) h5 g3.sm f5 [008] (aq cj (aq (cG (bG rfl) (g3.sm _ _ zx) T.cl_Step T.no_Step_amount rfl) aM))) [008] fun H4 g4=>?_
  exact dg (Fr.eq (j2z_ (qs:=[tx ";"]) (bG rfl) g4.at_ (fk (aq cj aM)) [008]) (by simp only[fj,List.append_assoc,List.cons_append,List.nil_append])) (hQ.up g4.sm)
end
end
section
open Vbemac (Bytes Exp Exps Rest strength Stmts)
section
variable {k:Nat}
abbrev PtOk (P:Program) (w:World) (K:PySem.W.Frag) (mg:Str->Option Value) (base:Heap) (a:cu) (k:Nat):Prop:=aJ P w K mg base dE (k+2) a.f_m a.fd_m ["word","exp"] (spPt a k)
abbrev BrOk (P:Program) (w:World) (K:PySem.W.Frag) (mg:Str->Option Value) (base:Heap) (a:cu) (k:Nat):Prop:=aJ P w K mg base dE k a.f_v a.fd_v ["statements","depth"] (spBf a k)
theorem two_le:2<=sizeLine:=by decide
theorem wc_:3<=sizeLine:=by decide
theorem ok_ag (T:Txt K mg a) (G_d:AnyOk P w K mg base a k) (G_m:PtOk P w K mg base a k):aJ P w K mg base dE (k+3) a.f_ag a.fd_ag ["block"] (spS1 a fun s=>frS s<=k+4/\ ∃m b z p x q u g,s=Vbemac.Stmt.block m b z p x q u g):=by
 refine T.d_ag.F.ok sc_ag [04] [03]
 ·obtain⟨s,n,v,M,rfl,_⟩:=h
  rfl
 ·obtain⟨s,n,v,M,rfl,hs,⟨hf,m,by_,z,p,x,q,u,g,rfl⟩,hl,hQ⟩:=h
  unfold bu at hs
  obtain⟨u1,u2,u3,u4,⟨x1,dx,rfl,_,zx⟩,h1,h2,⟨u5,⟨y1,dy,rfl,_,zy⟩,h3⟩,h4⟩:=hs
  rw[frS] at hf
  obtain⟨f1,f'⟩:=fm2 (n:=k) (show max (fr z) (max (fr p) (max (fr q) (frO g)))<=k by lia)
  obtain⟨f2,f'⟩:=fm2 f'
  obtain⟨f3,f4⟩:=fm2 f'
  rw[gI] at hl hQ
  simp only[List.length_cons,List.length_append,List.length_nil,cN] at hl
  refine⟨_,(ae (aE (i:=1) sc_ag.nd rfl [05] [025])
    (ae (fY (aZ (fe (j28_ [07])) (ai (au (cr PySem.F.plainAttrs_list PySem.F.slot_list_extend PySem.F.type_list_extend bX (pv 1) (aa (be (aa [07] (aa ax af))) af)))) aG))
    (ae (au (cr PySem.F.plainAttrs_list PySem.F.slot_list_append PySem.F.type_list_append bR (pv 1) [019]))
    (ae [082]
    (ae [082]
    (ae (au (cr PySem.F.plainAttrs_list PySem.F.slot_list_extend PySem.F.type_list_extend bX (pv 1) (aa (be (aa ax (aa (aI [07] rfl) (aa ax af)))) af)))
    (ae (au (cr PySem.F.plainAttrs_list PySem.F.slot_list_extend PySem.F.type_list_extend bX (pv 1) (aa (al G_d [01] (by rfl) T.d_d.c aQ (aa (aI [07] rfl) af)) af)))
    (ae (fY (aZ (fe (j28_ [07])) (ai (au (cr PySem.F.plainAttrs_list PySem.F.slot_list_extend PySem.F.type_list_extend bX (pv 1) (aa (be (aa ax [019])) af)))) aG))
    (ae [082]
    (ai (ay (bh bI (pv 1) [025])))))))))))),?_⟩
  refine gH (fk (p:=tx "block ") (aq cj aM)) fun H1 L g1=>?_
  refine j0v_ (fun σ' H'=>σ'=[some (.ref x1),some (.ref L)]/\eB H L H' (tx "block "::nmF m)) ?_ ?_
  ·refine(cG (bG rfl) (g1.sm _ _ zx) T.cl_Block T.no_Block_name rfl:Ev (wo_ K (d9 0) "name") _ H1 (gR m)) _ [016]
   cases m with
   |none=>exact jk_ rfl ⟨rfl,g1⟩
   |some y=>exact hZ rfl (jn_ g1 rfl (j2_ (ps:=[sb y,tx " "]) (aq (cG (bG rfl) (g1.sm _ _ zx) T.cl_Block T.no_Block_name rfl) (aq cj aM)) rfl (two_le)) (by simp only[fj,List.length_append,List.length_cons,List.length_nil,cN];unfold sizeLine;lia) fun H2 g2=>⟨rfl,g2⟩)
  rintro σ' H2 ⟨rfl,g2⟩
  refine yn_ (p:=ua_ by_) g2 rfl (cG (bG rfl) (g2.sm _ _ zx) T.cl_Block T.no_Block_side (by rw[sideS_V];rfl)) [008] fun H3 g3=>?_
  refine eW g3 rfl (qy_ (word:="zone") (o:=some z) h1 g3.sm f1 [008] (aq cj (aq (cG (bG rfl) (g3.sm _ _ zx) T.cl_Block T.no_Block_zone rfl) aM))) [008] fun H4 g4=>?_
  refine eW g4 rfl (qy_ (word:="price") (o:=some p) h2 g4.sm f2 [008] (aq cj (aq (cG (bG rfl) (g4.sm _ _ zx) T.cl_Block T.no_Block_price rfl) aM))) [008] fun H5 g5=>?_
  have am: ∀ {σ:L2.St}{H':Hp},aW H H'->σ[0]?=some (some (.ref x1))->Ev (wo_ K (d9 0) "amounts") σ H' (.ref y1):=fun s h=>cG (bG h) (s _ _ zx) T.cl_Block T.no_Block_amounts rfl
  refine eW g5 rfl (j2_ (ps:=[tx " amount ",sb x,tx ": "]) (aq cj (aq (cG (am g5.sm rfl) (g5.sm _ _ zy) T.cl_Amounts T.no_Amounts_name rfl) (aq cj aM))) rfl wc_) [008] fun H6 g6=>?_
  refine eW g6 rfl (dW (e:=q) h3 g6.sm f3 (by lia) (aq (cG (am g6.sm rfl) (g6.sm _ _ zy) T.cl_Amounts T.no_Amounts_exp rfl) aM)) [008] fun H7 g7=>?_
  generalize hp:(tx "block "::nmF m)++[ua_ by_]++opF "zone" (some z)++opF "price" (some p)++[tx " amount ",sb x,tx ": "]++xF q=ps at g7
  have l7:ps.length=1+(nmF m).length+1+(3+(xF z).length)+(3+(xF p).length)+3+(xF q).length:=by
   rw[<-hp];simp only[fj,List.length_append,List.length_cons,List.length_nil,cN];lia
  refine j0v_ (fun σ' H'=>σ'=[some (.ref x1),some (.ref L)]/\eB H L H' (ps++unF u)) ?_ ?_
  ·refine(cG (bG rfl) (g7.sm _ _ zx) T.cl_Block T.no_Block_under rfl:Ev (wo_ K (d9 0) "under") _ H7 (gR u)) _ [016]
   cases u with
   |none=>exact jk_ rfl ⟨rfl,by show eB H L H7 (_++[]);rw[List.append_nil];exact g7⟩
   |some y=>
    have:(unF (some y)).length=2:=rfl
    exact hZ rfl (jn_ g7 rfl (j2_ (ps:=[tx " under ",sb y]) (aq cj (aq (cG (bG rfl) (g7.sm _ _ zx) T.cl_Block T.no_Block_under rfl) aM)) rfl two_le) (by rw[l7];simp only[fj,List.length_append,List.length_cons,List.length_nil,cN];lia) fun H2 g2=>⟨rfl,g2⟩)
  rintro σ' H8 ⟨rfl,g8⟩
  refine eW g8 rfl (qy_ (word:="group") (o:=g) h4 g8.sm f4 (by lia) (aq cj (aq (cG (bG rfl) (g8.sm _ _ zx) T.cl_Block T.no_Block_group rfl) aM))) (by rw[List.length_append,l7];lia) fun H9 g9=>?_
  refine dg (Fr.eq (j2z_ (qs:=[tx ";"]) (bG rfl) g9.at_ (fk (aq cj aM)) (by rw[List.length_append,List.length_append,l7];simp only[fj,List.length_append,List.length_cons,List.length_nil,cN];lia)) ?_) (hQ.up g9.sm)
  rw[<-hp]
  simp only[fj,List.append_assoc,List.cons_append,List.nil_append]
end
end
section
open Vbemac (Bytes Exp Exps Rest strength Stmts)
section
variable {k:Nat}
theorem fr_br {M:Addr->Prop}{H H':Hp}{E:XK}{ta:TA}{σ:L2.St}{l:Stmts}{n:Nat}{v:V}{us:List V}(h1:cn M H us v) (h2:bo a M H l us) (s:aW H H') (hf:frB l<=k) (hn:n+frB l<=300) (hl:(brF n (lsF (n+1) l)).length<=sizeLine) (h:Evs ta σ H' [v, .int (n:Nat)]):Fr (yo_ (spBf a k) [] E ta) σ H' (brF n (lsF (n+1) l)):=di h fun Q q=>⟨l,n,v,us,M,rfl,cn.keep (aW.keeps s).two h1,bo.keep2 (aW.keeps s).two l h2,hf,hn,hl,q⟩
theorem ok_ae (T:Txt K mg a) (G_d:AnyOk P w K mg base a (k+1)) (G_v:BrOk P w K mg base a (k+2)):aJ P w K mg base dE (k+3) a.f_ae a.fd_ae ["statement","depth"] (spS2 a (k+4) fun s=> ∃c x y,s=Vbemac.Stmt.cond c x y):=by
 refine T.d_ae.F.ok sc_ae [04] [03]
 ·obtain⟨s,n,v,M,rfl,_⟩:=h
  rfl
 ·obtain⟨s,n,v,M,rfl,hs,⟨c,x,y,rfl⟩,hf,hn,hl,hQ⟩:=h
  unfold bu at hs
  obtain⟨u,q,us,g,ws,⟨p,dx,rfl,_,z⟩,h1,⟨q',rfl,mq,zq⟩,h2,⟨g',rfl,mg',zg⟩,h3⟩:=hs
  rw[frS] at hf hn
  obtain⟨f1,f'⟩:=fm2 hf
  obtain⟨f2,f3⟩:=fm2 f'
  have k1:=Nat.le_max_left (3+fr c) (max (2+frB x) (2+frB y))
  have k2:=Nat.le_max_right (3+fr c) (max (2+frB x) (2+frB y))
  have k3:=Nat.le_max_left (2+frB x) (2+frB y)
  have k4:=Nat.le_max_right (2+frB x) (2+frB y)
  have hl':1+(xF c).length+(brF n (lsF (n+1) x)).length<=sizeLine/\(y≠ .nil->1+(xF c).length+(brF n (lsF (n+1) x)).length+1+(brF n (lsF (n+1) y)).length<=sizeLine):=by
   cases y with
   |nil=>
    rw[gI] at hl
    simp only[List.length_cons,List.length_append] at hl
    exact⟨by lia,fun z=>absurd rfl z⟩
   |cons s l=>
    rw[gI] at hl
    ·simp only[List.length_cons,List.length_append] at hl
     exact⟨by lia,fun _=>by lia⟩
    ·intro z;cases z
  refine⟨_,(ae (aE (i:=2) sc_ae.nd rfl [05] (bh bI (bh bI [025] [036]) (al G_v [01] (by rfl) T.d_v.c aQ (aa [07] [002]))))
    (ae (fY (aZ (bv op_gt (aY bj (by rfl) T.n_len PySem.boot_len [019]) aU (bx _)) (ae (au (cr PySem.F.plainAttrs_list PySem.F.slot_list_append PySem.F.type_list_append bR (pv 2) (aa ax af)))
    (ai (au (cr PySem.F.plainAttrs_list PySem.F.slot_list_extend PySem.F.type_list_extend bX (pv 2) (aa (al G_v [01] (by rfl) T.d_v.c aQ (aa [07] [002])) af))))) aG))
    (ai (ay (pv 2))))),?_⟩
  refine gH (bS (bS (fk (p:=tx "if ") (aq cj aM)) (fun H1 s1=>dW h1 s1 (by lia) (by lia) (aq (cG (bG rfl) [0004] T.cl_If T.no_If_condition rfl) aM)) ?_)
   (fun H1 s1=>fr_br ⟨q',rfl,mq,zq⟩ h2 s1 (by lia) (by lia) (by lia) (aq (cG (bG rfl) [0004] T.cl_If T.no_If_statements rfl) [040])) ?_) fun H1 L g1=>?_
  ·simp only[List.length_append,List.length_cons,List.length_nil];lia
  ·simp only[List.length_append,List.length_cons,List.length_nil];lia
  refine j0v_ (fun σ' H'=>σ'=[some (.ref p),some (.int n),some (.ref L)]/\eB H L H' (gI n (.cond c x y))) ?_ ?_
  ·refine(cG (bG rfl) (g1.sm _ _ z) T.cl_If T.no_If_else_statements rfl:Ev (wo_ K (d9 0) "else_statements") _ H1 (.ref g')) _ ⟨g',ws,rfl, .inl (cK.of (g1.sm _ _ zg)),_,_,rfl,rfl,_,rfl,?_⟩
   cases y with
   |nil=>
    unfold bo at h3
    subst h3
    exact jk_ rfl ⟨rfl,by rw[gI];exact g1⟩
   |cons s l=>
    have wn:0<ws.length:=by
     unfold bo at h3
     obtain⟨_,_,rfl,_⟩:=h3
     exact Nat.succ_pos _
    have hl2:=hl'.2 [053]
    have l1:([tx "if "]++xF c++brF n (lsF (n+1) x)).length=1+(xF c).length+(brF n (lsF (n+1) x)).length:=by rw[List.length_append,List.length_append];rfl
    refine hZ (decide_eq_true (by lia)) (yn_ g1 rfl cj (by rw[l1];lia) fun H2 g2=>?_)
    refine jn_ g2 rfl (fr_br ⟨g',rfl,mg',zg⟩ h3 g2.sm (by lia) (by lia) (by lia) (aq (cG (bG rfl) (g2.sm _ _ z) T.cl_If T.no_If_else_statements rfl) [040])) (by rw[List.length_append,l1];have:[tx " else"].length=1:=rfl;lia) fun H3 g3=>⟨rfl,?_⟩
    rw[gI]
    ·have g3:=g3
     simp only[List.append_assoc,List.cons_append,List.nil_append] at g3
     exact g3
    ·intro z;cases z
  ·rintro σ' H2 ⟨rfl,g2⟩
   exact(g2.end_ hQ)
theorem ok_K (T:Txt K mg a) (I:NdK K a) (hk:k<=890) (G_v:BrOk P w K mg base a (k+3)) (G2:BrOk P w K mg base a (k+2)):aJ P w K mg base dE (k+4) a.f_K a.fd_K ["statement","depth"] (spS2 a (k+4) fun _=>True):=by
 have pl:=fun n (h:n<=900)=>j0q_ (P:=P) (w:=w) (base:=base) T I n h n [007]
 have G_d:=ok_d T (pl (k+2) (by lia))
 have A1:=ok_d T (pl (k+1) (by lia))
 have A0:=ok_d T (pl k (by lia))
 have G_L:=ok_L T A1
 have G_ae:=ok_ae T A1 G2
 have pt:=ok_m T A0
 have G_af:=ok_af T pt
 have G_ag:=ok_ag T A0 pt
 refine T.d_K.F.ok sc_K [04] [03]
 ·obtain⟨s,n,v,M,rfl,_⟩:=h
  rfl
 ·obtain⟨s,n,v,M,rfl,hs,_,hf,hn,hl,hQ⟩:=h
  refine⟨_,(ae (aZ (bd (aY cb (by rfl) T.n_isinstance boot_isinstance (aa (pv 0) (aa (de (by rfl) T.mg_Let) af)))) (ai (ay (bh bI (bh bI (be (aa ax (aa [07] (aa ax af)))) [036]) [025]))) aG)
    (ae (aZ (bd (aY cb (by rfl) T.n_isinstance boot_isinstance (aa (pv 0) (aa (de (by rfl) T.mg_For) af)))) (ai (ay (bh bI (bh bI [025] (al G_L [01] (by rfl) T.d_L.c aQ [009])) (al G_v [01] (by rfl) T.d_v.c aQ (aa [07] [002]))))) aG)
    (ae (aZ (bd (aY cb (by rfl) T.n_isinstance boot_isinstance (aa (pv 0) (aa (de (by rfl) T.mg_If) af)))) (ai (ay (al G_ae [01] (by rfl) T.d_ae.c aQ [012]))) aG)
    (ae (aZ (bd (aY cb (by rfl) T.n_isinstance boot_isinstance (aa (pv 0) (aa (de (by rfl) T.mg_Step) af)))) (ai (ay (al G_af [01] (by rfl) T.d_af.c aQ [009]))) aG)
    (ai (ay (al G_ag [01] (by rfl) T.d_ag.c aQ [009]))))))),?_⟩
  cases s with
  |bind x e=>
   unfold bu at hs
   obtain⟨u,⟨p,dx,rfl,_,z⟩,h1⟩:=hs
   rw[frS] at hf
   rw[gI] at hl hQ
   rw[005]
   refine cz I (i:=7) (j:=7) rfl rfl z rfl [058] (fun h=>absurd rfl h)
   refine dg (Fr.eq (bS (bS (j2_ (ps:=[tx "let ",sb x,tx " = "]) (aq cj (aq (cG (bG rfl) z T.cl_Let T.no_Let_name rfl) (aq cj aM))) rfl wc_) (fun H1 s1=>dW h1 s1 (by lia) (by lia) (aq (cG (bG rfl) [0004] T.cl_Let T.no_Let_exp rfl) aM)) ?_) (fun H1 s1=>fk (p:=tx ";") (aq cj aM)) ?_) (by simp only[rgF,List.append_assoc,List.cons_append,List.nil_append])) hQ
   ·simp only[List.length_append,List.length_cons,List.length_nil];lia
   ·simp only[List.length_append,List.length_cons,List.length_nil];lia
  |loop x lo hi l=>
   unfold bu at hs
   obtain⟨u1,u2,q,us,⟨p,dx,rfl,_,z⟩,h1,h2,h3,h4⟩:=hs
   rw[frS] at hf hn
   obtain⟨f1,f'⟩:=fm2 hf
   obtain⟨f2,f3⟩:=fm2 f'
   have k2:=Nat.le_max_right (3+fr lo) (max (3+fr hi) (1+frB l))
   have k3:=Nat.le_max_right (3+fr hi) (1+frB l)
   rw[gI] at hl hQ
   have lr:(rgF x lo hi).length=3+(xF lo).length+(xF hi).length:=by
    simp only[rgF,List.length_cons,List.length_append];lia
   rw[005]
   refine cz I (i:=8) (j:=7) rfl rfl z rfl [041] [058]
   refine cz I (i:=8) (j:=8) rfl rfl z rfl [058] (fun h=>absurd rfl h)
   refine dg (Fr.eq (bS (bS (fk (p:=tx "for ") (aq cj aM)) (fun H1 s1=>di (ps:=rgF x lo hi) [040] fun Q1 q1=>⟨x,lo,hi,p,_,_,_,u1,u2,M,rfl,s1 _ _ z,T.cl_For,T.no_For_name,T.no_For_first,T.no_For_last,rfl,rfl,rfl,ao.keep (aW.keeps s1) _ h1,ao.keep (aW.keeps s1) _ h2,by lia,by lia,by lia,q1⟩) ?_)
    (fun H1 s1=>fr_br h3 h4 s1 (by lia) (by lia) (by lia) (aq (cG (bG rfl) [0004] T.cl_For T.no_For_statements rfl) [040])) ?_) (by simp only[rgF,List.append_assoc,List.cons_append,List.nil_append])) hQ
   ·simp only[List.length_append,List.length_cons,List.length_nil];lia
   ·simp only[List.length_append,List.length_cons,List.length_nil];lia
  |cond c x y=>
   have hs':=hs
   unfold bu at hs'
   obtain⟨u,q,us,g,ws,⟨p,dx,rfl,_,z⟩,_⟩:=hs'
   refine cz I (i:=9) (j:=7) rfl rfl z rfl [041] [058]
   refine cz I (i:=9) (j:=8) rfl rfl z rfl [041] [058]
   refine cz I (i:=9) (j:=9) rfl rfl z rfl [058] (fun h=>absurd rfl h)
   exact dg (di (aq (bG rfl) [040]) fun Q1 q1=>⟨_,n,_,M,rfl,hs,⟨c,x,y,rfl⟩,hf,hn,hl,q1⟩) hQ
  |step b z' q p' t m=>
   have hs':=hs
   unfold bu at hs'
   obtain⟨u1,u2,u3,u4,u5,⟨p,dx,rfl,_,z⟩,_⟩:=hs'
   refine cz I (i:=10) (j:=7) rfl rfl z rfl [041] [058]
   refine cz I (i:=10) (j:=8) rfl rfl z rfl [041] [058]
   refine cz I (i:=10) (j:=9) rfl rfl z rfl [041] [058]
   refine cz I (i:=10) (j:=10) rfl rfl z rfl [058] (fun h=>absurd rfl h)
   exact dg (di [040] fun Q1 q1=>⟨_,n,_,M,rfl,hs,⟨hf,_,_,_,_,_,_,rfl⟩,hl,q1⟩) hQ
  |block nm b z' p' x q u g=>
   have hs':=hs
   unfold bu at hs'
   obtain⟨u1,u2,u3,u4,⟨p,dx,rfl,_,z⟩,_⟩:=hs'
   refine cz I (i:=11) (j:=7) rfl rfl z rfl [041] [058]
   refine cz I (i:=11) (j:=8) rfl rfl z rfl [041] [058]
   refine cz I (i:=11) (j:=9) rfl rfl z rfl [041] [058]
   refine cz I (i:=11) (j:=10) rfl rfl z rfl [041] [058]
   exact dg (di [040] fun Q1 q1=>⟨_,n,_,M,rfl,hs,⟨hf,_,_,_,_,_,_,_,_,rfl⟩,hl,q1⟩) hQ
end
end
section
open Vbemac (Bytes Exp Exps Rest strength Stmts commas text)
theorem lsL_app (n:Nat) (x y:List Stm):lsL n (x++y)=lsL n x++lsL n y:=List.flatMap_append
section
variable {k:Nat}
theorem fr_st {M:Addr->Prop}{H H':Hp}{E:XK}{ta:TA}{σ:L2.St}{s:Stm}{n:Nat}{v:V}(hs:bu a M H s v) (sm:aW H H') (hf:frS s<=k) (hn:n+frS s<=300) (hl:(gI n s).length<=sizeLine) (h:Evs ta σ H' [v, .int (n:Nat)]):Fr (yo_ (spS2 a k fun _=>True) [] E ta) σ H' (gI n s):=di h fun Q q=>⟨s,n,v,M,rfl,bu.keep2 (aW.keeps sm).two s hs,trivial,hf,hn,hl,q⟩
theorem ev_rep {te:TE}{σ:L2.St}{H:Hp}{n:Nat}(h:Ev te σ H (.int (n:Nat))) (hn:n<=300):Ev (tOp (fun x y H Q=> ∃n:Nat,x= .str (tx "  ")/\y= .int (n:Nat)/\n<=300/\Q (.str (gu n)) H) (tC (.str (tx "  "))) te) σ H (.str (gu n)):=fun Q q=>h _ ⟨n,rfl,rfl,hn,q⟩
theorem ev_suc {te:TE}{σ:L2.St}{H:Hp}{n:Nat}(h:Ev te σ H (.int (n:Nat))):Ev (tOp (rI0 fun i j=> .int (i+j)) te (tC (.int 1))) σ H (.int ((n+1:Nat):Int)):=ev_op h cj
theorem ok_v (T:Txt K mg a) (G_K:aJ P w K mg base dE k a.f_K a.fd_K ["statement","depth"] (spS2 a k fun _=>True)):BrOk P w K mg base a (k+1):=by
 refine T.d_v.F.ok sc_v [04] [03]
 ·obtain⟨l,n,v,us,M,rfl,_⟩:=h
  rfl
 ·obtain⟨l,n,v,us,M,rfl,⟨q,rfl,_,z⟩,hs,hf,hn,hl,hQ⟩:=h
  refine⟨_,(ae (aE (i:=2) sc_v.nd rfl [05] [025])
    (ae (gX PassesOwn.never rfl (fX (pv 0)) (dS (i:=3) sc_v.nd rfl [05]) (ae (au (cr PySem.F.plainAttrs_list PySem.F.slot_list_append PySem.F.type_list_append bR (pv 2) (aa (bh op_repS ax (bh dq (pv 1) aU)) af)))
    (ae (au (cr PySem.F.plainAttrs_list PySem.F.slot_list_extend PySem.F.type_list_extend bX (pv 2) (aa (al G_K [01] (by rfl) T.d_K.c aQ (aa (pv 3) (aa (bh dq (pv 1) aU) af))) af)))
    (ai (au (cr PySem.F.plainAttrs_list PySem.F.slot_list_append PySem.F.type_list_append bR (pv 2) (aa ax af)))))))
    (ae (au (cr PySem.F.plainAttrs_list PySem.F.slot_list_append PySem.F.type_list_append bR (pv 2) (aa (bh op_repS ax (pv 1)) af)))
    (ae (au (cr PySem.F.plainAttrs_list PySem.F.slot_list_append PySem.F.type_list_append bR (pv 2) (aa ax af)))
    (ai (ay (pv 2))))))),?_⟩
  unfold brF at hl hQ
  rw[lsL_of] at hl hQ
  rw[005]
  obtain⟨nn,gt⟩:=hs.get
  have fb:=frB_ge l
  refine gH (fk (p:=tx " {\n") (aq cj aM)) fun H1 L g1=>?_
  refine⟨q,rfl,⟨_,cK.of (g1.sm _ _ z)⟩,ga (xs:=us) (fun i σ' H'=> ∃x d r,σ'=[some (.ref q),some (.int n),some (.ref L),x]/\sl l=d++r/\d.length=i/\eB H L H' (tx " {\n"::lsL (n+1) d)) ⟨_,[],sl l,rfl,rfl,rfl,g1⟩ ?_ ?_ ?_⟩
  ·rintro i σ' H' hi ⟨x,d,r,rfl,_,_,g⟩
   exact cK.of (g.sm _ _ z)
  ·rintro i u σ' H' hu ⟨x,d,r,rfl,ed,dl,g⟩
   obtain⟨s,h1,h2,h3⟩:=gt i u hu
   obtain⟨r',rfl⟩: ∃r',r=s::r':=by
    rw[ed,<-dl,List.getElem?_append_right [007],Nat.sub_self] at h1
    cases r with
    |nil=>cases h1
    |cons y r'=>cases h1;exact⟨r',rfl⟩
   rw[ed,lsL_app,List.length_append,show lsL (n+1) (s::r')=(gu (n+1)::(gI (n+1) s++[tx "\n"]))++lsL (n+1) r' from rfl] at hl
   rw[005]
   refine yn_ (p:=gu (n+1)) g rfl (ev_rep (n:=n+1) (ev_suc (bG rfl)) (by lia)) (by simp only[List.length_cons];lia) fun H2 g2=>?_
   refine eW g2 rfl (fr_st (n:=n+1) h2 g2.sm (by lia) (by lia) (by lia) (aq (bG rfl) (aq (ev_suc (bG rfl)) aM))) (by simp only[List.length_cons,List.length_append,List.length_nil];lia) fun H3 g3=>?_
   refine gr_app (p:=tx "\n") g3 rfl cj (by simp only[List.length_cons,List.length_append,List.length_nil];lia) fun H4 g4=>⟨_,d++[s],r',rfl,by rw[ed];simp,by simp [dl],?_⟩
   have:lsL (n+1) (d++[s])=lsL (n+1) d++(gu (n+1)::(gI (n+1) s++[tx "\n"])):=by
    rw[lsL_app]
    show _++((gu (n+1)::(gI (n+1) s++[tx "\n"]))++[])=_
    rw[List.append_nil]
   rw[this]
   simp only[List.append_assoc,List.cons_append,List.nil_append] at g4 ⊢
   exact g4
  ·rintro σ' H' ⟨x,d,r,rfl,ed,dl,g⟩
   have:r=[]:=by
    have:=congrArg List.length ed
    rw[List.length_append] at this
    exact List.eq_nil_of_length_eq_zero (by lia)
   subst this
   rw[List.append_nil] at ed
   rw[ed] at hQ hl
   refine yn_ (p:=gu n) g rfl (ev_rep (bG rfl) (by lia)) (by simp only[List.length_cons];lia) fun H2 g2=>?_
   refine yn_ (p:=tx "}") g2 rfl cj (by simp only[List.length_cons,List.length_append,List.length_nil];lia) fun H3 g3=>?_
   simp only[List.append_assoc,List.cons_append,List.nil_append] at g3
   exact(g3.end_ hQ)
theorem st_no {vs:List V}{H:Hp}{Q:VK}{E:XK}{ok:Stm->Prop}(hk:k<4) (h:spS2 a k ok vs H Q E):False:=by
 obtain⟨s,n,v,M,rfl,_,_,hf,_⟩:=h
 have:=frS_ge s
 lia
theorem st_small (hk:k<4):aJ P w K mg base dE k a.f_K a.fd_K ["statement","depth"] (spS2 a k fun _=>True):=by
 constructor<;>intros<;>exact(st_no hk (by assumption)).elim
theorem br_no {vs:List V}{H:Hp}{Q:VK}{E:XK}(h:spBf a 0 vs H Q E):False:=by
 obtain⟨l,n,v,us,M,rfl,_,_,hf,_⟩:=h
 have:=frB_ge l
 lia
theorem j3r_:BrOk P w K mg base a 0:=by
 constructor<;>intros<;>exact(br_no (by assumption)).elim
theorem br_all (T:Txt K mg a) (I:NdK K a): ∀n,n<=890-> ∀k,k<=n->BrOk P w K mg base a k
 |0,_,k,hk=>by
  obtain rfl:k=0:=by lia
  exact j3r_
 |n+1,h,0,hk=>j3r_
 |n+1,h,m+1,hk=>by
  refine ok_v T ?_
  by_cases h4:m<4
  ·exact st_small h4
  ·obtain⟨j,rfl⟩: ∃j,m=j+4:=⟨m-4,by lia⟩
   exact ok_K T I (by lia) (br_all T I n (by lia) (j+3) (by lia)) (br_all T I n (by lia) (j+2) (by lia))
end
theorem sb_app (x y:Bytes):sb (x++y)=sb x++sb y:=by
 show Str.mk _=Str.mk _
 rw[List.map_append,<-List.append_toArray]
 rfl
theorem j5c_: ∀ps:List Bytes,Str.join (tx ", ") (ps.map sb)=sb (commas ps)
 |[]=>rfl
 |[x]=>by
  show sb x=sb (x++[])
  rw[List.append_nil]
 |x::y::l=>by
  rw[ik,sb_app,sb_app,<-j5c_ (y::l),show sb (text ", ")=tx ", " by decide+kernel]
  show sb x++tx ", "++Str.join (tx ", ") ((y::l).map sb)=_
  apply TL.ext_tl
  rw[TL.tl_append,TL.tl_append,TL.tl_append,TL.tl_append,List.append_assoc]
theorem com_sum: ∀ps:List Bytes,((ps.map sb).map (·.length)).sum+ps.length*2<=(sb (commas ps)).cps.size+2
 |[]=>Nat.zero_le _
 |[x]=>by
  show(sb x).length+0+1*2<=(sb (x++[])).cps.size+2
  rw[List.append_nil]
  exact Nat.le_refl _
 |x::y::l=>by
  have i:=com_sum (y::l)
  rw[ik]
  rw[List.map_cons,List.map_cons,List.sum_cons,List.length_cons]
  have e: ∀b:Bytes,(sb b).cps.size=b.length:=fun b=>by
   show(b.map UInt8.toNat).toArray.size=_
   rw[List.size_toArray,List.length_map]
  have e':(sb x).length=x.length:=e x
  rw[e] at i ⊢
  have:(text ", ").length=2:=by decide+kernel
  rw[e',List.length_append,List.length_append]
  lia
end
section
open Vbemac (Bytes Exp Exps Rest strength Stmts commas text)
inductive spTF (a:cu) (vs:List V) (H:Hp) (Q:VK) (_E:XK):Prop
 |mk (s:Vbemac.Top) (v:V) (M:Addr->Prop) (_:vs=[v]) (_:gW a M H s v) (_:frT s<=273) (_:mS (tpF s)<=300000) (_:Nw H (tpF s) Q):spTF a vs H Q _E
section
variable {k:Nat}
theorem set_ev {te:TE}{σ:L2.St}{H:Hp}{v:V}{i:Nat}{u:TS}{Z:fi}(h:Ev te σ H v) (q:u Z (σ.set i (some v)) H):tSeq (tAsg te (gName i)) u Z σ H:=h _ q
theorem fS {n:Nat}(h:n<=300000):n<=sizeLine:=Nat.le_trans h [06]
theorem ok_ad (T:Txt K mg a) (I:NdK K a):aJ P w K mg base dE 274 a.f_ad a.fd_ad ["top"] (spTF a):=by
 have G_d:AnyOk P w K mg base a 272:=ok_d T (j0q_ T I 272 [06] 272 [06])
 have G_v:BrOk P w K mg base a 273:=br_all T I 273 [06] 273 [06]
 refine T.d_ad.F.ok sc_ad [04] [03]
 ·obtain⟨s,v,M,rfl,_⟩:=h
  rfl
 ·obtain⟨s,v,M,rfl,hs,hf,hm,hQ⟩:=h
  refine⟨_,(ae (aZ (bd (aY cb (by rfl) T.n_isinstance boot_isinstance (aa (pv 0) (aa (de (by rfl) T.mg_Const) af)))) (ai (ay (bh bI (bh bI (be (aa ax (aa [07] (aa ax af)))) [036]) [025]))) aG)
    (ae (aZ (bd (aY cb (by rfl) T.n_isinstance boot_isinstance (aa (pv 0) (aa (de (by rfl) T.mg_Fun) af)))) (ae (aE (i:=1) sc_ad.nd rfl [05] (pe_join ax [07]))
    (ai (ay (bh bI (bh bI (be (aa ax (aa [07] (aa ax (aa (pv 1) (aa ax af)))))) [036]) [025])))) aG)
    (ai (ay (bh bI (bh bI (be (aa ax [019])) (al G_v [01] (by rfl) T.d_v.c aQ (aa [07] (aa aU af)))) [025]))))),?_⟩
  have hl:=Nat.le_trans (mS_len (tpF s)) hm
  cases s with
  |const x e=>
   obtain⟨u,⟨p,dx,rfl,_,z⟩,h1⟩:=hs
   rw[frT] at hf
   rw[tpF] at hl hQ
   rw[005]
   refine cz I (i:=12) (j:=12) rfl rfl z rfl [058] (fun h=>absurd rfl h)
   refine dg (Fr.eq (bS (bS (j2_ (ps:=[tx "const ",sb x,tx " = "]) (aq cj (aq (cG (bG rfl) z T.cl_Const T.no_Const_name rfl) (aq cj aM))) rfl wc_) (fun H1 s1=>dW h1 s1 (by lia) (fS (by lia)) (aq (cG (bG rfl) [0004] T.cl_Const T.no_Const_exp rfl) aM)) ?_) (fun H1 s1=>fk (p:=tx ";\n") (aq cj aM)) ?_) (by simp only[List.append_assoc,List.cons_append,List.nil_append])) hQ
   all_goals simp only[List.length_append,List.length_cons,List.length_nil];exact fS (by lia)
  |func x ps e=>
   obtain⟨q,u,⟨p,dx,rfl,_,z⟩,⟨q',rfl,_,zq⟩,h1⟩:=hs
   rw[frT] at hf
   have hc:(sb (commas ps)).cps.size<=300000:=by
    rw[tpF,aB,aB,aB,aB] at hm
    lia
   rw[tpF] at hl hQ
   rw[005]
   refine cz I (i:=13) (j:=12) rfl rfl z rfl [041] [058]
   refine cz I (i:=13) (j:=13) rfl rfl z rfl [058] (fun h=>absurd rfl h)
   refine set_ev (v:= .str (sb (commas ps))) (fun Q1 q1=>⟨⟨_,rfl⟩,(cG (bG rfl) z T.cl_Fun T.no_Fun_parameters rfl:Ev (wo_ K (d9 0) "parameters") _ H (.ref q')) _ ⟨_,q',ps.map sb,rfl,rfl, .inl ?_,?_,?_⟩⟩) ?_
   ·rw[List.map_map]
    exact cK.of zq
   ·have:=com_sum ps
    rw[List.length_map]
    show _+_*2<=_
    lia
   ·unfold PySem.Txt.join
    rw[StrLaws.glued_eq_join]
    have:=j5c_ ps
    rw[show Str.join _ (ps.map sb)=_ from this]
    exact q1
   refine dg (Fr.eq (bS (bS (j2_ (ps:=[tx "fun ",sb x,tx "(",sb (commas ps),tx ") = "]) (aq cj (aq (cG (bG rfl) z T.cl_Fun T.no_Fun_name rfl) (aq cj (aq (bG rfl) (aq cj aM))))) rfl (by show 5<=sizeLine;decide)) (fun H1 s1=>dW h1 s1 (by lia) (fS (by lia)) (aq (cG (bG rfl) [0004] T.cl_Fun T.no_Fun_exp rfl) aM)) ?_) (fun H1 s1=>fk (p:=tx ";\n") (aq cj aM)) ?_) (by simp only[List.append_assoc,List.cons_append,List.nil_append])) hQ
   all_goals simp only[List.length_append,List.length_cons,List.length_nil];exact fS (by lia)
  |desk x l=>
   obtain⟨q,us,⟨p,dx,rfl,_,z⟩,h1,h2⟩:=hs
   rw[frT] at hf
   rw[tpF] at hl hQ
   have hl:(tx "desk "::sb x::(brF 0 (lsF (0+1) l)++[tx "\n"])).length<=300000:=hl
   rw[005]
   refine cz I (i:=14) (j:=12) rfl rfl z rfl [041] [058]
   refine cz I (i:=14) (j:=13) rfl rfl z rfl [041] [058]
   refine dg (Fr.eq (bS (bS (j2_ (ps:=[tx "desk ",sb x]) (aq cj (aq (cG (bG rfl) z T.cl_Desk T.no_Desk_name rfl) aM)) rfl two_le) (fun H1 s1=>fr_br (n:=0) h1 h2 s1 (by lia) (by lia) (fS (by lia)) (aq (cG (bG rfl) [0004] T.cl_Desk T.no_Desk_statements rfl) (aq cj aM))) ?_) (fun H1 s1=>fk (p:=tx "\n") (aq cj aM)) ?_) (by simp only[List.append_assoc,List.cons_append,List.nil_append])) hQ
   all_goals simp only[List.length_append,List.length_cons,List.length_nil];exact fS (by lia)
end
end
section
open Vbemac (Bytes Toks tokens bytesOf)
structure XS (K:PySem.W.Frag) (a:cu):Prop extends XT K a where
 x_NotAsTold:gm K a.c_Refusal a.c_NotAsTold a.f_aq
def Rfs (C:Addr) (E:XK) (H:Hp) (c:Int):Prop:= ∀d,H d=none->E (.ref C) (some d) (bg H d (cQ d (num1 c)))
def gC (c:Int):List V->List (Str×V)->Prop:=fun us fs=>us=[]/\fs=num1 c
theorem vw_ (zs:List Int):(dL zs).length=zs.length:=List.length_map _
theorem j3f_ (x y:List Int):dL (x++y)=dL x++dL y:=List.map_append
def NwI (H:Hp) (zs:List Int) (Q:VK):Prop:= ∀(H':Hp) (p:Addr),aW H H'->H p=none->H' p=some (.lst (dL zs))->Q (.ref p) H'
inductive spBy (vs:List V) (H:Hp) (Q:VK) (_E:XK):Prop
 |mk (l:Addr) (ps:List Str) (_:vs=[.ref l]) (_:H l=some (.lst (fz ps))) (_:mS ps<=300000) (_:NwI H (bF ps) Q):spBy vs H Q _E
inductive spRow (vs:List V) (H:Hp) (Q:VK) (_E:XK):Prop
 |mk (l:Addr) (zs:List Int) (_:vs=[.ref l]) (_:H l=some (.lst (dL zs))) (_:zs.length<=300000) (_:NwI H (Vbemac.row zs) Q):spRow vs H Q _E
inductive spShF (a:cu) (vs:List V) (H:Hp) (Q:VK) (_E:XK):Prop
 |mk (l:Addr) (us:List V) (ss:List Vbemac.Top) (M:Addr->Prop) (_:vs=[.ref l]) (_:H l=some (.lst us)) (_:TopL a M H ss us) (_: ∀s∈ss,frT s<=273) (_:mS (shF ss)<=300000) (_:NwI H (bF (shF ss)) Q):spShF a vs H Q _E
theorem lc_str {x:Str}{g:TG}{tt:TT}{te:TE}{vs:List Nat}{σ:L2.St}{H1:Hp}{D:Addr}{Qd:Hp->Prop}(Pv:Nat->Hp->Prop) (h0:Pv 0 (bg H1 D (.lst [])))
  (hs: ∀i c H,x.cps[i]?=some c->Pv i H->g (.str ⟨#[c]⟩) (e9 σ vs) H fun σ2 H2=>e9 σ2 vs=e9 σ vs/\tt σ2 H2 fun b H3=>
   if b=true then te σ2 H3 fun y H4=> ∃acc,H4 D=some (.lst acc)/\acc.length<sizeLine/\Pv (i+1) (bg H4 D (.lst (acc++[y]))) else Pv (i+1) H3) (hd: ∀H,Pv x.cps.size H->Qd H):
  ∃W:Nat->Nat->Hp->Prop,(∃m,W 0 m (bg H1 D (.lst [])))/\ ∀i m H,W i m H->
   ((Its x).stop i H/\Qd H)\/((Its x).go i H/\ ∃Nx:Hp->Prop,(∀H',Nx H'-> ∃m',m'<m/\W (i+1) m' H')/\ ∀v H',(Its x).yld i H v H'->g v (e9 σ vs) H' fun σ2 H2=>e9 σ2 vs=e9 σ vs/\tt σ2 H2 fun b H3=>
    if b=true then te σ2 H3 fun y H4=> ∃acc,H4 D=some (.lst acc)/\acc.length<sizeLine/\Nx (bg H4 D (.lst (acc++[y]))) else Nx H3):=by
 refine⟨fun i m H=>m=x.cps.size-i/\i<=x.cps.size/\Pv i H,⟨_,rfl,Nat.zero_le _,h0⟩,?_⟩
 rintro i m H ⟨rfl,hi,p⟩
 by_cases hlt:i<x.cps.size
 ·refine .inr ⟨hlt,Pv (i+1),fun H' p'=>⟨x.cps.size-(i+1),by lia,rfl,hlt,p'⟩,fun v H' y=>?_⟩
  obtain⟨rfl,c,hc,rfl⟩:=y
  exact hs i c _ hc p
 ·have e:i=x.cps.size:=by lia
  subst e
  exact .inl ⟨Nat.le_refl _,hd H p⟩
theorem bF_take {ps:List Str}{i:Nat}{p:Str}(h:ps[i]?=some p):bF (ps.take (i+1))=bF (ps.take i)++bO p:=by
 rw[List.take_succ,h,bH]
 show _++(bO p++[])=_
 rw[List.append_nil]
theorem bF_tl (ps:List Str) (i:Nat):(bF (ps.take i)).length<=mS ps:=by
 refine Nat.le_trans (bF_len _) ?_
 have:=bz (ps.take i) (ps.drop i)
 rw[List.take_append_drop] at this
 lia
section
variable {k:Nat}
theorem yr_ (T:Txt K mg a) (XC:XS K a):aJ P w K mg base dE 2 a.f_aq a.fd_aq ["self"] (js_ a.c_NotAsTold (gC (-1))):=by
 have G_aj:=gQ (P:=P) (w:=w) (base:=base) T XC.x_NotAsTold
 refine T.d_aq.F.ok sc_aq [04] [03]
 ·obtain⟨p,us,fs,rfl,⟨rfl,rfl⟩,_⟩:=h
  rfl
 ·obtain⟨p,us,fs,rfl,⟨rfl,rfl⟩,hp,q⟩:=h
  exact⟨_,(ai (au (j3z_ (by rfl) T.mg_Refusal XC.rm G_aj [01] T.d_aj.c.b .nil aQ (aa (pv 0) (aa (pe_un un_neg aU) af))))),_,rfl,p,_,num1 (-1),rfl,⟨-1,rfl,rfl⟩,hp,q⟩
inductive spNeedT (a:cu) (vs:List V) (H:Hp) (Q:VK) (E:XK):Prop
 |mk (x:Bool) (_:vs=[.bl x]) (_:(x=true->Q .non H)) (_:(x=false->Rfs a.c_NotAsTold E H (-1))):spNeedT a vs H Q E
theorem ok_ao (T:Txt K mg a) (XC:XS K a):aJ P w K mg base (cH P w) 4 a.f_ao a.fd_ao ["as_told"] (spNeedT a):=by
 have G_aq:=yr_ (P:=P) (w:=w) (base:=base) T XC
 refine fh T.d_ao.F sc_ao [04] [03]
 ·obtain⟨x,rfl,_⟩:=h
  rfl
 ·obtain⟨x,rfl,h1,h2⟩:=h
  refine⟨_,(ai (aZ (eS (bd (pv 0))) (ai (j6e_ j0l_ XC.x_NotAsTold G_aq [01] (by rfl) T.mg_NotAsTold T.d_aq.c.b)) aG)),?_⟩
  refine [016]
  cases x with
  |true=>exact cR (h1 rfl)
  |false=>exact dQ ⟨by show 0<=9;decide,_,⟨rfl,rfl⟩,h2 rfl⟩
theorem ok_ap (T:Txt K mg a):aJ P w K mg base dE 1 a.f_ap a.fd_ap ["numbers"] spRow:=by
 refine T.d_ap.F.ok sc_ap [04] [03]
 ·obtain⟨l,zs,rfl,_⟩:=h
  rfl
 ·obtain⟨l,zs,rfl,z,hm,hQ⟩:=h
  refine⟨_,(ai (ay (bh bI (be (aa [062] af)) (pv 0)))),?_⟩
  refine⟨l,_,rfl, .inl (cK.of z),by show 1<=sizeLine;decide,fun p hp=>⟨p,l,_,_,rfl,rfl,ah,by rw[ag (aD z hp)];exact z,?_,fun p' hp'=>hQ _ p' ((bf hp).trans (bf hp')) (f7 (bf hp) hp') ?_⟩⟩
  ·show 1+(dL zs).length<=_
   rw[vw_]
   exact Nat.le_trans (Nat.add_le_add_left hm 1) [06]
  ·rw[ah,vw_]
   rfl
theorem ok_H (T:Txt K mg a):aJ P w K mg base dE 1 a.f_H a.fd_H ["pieces"] spBy:=by
 refine T.d_H.F.ok sc_H [04] [03]
 ·obtain⟨l,ps,rfl,_⟩:=h
  rfl
 ·obtain⟨l,ps,rfl,z,hm,hQ⟩:=h
  refine⟨_,(ae (aE (i:=1) sc_H.nd rfl [05] (be af))
    (ae (gX PassesOwn.never rfl (fX (pv 0)) (dS (i:=2) sc_H.nd rfl [05]) (ai (aZ (bv dw (pv 2) ax (bx _)) (ai (au (cr PySem.F.plainAttrs_list PySem.F.slot_list_append PySem.F.type_list_append bR (pv 1) (aa (bN (by rfl) T.g_REST_BYTE) af)))) (ai (au (cr PySem.F.plainAttrs_list PySem.F.slot_list_extend PySem.F.type_list_extend bX (pv 1) (aa (pe_lc rfl sc_H.nd (pi_str (pv 2)) (own:=[("letter",3)]) (j13_ (by show blkC ["pieces","found","piece","letter"] (ak s_H) _ [("letter",3)]=true;decide+kernel)) (fun _ _ _ _ _=>dS (i:=3) sc_H.nd rfl [05]) (fun _ _ _ _ _=>j2y_) (fun _ _ _ _ _=>(aY call_ord (by rfl) T.n_ord boot_ord (aa (pv 3) af)))) af)))))))
    [069])),?_⟩
  refine⟨by show 0<=sizeLine;decide,fun L hL=>?_⟩
  have hn: ∀i,(dL (bF (ps.take i))).length<=300000:=fun i=>by rw[vw_];exact Nat.le_trans (bF_tl ps i) hm
  refine⟨l,rfl,⟨_,cK.of (bf hL _ _ z)⟩,ga (xs:=fz ps) (fun i σ' H'=> ∃x,σ'=[some (.ref l),some (.ref L),x,none]/\aW H H'/\H' L=some (.lst (dL (bF (ps.take i))))) ⟨_,rfl,bf hL,ah⟩ ?_ ?_ ?_⟩
  ·rintro i σ' H' hi ⟨x,rfl,s1,_⟩
   exact cK.of [0004]
  ·rintro i u σ' H' hu ⟨x,rfl,s1,zL⟩
   rw[List.getElem?_map] at hu
   obtain⟨p,hp,rfl⟩:=Option.map_eq_some_iff.mp hu
   have tk:=bF_take hp
   have s2: ∀ {H2:Hp}{o:HO},aW H' H2->aW H (bg H2 L o):=fun s b o' e=>by
    rw[ag (aD e hL)]
    exact s _ _ (s1 _ _ e)
   have hi:=hn (i+1)
   rw[tk,j3f_,List.length_append] at hi
   refine [060]
   by_cases e:p=qb_
   ·have b1:bO p=[37]:=if_pos e
    rw[b1] at tk hi
    refine hZ (decide_eq_true (by rw[e];rfl)) ?_
    refine⟨.inl ⟨rfl,_,cK.of zL⟩,L,_,_,rfl,rfl,zL,?_,⟨_,rfl,s2 aW.rfl,?_⟩⟩
    ·exact Nat.lt_of_lt_of_le (show(dL (bF (ps.take i))).length<300000 by have:(dL [37]).length=1:=rfl;lia) [06]
    ·rw[ah,tk,j3f_]
     rfl
   ·have b1:bO p=p.cps.toList.map Int.ofNat:=if_neg e
    rw[b1] at tk hi
    have le:(dL (p.cps.toList.map Int.ofNat)).length=p.cps.size:=by rw[vw_,List.length_map];rfl
    refine jk_ (decide_eq_false (fun z=>e (by injection z))) ?_
    refine⟨.inl ⟨rfl,_,cK.of zL⟩,p,rfl,fun D hD=>lc_str (fun j H2=>aW H' H2/\H2 D=some (.lst (dL ((p.cps.toList.take j).map Int.ofNat)))) ⟨bf hD,ah⟩ ?_ ?_⟩
    ·rintro j c H2 hc ⟨s3,zD⟩
     have hj:j<p.cps.size:=(Array.getElem?_eq_some_iff.mp hc).1
     refine⟨rfl,?_⟩
     unfold tYes
     dsimp only
     rw[if_pos rfl]
     refine⟨_,rfl,rfl,_,zD,?_,fun b o e=>?_,?_⟩
     ·rw[vw_,List.length_map,List.length_take]
      exact Nat.lt_of_lt_of_le (show min j p.cps.toList.length<300000 by have:min j p.cps.toList.length<=j:=Nat.min_le_left _ _;lia) [06]
     ·rw[ag (aD e hD)]
      exact s3 _ _ e
     ·rw[ah,List.take_succ,Array.getElem?_toList,hc,List.map_append,j3f_]
      rfl
    ·rintro H2 ⟨s3,zD⟩
     rw[List.take_of_length_le (by show p.cps.toList.length<=_;exact Nat.le_refl _)] at zD
     refine⟨L,D,_,_,rfl,rfl,s3 _ _ zL,zD,fS (by lia),⟨_,rfl,s2 s3,?_⟩⟩
     rw[ah,tk,j3f_]
  ·rintro σ' H' ⟨x,rfl,s1,zL⟩
   rw[List.length_map,List.take_length] at zL
   exact(hQ _ L s1 hL zL)
theorem shF_take {ss:List Vbemac.Top}{i:Nat}{s:Vbemac.Top}(h:ss[i]?=some s):shF (ss.take (i+1))=shF (ss.take i)++tpF s:=by
 unfold shF
 rw[List.take_succ,h,List.flatMap_append]
 show _++(tpF s++[])=_
 rw[List.append_nil]
theorem mS_take (ss:List Vbemac.Top) (i:Nat):mS (shF (ss.take i))<=mS (shF ss):=by
 have:shF ss=shF (ss.take i)++shF (ss.drop i):=by
  unfold shF
  rw[<-List.flatMap_append,List.take_append_drop]
 rw[this,bz]
 lia
theorem ok_2 (T:Txt K mg a) (I:NdK K a):aJ P w K mg base dE 275 a.f_2 a.fd_2 ["tops"] (spShF a):=by
 have G_ad:=ok_ad (P:=P) (w:=w) (base:=base) T I
 have G_H:=ok_H (P:=P) (w:=w) (base:=base) T
 refine T.d_2.F.ok sc_2 [04] [03]
 ·obtain⟨l,us,ss,M,rfl,_⟩:=h
  rfl
 ·obtain⟨l,us,ss,M,rfl,z,tl,hf,hm,hQ⟩:=h
  refine⟨_,(ae (aE (i:=1) sc_2.nd rfl [05] (be af))
    (ae (gX PassesOwn.never rfl (fX (pv 0)) (dS (i:=2) sc_2.nd rfl [05]) (ai (au (cr PySem.F.plainAttrs_list PySem.F.slot_list_extend PySem.F.type_list_extend bX (pv 1) (aa (al G_ad [01] (by rfl) T.d_ad.c aQ [027]) af)))))
    (ai (ay (al G_H [01] (by rfl) T.d_H.c aQ [002]))))),?_⟩
  refine gH (ps:=[]) (j2_ aM rfl (by show 0<=sizeLine;decide)) fun H1 L g1=>?_
  refine⟨l,rfl,⟨_,cK.of (g1.sm _ _ z)⟩,ga (xs:=us) (fun i σ' H'=> ∃x,σ'=[some (.ref l),some (.ref L),x]/\eB H L H' (shF (ss.take i))) ⟨_,rfl,g1⟩ ?_ ?_ ?_⟩
  ·rintro i σ' H' hi ⟨x,rfl,g⟩
   exact cK.of (g.sm _ _ z)
  ·rintro i u σ' H' hu ⟨x,rfl,g⟩
   obtain⟨s,hs,ht⟩:=j5_ tl hu
   have tk:=shF_take hs
   have m1:=mS_take ss (i+1)
   rw[tk,bz] at m1
   have l1:=mS_len (shF (ss.take i))
   have l2:=mS_len (tpF s)
   refine jn_ g rfl (di (ps:=tpF s) [040] fun Q1 q1=>⟨s,u,M,rfl,gW.keep2 (aW.keeps g.sm).two s ht,hf s (List.mem_of_getElem? hs),by lia,q1⟩) (fS (by lia)) fun H2 g2=>[016]
   rw[tk]
   exact g2
  ·rintro σ' H' ⟨x,rfl,g⟩
   have:ss.take us.length=ss:=by rw[<-gb tl,List.take_length]
   rw[this] at g
   exact⟨L,shF ss,rfl,g.at_,hm,fun H2 p s2 n2 e2=>hQ H2 p (g.sm.trans s2) (f7 g.sm n2) e2⟩
end
end
section
open Vbemac (Bytes Toks tokens bytesOf lex)
inductive j3g_ (K:PySem.W.Frag) (vs:List V) (H:Hp) (Q:VK) (_E:XK):Prop
 |mk (l:Addr) (zs:List Int) (_:vs=[.ref l]) (_:cK K H l (dL zs)) (_:zs.length<=4000) (_: ∀(H':Hp) (p:Addr),H' p=some (.lst (dL (PyVbemac.show_ zs)))->Q (.ref p) H'):j3g_ K vs H Q _E
theorem show_not {zs:List Int}(h:bytesOf zs=none):PyVbemac.show_ zs=[-1]:=by
 show Vbemac.answer [[1],zs]=_
 unfold Vbemac.answer
 rw[show Vbemac.decode [[1],zs]=(bytesOf zs).map Vbemac.Call.show_ from rfl,h]
 rfl
theorem show_is {zs:List Int}{bs:Bytes}(h:bytesOf zs=some bs):PyVbemac.show_ zs=(match Vbemac.read bs with
  | .error _=>[-3]
  | .ok s=>0::Vbemac.row (Vbemac.ints (Vbemac.print s))):=by
 show Vbemac.answer [[1],zs]=_
 unfold Vbemac.answer
 rw[show Vbemac.decode [[1],zs]=(bytesOf zs).map Vbemac.Call.show_ from rfl,h]
 rfl
theorem j7o_ {bs:Bytes}(h:bs.length<=3000):(tokens bs).length<=4000:=by
 have:=dD (bs.length+1) (1,1) bs
 unfold tokens
 lia
section
variable {k:Nat}
theorem W_read {bs:Bytes}{Qo:Vbemac.Sheet->Toks->Prop}{Qe:Nat->Vbemac.Pos->Prop}(ho: ∀ss t,Vbemac.read bs= .ok ss->Qo ss t) (he: ∀e,Vbemac.read bs= .error e->Qe e.1 e.2):W (Vbemac.tops (Vbemac.fuel (tokens bs)) Vbemac.known0 Vbemac.FUNS []) (tokens bs) Qo Qe:=by
 unfold W
 have r:Vbemac.read bs=(match Vbemac.tops (Vbemac.fuel (tokens bs)) Vbemac.known0 Vbemac.FUNS [] (tokens bs) with
  | .error e=> .error e
  | .ok (a,_)=> .ok a):=rfl
 cases e:Vbemac.tops (Vbemac.fuel (tokens bs)) Vbemac.known0 Vbemac.FUNS [] (tokens bs) with
 |error x=>rw[e] at r;exact he x r
 |ok z=>rw[e] at r;exact ho z.1 z.2 r
theorem ok_D (T:Txt K mg a) (XC:XS K a) (I:NdK K a)
  (G_N:aJ P w K mg base (cH P w) 275 a.f_N a.fd_N ["text"] (j32_ K a)):
  aJ P w K mg base dE 276 a.f_D a.fd_D ["text"] (j3g_ K):=by
 have G_1:=ok_1 (P:=P) (w:=w) (base:=base) T
 have G_ao:=ok_ao (P:=P) (w:=w) (base:=base) T XC
 have G_ap:=ok_ap (P:=P) (w:=w) (base:=base) T
 have G_2:=ok_2 (P:=P) (w:=w) (base:=base) T I
 refine T.d_D.F.ok sc_D [04] [03]
 ·obtain⟨l,zs,rfl,_⟩:=h
  rfl
 ·obtain⟨l,zs,rfl,hS,hl,hQ⟩:=h
  refine⟨_,(ae (ps_tryAs (R:=a.c_Refusal) (G:=a.c_Refusal) (i:=2) (fun v od H''=> ∃(C d fI:Addr) (c:Int) (fs:List (Str×V)),v= .ref C/\od=some d/\gm K a.c_Refusal C fI/\PyVbemac.show_ zs=[c]/\H'' d=some (cQ d fs)/\fs.lookup ("number":Str)=some (V.int c)) rfl rfl (fun C d H h=>by obtain⟨_,_,fI,_,_,e,_,x,_⟩:=h;cases e;exact⟨fI,x, .inr rfl⟩) (by rfl) T.mg_Refusal sc_D.nd rfl rfl
     (fun pins Ew PE_=>ae (au (al G_ao [01] (by rfl) T.d_ao.c PE_ (aa (al G_1 [01] (by rfl) T.d_1.c aQ [009]) af)))
      (ai (aE (i:=1) sc_D.nd rfl [05] (al G_N [01] (by rfl) T.d_N.c PE_ [009]))))
     (fun a'=>(ai (ay (be (aa (pe_xfld (K:=K) rfl [02] j12_ (pv 2) (by rfl)) af))))))
    (ai (ay (bh bI (be (aa aU af)) (al G_ap [01] (by rfl) T.d_ap.c aQ (aa (al G_2 [01] (by rfl) T.d_2.c aQ [002]) af)))))),?_⟩
  refine⟨?_,?_⟩
  ·refine⟨l,zs,rfl,hS,hl,fun H1 s1=>⟨_,rfl,fun ht=>?_,fun ht=>?_⟩⟩
   ·obtain⟨bs,eb,ev',hb⟩:=j61_ ht
    have ec:=show_is eb
    refine⟨l,bs,rfl,by rw[ev'];exact s1.seq hS,hb,W_read (fun ss t hr'=>?_) fun e he=>?_⟩
    ·rw[hr'] at ec
     have gt:=j6w_ hr'
     have tn:(tokens bs).length<=4000:=j7o_ hb
     have m1:=gt.ms
     intro H2 L us M s12 H1L nM hL tl
     refine⟨by show 1<=sizeLine;decide,fun p hp=>?_⟩
     have s3:=bf (o:= .lst [.int 0]) hp
     refine⟨L,us,ss,M,rfl,s3 _ _ hL,?_,gt.fr,by lia,fun H4 q s34 nq hq=>?_⟩
     ·exact Paired.mapP tl fun s v h=>gW.keep2 (aW.keeps s3).two s h
     ·rw[gt.bs] at hq
      refine⟨q,_,rfl,hq,?_,fun H5 q' s45 nq' hq'=>?_⟩
      ·rw[<-gt.bs]
       exact Nat.le_trans (bF_len _) (by lia)
      ·refine⟨p,q',_,_,rfl,rfl,s45 _ _ (s34 _ _ ah),hq',?_,fun r hr0=>hQ _ r ?_⟩
       ·show 1+(dL _).length<=_
        rw[vw_,Vbemac.row,List.length_cons]
        have:=bF_len (shF ss)
        rw[gt.bs] at this
        exact fS (by lia)
       ·rw[ec]
        exact ah
    ·intro H2 s12 d hd
     rw[he] at ec
     exact⟨_,d,_,_,_,rfl,rfl,XC.fc,ec,ah,rfl⟩
   ·have hn:=show_not (j59_ ht)
    exact fun d hd=>⟨_,d,_,_,_,rfl,rfl,XC.x_NotAsTold,hn,ah,rfl⟩
  ·rintro C d H2 a' ⟨C',d',fI,c,fs,eC,ed,X1,ec',hd,lk⟩ ha'
   cases ed
   cases eC
   have nd:d≠a':=fun z=>by rw[z,ha'] at hd;cases hd
   have h1:bg H2 a' (yz_ C d a') d=some (cQ d fs):=by rw[ag nd];exact hd
   refine⟨_,_,_,a',d,_,_,X1,rfl,ah,h1,lk,?_⟩
   refine⟨by show 1<=sizeLine;decide,fun p hp=>?_⟩
   refine hQ _ p ?_
   rw[ec']
   exact ah
theorem xs_of {mg:Str->Option Value}{a:cu}(_:Txt K mg a) (c:CMeth K a.c_Refusal "__init__" a.f_aj) (x0:gm K a.c_Refusal a.c_Fault a.f_aG) (x4:gm K a.c_Refusal a.c_NotAsTold a.f_aq):XS K a:=⟨⟨x0,c⟩,x4⟩
def AllT (K:PySem.W.Frag):List Addr->Prop
 |[]=>True
 |C::l=>TyK K C/\AllT K l
theorem j41_ {C:Addr} : ∀ {l:List Addr},AllT K l->C∈l->TyK K C
 |D::l,h,m=>by
  rcases List.mem_cons.mp m with z|z
  ·rw[z];exact h.1
  ·exact j41_ h.2 z
theorem allT_nil:AllT K []:=trivial
theorem ci {C:Addr}{l:List Addr}(h:TyK K C) (t:AllT K l):AllT K (C::l):=⟨h,t⟩
theorem ndk_of {a:cu}(t:AllT K (ncs a)) (kit:((ncs a).map fun C=>(ncs a).map fun D=>PySem.W.kitOne K (.ref C) (.ref D))=(List.range 15).map fun i=>(List.range 15).map fun j=>some (decide (i=j))):NdK K a:=⟨fun C h=>j41_ t h,kit⟩
theorem ok_alls {mg:Str->Option Value}{base:Heap}{a:cu}(T:Txt K mg a) (XC:XS K a) (kS:KdT P w K a.k_SIGNS eO) (kF:KdK P w K a.k_FIRST_FUNCTIONS dU) (KT:KTT K a.k_CHAIN_SIGNS eP) (IL:IsLet K a) (I:NdK K a):
  aJ P w K mg base dE 276 a.f_D a.fd_D ["text"] (j3g_ K):=by
 have E:ExpOk P w K mg base a 150:=(knot T XC.toXT KT 13).1
 have G:=ok_o T XC.toXT [06] E
 have Br:=j72_ T XC.toXT IL [06] E 7
 have Co:=ok_O T XC.toXT [06] G
 have Fu:=ok_z T XC.toXT kF [06] G
 have De:=ok_Z T XC.toXT [06] Br
 have To:=ok_4 T XC.toXT [06] (Co.mono (by decide:152<=175)) (Fu.mono [06]) De
 have Sh:=ok_N T XC.toXT kS kF [06] To
 exact ok_D T XC I (Sh.mono [06])
end
end
end OS
namespace PySem.W.Fast
def tw16267789914020426629:=0
def tw18172199008953836746:=0
def tw2917447879134440984:=0
def tw1460769724685467458:=0
def tw2533426252876940683:=0
def tw16426772881503352303:=0
def tw17634637150320393825:=0
def tw6077951711473378969:=0
def tw6512003276733243784:=0
def tw15712629732053374297:=0
def tw5773789252072069806:=0
def tw6606254269029288341:=0
def tw10640739298183306260:=0
def tw15297922413002892901:=0
def tw3667154466085374570:=0
def tw18128817743779494742:=0
def tw7648693480904146862:=0
def tw2587916358098534966:=0
def tw10000181260504827718:=0
def tw1631596111464972758:=0
def tw3703837732493113810:=0
def tw10541505196030709915:=0
def tw1070775521143117920:=0
def tw13722921834701839807:=0
def tw14091669744088689094:=0
def tw18386220897743473797:=0
def tw15457967276392689032:=0
def tw18265545987062517288:=0
def tw7760637832720957546:=0
def tw10531137880641518551:=0
def tw7930940095219023175:=0
def tw7320956276687999501:=0
def tw16451364800762375205:=0
def tw3240416393817971017:=0
def tw4255523029786932469:=0
def tw347806319083016342:=0
def tw17526019882390627861:=0
def tw13697327519126898902:=0
def tw10934243364959800555:=0
def tw15917446650955131372:=0
def tw1811565850634473192:=0
def tw9665527862903017282:=0
def tw5291081316963106285:=0
def tw11827559333608873237:=0
def tw6723371135293040719:=0
def tw9158376698904299342:=0
def tw5476000563389097807:=0
def tw16796093704938111390:=0
def tw6233686634048295095:=0
def tw176640575216368487:=0
def tw5780233083067618395:=0
def tw1232809501584800334:=0
def tw4960429945887706206:=0
def tw7169104197558924167:=0
def tw11025773388794152569:=0
def tw6242966776130841351:=0
def tw10294385625822273614:=0
def tw15810040904745439664:=0
def tw13739515958873043960:=0
def tw7039099604303406026:=0
def tw3521725441575376008:=0
def tw7165343026560939460:=0
def tw6118562136855239455:=0
def tw2318634532090478751:=0
def tw3438099709465154888:=0
def tw8232352624438312023:=0
def tw3139015173126289354:=0
def tw17361653613957208780:=0
def tw16112583336355656937:=0
def tw157450541599504555:=0
def tw4927514870195111107:=0
def tw17026529660777722104:=0
def tw14832186921945126151:=0
def tw9208531980206450137:=0
def tw4194067335602179119:=0
def tw18182744356433209217:=0
def tw5668597417250577123:=0
def tw7380651694136593502:=0
def tw16830134223110567119:=0
def tw4182224589985762765:=0
def tw785048713224887783:=0
def tw12475684166841230655:=0
def tw13821804182658539155:=0
def tw7811298417087117974:=0
def tw18086047045787307792:=0
def tw2218294211940197968:=0
def tw11724672978301324873:=0
def tw8578753361306093930:=0
def tw4170527675335760089:=0
def tw3664923731361340533:=0
def tw11380677891369693718:=0
def tw11112939433720040353:=0
def tw8383554868972482498:=0
def tw16877461864567366051:=0
def tw7590268386742077167:=0
def tw13122406514951474398:=0
def tw5520818383097634229:=0
def tw736375926265368841:=0
def tw17662352271213443157:=0
def tw2842620689057258858:=0
def tw1044586637006600562:=0
def tw1912233146930284661:=0
def tw4512161226318075533:=0
def tw1209873876559256584:=0
def tw17056771187370775173:=0
def tw3850403278887799628:=0
def tw6089696656723123765:=0
def tw4078869296455409260:=0
def tw4028610036174367648:=0
def tw5743237355274959613:=0
def tw15169652083582322300:=0
def tw42819026651760193:=0
def tw676349136685037189:=0
def tw9744214934766279244:=0
def tw1072765368328525160:=0
def tw16005255895872941034:=0
def tw15100270752998784632:=0
def tw15566748654313861546:=0
def tw1841063679170554722:=0
def tw13703200489158344904:=0
def tw10035226291550887785:=0
def tw1801757597900891482:=0
def tw11324206740606647562:=0
def tw10727103411748273401:=0
def tw14107579393445593959:=0
def tw9483422345248170852:=0
def tw12597234163077962060:=0
def tw8473217390271898582:=0
def tw1506008107028616160:=0
def tw13948066984456675937:=0
def tw10186121203251846337:=0
def tw15029867212013283019:=0
def tw12401666797551157017:=0
def tw17989878267309425200:=0
def tw5059344425619225353:=0
def tw717740735993664013:=0
def tw1401500705429173944:=0
def tw7177024272145999304:=0
def tw7761381787830686310:=0
def tw10738030647537709380:=0
def tw4858558471807880773:=0
def tw17743905484300691416:=0
def tw1119936860118753397:=0
def tw1188850394491666481:=0
def tw13274179483212986981:=0
def tw8382721144273719112:=0
def tw13431531263705437072:=0
def tw11147134642516875462:=0
def tw9507911648247744258:=0
def tw9635235824679955332:=0
def tw7302692279733671927:=0
def tw12413482248692136427:=0
def tw8779927176201461130:=0
def tw1795241124157064989:=0
def tw12303789873075177234:=0
def tw15245942580617938473:=0
def tw5991076244425193408:=0
def tw2939257543387340530:=0
def tw9570086526977983136:=0
def tw8183643563249807204:=0
def tw10127197657530673027:=0
def tw9447967269458344627:=0
def tw261597313460190752:=0
def tw317339722622535288:=0
def tw491224563256028509:=0
def tw6387552597554715384:=0
def tw9824723571876594515:=0
def tw1820836578886943312:=0
def tw13327054729341262947:=0
def tw13586442154842813826:=0
def tw8895492347882572967:=0
def tw6969933252490314510:=0
def tw3179683773812192008:=0
def tw9922510068799525648:=0
def tw16440014206448477760:=0
def tw16978969335826832708:=0
def tw11198775660809205828:=0
def tw7038397094120229507:=0
def tw7781304031278890267:=0
def tw11771439463879413043:=0
def tw18128917236299701258:=0
def tw8089157182921405919:=0
def tw18326513453198849115:=0
def tw9404960427093647303:=0
def tw5884354884305416955:=0
def tw16756902056128994357:=0
def tw11649354940936716366:=0
def tw11820560662219252498:=0
def tw11961328588075943661:=0
def tw3281390792608689637:=0
def tw529713559887514821:=0
def tw8598696502240207921:=0
def tw7073702301993317317:=0
def tw6258514145212445730:=0
def tw13522579529544707637:=0
def tw3511671540592657178:=0
def tw8410076177037869424:=0
def tw11075788695961471406:=0
def tw12528422328532237951:=0
def tw5623510467168535633:=0
def tw5417860585157610433:=0
def tw2490645865642600113:=0
def tw5194977643367466619:=0
def tw1231853977369849118:=0
def tw665071852812936770:=0
def tw17611022168005273842:=0
def tw3197995390150255632:=0
def tw15198574324740016461:=0
def tw5900554786573132069:=0
def tw17710398439417534565:=0
def tw16699980075671299305:=0
def tw18038218153676289301:=0
def tw14257296269678212408:=0
def tw4290460547384089324:=0
def tw343835272391940295:=0
def tw16093337783229114500:=0
def tw13798252695024400743:=0
def tw2162072074856916626:=0
def tw17765553527018642289:=0
def tw7666192355635224585:=0
def tw6025735506715813502:=0
def tw536219228291212878:=0
def tw12976216273013642942:=0
def tw16113384257543733836:=0
def tw18084288071917782256:=0
def tw7867868127086337942:=0
def tw9742688860465933462:=0
def tw14925501528369704672:=0
def tw6912552727518365043:=0
def tw2424470926790216647:=0
def tw12924546907625255525:=0
def tw11541926063833595596:=0
def tw4753869661694066069:=0
def tw12603619078074932578:=0
def tw15086087920770677279:=0
def tw5390185267729148103:=0
def tw8837002440720342992:=0
def tw11948751901247813191:=0
def tw8662741459240070995:=0
def tw13897269245268806515:=0
def tw12411988249155163355:=0
def tw12358409876211644766:=0
def tw4159374196211228698:=0
def tw4882023696651249276:=0
def tw1438522575216114336:=0
def tw7139733607098806153:=0
def tw11259356436638424729:=0
def tw18208829277439392235:=0
def tw2129992225468851229:=0
def tw8692593461096456871:=0
def tw565119547189497653:=0
def tw7804132215229654614:=0
def tw2912079806420898259:=0
def tw3371903539379217844:=0
def tw7524113188370213817:=0
def tw7800072312598959880:=0
def tw13810284883710809147:=0
def tw17446278358576379534:=0
def tw10024734217510214253:=0
def tw9323928245189286439:=0
def tw10427408051865371405:=0
def tw14715029942992267448:=0
def tw5996978726430287118:=0
def tw304336954980101181:=0
def tw15505096887900985182:=0
def tw10223706550744336154:=0
def tw17968429076377841133:=0
def tw1007642657005382308:=0
def tw8186334419899331126:=0
def tw8642408671907309003:=0
def tw17343469985945133509:=0
def tw14039705933609873727:=0
def tw3599027899660867996:=0
def tw9163367504612129303:=0
def tw15148085314502985353:=0
def tw9607843703064616203:=0
def tw18242936597215963342:=0
def tw8471197325836393967:=0
def tw5719489304512186490:=0
def tw7926599261834868382:=0
def tw728196492744004807:=0
def tw1665298636187893490:=0
def tw8305634821687505432:=0
def tw15672570449662769861:=0
def tw16716749779269325943:=0
def tw5015619469325698918:=0
def tw3341417745626176394:=0
def tw1374864486364991496:=0
def tw9870502722340466556:=0
def tw18055255675923291887:=0
def tw4033430117017583581:=0
def tw304030908809115018:=0
def tw1049221185178259552:=0
def tw16932666029698974000:=0
def tw7573747910700213272:=0
def tw13420636967520145855:=0
def tw12787171586358278382:=0
def tw17311462188002247067:=0
def tw15665472684297417791:=0
def tw14856223399674527485:=0
def tw729709685217619342:=0
def tw573324043525031462:=0
def tw9348526592557917610:=0
def tw10406925492248231097:=0
def tw4916057093073928586:=0
def tw6863208360558464683:=0
def tw13793183513968622710:=0
def tw167344043503624066:=0
def tw18172894685164583135:=0
def tw1693669141102424061:=0
def tw12460806235651175374:=0
def tw160893892399577618:=0
def tw10461599548571302475:=0
def tw6860859335357367774:=0
def tw14743841406257343312:=0
def tw17300037157798682166:=0
def tw2259297535736629407:=0
def tw11146499519954970702:=0
def tw17061947502830408035:=0
def tw6796423664177252639:=0
def tw17992876368062668142:=0
def tw17090963193794315931:=0
def tw10691741971787985942:=0
def tw6100379752374737258:=0
def tw6433749381465104047:=0
def tw16823685937247051159:=0
def tw6989327082671264167:=0
def tw5822628447356750627:=0
def tw14810743672381772587:=0
def tw10928452213936043314:=0
def tw10850883795475974215:=0
def tw18445003555828606614:=0
def tw14566985083019387507:=0
def tw4261830157567323851:=0
def tw16907621807929523467:=0
def tw16315328878094075723:=0
def tw9391943718278969561:=0
def tw3545695208344803452:=0
def tw14395584967058018670:=0
def tw17451043450135410450:=0
def tw17669432047047099914:=0
def tw10850566324929863104:=0
def tw15787710579984983492:=0
def tw15918102312772974622:=0
def tw5608987186589134591:=0
def tw4272790107262715596:=0
def tw2334066908121328709:=0
def tw9044610408631705448:=0
def tw6479181033814594716:=0
def tw10121536346313169619:=0
def tw16149510446430513711:=0
def tw2975049918776289700:=0
def tw7228618637173893244:=0
def tw10296958881439952600:=0
def tw17207285374410742035:=0
def tw4766024833841724967:=0
def tw11646352246718354204:=0
def tw13540069612896664329:=0
def tw3955706496974255923:=0
def tw15630540855031768596:=0
def tw6188309835011894496:=0
def tw10756940464184514470:=0
def tw4305322021009256463:=0
def tw14326962630868509964:=0
def tw15223953236735620799:=0
def tw12803704694173388332:=0
def tw16573481793158493194:=0
def tw15398046451770915511:=0
def tw17345763202783181785:=0
def tw8118497449352718651:=0
def tw7856052579736617635:=0
def tw967146719384594284:=0
def tw5424722183715757640:=0
def tw9263081546480906679:=0
def tw3557934306331165658:=0
def tw11372890842919112957:=0
def tw929396322208502117:=0
def tw10676612308521729776:=0
def tw15258378078020804269:=0
def tw14259039263103138142:=0
def tw17651051564176232591:=0
def tw16885059833349481996:=0
def tw17459629737831183835:=0
def tw11518939881028619079:=0
def tw4838177860171812056:=0
def tw13266406332838051172:=0
def tw9715492228337717070:=0
def tw4488856615012930135:=0
def tw13614282369502365048:=0
def tw761705924741150269:=0
def tw14805002934799324296:=0
def tw11850732361212156706:=0
def tw2400127980500217013:=0
def tw2956596409703875609:=0
def tw15158871727569459525:=0
def tw15480030104768917288:=0
def tw7641131727019700073:=0
def tw12806463073015844451:=0
def tw6262842302572710002:=0
def tw10505232233502404369:=0
def tw6884589188543749329:=0
def tw8188792649375607029:=0
def tw2034197496252223450:=0
def tw4135363255784338236:=0
def tw13970598777380402382:=0
def tw4552646238112012257:=0
def tw16234907124843895794:=0
def tw7278566238257457339:=0
def tw3856516057421309057:=0
def tw3398368757845355349:=0
def tw8978487116895497545:=0
def tw9156862711941277049:=0
def tw17594915625356946399:=0
def tw6212507801680288569:=0
def tw24180616673664988:=0
def tw15548918672100723000:=0
def tw17416444983256657087:=0
def tw18001349162672894414:=0
def tw1169492872065818451:=0
def tw15457293454865379943:=0
def tw4013337032385078244:=0
def tw9138312256998670912:=0
def tw15816835931114870847:=0
end PySem.W.Fast
open PySem PySem.W PyProof.Rows
set_option maxRecDepth 100000 in
set_option maxHeartbeats 0 in
theorem PySem.Challenge.cw_ordersheets_s02_show_holds : PySem.Challenge.rw_ordersheets_s02_show.Holds := by
 w_on;k_headS;(case hw=>exact⟨[.list []],by decide+kernel,by decide+kernel⟩)
 k_fillS
 refine L2.j68_ (r:=PySem.Challenge.rw_ordersheets_s02_show) (k:=276) (CX:=L2.dE) (ps:=["text"]) (sp:=OS.j3g_) [02] rfl rfl ⟨rfl,by decide,by decide⟩ (fun w h Y=>PySem.W.kIn_of Y) ?F ?S (fun _ _ _ _ z=>z)
 case F=>
  intro w mg fa h Y KX G hmg
  have gC_Number:=PySem.W.mg_of KX G (n:="Number") [00]
  have gC_Name:=PySem.W.mg_of KX G (n:="Name") [00]
  have gC_Call:=PySem.W.mg_of KX G (n:="Call") [00]
  have gC_Unary:=PySem.W.mg_of KX G (n:="Unary") [00]
  have gC_Chain:=PySem.W.mg_of KX G (n:="Chain") [00]
  have gC_Choice:=PySem.W.mg_of KX G (n:="Choice") [00]
  have gC_Sum:=PySem.W.mg_of KX G (n:="Sum") [00]
  have gC_Let:=PySem.W.mg_of KX G (n:="Let") [00]
  have gC_For:=PySem.W.mg_of KX G (n:="For") [00]
  have gC_If:=PySem.W.mg_of KX G (n:="If") [00]
  have gC_Step:=PySem.W.mg_of KX G (n:="Step") [00]
  have gC_Amounts:=PySem.W.mg_of KX G (n:="Amounts") [00]
  have gC_Block:=PySem.W.mg_of KX G (n:="Block") [00]
  have gC_Const:=PySem.W.mg_of KX G (n:="Const") [00]
  have gC_Fun:=PySem.W.mg_of KX G (n:="Fun") [00]
  have gC_Desk:=PySem.W.mg_of KX G (n:="Desk") [00]
  have gC_Refusal:=PySem.W.mg_of KX G (n:="Refusal") [00]
  have gC_NotAsTold:=PySem.W.mg_of KX G (n:="NotAsTold") [00]
  have gC_Fault:=PySem.W.mg_of KX G (n:="Fault") [00]
  have gC_Token:=PySem.W.mg_of KX G (n:="Token") [00]
  have gC_Reader:=PySem.W.mg_of KX G (n:="Reader") [00]
  obtain⟨fd_ar,d_ar⟩:=OS.a8 (x:="__init__") (q:="Number.__init__") (st:=OS.s_ar) (ps:=["self","worth"]) KX gC_Number [00] [00] [00] [00] [00] [09]
  obtain⟨fd_as,d_as⟩:=OS.a8 (x:="__init__") (q:="Name.__init__") (st:=OS.s_as) (ps:=["self","name"]) KX gC_Name [00] [00] [00] [00] [00] [09]
  obtain⟨fd_at,d_at⟩:=OS.a8 (x:="__init__") (q:="Call.__init__") (st:=OS.s_at) (ps:=["self","name","arguments"]) KX gC_Call [00] [00] [00] [00] [00] [045]
  obtain⟨fd_au,d_au⟩:=OS.a8 (x:="__init__") (q:="Unary.__init__") (st:=OS.s_au) (ps:=["self","sign","operand"]) KX gC_Unary [00] [00] [00] [00] [00] [045]
  obtain⟨fd_6,d_6⟩:=OS.a8 (x:="__init__") (q:="Chain.__init__") (st:=OS.s_6) (ps:=["self","strength","operands","signs"]) KX gC_Chain [00] [00] [00] [00] [00] [091]
  obtain⟨fd_av,d_av⟩:=OS.a8 (x:="__init__") (q:="Choice.__init__") (st:=OS.s_av) (ps:=["self","condition","chosen","otherwise"]) KX gC_Choice [00] [00] [00] [00] [00] [091]
  obtain⟨fd_aw,d_aw⟩:=OS.a8 (x:="__init__") (q:="Sum.__init__") (st:=OS.s_aw) (ps:=["self","name","first","last","body"]) KX gC_Sum [00] [00] [00] [00] [00] (fun _ _ _ _ _ _ us hl=>OS.u5 hl fun _ _ _ _ _=>rfl)
  obtain⟨fd_ax,d_ax⟩:=OS.a8 (x:="__init__") (q:="Let.__init__") (st:=OS.s_ax) (ps:=["self","name","exp"]) KX gC_Let [00] [00] [00] [00] [00] [045]
  obtain⟨fd_ay,d_ay⟩:=OS.a8 (x:="__init__") (q:="For.__init__") (st:=OS.s_ay) (ps:=["self","name","first","last","statements"]) KX gC_For [00] [00] [00] [00] [00] (fun _ _ _ _ _ _ us hl=>OS.u5 hl fun _ _ _ _ _=>rfl)
  obtain⟨fd_az,d_az⟩:=OS.a8 (x:="__init__") (q:="If.__init__") (st:=OS.s_az) (ps:=["self","condition","statements","else_statements"]) KX gC_If [00] [00] [00] [00] [00] [091]
  obtain⟨fd_aA,d_aA⟩:=OS.a8 (x:="__init__") (q:="Step.__init__") (st:=OS.s_aA) (ps:=["self","side","zone","quarter","price","to_price","amount"]) KX gC_Step [00] [00] [00] [00] [00] (fun _ _ _ _ _ _ us hl=>OS.u7 hl fun _ _ _ _ _ _ _=>rfl)
  obtain⟨fd_aB,d_aB⟩:=OS.a8 (x:="__init__") (q:="Amounts.__init__") (st:=OS.s_aB) (ps:=["self","name","exp"]) KX gC_Amounts [00] [00] [00] [00] [00] [045]
  obtain⟨fd_aC,d_aC⟩:=OS.a8 (x:="__init__") (q:="Block.__init__") (st:=OS.s_aC) (ps:=["self","name","side","zone","price","amounts","under","group"]) KX gC_Block [00] [00] [00] [00] [00] (fun _ _ _ _ _ _ us hl=>OS.u8 hl fun _ _ _ _ _ _ _ _=>rfl)
  obtain⟨fd_aD,d_aD⟩:=OS.a8 (x:="__init__") (q:="Const.__init__") (st:=OS.s_aD) (ps:=["self","name","exp"]) KX gC_Const [00] [00] [00] [00] [00] [045]
  obtain⟨fd_aE,d_aE⟩:=OS.a8 (x:="__init__") (q:="Fun.__init__") (st:=OS.s_aE) (ps:=["self","name","parameters","exp"]) KX gC_Fun [00] [00] [00] [00] [00] [091]
  obtain⟨fd_aF,d_aF⟩:=OS.a8 (x:="__init__") (q:="Desk.__init__") (st:=OS.s_aF) (ps:=["self","name","statements"]) KX gC_Desk [00] [00] [00] [00] [00] [045]
  obtain⟨fd_aj,d_aj⟩:=OS.a8 (x:="__init__") (q:="Refusal.__init__") (st:=OS.s_aj) (ps:=["self","number"]) KX gC_Refusal [00] [00] [00] [00] [00] [09]
  obtain⟨fd_aq,d_aq⟩:=OS.a8 (x:="__init__") (q:="NotAsTold.__init__") (st:=OS.s_aq) (ps:=["self"]) KX gC_NotAsTold [00] [00] [00] [00] [00] [08]
  obtain⟨fd_aG,d_aG⟩:=OS.a8 (x:="__init__") (q:="Fault.__init__") (st:=OS.s_aG) (ps:=["self","kind","line","column"]) KX gC_Fault [00] [00] [00] [00] [00] [091]
  obtain⟨fd_ak,d_ak⟩:=OS.a8 (x:="__init__") (q:="Token.__init__") (st:=OS.s_ak) (ps:=["self","kind","value","line","column"]) KX gC_Token [00] [00] [00] [00] [00] (fun _ _ _ _ _ _ us hl=>OS.u5 hl fun _ _ _ _ _=>rfl)
  obtain⟨fd_p,d_p,bt_p⟩:=OS.aO (x:="is_digit") (st:=OS.s_p) (ps:=["byte"]) KX G [00] [00] [00] [00] [08]
  obtain⟨fd_u,d_u,bt_u⟩:=OS.aO (x:="is_letter") (st:=OS.s_u) (ps:=["byte"]) KX G [00] [00] [00] [00] [08]
  obtain⟨fd_7,d_7,bt_7⟩:=OS.aO (x:="comment_end") (st:=OS.s_7) (ps:=["text","at"]) KX G [00] [00] [00] [00] [09]
  obtain⟨fd_8,d_8,bt_8⟩:=OS.aO (x:="word_end") (st:=OS.s_8) (ps:=["text","at"]) KX G [00] [00] [00] [00] [09]
  obtain⟨fd_9,d_9,bt_9⟩:=OS.aO (x:="digits_end") (st:=OS.s_9) (ps:=["text","at"]) KX G [00] [00] [00] [00] [09]
  obtain⟨fd_aa,d_aa,bt_aa⟩:=OS.aO (x:="token_end") (st:=OS.s_aa) (ps:=["text","at"]) KX G [00] [00] [00] [00] [09]
  obtain⟨fd_ab,d_ab,bt_ab⟩:=OS.aO (x:="token_kind") (st:=OS.s_ab) (ps:=["text","at","end"]) KX G [00] [00] [00] [00] [045]
  obtain⟨fd_T,d_T,bt_T⟩:=OS.aO (x:="decimal_worth") (st:=OS.s_T) (ps:=["part"]) KX G [00] [00] [00] [00] [08]
  obtain⟨fd_U,d_U,bt_U⟩:=OS.aO (x:="token_value") (st:=OS.s_U) (ps:=["kind","part"]) KX G [00] [00] [00] [00] [09]
  obtain⟨fd_s,d_s,bt_s⟩:=OS.aO (x:="scan_text") (st:=OS.s_s) (ps:=["text"]) KX G [00] [00] [00] [00] [08]
  obtain⟨fd_aH,d_aH⟩:=OS.a8 (x:="__init__") (q:="Reader.__init__") (st:=OS.s_aH) (ps:=["self","tokens"]) KX gC_Reader [00] [00] [00] [00] [00] [09]
  obtain⟨fd_g,d_g⟩:=OS.a8 (x:="current") (q:="Reader.current") (st:=OS.s_g) (ps:=["self"]) KX gC_Reader [00] [00] [00] [00] [00] [08]
  obtain⟨fd_e,d_e⟩:=OS.a8 (x:="fail") (q:="Reader.fail") (st:=OS.s_e) (ps:=["self","kind"]) KX gC_Reader [00] [00] [00] [00] [00] [09]
  obtain⟨fd_c,d_c⟩:=OS.a8 (x:="sees") (q:="Reader.sees") (st:=OS.s_c) (ps:=["self","value"]) KX gC_Reader [00] [00] [00] [00] [00] [09]
  obtain⟨fd_aI,d_aI⟩:=OS.a8 (x:="at_end") (q:="Reader.at_end") (st:=OS.s_aI) (ps:=["self"]) KX gC_Reader [00] [00] [00] [00] [00] [08]
  obtain⟨fd_aJ,d_aJ⟩:=OS.a8 (x:="at_number") (q:="Reader.at_number") (st:=OS.s_aJ) (ps:=["self"]) KX gC_Reader [00] [00] [00] [00] [00] [08]
  obtain⟨fd_ac,d_ac⟩:=OS.a8 (x:="at_name") (q:="Reader.at_name") (st:=OS.s_ac) (ps:=["self"]) KX gC_Reader [00] [00] [00] [00] [00] [08]
  obtain⟨fd_aK,d_aK⟩:=OS.a8 (x:="number_follows") (q:="Reader.number_follows") (st:=OS.s_aK) (ps:=["self"]) KX gC_Reader [00] [00] [00] [00] [00] [08]
  obtain⟨fd_h,d_h⟩:=OS.a8 (x:="take") (q:="Reader.take") (st:=OS.s_h) (ps:=["self"]) KX gC_Reader [00] [00] [00] [00] [00] [08]
  obtain⟨fd_a,d_a⟩:=OS.a8 (x:="expect") (q:="Reader.expect") (st:=OS.s_a) (ps:=["self","value"]) KX gC_Reader [00] [00] [00] [00] [00] [09]
  obtain⟨fd_V,d_V⟩:=OS.a8 (x:="skips") (q:="Reader.skips") (st:=OS.s_V) (ps:=["self","value"]) KX gC_Reader [00] [00] [00] [00] [00] [09]
  obtain⟨fd_E,d_E⟩:=OS.a8 (x:="need_name") (q:="Reader.need_name") (st:=OS.s_E) (ps:=["self"]) KX gC_Reader [00] [00] [00] [00] [00] [08]
  obtain⟨fd_n,d_n⟩:=OS.a8 (x:="take_free_name") (q:="Reader.take_free_name") (st:=OS.s_n) (ps:=["self"]) KX gC_Reader [00] [00] [00] [00] [00] [08]
  obtain⟨fd_al,d_al⟩:=OS.a8 (x:="take_name_not_in") (q:="Reader.take_name_not_in") (st:=OS.s_al) (ps:=["self","given"]) KX gC_Reader [00] [00] [00] [00] [00] [09]
  obtain⟨fd_q,d_q⟩:=OS.a8 (x:="learn") (q:="Reader.learn") (st:=OS.s_q) (ps:=["self","name"]) KX gC_Reader [00] [00] [00] [00] [00] [09]
  obtain⟨fd_w,d_w⟩:=OS.a8 (x:="forget") (q:="Reader.forget") (st:=OS.s_w) (ps:=["self","name"]) KX gC_Reader [00] [00] [00] [00] [00] [09]
  obtain⟨fd_f,d_f,bt_f⟩:=OS.aO (x:="deeper") (st:=OS.s_f) (ps:=["reader","depth"]) KX G [00] [00] [00] [00] [09]
  obtain⟨fd_b,d_b,bt_b⟩:=OS.aO (x:="read_exp") (st:=OS.s_b) (ps:=["reader","depth"]) KX G [00] [00] [00] [00] [09]
  obtain⟨fd_G,d_G,bt_G⟩:=OS.aO (x:="read_choice") (st:=OS.s_G) (ps:=["reader","depth"]) KX G [00] [00] [00] [00] [09]
  obtain⟨fd_i,d_i,bt_i⟩:=OS.aO (x:="read_chain") (st:=OS.s_i) (ps:=["reader","depth","strength"]) KX G [00] [00] [00] [00] [045]
  obtain⟨fd_j,d_j,bt_j⟩:=OS.aO (x:="read_unary") (st:=OS.s_j) (ps:=["reader","depth"]) KX G [00] [00] [00] [00] [09]
  obtain⟨fd_W,d_W,bt_W⟩:=OS.aO (x:="read_primary") (st:=OS.s_W) (ps:=["reader","depth"]) KX G [00] [00] [00] [00] [09]
  obtain⟨fd_I,d_I,bt_I⟩:=OS.aO (x:="read_brackets") (st:=OS.s_I) (ps:=["reader","depth"]) KX G [00] [00] [00] [00] [09]
  obtain⟨fd_y,d_y,bt_y⟩:=OS.aO (x:="read_sum") (st:=OS.s_y) (ps:=["reader","depth"]) KX G [00] [00] [00] [00] [09]
  obtain⟨fd_F,d_F,bt_F⟩:=OS.aO (x:="read_call") (st:=OS.s_F) (ps:=["reader","depth"]) KX G [00] [00] [00] [00] [09]
  obtain⟨fd_J,d_J,bt_J⟩:=OS.aO (x:="refuse_here") (st:=OS.s_J) (ps:=["reader","sign"]) KX G [00] [00] [00] [00] [09]
  obtain⟨fd_2,d_2,bt_2⟩:=OS.aO (x:="sheet_form") (st:=OS.s_2) (ps:=["tops"]) KX G [00] [00] [00] [00] [08]
  obtain⟨fd_H,d_H,bt_H⟩:=OS.aO (x:="bytes_of") (st:=OS.s_H) (ps:=["pieces"]) KX G [00] [00] [00] [00] [08]
  obtain⟨fd_ad,d_ad,bt_ad⟩:=OS.aO (x:="top_form") (st:=OS.s_ad) (ps:=["top"]) KX G [00] [00] [00] [00] [08]
  obtain⟨fd_v,d_v,bt_v⟩:=OS.aO (x:="braces_form") (st:=OS.s_v) (ps:=["statements","depth"]) KX G [00] [00] [00] [00] [09]
  obtain⟨fd_K,d_K,bt_K⟩:=OS.aO (x:="statement_form") (st:=OS.s_K) (ps:=["statement","depth"]) KX G [00] [00] [00] [00] [09]
  obtain⟨fd_ae,d_ae,bt_ae⟩:=OS.aO (x:="if_form") (st:=OS.s_ae) (ps:=["statement","depth"]) KX G [00] [00] [00] [00] [09]
  obtain⟨fd_af,d_af,bt_af⟩:=OS.aO (x:="step_form") (st:=OS.s_af) (ps:=["step"]) KX G [00] [00] [00] [00] [08]
  obtain⟨fd_ag,d_ag,bt_ag⟩:=OS.aO (x:="block_form") (st:=OS.s_ag) (ps:=["block"]) KX G [00] [00] [00] [00] [08]
  obtain⟨fd_m,d_m,bt_m⟩:=OS.aO (x:="part_form") (st:=OS.s_m) (ps:=["word","exp"]) KX G [00] [00] [00] [00] [09]
  obtain⟨fd_L,d_L,bt_L⟩:=OS.aO (x:="range_form") (st:=OS.s_L) (ps:=["node"]) KX G [00] [00] [00] [00] [08]
  obtain⟨fd_d,d_d,bt_d⟩:=OS.aO (x:="any_form") (st:=OS.s_d) (ps:=["exp"]) KX G [00] [00] [00] [00] [08]
  obtain⟨fd_r,d_r,bt_r⟩:=OS.aO (x:="placed_form") (st:=OS.s_r) (ps:=["exp","weakest"]) KX G [00] [00] [00] [00] [09]
  obtain⟨fd_am,d_am,bt_am⟩:=OS.aO (x:="strength_of") (st:=OS.s_am) (ps:=["exp"]) KX G [00] [00] [00] [00] [08]
  obtain⟨fd_M,d_M,bt_M⟩:=OS.aO (x:="exp_form") (st:=OS.s_M) (ps:=["exp"]) KX G [00] [00] [00] [00] [08]
  obtain⟨fd_3,d_3,bt_3⟩:=OS.aO (x:="arguments_form") (st:=OS.s_3) (ps:=["arguments"]) KX G [00] [00] [00] [00] [08]
  obtain⟨fd_X,d_X,bt_X⟩:=OS.aO (x:="chain_form") (st:=OS.s_X) (ps:=["chain"]) KX G [00] [00] [00] [00] [08]
  obtain⟨fd_ah,d_ah,bt_ah⟩:=OS.aO (x:="choice_form") (st:=OS.s_ah) (ps:=["choice"]) KX G [00] [00] [00] [00] [08]
  obtain⟨fd_N,d_N,bt_N⟩:=OS.aO (x:="read_sheet") (st:=OS.s_N) (ps:=["text"]) KX G [00] [00] [00] [00] [08]
  obtain⟨fd_4,d_4,bt_4⟩:=OS.aO (x:="read_top") (st:=OS.s_4) (ps:=["reader"]) KX G [00] [00] [00] [00] [08]
  obtain⟨fd_O,d_O,bt_O⟩:=OS.aO (x:="read_const") (st:=OS.s_O) (ps:=["reader"]) KX G [00] [00] [00] [00] [08]
  obtain⟨fd_o,d_o,bt_o⟩:=OS.aO (x:="read_given") (st:=OS.s_o) (ps:=["reader"]) KX G [00] [00] [00] [00] [08]
  obtain⟨fd_z,d_z,bt_z⟩:=OS.aO (x:="read_fun") (st:=OS.s_z) (ps:=["reader"]) KX G [00] [00] [00] [00] [08]
  obtain⟨fd_ai,d_ai,bt_ai⟩:=OS.aO (x:="read_parameters") (st:=OS.s_ai) (ps:=["reader","function"]) KX G [00] [00] [00] [00] [09]
  obtain⟨fd_Y,d_Y,bt_Y⟩:=OS.aO (x:="read_parameter") (st:=OS.s_Y) (ps:=["reader","function"]) KX G [00] [00] [00] [00] [09]
  obtain⟨fd_Z,d_Z,bt_Z⟩:=OS.aO (x:="read_desk") (st:=OS.s_Z) (ps:=["reader"]) KX G [00] [00] [00] [00] [08]
  obtain⟨fd_k,d_k,bt_k⟩:=OS.aO (x:="read_braces") (st:=OS.s_k) (ps:=["reader","depth"]) KX G [00] [00] [00] [00] [09]
  obtain⟨fd_5,d_5,bt_5⟩:=OS.aO (x:="read_statement") (st:=OS.s_5) (ps:=["reader","depth"]) KX G [00] [00] [00] [00] [09]
  obtain⟨fd_P,d_P,bt_P⟩:=OS.aO (x:="read_let") (st:=OS.s_P) (ps:=["reader"]) KX G [00] [00] [00] [00] [08]
  obtain⟨fd_Q,d_Q,bt_Q⟩:=OS.aO (x:="deeper_braces") (st:=OS.s_Q) (ps:=["reader","depth"]) KX G [00] [00] [00] [00] [09]
  obtain⟨fd_A,d_A,bt_A⟩:=OS.aO (x:="read_for") (st:=OS.s_A) (ps:=["reader","depth"]) KX G [00] [00] [00] [00] [09]
  obtain⟨fd_B,d_B,bt_B⟩:=OS.aO (x:="read_if") (st:=OS.s_B) (ps:=["reader","depth"]) KX G [00] [00] [00] [00] [09]
  obtain⟨fd_R,d_R,bt_R⟩:=OS.aO (x:="read_side") (st:=OS.s_R) (ps:=["reader"]) KX G [00] [00] [00] [00] [08]
  obtain⟨fd_l,d_l,bt_l⟩:=OS.aO (x:="read_part") (st:=OS.s_l) (ps:=["reader","word"]) KX G [00] [00] [00] [00] [09]
  obtain⟨fd_C,d_C,bt_C⟩:=OS.aO (x:="read_part_if_there") (st:=OS.s_C) (ps:=["reader","word"]) KX G [00] [00] [00] [00] [09]
  obtain⟨fd_x,d_x,bt_x⟩:=OS.aO (x:="read_step") (st:=OS.s_x) (ps:=["reader"]) KX G [00] [00] [00] [00] [08]
  obtain⟨fd_t,d_t,bt_t⟩:=OS.aO (x:="read_block") (st:=OS.s_t) (ps:=["reader"]) KX G [00] [00] [00] [00] [08]
  obtain⟨fd_S,d_S,bt_S⟩:=OS.aO (x:="read_amounts") (st:=OS.s_S) (ps:=["reader"]) KX G [00] [00] [00] [00] [08]
  obtain⟨fd_an,d_an,bt_an⟩:=OS.aO (x:="read_under_name") (st:=OS.s_an) (ps:=["reader"]) KX G [00] [00] [00] [00] [08]
  obtain⟨fd_1,d_1,bt_1⟩:=OS.aO (x:="is_text") (st:=OS.s_1) (ps:=["text"]) KX G [00] [00] [00] [00] [08]
  obtain⟨fd_ao,d_ao,bt_ao⟩:=OS.aO (x:="need") (st:=OS.s_ao) (ps:=["as_told"]) KX G [00] [00] [00] [00] [08]
  obtain⟨fd_ap,d_ap,bt_ap⟩:=OS.aO (x:="row") (st:=OS.s_ap) (ps:=["numbers"]) KX G [00] [00] [00] [00] [08]
  obtain⟨fd_D,d_D,bt_D⟩:=OS.aO (x:="show") (st:=OS.s_D) (ps:=["text"]) KX G [00] [00] [00] [00] [08]
  have T:OS.Txt _ mg ⟨_,_,_,_,_,_,_,_,_,_,_,_,_,_,_,_,_,_,_,_,_,_,_,_,_,_,_,_,_,_,_,_,_,_,_,_,_,_,_,_,_,_,_,_,_,_,_,_,_,_,_,_,_,_,_,_,_,_,_,_,_,_,_,_,_,_,_,_,_,_,_,_,_,_,_,_,_,_,_,_,_,_,_,_,_,_,_,_,_,_,_,_,_,_,_,_,_,_,_,_,_,_,_,_,_,_,_,_,_,_,_,_,_,_,_,_,_,_,_,_,_,_,_,_,fd_ar,fd_as,fd_at,fd_au,fd_6,fd_av,fd_aw,fd_ax,fd_ay,fd_az,fd_aA,fd_aB,fd_aC,fd_aD,fd_aE,fd_aF,fd_aj,fd_aq,fd_aG,fd_ak,fd_p,fd_u,fd_7,fd_8,fd_9,fd_aa,fd_ab,fd_T,fd_U,fd_s,fd_aH,fd_g,fd_e,fd_c,fd_aI,fd_aJ,fd_ac,fd_aK,fd_h,fd_a,fd_V,fd_E,fd_n,fd_al,fd_q,fd_w,fd_f,fd_b,fd_G,fd_i,fd_j,fd_W,fd_I,fd_y,fd_F,fd_J,fd_2,fd_H,fd_ad,fd_v,fd_K,fd_ae,fd_af,fd_ag,fd_m,fd_L,fd_d,fd_r,fd_am,fd_M,fd_3,fd_X,fd_ah,fd_N,fd_4,fd_O,fd_o,fd_z,fd_ai,fd_Y,fd_Z,fd_k,fd_5,fd_P,fd_Q,fd_A,fd_B,fd_R,fd_l,fd_C,fd_x,fd_t,fd_S,fd_an,fd_1,fd_ao,fd_ap,fd_D⟩:=⟨d_ar,
   d_as,
   d_at,
   d_au,
   d_6,
   d_av,
   d_aw,
   d_ax,
   d_ay,
   d_az,
   d_aA,
   d_aB,
   d_aC,
   d_aD,
   d_aE,
   d_aF,
   d_aj,
   d_aq,
   d_aG,
   d_ak,
   d_p,
   d_u,
   d_7,
   d_8,
   d_9,
   d_aa,
   d_ab,
   d_T,
   d_U,
   d_s,
   d_aH,
   d_g,
   d_e,
   d_c,
   d_aI,
   d_aJ,
   d_ac,
   d_aK,
   d_h,
   d_a,
   d_V,
   d_E,
   d_n,
   d_al,
   d_q,
   d_w,
   d_f,
   d_b,
   d_G,
   d_i,
   d_j,
   d_W,
   d_I,
   d_y,
   d_F,
   d_J,
   d_2,
   d_H,
   d_ad,
   d_v,
   d_K,
   d_ae,
   d_af,
   d_ag,
   d_m,
   d_L,
   d_d,
   d_r,
   d_am,
   d_M,
   d_3,
   d_X,
   d_ah,
   d_N,
   d_4,
   d_O,
   d_o,
   d_z,
   d_ai,
   d_Y,
   d_Z,
   d_k,
   d_5,
   d_P,
   d_Q,
   d_A,
   d_B,
   d_R,
   d_l,
   d_C,
   d_x,
   d_t,
   d_S,
   d_an,
   d_1,
   d_ao,
   d_ap,
   d_D,
   gC_Number,
   gC_Name,
   gC_Call,
   gC_Unary,
   gC_Chain,
   gC_Choice,
   gC_Sum,
   gC_Let,
   gC_For,
   gC_If,
   gC_Step,
   gC_Amounts,
   gC_Block,
   gC_Const,
   gC_Fun,
   gC_Desk,
   gC_Refusal,
   gC_NotAsTold,
   gC_Fault,
   gC_Token,
   gC_Reader,
   ⟨[00],[00],[00],[00]⟩,
   [011],
   [00],
   ⟨[00],[00],[00],[00]⟩,
   [011],
   [00],
   ⟨[00],[00],[00],[00]⟩,
   [011],
   [00],
   [00],
   ⟨[00],[00],[00],[00]⟩,
   [011],
   [00],
   [00],
   ⟨[00],[00],[00],[00]⟩,
   [011],
   [00],
   [00],
   [00],
   ⟨[00],[00],[00],[00]⟩,
   [011],
   [00],
   [00],
   [00],
   ⟨[00],[00],[00],[00]⟩,
   [011],
   [00],
   [00],
   [00],
   [00],
   ⟨[00],[00],[00],[00]⟩,
   [011],
   [00],
   [00],
   ⟨[00],[00],[00],[00]⟩,
   [011],
   [00],
   [00],
   [00],
   [00],
   ⟨[00],[00],[00],[00]⟩,
   [011],
   [00],
   [00],
   [00],
   ⟨[00],[00],[00],[00]⟩,
   [011],
   [00],
   [00],
   [00],
   [00],
   [00],
   [00],
   ⟨[00],[00],[00],[00]⟩,
   [011],
   [00],
   [00],
   ⟨[00],[00],[00],[00]⟩,
   [011],
   [00],
   [00],
   [00],
   [00],
   [00],
   [00],
   [00],
   ⟨[00],[00],[00],[00]⟩,
   [011],
   [00],
   [00],
   ⟨[00],[00],[00],[00]⟩,
   [011],
   [00],
   [00],
   [00],
   ⟨[00],[00],[00],[00]⟩,
   [011],
   [00],
   [00],
   ⟨[00],[00],[00],[00]⟩,
   [011],
   [00],
   [00],
   [00],
   [00],
   ⟨[00],[00],[00],[00]⟩,
   [011],
   [00],
   [00],
   [00],
   [00],
   [00],
   [00],
   ⟨_,PySem.W.mg_of KX G [00]⟩,
   ⟨_,PySem.W.mg_of KX G [00]⟩,
   ⟨_,PySem.W.mg_of KX G [00]⟩,
   ⟨_,PySem.W.mg_of KX G [00]⟩,
   ⟨_,PySem.W.mg_of KX G [00]⟩,
   ⟨_,PySem.W.mg_of KX G [00]⟩,
   ⟨_,PySem.W.mg_of KX G [00]⟩,
   ⟨_,PySem.W.mg_of KX G [00]⟩,
   ⟨_,PySem.W.mg_of KX G [00]⟩,
   ⟨_,PySem.W.mg_of KX G [00]⟩,
   (PySem.W.mg_of KX G [00]),
   (PySem.W.mg_of KX G [00]),
   ⟨_,PySem.W.mg_of KX G [00]⟩,
   ⟨_,PySem.W.mg_of KX G [00]⟩,
   ⟨_,PySem.W.mg_of KX G [00]⟩,
   ⟨_,PySem.W.mg_of KX G [00]⟩,
   ⟨_,PySem.W.mg_of KX G [00]⟩,
   ⟨_,PySem.W.mg_of KX G [00]⟩,
   ⟨_,PySem.W.mg_of KX G [00]⟩,
   ⟨_,PySem.W.mg_of KX G [00]⟩,
   (PySem.W.mg_of KX G [00]),
   (PySem.W.mg_of KX G [00]),
   ⟨_,PySem.W.mg_of KX G [00]⟩,
   (PySem.W.mg_of KX G [00]),
   ⟨_,PySem.W.mg_of KX G [00]⟩,
   ⟨_,PySem.W.mg_of KX G [00]⟩,
   ⟨_,PySem.W.mg_of KX G [00]⟩,
   ⟨_,PySem.W.mg_of KX G [00]⟩,
   ⟨_,PySem.W.mg_of KX G [00]⟩,
   ⟨_,PySem.W.mg_of KX G [00]⟩,
   ⟨_,PySem.W.mg_of KX G [00]⟩,
   (OS.ktup_int (l:=[9,10,13,32]) (by kernel_rfl)),
   (OS.j48_ (l:=["const","fun","desk","let","for","in","if","then","else","sell","buy","zone","quarter","price","to","amount","block","under","group","sum"]) (by kernel_rfl)),
   [051],
   [051],
   [051],
   [051],
   [051],
   [051],
   [051],
   [051],
   [051]⟩
  have kS:=OS.signs_k T (P:=PySem.Challenge.rw_ordersheets_s02_show.prog) (w:=w) (by kernel_rfl) rfl
  have kF:=OS.first_k T (P:=PySem.Challenge.rw_ordersheets_s02_show.prog) (w:=w) (by kernel_rfl) rfl
  have KT:=OS.chain_k T (by kernel_rfl)
  have IL:OS.IsLet _ _:=⟨⟨T.cl_Let,[00],[00],[00],[00]⟩,⟨T.cl_For,[00],[00],[00],[00]⟩,⟨T.cl_If,[00],[00],[00],[00]⟩,⟨T.cl_Step,[00],[00],[00],[00]⟩,⟨T.cl_Block,[00],[00],[00],[00]⟩,(by kernel_rfl),(by kernel_rfl),(by kernel_rfl),(by kernel_rfl),(by kernel_rfl)⟩
  have XC:=OS.xs_of T ⟨by kernel_rfl,by kernel_rfl,by kernel_rfl,by kernel_rfl,by kernel_rfl⟩ (OS.xcls_of KX T.mg_Fault T.mg_Refusal [00] (by kernel_rfl) (by kernel_rfl) (by kernel_rfl) (by kernel_rfl) (by kernel_rfl) [00] (by kernel_rfl) (by kernel_rfl)) (OS.xcls_of KX T.mg_NotAsTold T.mg_Refusal [00] (by kernel_rfl) (by kernel_rfl) (by kernel_rfl) (by kernel_rfl) (by kernel_rfl) [00] (by kernel_rfl) (by kernel_rfl))
  cases hmg.symm.trans d_D.c.m
  exact⟨fd_D,bt_D,fun base _ _=>OS.ok_alls T XC kS kF KT IL (OS.ndk_of (OS.ci ⟨T.cl_Number,[00],[00],[00],[00]⟩ (OS.ci ⟨T.cl_Name,[00],[00],[00],[00]⟩ (OS.ci ⟨T.cl_Call,[00],[00],[00],[00]⟩ (OS.ci ⟨T.cl_Unary,[00],[00],[00],[00]⟩ (OS.ci ⟨T.cl_Chain,[00],[00],[00],[00]⟩ (OS.ci ⟨T.cl_Choice,[00],[00],[00],[00]⟩ (OS.ci ⟨T.cl_Sum,[00],[00],[00],[00]⟩ (OS.ci ⟨T.cl_Let,[00],[00],[00],[00]⟩ (OS.ci ⟨T.cl_For,[00],[00],[00],[00]⟩ (OS.ci ⟨T.cl_If,[00],[00],[00],[00]⟩ (OS.ci ⟨T.cl_Step,[00],[00],[00],[00]⟩ (OS.ci ⟨T.cl_Block,[00],[00],[00],[00]⟩ (OS.ci ⟨T.cl_Const,[00],[00],[00],[00]⟩ (OS.ci ⟨T.cl_Fun,[00],[00],[00],[00]⟩ (OS.ci ⟨T.cl_Desk,[00],[00],[00],[00]⟩ OS.allT_nil))))))))))))))) (by kernel_rfl))⟩
 case S=>
  intro K H xs a hO hwi hask hx
  cases hx with
  |cons h1 h2=>
   cases h2
   cases h1 with
   |lst hs ha=>
    have e:=L2.ints_dw a.1 _ ha
    subst e
    have q:((Codec.inLen 0 4000 a.1&&a.1.all (Codec.inInt (-1000000000000000000) 1000000000000000000))&&true)=true:=hwi
    rw[Bool.and_eq_true,Bool.and_eq_true] at q
    exact⟨_,a.1,rfl,hs,(Codec.inNat_iff.mp q.1.1).2,fun H' p hp=> .lst (L2.cK.of hp) (L2.dw_ints _)⟩
#print axioms PySem.Challenge.cw_ordersheets_s02_show_holds

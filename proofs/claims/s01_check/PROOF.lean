import PyProof.Rows.All
import Wide.All
import OpenK.AllK
import Wide.FinOn
import PyProof.EqAt
import PyProof.EqKinds
import PyProof.TupleCall
import KE.BitLaws
import Open.SpecLaws
import KE.OsHead
import KE.OsGo
import VbemacSpec
import PySem.Str
import PyProof.StationsW
import PyProof.PassesOwn
import PyProof.ExcClass
import PyProof.ExcClass2
import PyProof.ExcArgs
import PyProof.ExcBaseAll.Exception
import PyProof.InstLoad
import PyProof.InstStoreFacts
import PyProof.RulesAs
import PySem.Challenge.RW_ordersheets_s01_check
import PyVbemac
set_option Elab.async false
set_option linter.all false
set_option maxRecDepth 100000
namespace L2
open PySem PySem.Spec PyProof.Rows
abbrev Key:=Sum Int Str
def keyIs:Key->Value->Bool
 | .inl k,v=>Value.isInt k v
 | .inr x,v=>Value.isStrOf x v
def keyH (w:World):Key->Int
 | .inl k=>hashInt k
 | .inr x=>hashStr w x
theorem vk_: ∀ {k:Key} {v:Value},keyIs k v=true->(∃i t,k=Sum.inl i/\v=Value.int i t)\/(∃x t,k=Sum.inr x/\v=Value.str x t)
 | .inl i,v,h=>by
  obtain⟨t,e⟩:=Value.isInt_shape (k:=i) (v:=v) h
  exact .inl ⟨i,t,rfl,e⟩
 | .inr x,v,h=>by
  obtain⟨t,e⟩:=Value.isStrOf_shape (x:=x) (v:=v) h
  exact .inr ⟨x,t,rfl,e⟩
theorem keyIs_int (i:Int) (t:Tok):keyIs (.inl i) (.int i t)=true:=by simp [keyIs,Value.isInt]
theorem keyIs_str (x:Str) (t:Tok):keyIs (.inr x) (.str x t)=true:=by simp [keyIs,Value.isStrOf]
theorem key_ll (a b:Int):decide ((Sum.inl a:Key)=Sum.inl b)=(a == b):=by
 by_cases e:a=b
 ·subst e;simp
 ·have h: ¬(Sum.inl a:Key)=Sum.inl b:=fun q=>e (Sum.inl.inj q)
  rw[decide_eq_false h]
  exact(beq_eq_false_iff_ne.mpr e).symm
theorem key_rr (a b:Str):decide ((Sum.inr a:Key)=Sum.inr b)=decide (a=b):=by
 by_cases e:a=b
 ·subst e;simp
 ·have h: ¬(Sum.inr a:Key)=Sum.inr b:=fun q=>e (Sum.inr.inj q)
  rw[decide_eq_false h,decide_eq_false e]
theorem key_lr (a:Int) (b:Str):decide ((Sum.inl a:Key)=Sum.inr b)=false:=decide_eq_false (fun q=>nomatch q)
theorem key_rl (a:Str) (b:Int):decide ((Sum.inr a:Key)=Sum.inl b)=false:=decide_eq_false (fun q=>nomatch q)
def ym_ (prog:Program) (w:World):PySem.KeyKind prog w Key where
 is:=keyIs
 hash:=keyH w
 inj:=fun v a b ha hb=>by
  rcases vk_ ha with⟨i,t,rfl,rfl⟩|⟨x,t,rfl,rfl⟩
  ·rcases vk_ hb with⟨j,u,rfl,e⟩|⟨y,u,rfl,e⟩
   ·injection e with e1 _;rw[e1]
   ·exact nomatch e
  ·rcases vk_ hb with⟨j,u,rfl,e⟩|⟨y,u,rfl,e⟩
   ·exact nomatch e
   ·injection e with e1 _;rw[e1]
 byValue:=fun k v h=>by
  rcases vk_ h with⟨i,t,rfl,rfl⟩|⟨x,t,rfl,rfl⟩<;>rfl
 pyHash:=fun hv h=>by
  rcases vk_ hv with⟨i,t,rfl,rfl⟩|⟨x,t,rfl,rfl⟩
  ·exact wpAny_pyHash_int h
  ·exact wpAny_pyHash_str h
 eqBool:=fun hu hv h=>by
  rcases vk_ hu with⟨i,t,rfl,rfl⟩|⟨x,t,rfl,rfl⟩
  ·rcases vk_ hv with⟨j,u,rfl,rfl⟩|⟨y,u,rfl,rfl⟩
   ·rw[key_ll] at h;exact wpAny_eqBool_int h
   ·rw[key_lr] at h;exact SeqAt.EqAt.int_str i t y u _ _ _ _ h
  ·rcases vk_ hv with⟨j,u,rfl,rfl⟩|⟨y,u,rfl,rfl⟩
   ·rw[key_rl] at h;exact SeqAt.EqAt.str_int x t j u _ _ _ _ h
   ·rw[key_rr] at h;exact wpAny_eqBool_str h
 «strs»:=fun k x t v h=>by
  rcases vk_ h with⟨i,u,rfl,e⟩|⟨y,u,rfl,e⟩
  ·exact nomatch e
  ·injection e with e1 _
   subst e1
   cases v<;>rfl
theorem mixKind_int (prog:Program) (w:World) (i:Int) (t:Tok):(ym_ prog w).is (.inl i) (.int i t)=true:=keyIs_int i t
theorem mixKind_str (prog:Program) (w:World) (x:Str) (t:Tok):(ym_ prog w).is (.inr x) (.str x t)=true:=keyIs_str x t
end L2
namespace L2
open PySem PySem.Spec PyProof.Rows
inductive V where
 |non|bl (b:Bool)|int (i:Int)|str (x:Str)|byt (b:Array UInt8)|flt (b:UInt64)|ref (a:Addr)|ty (n:String)
 deriving DecidableEq
def vt_:V->Value->Prop
 | .non,u=>u=Value.none
 | .bl b,u=>u=Value.bool b
 | .int i,u=> ∃t,u=Value.int i t
 | .str x,u=> ∃t,u=Value.str x t
 | .byt b,u=> ∃t,u=Value.bytes b t
 | .flt b,u=> ∃t,u=Value.float b t
 | .ref a,u=>u=Value.ref a
 | .ty n,u=>u=Value.type n
abbrev vx_:List V->List Value->Prop:=Paired vt_
theorem vx_.length {xs:List V} {us:List Value} (r:vx_ xs us):xs.length=us.length:=Paired.length r
theorem vx_.get: ∀ {xs:List V} {us:List Value} {i:Nat} {x:V},vx_ xs us->xs[i]?=some x-> ∃u,us[i]?=some u/\vt_ x u
 |_,_,_,_, .nil,e=>by simp at e
 |_,_,0,_, .cons r _,e=>by simp at e;subst e;exact⟨_,rfl,r⟩
 |_,_,i+1,x, .cons _ t,e=>by
  obtain⟨u,h1,h2⟩:=vx_.get (i:=i) (x:=x) t (by simpa using e)
  exact⟨u,by simpa using h1,h2⟩
theorem vx_.append: ∀ {xs ys:List V} {us ws:List Value},vx_ xs us->vx_ ys ws->vx_ (xs++ys) (us++ws)
 |_,_,_,_, .nil,s=>s
 |_,_,_,_, .cons r t,s=> .cons r (vx_.append t s)
theorem vx_.take: ∀ {xs:List V} {us:List Value} (n:Nat),vx_ xs us->vx_ (xs.take n) (us.take n)
 |_,_,0,_=> .nil
 |_,_,_+1, .nil=> .nil
 |_,_,n+1, .cons r t=> .cons r (vx_.take n t)
theorem vx_.drop: ∀ {xs:List V} {us:List Value} (n:Nat),vx_ xs us->vx_ (xs.drop n) (us.drop n)
 |_,_,0,r=>r
 |_,_,_+1, .nil=> .nil
 |_,_,n+1, .cons _ t=>vx_.drop n t
def RelO:Option V->Option Value->Prop
 |some v,some u=>vt_ v u
 |none,none=>True
 |_,_=>False
def KV {κ:Type} :List (κ×V)->List (κ×Value)->Prop:=Paired fun(p:κ×V) (q:κ×Value)=>p.1=q.1/\vt_ p.2 q.2
def kV:Key->V
 | .inl i=> .int i
 | .inr x=> .str x
inductive HO where
  |lst (xs:List V)
  |tup (xs:List V)
  |dK (kvs:List (Key×V))|dT (kvs:List (List Key×V))
  |set (S:Int->Bool) (n:Nat)
  |ins (C dx:Addr) (fs:List (Str×V))
  |own (x:Addr)
  |xd (fs:List (Str×V))
  |met (f x:Addr)
  |rng (lo hi:Int)
  |frz (o:Obj) (u:HO)
  |tbl (ps:Array Value)
  |ext (φ:Heap->Prop)
abbrev Hp:=Addr->Option HO
def upd (H:Hp) (a:Addr) (o:HO):Hp:=fun b=>if b=a then some o else H b
theorem j4_ {H:Hp} {a:Addr} {o:HO} :upd H a o a=some o:=by unfold upd;rw[if_pos rfl]
theorem j3_ {H:Hp} {a b:Addr} {o:HO} (h:b≠a):upd H a o b=H b:=by unfold upd;rw[if_neg h]
theorem ne_of {H:Hp} {a b:Addr} {o u:HO} (h:H a=some o) (h':H b=some u) (d:o≠u):a≠b:=by
 intro e;subst e;rw[h] at h';exact d (Option.some.inj h')
theorem jf_ {H:Hp} {a b:Addr} {o:HO} (h:H a=some o) (h':H b=none):a≠b:=by
 intro e;subst e;rw[h] at h';cases h'
section
variable (P:Program) (w:World)
def qh_ (H:Hp) (h:Heap) (a:Addr):HO->Prop
 | .lst xs=>xs.length<=sizeLine/\ ∃(its:List Value) (n:Nat),vx_ xs its/\h.get? a=some { cls:= .type "list",data:= .seq its.toArray n }
 | .tup xs=>xs.length<=sizeLine/\ ∃its:List Value,vx_ xs its/\IsTup h a its.toArray
 | .dK kvs=>kvs.length<=sizeLine/\(a == sysModules)=false/\ ∃vs,KV kvs vs/\h.DictOf (ym_ P w) a vs
 | .dT kvs=>kvs.length<=sizeLine/\(a == sysModules)=false/\ ∃xs:List (List Key×Addr×Value),
   Paired (fun(p:List Key×V) (q:List Key×Addr×Value)=>p.1=q.1/\H q.2.1=some (.tup (p.1.map kV))/\vt_ p.2 q.2.2) kvs xs/\
   ∃o es ep,h.get? a=some o/\o.ExactDict/\o.data= .dict es ep/\es.toList=xs.map (entryOfKey (tupleKind (ym_ P w)))/\(xs.map (·.1)).Nodup
 | .set S n=>h.SetOf (intKind P w) a S n
 | .ins C dx fs=>H dx=some (.own a)/\fs.length<=1000/\dx≠a/\h.get? a=some (PySem.W.instObj C dx)/\
   ∃mA,h.Ns1 dx mA/\(∀f,RelO (fs.lookup f) (mA f))/\PySem.Within mA (fs.map (·.1))
 | .own _=> ∃o,h.get? a=some o
 | .xd fs=> ∃mA,h.Ns1 a mA/\ ∀f,RelO (fs.lookup f) (mA f)
 | .rng lo hi=> ∃t u v,h.get? a=some { cls:= .type "range",data:= .fields #[.int lo t, .int hi u, .int 1 v] }
 | .frz o u=>h.get? a=some o/\qh_ H h a u
 | .tbl ps=>h.get? a=some { cls:= .none,data:= .fields ps }
 | .met f x=>h.get? a=some (PySem.W.methodObj (.ref f) (.ref x))
 | .ext φ=>φ h/\(∃o,h.get? a=some o)/\ ∀h1 h2:Heap,φ h1->(∀o,h1.get? a=some o->h2.get? a=some o)->φ h2
def HOk (H:Hp) (h:Heap):Prop:= ∀a o,H a=some o->qh_ P w H h a o
end
section
variable {P:Program} {w:World} {H H':Hp} {h h':Heap} {a:Addr} {o:HO}
theorem qh_.lt (x:qh_ P w H h a o):a<h.objs.size:=by
 cases o with
 |lst xs=>obtain⟨_,_,_,_,e⟩:=x;exact Heap.lt_size e
 |tup xs=>obtain⟨_,_,_,p⟩:=x;exact p.lt
 |dK kvs=>obtain⟨_,_,_,_,o,_,_,e,_⟩:=x;exact Heap.lt_size e
 |dT kvs=>obtain⟨_,_,_,_,o,_,_,e,_⟩:=x;exact Heap.lt_size e
 |set S n=>obtain⟨o,_,_,_,e,_⟩:=x;exact Heap.lt_size e
 |ins C dx fs=>obtain⟨_,_,_,e,_⟩:=x;exact Heap.lt_size e
 |own y=>obtain⟨_,e⟩:=x;exact Heap.lt_size e
 |xd fs=>obtain⟨_,⟨_,_,_,e,_⟩,_⟩:=x;exact Heap.lt_size e
 |rng lo hi=>obtain⟨_,_,_,e⟩:=x;exact Heap.lt_size e
 |frz ob u=>obtain⟨e,_⟩:=x;exact Heap.lt_size e
 |tbl ps=>exact Heap.lt_size (show h.get? a=some _ from x)
 |met f y=>exact Heap.lt_size (show h.get? a=some _ from x)
 |ext φ=>obtain⟨_,⟨_,e⟩,_⟩:=x;exact Heap.lt_size e
theorem Paired.mapP {α β:Type} {F G:α->β->Prop} : ∀ {l₁:List α} {l₂:List β},Paired F l₁ l₂->(∀a b,F a b->G a b)->Paired G l₁ l₂
 |_,_, .nil,_=> .nil
 |_,_, .cons r t,f=> .cons (f _ _ r) (Paired.mapP t f)
theorem qh_.stay (x:qh_ P w H h a o) (k: ∀b u,(b=a\/H b=some (.own a))->h.get? b=some u->h'.get? b=some u)
  (ho: ∀b,H b=some (.own a)->H' b=some (.own a)) (ht: ∀b xs,H b=some (.tup xs)->H' b=some (.tup xs)):qh_ P w H' h' a o:=by
 induction o with
 |lst xs=>obtain⟨z,its,n,r,e⟩:=x;exact⟨z,its,n,r,k _ _ (.inl rfl) e⟩
 |tup xs=>obtain⟨z,its,r,ob,e,c⟩:=x;exact⟨z,its,r,ob,k _ _ (.inl rfl) e,c⟩
 |dK kvs=>obtain⟨z,y,vs,r,ob,es,ep,e,c⟩:=x;exact⟨z,y,vs,r,ob,es,ep,k _ _ (.inl rfl) e,c⟩
 |dT kvs=>
  obtain⟨z,y,xs,r,ob,es,ep,e,c⟩:=x
  exact⟨z,y,xs,Paired.mapP r fun p q z=>⟨z.1,ht _ _ z.2.1,z.2.2⟩,ob,es,ep,k _ _ (.inl rfl) e,c⟩
 |set S n=>obtain⟨ob,es,ep,t,e,c⟩:=x;exact⟨ob,es,ep,t,k _ _ (.inl rfl) e,c⟩
 |ins C dx fs=>
  obtain⟨d,z,ne,e,mA,⟨od,es,ep,e2,c⟩,r⟩:=x
  exact⟨ho _ d,z,ne,k _ _ (.inl rfl) e,mA,⟨od,es,ep,k _ _ (.inr d) e2,c⟩,r⟩
 |own y=>obtain⟨ob,e⟩:=x;exact⟨ob,k _ _ (.inl rfl) e⟩
 |xd fs=>obtain⟨mA,⟨od,es,ep,e,c⟩,r⟩:=x;exact⟨mA,⟨od,es,ep,k _ _ (.inl rfl) e,c⟩,r⟩
 |rng lo hi=>obtain⟨t,u,v,e⟩:=x;exact⟨t,u,v,k _ _ (.inl rfl) e⟩
 |frz ob u ih=>obtain⟨e,q⟩:=x;exact⟨k _ _ (.inl rfl) e,ih q⟩
 |tbl ps=>
  have e:h.get? a=some { cls:= .none,data:= .fields ps } :=x
  show h'.get? a=some { cls:= .none,data:= .fields ps }
  exact k a _ (.inl rfl) e
 |met f y=>
  have e:h.get? a=some (PySem.W.methodObj (.ref f) (.ref y)):=x
  show h'.get? a=some (PySem.W.methodObj (.ref f) (.ref y))
  exact k a _ (.inl rfl) e
 |ext φ=>obtain⟨p,⟨o,e⟩,st⟩:=x;exact⟨st _ _ p fun o q=>k _ _ (.inl rfl) q,⟨o,k _ _ (.inl rfl) e⟩,st⟩
theorem HOk.lt (x:HOk P w H h) (e:H a=some o):a<h.objs.size:=(x a o e).lt
theorem HOk.fresh (x:HOk P w H h) (e:h.objs.size<=a):H a=none:=by
 cases q:H a with
 |none=>rfl
 |some u=>exact absurd (Nat.lt_of_lt_of_le (x.lt q) e) (Nat.lt_irrefl _)
theorem HOk.kept (x:HOk P w H h) (k: ∀b u,h.get? b=some u->h'.get? b=some u):HOk P w H h':=fun a o e=>
 (x a o e).stay (fun b u _ q=>k b u q) (fun _ q=>q) fun _ _ q=>q
theorem HOk.laid (x:HOk P w H h) (k: ∀b u,h.get? b=some u->h'.get? b=some u) (hp:h.objs.size<=a) (new:qh_ P w (upd H a o) h' a o):HOk P w (upd H a o) h':=fun b u e=>by
 have hn:=x.fresh hp
 by_cases hb:b=a
 ·subst hb;rw[j4_] at e;cases e;exact new
 ·rw[j3_ hb] at e
  exact(x b u e).stay (fun c v _ q=>k c v q) (fun c q=>by rw[j3_ (jf_ q hn)];exact q) fun c xs q=>by rw[j3_ (jf_ q hn)];exact q
end
def Rd (H:Hp) (a:Addr) (u:HO):Prop:=H a=some u\/ ∃o,H a=some (.frz o u)
theorem Rd.ok {P:Program} {w:World} {H:Hp} {h:Heap} {a:Addr} {u:HO} (r:Rd H a u) (x:HOk P w H h):qh_ P w H h a u:=by
 rcases r with r|⟨o,r⟩
 ·exact x a u r
 ·obtain⟨_,q⟩:=x a _ r
  exact q
def Mut:Option HO->Prop
 |some (.lst _)=>True
 |some (.dK _)=>True
 |some (.dT _)=>True
 |some (.set _ _)=>True
 |some (.ins _ _ _)=>True
 |some (.ext _)=>True
 |_=>False
section
variable {P:Program} {w:World} {H:Hp} {h h':Heap} {x e:Addr} {o':HO}
theorem HOk.write (ok:HOk P w H h) (mu:Mut (H x)) (he:e=x\/H e=some (.own x)) (k: ∀b u,b≠e->h.get? b=some u->h'.get? b=some u) (heo: ∃u,h'.get? e=some u)
  (new:qh_ P w (upd H x o') h' x o'):HOk P w (upd H x o') h':=fun b u q=>by
 have nown: ∀c y,H c=some (.own y)->c≠x:=fun c y r z=>by subst z;rw[r] at mu;exact mu
 have ntup: ∀c xs,H c=some (.tup xs)->c≠x:=fun c xs r z=>by subst z;rw[r] at mu;exact mu
 by_cases hb:b=x
 ·subst hb;rw[j4_] at q;cases q;exact new
 ·rw[j3_ hb] at q
  by_cases hbe:b=e
  ·have q':H b=some (.own x):=by
    rcases he with z|z
    ·exact absurd (hbe.trans z) hb
    ·rw[hbe];exact z
   rw[q] at q';cases q'
   obtain⟨v,hv⟩:=heo
   exact⟨v,by rw[hbe];exact hv⟩
  ·refine(ok b u q).stay (fun c v hc r=>k c v ?_ r) (fun c r=>by rw[j3_ (nown c b r)];exact r) fun c xs r=>by rw[j3_ (ntup c xs r)];exact r
   rcases hc with rfl|hc
   ·exact hbe
   ·rintro rfl
    rcases he with z|z
    ·exact nown c b hc z
    ·rw[hc] at z;cases z;exact hb rfl
end
structure Un (fs ex:List Addr) (H H':Hp) (h h':Heap):Prop where
 keep: ∀b o,h.get? b=some o->H b=none->b∉fs->b∉ex->h'.get? b=some o
 slot: ∀b o,h.get? b=some o->H b=none->b∈fs->b∉ex-> ∃sl,h'.get? b=some { o with slots:=sl }
 free: ∀b o,h.get? b=some o->H b=none->b∉ex->H' b=none
 there: ∀b o,h.get? b=some o->b∉ex-> ∃o',h'.get? b=some o'
 tups: ∀b xs,H b=some (.tup xs)->H' b=some (.tup xs)
 frzs: ∀b o u,H b=some (.frz o u)->H' b=some (.frz o u)
 tbls: ∀b ps,H b=some (.tbl ps)-> ∃more,H' b=some (.tbl (ps++more))
section
variable {fs fs' ex ex':List Addr} {H H1 H2:Hp} {h h1 h2 h':Heap} {a x e:Addr} {o:HO}
theorem Un.any (u:Un fs ex H H1 h h1) {b:Addr} {ob:Obj} (q:h.get? b=some ob) (n:H b=none) (hx:b∉ex): ∃sl,h1.get? b=some { ob with slots:=sl } :=by
 by_cases hb:b∈fs
 ·exact u.slot b ob q n hb hx
 ·exact⟨ob.slots,u.keep b ob q n hb hx⟩
theorem Un.kept (k: ∀b u,h.get? b=some u->h'.get? b=some u):Un fs ex H H h h':=
 ⟨fun b ob q _ _ _=>k b ob q,fun b ob q _ _ _=>⟨ob.slots,k b ob q⟩,fun _ _ _ n _=>n,fun b ob q _=>⟨ob,k b ob q⟩,fun _ _ q=>q,fun _ _ _ q=>q,fun _ ps q=>⟨#[],by rw[q];simp⟩⟩
theorem Un.refl:Un fs ex H H h h:=Un.kept fun _ _ q=>q
theorem Un.laid (k: ∀b u,h.get? b=some u->h'.get? b=some u) (hp:h.objs.size<=a) (hn:H a=none):Un fs ex H (upd H a o) h h' where
 keep:=fun b u q _ _ _=>k b u q
 slot:=fun b u q _ _ _=>⟨u.slots,k b u q⟩
 free:=fun b u q n _=>by rw[j3_ (Nat.ne_of_lt (Nat.lt_of_lt_of_le (Heap.lt_size q) hp))];exact n
 there:=fun b u q _=>⟨u,k b u q⟩
 tups:=fun b xs q=>by rw[j3_ (jf_ q hn)];exact q
 frzs:=fun b u xs q=>by rw[j3_ (jf_ q hn)];exact q
 tbls:=fun b ps q=>⟨#[],by rw[j3_ (jf_ q hn),q];simp⟩
theorem Un.write (mu:Mut (H x)) (he:e=x\/H e=some (.own x)) (k: ∀b u,b≠e->h.get? b=some u->h'.get? b=some u) (heo: ∃u,h'.get? e=some u):Un fs ex H (upd H x o) h h':=by
 have hx: ∀b,H b=none->b≠x:=fun b n z=>by subst z;rw[n] at mu;exact mu
 have hb: ∀b,H b=none->b≠e:=fun b n z=>by
  subst z
  rcases he with r|r
  ·exact hx b n r
  ·rw[n] at r;cases r
 have hm: ∀b u,H b=some u-> ¬Mut (some u)->b≠x:=fun b u q nm z=>by subst z;rw[q] at mu;exact nm mu
 refine⟨fun b u q n _ _=>k b u (hb b n) q,fun b u q n _ _=>⟨u.slots,k b u (hb b n) q⟩,fun b u q n _=>by rw[j3_ (hx b n)];exact n,fun b u q _=>?_,
  fun b xs q=>by rw[j3_ (hm b _ q fun z=>z)];exact q,fun b u xs q=>by rw[j3_ (hm b _ q fun z=>z)];exact q,fun b ps q=>⟨#[],by rw[j3_ (hm b _ q fun z=>z),q];simp⟩⟩
 by_cases hbe:b=e
 ·subst hbe;exact heo
 ·exact⟨u,k b u hbe q⟩
end
def trk (h:Heap) (H:Hp):List Addr:=(List.range h.objs.size).filter fun a=>(H a).isSome
def hidT (h:Heap) (H:Hp):Heap:=PySem.W.hideAll h (trk h H)
theorem hidT_size (h:Heap) (H:Hp):(hidT h H).objs.size=h.objs.size:=PySem.W.hideAll_size _ _
theorem hidT_get {h:Heap} {H:Hp} {b:Addr} {o:Obj} (e:h.get? b=some o) (n:H b=none):(hidT h H).get? b=some o:=
 PySem.W.hideAll_get _ e fun hm=>by
  have q:(H b).isSome=true:=(List.mem_filter.mp hm).2
  rw[n] at q;simp at q
theorem of_hidT {h:Heap} {H:Hp} {b:Addr} {o:Obj} (e:(hidT h H).get? b=some o):h.get? b=some o/\H b=none:=by
 have e':h.get? b=some o:=PySem.W.of_hideAll (trk h H) e
 refine⟨e',?_⟩
 cases q:H b with
 |none=>rfl
 |some x=>
  have hm:b∈trk h H:=List.mem_filter.mpr ⟨List.mem_range.mpr (Heap.lt_size e'),by simp [q]⟩
  have z:(hidT h H).get? b=none:=PySem.W.hideAll_none (trk h H) hm
  rw[z] at e;cases e
end L2
namespace L2
open PySem PySem.Spec PyProof.Rows
structure Mod (K:PySem.W.Frag) (mg:Str->Option Value) (base:Heap):Prop where
 kin:K.In base
 glob:base.Ns mainGlobals mg
 blt: ∃mb,base.Ns builtinsNs mb/\ ∀x:Str,x≠"__name__"->mb x=bootBuiltins x
 nolimit:base.NoLimit
structure Cx where
 prog:Program
 w:World
 K:PySem.W.Frag
 mg:Str->Option Value
 base:Heap
 A:Around
 N:List Str
 s_0:Shared
 H_0:Hp
 env:Env
 outer:List Env
 stack:List Env
 ex:List Addr
 fn:Str->Bool
 calm:Bool
 pn:List (Addr×Obj)
 xe:Value->Shared->Prop
def frs (l:List Env):List Addr:=l.filterMap (·.frame)
abbrev Cx.fs (X:Cx):List Addr:=frs X.outer
def Vis (sc:Scope) (x:Str):Prop:=sc.names.lookup x=some .local\/sc.names.lookup x=some .cell\/sc.names.lookup x=some .free
def Loc (sc:Scope) (x:Str):Prop:=sc.names.lookup x=some .local\/sc.names.lookup x=some .cell
def Look (env:Env) (h:Heap) (m:Str->Option Value) (x:Str) (u:Value):Prop:=
 (env.kindOf x=some .local/\m x=some u)\/((env.kindOf x=some .cell\/env.kindOf x=some .free)/\ ∃c,env.cells.lookup x=some c/\h.IsCell c (some u))
structure Cx.Ok (X:Cx):Prop where
 mod:Mod X.K X.mg X.base
 kind:X.env.scope.kind= .function
 glob:X.env.globals=mainGlobals
 blt:X.env.builtins=builtinsNs
 above:X.s_0.heap.objs.size<=X.env.locals
 inj: ∀x y c,X.env.cells.lookup x=some c->X.env.cells.lookup y=some c->x=y
 has: ∀x,(X.env.kindOf x=some .cell\/X.env.kindOf x=some .free)-> ∃c,X.env.cells.lookup x=some c
 cab: ∀x c,X.fn x=true->X.env.cells.lookup x=some c->X.s_0.heap.objs.size<=c
 hd:X.calm=true->X.A.handled=none
 frames:X.A.frames=some X.stack
 stk:X.stack=X.outer\/(X.stack=X.env::X.outer/\X.env.frame=some X.env.locals)
 exf: ∀b∈X.ex,b≠X.env.locals/\ ∀x c,X.env.cells.lookup x=some c->c≠b
 bs: ∀b o,X.base.get? b=some o->X.s_0.heap.get? b=some o/\X.H_0 b=none
 bsz:X.base.objs.size<=X.s_0.heap.objs.size
 noex: ∀b o,X.base.get? b=some o->b∉X.ex
 exfs: ∀b∈X.ex,b∉X.fs
 funs:X.s_0.heap.FunFrames X.base X.outer
 frf: ∀b∈X.fs,X.H_0 b=none
structure Inv (X:Cx) (pins:List (Addr×Obj)) (σ:List (Option V)) (H:Hp) (s:Shared):Prop where
 ok:X.Ok
 os:s.os=X.s_0.os
 bare:AllBare s.gens
 base:Un X.fs X.ex X.H_0 H X.s_0.heap s.heap
 loc: ∃m,s.heap.Ns X.env.locals m/\ ∀(i:Nat) (x:Str) (v:V),X.N[i]?=some x->σ[i]?=some (some v)->Vis X.env.scope x-> ∃u,vt_ v u/\Look X.env s.heap m x u
 cell: ∀x c,X.env.cells.lookup x=some c-> ∃v,s.heap.IsCell c v
 free:H X.env.locals=none
 freeC: ∀x c,X.env.cells.lookup x=some c->H c=none
 pin: ∀p∈X.pn++pins,s.heap.get? p.1=some p.2/\H p.1=none/\p.1≠X.env.locals/\p.1∉X.fs/\ ∀v,p.2.data≠ .cell v
 hok:HOk X.prog X.w H s.heap
 len:σ.length=X.N.length
section
variable {X:Cx} {pins:List (Addr×Obj)} {σ:List (Option V)} {H H':Hp} {s:Shared} {h':Heap}
theorem Cx.Ok.nofr (ok:X.Ok) {b:Addr} {o:Obj} (e:X.base.get? b=some o):b∉X.fs:=fun hb=>by
 have:=(ok.funs.mem hb).1
 rw[e] at this;cases this
theorem Inv.bs (I:Inv X pins σ H s): ∀b o,X.base.get? b=some o->s.heap.get? b=some o/\H b=none:=fun b o e=>
 ⟨I.base.keep b o (I.ok.bs b o e).1 (I.ok.bs b o e).2 (I.ok.nofr e) (I.ok.noex b o e),I.base.free b o (I.ok.bs b o e).1 (I.ok.bs b o e).2 (I.ok.noex b o e)⟩
theorem Inv.bk (I:Inv X pins σ H s): ∀b o,X.base.get? b=some o->s.heap.get? b=some o:=fun b o e=>(I.bs b o e).1
theorem Inv.mod (I:Inv X pins σ H s):Mod X.K X.mg X.base:=I.ok.mod
theorem Inv.kIn (I:Inv X pins σ H s):X.K.In s.heap:=I.ok.mod.kin.keeps I.bk
theorem Inv.fr (I:Inv X pins σ H s): ∃m,Fr X.base X.env.locals s.heap m:=
 let ⟨m,hn,_⟩:=I.loc
 ⟨m,hn,I.bk,Nat.le_trans I.ok.bsz I.ok.above⟩
theorem Inv.lt (I:Inv X pins σ H s):X.env.locals<s.heap.objs.size:=let ⟨_,hn,_⟩:=I.loc;hn.lt
theorem Inv.sz (I:Inv X pins σ H s):X.s_0.heap.objs.size<=s.heap.objs.size:=Nat.le_trans I.ok.above (Nat.le_of_lt I.lt)
theorem Inv.nofs (I:Inv X pins σ H s) {a:Addr} (h:s.heap.objs.size<=a):a∉X.fs:=fun hb=>by
 obtain⟨_,o,ho,_⟩:=I.ok.funs.mem hb
 exact absurd (Nat.lt_of_lt_of_le (Heap.lt_size ho) (Nat.le_trans I.sz h)) (Nat.lt_irrefl _)
theorem Inv.cne (I:Inv X pins σ H s): ∀x c,X.env.cells.lookup x=some c->c≠X.env.locals:=fun x c e z=>by
 obtain⟨v,o,ho,hd⟩:=I.cell x c e
 obtain⟨m,⟨o',es,ep,ho',hd',_⟩,_⟩:=I.loc
 rw[z,ho'] at ho;cases ho;rw[hd'] at hd;cases hd
theorem Inv.funs (I:Inv X pins σ H s):s.heap.FunFrames X.base X.outer:=by
 have all: ∀(l:List Env),(∀b∈frs l,b∈X.fs)->X.s_0.heap.FunFrames X.base l->s.heap.FunFrames X.base l:=by
  intro l
  induction l with
  |nil=>intro _ _;trivial
  |cons env r ih=>
   intro hs hl
   obtain⟨hk,⟨L,o,hf,hn,ho,hd⟩,hr⟩:=hl
   have hL:L∈X.fs:=hs L (by unfold frs;rw[List.filterMap_cons,hf];exact List.mem_cons_self)
   obtain⟨sl,e⟩:=I.base.slot L o ho (I.ok.frf L hL) hL fun z=>I.ok.exfs L z hL
   exact⟨hk,⟨L,_,hf,hn,e,hd⟩,ih (fun b hb=>hs b (by unfold frs;rw[List.filterMap_cons,hf];exact List.mem_cons_of_mem _ hb)) hr⟩
 exact all X.outer (fun _ hb=>hb) I.ok.funs
theorem Inv.stack (I:Inv X pins σ H s):s.heap.FunFrames X.base X.stack:=by
 rcases I.ok.stk with e|⟨e,hf⟩
 ·rw[e];exact I.funs
 ·rw[e]
  obtain⟨m,hn,_⟩:=I.loc
  refine .cons (by rw[I.ok.kind];decide) hf hn ?_ I.funs
  exact Heap.get?_none_of_le (Nat.le_trans I.ok.bsz I.ok.above)
theorem Inv.stkSub (I:Inv X pins σ H s): ∀b∈frs X.stack,b∈X.env.locals::X.fs:=fun b hb=>by
 rcases I.ok.stk with e|⟨e,hf⟩
 ·rw[e] at hb;exact List.mem_cons_of_mem _ hb
 ·rw[e] at hb
  unfold frs at hb
  rw[List.filterMap_cons,hf] at hb
  exact hb
theorem Inv.stkFree (I:Inv X pins σ H s): ∀b∈frs X.stack,H b=none:=fun b hb=>by
 rcases List.mem_cons.mp (I.stkSub b hb) with e|hb
 ·rw[e];exact I.free
 ·obtain⟨_,o,ho,_⟩:=I.ok.funs.mem hb
  exact I.base.free b o ho (I.ok.frf b hb) fun z=>I.ok.exfs b z hb
theorem Inv.step {g':Array GenState} {t':Nat} {d':Drawn} {ch:List Addr} (I:Inv X pins σ H s)
  (hch: ∀b∈ch,(b∈X.ex\/X.s_0.heap.objs.size<=b)/\b≠X.env.locals/\(∀x c,X.env.cells.lookup x=some c->c≠b)/\ ∀p∈X.pn++pins,p.1≠b)
  (keep: ∀b o,b≠X.env.locals->b∉X.fs->b∉ch->s.heap.get? b=some o->H b=none->h'.get? b=some o)
  (slot: ∀b o,b≠X.env.locals->b∈X.fs->b∉ch->s.heap.get? b=some o->H b=none-> ∃sl,h'.get? b=some { o with slots:=sl }) (free: ∀b o,b∉ch->s.heap.get? b=some o->H b=none->H' b=none)
  (there: ∀b o,b∉ch->s.heap.get? b=some o-> ∃o',h'.get? b=some o')
  (tups: ∀b xs,H b=some (.tup xs)->H' b=some (.tup xs)) (frzs: ∀b o u,H b=some (.frz o u)->H' b=some (.frz o u)) (tbls: ∀b ps,H b=some (.tbl ps)-> ∃more,H' b=some (.tbl (ps++more)))
  (ns: ∀m,s.heap.Ns X.env.locals m->h'.Ns X.env.locals m) (hok:HOk X.prog X.w H' h') (hg:AllBare g'):
  Inv X pins σ H' { s with heap:=h',gens:=g',drawn:=d',toks:=t' } :=by
 have neL: ∀b o,X.s_0.heap.get? b=some o->b≠X.env.locals:=fun b o e=>Nat.ne_of_lt (Nat.lt_of_lt_of_le (Heap.lt_size e) I.ok.above)
 have neC: ∀b o,X.s_0.heap.get? b=some o->b∉X.ex->b∉ch:=fun b o e hx hb=>by
  rcases(hch b hb).1 with z|z
  ·exact hx z
  ·exact absurd (Nat.lt_of_lt_of_le (Heap.lt_size e) z) (Nat.lt_irrefl _)
 have cellK: ∀x c,X.env.cells.lookup x=some c-> ∀v,s.heap.IsCell c v->h'.IsCell c v:=fun x c e v ⟨o,ho,hd⟩=>by
  have nch:c∉ch:=fun z=>(hch c z).2.2.1 x c e rfl
  by_cases hc:c∈X.fs
  ·obtain⟨sl,q⟩:=slot c o (I.cne x c e) hc nch ho (I.freeC x c e)
   exact⟨_,q,hd⟩
  ·exact⟨o,keep c o (I.cne x c e) hc nch ho (I.freeC x c e),hd⟩
 refine⟨I.ok,I.os,hg,⟨fun b o e n hb hx=>?_,fun b o e n hb hx=>?_,fun b o e n hx=>?_,fun b o e hx=>?_,fun b xs e=>tups b xs (I.base.tups b xs e),fun b o xs e=>frzs b o xs (I.base.frzs b o xs e),fun b ps e=>?_⟩,?_,fun x c e=>?_,?_,fun x c e=>?_,fun p hp=>?_,hok,I.len⟩
 ·exact keep b o (neL b o e) hb (neC b o e hx) (I.base.keep b o e n hb hx) (I.base.free b o e n hx)
 ·obtain⟨sl,e1⟩:=I.base.slot b o e n hb hx
  obtain⟨sl',e2⟩:=slot b _ (neL b o e) hb (neC b o e hx) e1 (I.base.free b o e n hx)
  exact⟨sl',e2⟩
 ·obtain⟨o',e1⟩:=I.base.there b o e hx
  exact free b o' (neC b o e hx) e1 (I.base.free b o e n hx)
 ·obtain⟨o',e1⟩:=I.base.there b o e hx
  exact there b o' (neC b o e hx) e1
 ·obtain⟨m1,e1⟩:=I.base.tbls b ps e
  obtain⟨m2,e2⟩:=tbls b _ e1
  exact⟨m1++m2,by rw[e2,Array.append_assoc]⟩
 ·obtain⟨m,hn,hl⟩:=I.loc
  refine⟨m,ns m hn,fun i x v e1 e2 e3=>?_⟩
  obtain⟨u,r,l⟩:=hl i x v e1 e2 e3
  refine⟨u,r,?_⟩
  rcases l with l|⟨k,c,e,z⟩
  ·exact .inl l
  ·exact .inr ⟨k,c,e,cellK x c e _ z⟩
 ·obtain⟨v,z⟩:=I.cell x c e
  exact⟨v,cellK x c e v z⟩
 ·obtain⟨m,⟨o,_,_,ho,_⟩,_⟩:=I.loc
  exact free _ o (fun z=>(hch _ z).2.1 rfl) ho I.free
 ·obtain⟨v,o,ho,hd⟩:=I.cell x c e
  exact free c o (fun z=>(hch c z).2.2.1 x c e rfl) ho (I.freeC x c e)
 ·obtain⟨e,n,ne,nf,d⟩:=I.pin p hp
  have nch:p.1∉ch:=fun z=>(hch p.1 z).2.2.2 p hp rfl
  exact⟨keep p.1 p.2 ne nf nch e n,free p.1 p.2 nch e n,ne,nf,d⟩
theorem Inv.un {t':Nat} (I:Inv X pins σ H s) (u:Un X.fs [] H H' s.heap h') (hok:HOk X.prog X.w H' h'):Inv X pins σ H' { s with heap:=h',toks:=t' } :=by
 obtain⟨m,⟨o,es,ep,ho,r⟩,_⟩:=id I.loc
 obtain⟨sl,hL⟩:=u.any ho I.free (by simp)
 exact I.step (g':=s.gens) (d':=s.drawn) (ch:=[]) (fun _ z=>nomatch z) (fun b o _ hb _ e n=>u.keep b o e n hb (by simp)) (fun b o _ hb _ e n=>u.slot b o e n hb (by simp)) (fun b o _ e n=>u.free b o e n (by simp)) (fun b o _ e=>u.there b o e (by simp)) u.tups u.frzs u.tbls (fun m' hm=>by
  obtain⟨o',es',ep',ho',r'⟩:=hm
  rw[ho] at ho';cases ho'
  exact⟨_,es',ep',hL,r'⟩) hok I.bare
theorem Inv.call {g':Array GenState} {t':Nat} {d':Drawn} {ch:List Addr} (I:Inv X pins σ H s) (u:Un (frs X.stack) ch H H' s.heap h') (hok:HOk X.prog X.w H' h') (hg:AllBare g')
  (hch: ∀b∈ch,(b∈X.ex\/X.s_0.heap.objs.size<=b)/\b≠X.env.locals/\(∀x c,X.env.cells.lookup x=some c->c≠b)/\ ∀p∈X.pn++pins,p.1≠b):
  Inv X pins σ H' { s with heap:=h',gens:=g',drawn:=d',toks:=t' } :=by
 obtain⟨m,⟨o,es,ep,ho,r⟩,_⟩:=id I.loc
 obtain⟨sl,hL⟩:=u.any ho I.free fun z=>(hch _ z).2.1 rfl
 exact I.step (ch:=ch) hch (fun b o hL hb hc e n=>u.keep b o e n (fun z=>(List.mem_cons.mp (I.stkSub b z)).elim hL hb) hc) (fun b o _ _ hc e n=>u.any e n hc) (fun b o hc e n=>u.free b o e n hc) (fun b o hc e=>u.there b o e hc) u.tups u.frzs u.tbls (fun m' hm=>by
  obtain⟨o',es',ep',ho',r'⟩:=hm
  rw[ho] at ho';cases ho'
  exact⟨_,es',ep',hL,r'⟩) hok hg
theorem Inv.turned {t':Nat} {it:Addr} (I:Inv X pins σ H s) (k: ∀b o,b≠it->s.heap.get? b=some o->h'.get? b=some o) (hn:H it=none) (hL:it≠X.env.locals)
  (h1:it∈X.ex\/X.s_0.heap.objs.size<=it) (h2: ∀x c,X.env.cells.lookup x=some c->c≠it) (h3: ∀p∈X.pn++pins,p.1≠it):Inv X pins σ H { s with heap:=h',toks:=t' } :=by
 have nit: ∀b u,H b=some u->b≠it:=fun b u e z=>by rw[z,hn] at e;cases e
 refine I.step (g':=s.gens) (d':=s.drawn) (ch:=[it]) (fun b hb=>?_) (fun b o _ _ hc e _=>k b o (fun z=>hc (by simp [z])) e) (fun b o _ _ hc e _=>⟨o.slots,k b o (fun z=>hc (by simp [z])) e⟩) (fun _ _ _ _ n=>n)
  (fun b o hc e=>⟨o,k b o (fun z=>hc (by simp [z])) e⟩) (fun _ _ e=>e) (fun _ _ _ e=>e) (fun b ps e=>⟨#[],by rw[e];simp⟩) (fun m hm=>?_) (fun b u e=>?_) I.bare
 ·have e:b=it:=by simpa using hb
  subst e
  exact⟨h1,hL,h2,h3⟩
 ·obtain⟨o,es,ep,ho,r⟩:=hm
  exact⟨o,es,ep,k _ o (Ne.symm hL) ho,r⟩
 ·refine(I.hok b u e).stay (fun c v hc q=>k c v ?_ q) (fun _ q=>q) fun _ _ q=>q
  rcases hc with z|z
  ·rw[z];exact nit b u e
  ·exact nit c _ z
theorem Inv.tok (I:Inv X pins σ H s) (t:Nat):Inv X pins σ H { s with toks:=t } :=I.un (h':=s.heap) (t':=t) Un.refl I.hok
theorem Inv.kept {t':Nat} (I:Inv X pins σ H s) (k: ∀b u,s.heap.get? b=some u->h'.get? b=some u):Inv X pins σ H { s with heap:=h',toks:=t' } :=I.un (Un.kept k) (I.hok.kept k)
theorem Inv.laid {a:Addr} {o:HO} {t':Nat} (I:Inv X pins σ H s) (k: ∀b u,s.heap.get? b=some u->h'.get? b=some u) (hp:s.heap.objs.size<=a) (new:qh_ X.prog X.w (upd H a o) h' a o):
  Inv X pins σ (upd H a o) { s with heap:=h',toks:=t' } :=I.un (Un.laid k hp (I.hok.fresh hp)) (I.hok.laid k hp new)
theorem Inv.write {x e:Addr} {o:HO} {t':Nat} (I:Inv X pins σ H s) (mu:Mut (H x)) (he:e=x\/H e=some (.own x)) (k: ∀b u,b≠e->s.heap.get? b=some u->h'.get? b=some u) (heo: ∃u,h'.get? e=some u)
  (new:qh_ X.prog X.w (upd H x o) h' x o):Inv X pins σ (upd H x o) { s with heap:=h',toks:=t' } :=I.un (Un.write mu he k heo) (I.hok.write mu he k heo new)
theorem Inv.weak {σ':List (Option V)} (I:Inv X pins σ H s) (hl:σ'.length=σ.length) (w: ∀(i:Nat) v,σ'[i]?=some (some v)->σ[i]?=some (some v)):Inv X pins σ' H s:=
 ⟨I.ok,I.os,I.bare,I.base,let ⟨m,hn,hl'⟩:=I.loc;⟨m,hn,fun i x v e1 e2 e3=>hl' i x v e1 (w i v e2) e3⟩,I.cell,I.free,I.freeC,I.pin,I.hok,hl.trans I.len⟩
theorem Inv.pins_of {pins':List (Addr×Obj)} (I:Inv X pins σ H s) (h: ∀p∈pins',s.heap.get? p.1=some p.2/\H p.1=none/\p.1≠X.env.locals/\p.1∉X.fs/\ ∀v,p.2.data≠ .cell v):Inv X pins' σ H s:=
 ⟨I.ok,I.os,I.bare,I.base,I.loc,I.cell,I.free,I.freeC,fun p hp=>(List.mem_append.mp hp).elim (fun z=>I.pin p (List.mem_append_left _ z)) (h p),I.hok,I.len⟩
theorem nodup_ix {N:List Str} (hN:N.Nodup) {i j:Nat} {x:Str} (a:N[i]?=some x) (b:N[j]?=some x):i=j:=by
 obtain⟨h1,e1⟩:=List.getElem?_eq_some_iff.mp a
 obtain⟨h2,e2⟩:=List.getElem?_eq_some_iff.mp b
 exact(List.getElem_inj hN).mp (e1.trans e2.symm)
theorem store_ok2 {M:Model} {A:Around} {E:Value->Shared->Prop} {i:Nat} {x:Str} {v:V} {u:Value} {Q:Unit->Shared->Prop} (I:Inv X pins σ H s) (hN:X.N.Nodup) (hi:X.N[i]?=some x) (hx:Loc X.env.scope x) (r:vt_ v u)
  (h: ∀s',Inv X pins (σ.set i (some v)) H s'->(∃a,Heap.SameBut a s.heap s'.heap/\(a=X.env.locals\/X.env.cells.lookup x=some a))->Q () s') (hf:X.fn x=true\/X.env.scope.names.lookup x=some .local:=by first|exact .inl rfl|exact .inr rfl|assumption):wpAny M A (storeName X.env x u) Q E s:=by
 obtain⟨m,hn,hl⟩:=id I.loc
 have hcls:(X.env.scope.kind == .class||(X.env.scope.kind == .module&&X.env.locals !=X.env.globals))=false:=by rw[I.ok.kind];rfl
 have hiσ:i<σ.length:=by rw[I.len];exact(List.getElem?_eq_some_iff.mp hi).1
 have cne:=I.cne
 have tracked: ∀ {a:Addr} {h':Heap},(∃o,s.heap.get? a=some o/\H a=none)->Heap.SameBut a s.heap h'->HOk X.prog X.w H h':=fun {a h'} ha hs b ob e=>by
  obtain⟨_,_,hfree⟩:=ha
  refine(I.hok b ob e).stay (fun c w' hc q=>(hs.2 c ?_).trans q) (fun _ q=>q) fun _ _ q=>q
  rintro rfl
  rcases hc with rfl|hc
  ·rw[hfree] at e;cases e
  ·rw[hfree] at hc;cases hc
 rcases hx with hk|hk
 ·refine wpAny_storeName_local hk hn (fun h' hn' hs=>?_) hcls
  obtain⟨oL,_,_,hoL,_⟩:=id hn
  refine h _ ⟨I.ok,I.os,I.bare,⟨fun b o e n hb hx=>?_,fun b o e n hb hx=>?_,I.base.free,fun b o e hx=>?_,I.base.tups,I.base.frzs,I.base.tbls⟩,⟨_,hn',fun j y v' e1 e2 e3=>?_⟩,fun y c e=>?_,I.free,I.freeC,fun p hp=>?_,tracked ⟨oL,hoL,I.free⟩ hs,by simpa using I.len⟩ ⟨_,hs, .inl rfl⟩
  ·exact(hs.2 b (Nat.ne_of_lt (Nat.lt_of_lt_of_le (Heap.lt_size e) I.ok.above))).trans (I.base.keep b o e n hb hx)
  ·obtain⟨sl,e1⟩:=I.base.slot b o e n hb hx
   exact⟨sl,(hs.2 b (Nat.ne_of_lt (Nat.lt_of_lt_of_le (Heap.lt_size e) I.ok.above))).trans e1⟩
  ·obtain⟨o',e1⟩:=I.base.there b o e hx
   exact⟨o',(hs.2 b (Nat.ne_of_lt (Nat.lt_of_lt_of_le (Heap.lt_size e) I.ok.above))).trans e1⟩
  ·by_cases hj:j=i
   ·subst hj
    rw[hi] at e1;cases e1
    rw[List.getElem?_set_self hiσ] at e2
    cases e2
    exact⟨u,r, .inl ⟨hk,by simp⟩⟩
   ·rw[List.getElem?_set_ne (Ne.symm hj)] at e2
    obtain⟨u',r',q⟩:=hl j y v' e1 e2 e3
    refine⟨u',r',?_⟩
    rcases q with⟨k,e⟩|⟨k,c,e,z⟩
    ·refine .inl ⟨k,?_⟩
     have:y≠x:=fun e=>hj (nodup_ix hN e1 (e▸hi))
     simp [this,e]
    ·exact .inr ⟨k,c,e,z.sameBut hs (cne y c e)⟩
  ·obtain⟨w',z⟩:=I.cell y c e
   exact⟨w',z.sameBut hs (cne y c e)⟩
  ·obtain⟨e,n,ne,nf,d⟩:=I.pin p hp
   exact⟨(hs.2 p.1 ne).trans e,n,ne,nf,d⟩
 ·have hfn:X.fn x=true:=by
   rcases hf with z|z
   ·exact z
   ·rw[z] at hk;cases hk
  obtain⟨c,hc⟩:=I.ok.has x (.inl hk)
  obtain⟨w',z⟩:=I.cell x c hc
  refine wpAny_storeName_cell I.ok.kind hk hc z (fun h' hc' hs=>?_)
  obtain⟨oc,hoc,hocd⟩:=id z
  refine h { s with heap:=h' } ⟨I.ok,I.os,I.bare,⟨fun b o e n hb hx=>?_,fun b o e n hb hx=>?_,I.base.free,fun b o e hx=>?_,I.base.tups,I.base.frzs,I.base.tbls⟩,⟨m,hn.sameBut hs (Ne.symm (cne x c hc)),fun j y v' e1 e2 e3=>?_⟩,fun y c' e=>?_,I.free,I.freeC,fun p hp=>?_,tracked ⟨oc,hoc,I.freeC x c hc⟩ hs,by simpa using I.len⟩ ⟨c,hs, .inr hc⟩
  ·exact(hs.2 b (Nat.ne_of_lt (Nat.lt_of_lt_of_le (Heap.lt_size e) (I.ok.cab x c hfn hc)))).trans (I.base.keep b o e n hb hx)
  ·obtain⟨sl,e1⟩:=I.base.slot b o e n hb hx
   exact⟨sl,(hs.2 b (Nat.ne_of_lt (Nat.lt_of_lt_of_le (Heap.lt_size e) (I.ok.cab x c hfn hc)))).trans e1⟩
  ·obtain⟨o',e1⟩:=I.base.there b o e hx
   exact⟨o',(hs.2 b (Nat.ne_of_lt (Nat.lt_of_lt_of_le (Heap.lt_size e) (I.ok.cab x c hfn hc)))).trans e1⟩
  ·by_cases hj:j=i
   ·subst hj
    rw[hi] at e1;cases e1
    rw[List.getElem?_set_self hiσ] at e2
    cases e2
    exact⟨u,r, .inr ⟨.inl hk,c,hc,hc'⟩⟩
   ·rw[List.getElem?_set_ne (Ne.symm hj)] at e2
    obtain⟨u',r',q⟩:=hl j y v' e1 e2 e3
    refine⟨u',r',?_⟩
    rcases q with q|⟨k,c',e,z'⟩
    ·exact .inl q
    ·refine .inr ⟨k,c',e,z'.sameBut hs ?_⟩
     rintro rfl
     exact hj (nodup_ix hN e1 (I.ok.inj _ _ _ e hc▸hi))
  ·by_cases hcc:c'=c
   ·subst hcc;exact⟨_,hc'⟩
   ·obtain⟨w2,z2⟩:=I.cell y c' e
    exact⟨w2,z2.sameBut hs hcc⟩
  ·obtain⟨e,n,ne,nf,d⟩:=I.pin p hp
   refine⟨(hs.2 p.1 ?_).trans e,n,ne,nf,d⟩
   intro q
   rw[q,hoc] at e
   have q':oc=p.2:=Option.some.inj e
   exact d w' (by rw[<-q'];exact hocd)
theorem store_ok {M:Model} {A:Around} {E:Value->Shared->Prop} {i:Nat} {x:Str} {v:V} {u:Value} {Q:Unit->Shared->Prop} (I:Inv X pins σ H s) (hN:X.N.Nodup) (hi:X.N[i]?=some x) (hx:Loc X.env.scope x) (r:vt_ v u)
  (h: ∀s',Inv X pins (σ.set i (some v)) H s'->Q () s') (hf:X.fn x=true\/X.env.scope.names.lookup x=some .local:=by first|exact .inl rfl|exact .inr rfl|assumption):wpAny M A (storeName X.env x u) Q E s:=
 store_ok2 I hN hi hx r (fun s' I' _=>h s' I') hf
theorem Inv.call' {s':Shared} {ch:List Addr} (I:Inv X pins σ H s) (ho:s'.os=s.os) (u:Un (frs X.stack) ch H H' s.heap s'.heap) (hok:HOk X.prog X.w H' s'.heap) (hg:AllBare s'.gens)
  (hch: ∀b∈ch,(b∈X.ex\/X.s_0.heap.objs.size<=b)/\b≠X.env.locals/\(∀x c,X.env.cells.lookup x=some c->c≠b)/\ ∀p∈X.pn++pins,p.1≠b):Inv X pins σ H' s':=by
 obtain⟨h',g',d',t',o'⟩:=s'
 have e:o'=s.os:=ho
 subst e
 exact I.call (g':=g') (t':=t') (d':=d') u hok hg hch
end
abbrev XK:=Value->Option Addr->Hp->Prop
abbrev St:=List (Option V)
abbrev VK:=V->Hp->Prop
abbrev TE:=St->Hp->VK->Prop
abbrev TT:=St->Hp->(Bool->Hp->Prop)->Prop
abbrev TA:=St->Hp->(List V->Hp->Prop)->Prop
structure Ends where
 nx:St->Hp->Prop
 rt:VK
 bk:St->Hp->Prop:=fun _ _=>False
 ct:St->Hp->Prop:=fun _ _=>False
abbrev TS:=Ends->St->Hp->Prop
def EP (X:Cx) (pins:List (Addr×Obj)) (σ:St) (Q:VK) (u:Value) (s':Shared):Prop:= ∃v H',Inv X pins σ H' s'/\vt_ v u/\Q v H'
def TP (X:Cx) (pins:List (Addr×Obj)) (σ:St) (Q:Bool->Hp->Prop) (b:Bool) (s':Shared):Prop:= ∃H',Inv X pins σ H' s'/\Q b H'
def AP (X:Cx) (pins:List (Addr×Obj)) (σ:St) (Q:List V->Hp->Prop) (us:List Value) (s':Shared):Prop:= ∃vs H',Inv X pins σ H' s'/\vx_ vs us/\Q vs H'
def SP (X:Cx) (pins:List (Addr×Obj)) (D:Ends) (f:Flow) (s':Shared):Prop:=
 match f with
 | .next=> ∃σ' H',Inv X pins σ' H' s'/\D.nx σ' H'
 | .brk=> ∃σ' H',Inv X pins σ' H' s'/\D.bk σ' H'
 | .cont=> ∃σ' H',Inv X pins σ' H' s'/\D.ct σ' H'
 | .ret u=> ∃v σ' H',Inv X pins σ' H' s'/\vt_ v u/\D.rt v H'
def PE (X:Cx) (e:Expr) (t:TE):Prop:=
 ∀(pins:List (Addr×Obj)) (s:Shared) (σ:St) (H:Hp) (Q:VK),Inv X pins σ H s->t σ H Q->wpAny (model X.prog X.w) X.A (eval e X.env) (EP X pins σ Q) X.xe s
def PT (X:Cx) (e:Expr) (t:TT):Prop:=
 ∀(pins:List (Addr×Obj)) (s:Shared) (σ:St) (H:Hp) (Q:Bool->Hp->Prop),Inv X pins σ H s->t σ H Q->wpAny (model X.prog X.w) X.A (isTrue e X.env (eval e X.env)) (TP X pins σ Q) X.xe s
def PW (X:Cx) (e:Expr) (t:TT):Prop:=
 ∀(whole:Sem Value) (pins:List (Addr×Obj)) (s:Shared) (σ:St) (H:Hp) (Q:Bool->Hp->Prop),Inv X pins σ H s->t σ H Q->wpAny (model X.prog X.w) X.A (isTrue e X.env whole) (TP X pins σ Q) X.xe s
theorem PW.pt {X:Cx} {e:Expr} {t:TT} (h:PW X e t):PT X e t:=h _
def PA (X:Cx) (es:List Expr) (t:TA):Prop:=
 ∀(pos:Pos) (pins:List (Addr×Obj)) (s:Shared) (σ:St) (H:Hp) (Q:List V->Hp->Prop),Inv X pins σ H s->t σ H Q->wpAny (model X.prog X.w) X.A (spliced (backTo pos (starEach es X.env))) (AP X pins σ Q) X.xe s
def PS (X:Cx) (st:Stmt) (t:TS):Prop:=
 ∀(pins:List (Addr×Obj)) (s:Shared) (σ:St) (H:Hp) (D:Ends),Inv X pins σ H s->t D σ H->wpAny (model X.prog X.w) X.A (exec st X.env) (SP X pins D) X.xe s
def PSs (X:Cx) (st:List Stmt) (t:TS):Prop:=
 ∀(pins:List (Addr×Obj)) (s:Shared) (σ:St) (H:Hp) (D:Ends),Inv X pins σ H s->t D σ H->wpAny (model X.prog X.w) X.A (execs st X.env) (SP X pins D) X.xe s
theorem thn {α:Type} {t:Sem α} {Q Q':α->Shared->Prop} {M:Model} {A:Around} {E:Value->Shared->Prop} {s:Shared} (h:wpAny M A t Q E s) (hQ: ∀a s,Q a s->Q' a s):wpAny M A t Q' E s:=wpAny_mono h hQ fun _ _ x=>x
end L2
namespace L2
open PySem PySem.Spec PyProof.Rows
section
variable {X:Cx}
theorem bin {a b:Expr} {ta tb:TE} (ha:PE X a ta) (hb:PE X b tb) {pins:List (Addr×Obj)} {s:Shared} {σ:St} {H:Hp} {R:V->V->Hp->Prop} (I:Inv X pins σ H s) (h:ta σ H fun x H1=>tb σ H1 fun y H2=>R x y H2)
  {α:Type} {Q:α->Shared->Prop} {f:Value->Value->Sem α}
  (hf: ∀v u s2 x y H2,Inv X pins σ H2 s2->vt_ x v->vt_ y u->R x y H2->wpAny (model X.prog X.w) X.A (f v u) Q X.xe s2):
  wpAny (model X.prog X.w) X.A (eval a X.env) (fun v s₁=>wpAny (model X.prog X.w) X.A (eval b X.env) (fun u s₂=>wpAny (model X.prog X.w) X.A (f v u) Q X.xe s₂) X.xe s₁) X.xe s:=by
 refine thn (ha pins s σ H _ I h) fun v s1 ⟨x,H1,I1,r1,q1⟩=>?_
 refine thn (hb pins s1 σ H1 _ I1 q1) fun u s2 ⟨y,H2,I2,r2,q2⟩=>?_
 exact hf v u s2 x y H2 I2 r1 r2 q2
def tVar (i:Nat):TE:=fun σ H Q=> ∃v,σ[i]?=some (some v)/\Q v H
def tC (v:V):TE:=fun _ H Q=>Q v H
theorem pe_var {i:Nat} {x:Str} {pos:Pos} (hN:X.N[i]?=some x) (hv:Vis X.env.scope x) (hd:(x == ("__debug__":Str))=false:=by decide) (hcd:(x == ("__classdict__":Str))=false:=by decide):PE X (.Name x pos) (tVar i):=by
 intro pins s σ H Q I h
 obtain⟨v,e,h⟩:=h
 obtain⟨m,hn,hl⟩:=I.loc
 obtain⟨u,r,l⟩:=hl i x v hN e hv
 have fin:EP X pins σ Q u s:=⟨v,H,I,r,h⟩
 rcases l with⟨hk,hm⟩|⟨hk,c,hc,hcell⟩
 ·exact wpAny_Name (wpAny_loadName_local I.ok.kind hk hn hm fin) hd
 ·rcases hk with hk|hk
  ·exact wpAny_Name (wpAny_loadName_cell I.ok.kind hk hc hcell fin) hd
  ·exact wpAny_Name (wpAny_loadName_free I.ok.kind hk hc hcell fin hcd) hd
theorem jr_ {i j pos} :PE X (.Constant (.int i) j pos) (tC (.int i)):=fun _ _ _ H _ I h=>wpAny_Constant_int ⟨.int i,H,I.tok _,⟨_,rfl⟩,h⟩
theorem pe_bl {b j pos} :PE X (.Constant (.bool b) j pos) (tC (.bl b)):=fun _ _ _ H _ I h=>Constant_bool ⟨.bl b,H,I,rfl,h⟩
theorem pe_non {j pos} :PE X (.Constant .none j pos) (tC .non):=fun _ _ _ H _ I h=>Constant_none ⟨.non,H,I,rfl,h⟩
theorem jk_ {x j pos} :PE X (.Constant (.str x) j pos) (tC (.str x)):=fun _ _ _ H _ I h=>Calls.Constant_str ⟨.str x,H,I.tok _,⟨_,rfl⟩,h⟩
def Gl (X:Cx) (x:Str):Prop:=X.env.kindOf x=some .globalImplicit
theorem ld_glob {E:Value->Shared->Prop} {pins:List (Addr×Obj)} {s:Shared} {σ:St} {H:Hp} {x:Str} {u:Value} {pos:Pos} {Q:Value->Shared->Prop} (I:Inv X pins σ H s) (hg:Gl X x) (hm:X.mg x=some u) (h:Q u s)
  (hd:(x == ("__debug__":Str))=false:=by decide):wpAny (model X.prog X.w) X.A (eval (.Name x pos) X.env) Q E s:=
 Calls.Name_function_global I.ok.kind hg (Calls.loadGlobal_global (by rw[I.ok.glob];exact I.mod.glob.keeps I.bk) hm h) hd
theorem ld_blt {E:Value->Shared->Prop} {pins:List (Addr×Obj)} {s:Shared} {σ:St} {H:Hp} {x:Str} {u:Value} {pos:Pos} {Q:Value->Shared->Prop} (I:Inv X pins σ H s) (hg:Gl X x) (hm:X.mg x=none) (hv:bootBuiltins x=some u) (h:Q u s)
  (hn:x≠"__name__":=by decide) (hd:(x == ("__debug__":Str))=false:=by decide):wpAny (model X.prog X.w) X.A (eval (.Name x pos) X.env) Q E s:=by
 obtain⟨mb,h1,h2⟩:=I.mod.blt
 exact Calls.Name_function_global I.ok.kind hg (Calls.loadGlobal_builtin (by rw[I.ok.glob];exact I.mod.glob.keeps I.bk) hm (by rw[I.ok.blt];exact h1.keeps I.bk) ((h2 x hn).trans hv) h) hd
theorem pe_glob {x:Str} {v:V} {u:Value} {pos:Pos} (hg:Gl X x) (hm:X.mg x=some u) (r:vt_ v u) (hd:(x == ("__debug__":Str))=false:=by decide):PE X (.Name x pos) (tC v):=
 fun _ _ _ H _ I h=>ld_glob I hg hm ⟨v,H,I,r,h⟩ hd
variable {a b:Expr} {ta tb:TE} {pos:Pos}
def PC (X:Cx) (op:CmpOp) (a b:Expr) (t:TE):Prop:=
 ∀(pins:List (Addr×Obj)) (s:Shared) (σ:St) (H:Hp) (Q:VK),Inv X pins σ H s->t σ H Q->
  wpAny (model X.prog X.w) X.A (eval a X.env) (fun v s₁=>wpAny (model X.prog X.w) X.A (eval b X.env) (fun u s₂=>wpAny (model X.prog X.w) X.A (compareOp op v u) (EP X pins σ Q) X.xe s₂) X.xe s₁) X.xe s
theorem nobehind (b:Expr) {op:CmpOp} (h:op≠ .In) (h2:op≠ .NotIn):behindInMarks op b=false:=by
 have e1:(op == CmpOp.In)=false:=by cases op<;>first|rfl|exact absurd rfl h
 have e2:(op == CmpOp.NotIn)=false:=by cases op<;>first|rfl|exact absurd rfl h2
 cases b<;>simp [behindInMarks,e1,e2]
def tNotN (ta:TE):TE:=fun σ H Q=>ta σ H fun x H1=>Q (.bl (!decide (x= .non))) H1
theorem vt_.none_iff {x:V} {v:Value} (r:vt_ x v):(v == Value.none)=decide (x= .non):=by
 cases x with
 |non=>cases r;rfl
 |bl _=>cases r;rfl
 |int _=>obtain⟨t,rfl⟩:=r;rfl
 |str _=>obtain⟨t,rfl⟩:=r;rfl
 |byt _=>obtain⟨t,rfl⟩:=r;rfl
 |flt _=>obtain⟨t,rfl⟩:=r;rfl
 |ref _=>cases r;rfl
 |ty _=>cases r;rfl
theorem pc_notN {j pos'} (ha:PE X a ta):PC X .IsNot a (.Constant .none j pos') (tNotN ta):=by
 intro pins s σ H Q I h
 refine thn (ha pins s σ H _ I h) fun v s1 ⟨x,H1,I1,r1,q1⟩=>?_
 exact Constant_none (isnot_none_gen ⟨.bl _,H1,I1,by rw[r1.none_iff];rfl,q1⟩)
def tB (t:TE):TT:=fun σ H Q=>t σ H fun x H1=> ∃c,x= .bl c/\Q c H1
theorem j17_ {op:CmpOp} {t:TE} (h:PC X op a b t) (h1:behindInMarks op b=false:=by first|exact nobehind _ (by decide) (by decide)|rfl):PT X (.Compare a [op] [b] pos) (tB t):=by
 intro pins s σ H Q I hw
 refine wpAny_isTrue_Compare1 (thn (h pins s σ H _ I hw) fun v s1 h1=>thn h1 fun u s2 h2=>thn h2 fun c s3 ⟨x,H1,I1,r1,q1⟩=>?_) h1
 obtain⟨d,rfl,q⟩:=q1
 cases r1
 exact wpAny_truthy_bool ⟨H1,I1,q⟩
theorem yc_ {e:Expr} {t:TE} (h:PE X e t) (he: ∀whole,isTrue e X.env whole=(do let v<-whole;standAt e.pos;holding [v] (truthy v)):=by intro _;rfl):PT X e (tB t):=by
 intro pins s σ H Q I hw
 refine isTrue_plain (thn (h pins s σ H _ I hw) fun v s1 ⟨x,H1,I1,r1,q1⟩=>?_) (he _)
 obtain⟨d,rfl,q⟩:=q1
 cases r1
 exact wpAny_truthy_bool ⟨H1,I1,q⟩
variable {tA tB':TT} {rest:List Expr}
def tAnd (t u:TT):TT:=fun σ H Q=>t σ H fun c H1=>if c=true then u σ H1 Q else Q false H1
def tOr (t u:TT):TT:=fun σ H Q=>t σ H fun c H1=>if c=true then Q true H1 else u σ H1 Q
def tNot (t:TT):TT:=fun σ H Q=>t σ H fun c H1=>Q (!c) H1
theorem pw_and1 (ha:PT X a tA):PW X (.BoolOp .And [a] pos) tA:=by
 intro wh pins s σ H Q I h
 refine isTrue_and (thn (ha pins s σ H Q I h) fun c s1 e=>?_)
 cases c with
 |true=>exact isTrue_and_nil e
 |false=>exact e
theorem pw_or1 (ha:PT X a tA):PW X (.BoolOp .Or [a] pos) tA:=by
 intro wh pins s σ H Q I h
 refine isTrue_or (thn (ha pins s σ H Q I h) fun c s1 e=>?_)
 cases c with
 |false=>exact isTrue_or_nil e
 |true=>exact e
theorem pw_and (ha:PT X a tA) (hb:PW X (.BoolOp .And (b::rest) pos) tB'):PW X (.BoolOp .And (a::b::rest) pos) (tAnd tA tB'):=by
 intro wh pins s σ H Q I h
 refine isTrue_and (thn (ha pins s σ H _ I h) fun c s1 ⟨H1,I1,q1⟩=>?_)
 cases c with
 |true=>exact hb wh pins s1 σ H1 Q I1 q1
 |false=>exact⟨H1,I1,q1⟩
theorem pw_or (ha:PT X a tA) (hb:PW X (.BoolOp .Or (b::rest) pos) tB'):PW X (.BoolOp .Or (a::b::rest) pos) (tOr tA tB'):=by
 intro wh pins s σ H Q I h
 refine isTrue_or (thn (ha pins s σ H _ I h) fun c s1 ⟨H1,I1,q1⟩=>?_)
 cases c with
 |true=>exact⟨H1,I1,q1⟩
 |false=>exact hb wh pins s1 σ H1 Q I1 q1
theorem wj_ (ha:PT X a tA):PT X (.UnaryOp .Not a pos) (tNot tA):=by
 intro pins s σ H Q I h
 exact isTrue_not (ha pins s σ H (fun c H1=>Q (!c) H1) I h)
def tAndV (ta tb:TE):TE:=fun σ H Q=>ta σ H fun x H1=> ∃c,x= .bl c/\if c=true then tb σ H1 Q else Q (.bl false) H1
def tOrV (ta tb:TE):TE:=fun σ H Q=>ta σ H fun x H1=> ∃c,x= .bl c/\if c=true then Q (.bl true) H1 else tb σ H1 Q
theorem pe_one {op} {t:TE} (h:PE X a t):PE X (.BoolOp op [a] pos) t:=fun pins s σ H Q I hw=>BoolOp_one (h pins s σ H Q I hw)
theorem pe_and (ha:PE X a ta) (hb:PE X (.BoolOp .And (b::rest) pos) tb):PE X (.BoolOp .And (a::b::rest) pos) (tAndV ta tb):=by
 intro pins s σ H Q I h
 refine BoolOp_and (thn (ha pins s σ H _ I h) fun v s1 ⟨x,H1,I1,r1,q1⟩=>?_)
 obtain⟨c,rfl,q1⟩:=q1
 cases r1
 refine wpAny_truthy_bool ?_
 cases c with
 |true=>exact hb pins s1 σ H1 Q I1 q1
 |false=>exact⟨.bl false,H1,I1,rfl,q1⟩
theorem pe_or (ha:PE X a ta) (hb:PE X (.BoolOp .Or (b::rest) pos) tb):PE X (.BoolOp .Or (a::b::rest) pos) (tOrV ta tb):=by
 intro pins s σ H Q I h
 refine BoolOp_or (thn (ha pins s σ H _ I h) fun v s1 ⟨x,H1,I1,r1,q1⟩=>?_)
 obtain⟨c,rfl,q1⟩:=q1
 cases r1
 refine wpAny_truthy_bool ?_
 cases c with
 |false=>exact hb pins s1 σ H1 Q I1 q1
 |true=>exact⟨.bl true,H1,I1,rfl,q1⟩
def tIf (t:TT) (ta tb:TE):TE:=fun σ H Q=>t σ H fun c H1=>if c=true then ta σ H1 Q else tb σ H1 Q
theorem pe_ifExp {c:Expr} (hc:PT X c tA) (ha:PE X a ta) (hb:PE X b tb):PE X (.IfExp c a b pos) (tIf tA ta tb):=by
 intro pins s σ H Q I h
 refine wpAny_IfExp (thn (hc pins s σ H _ I h) fun d s1 ⟨H1,I1,q1⟩=>?_)
 cases d with
 |true=>exact ha pins s1 σ H1 Q I1 q1
 |false=>exact hb pins s1 σ H1 Q I1 q1
end
end L2
namespace L2
open PySem PySem.Spec PyProof.Rows
def SqL (K:PySem.W.Frag) (H:Hp) (a:Addr) (xs:List V):Prop:=
 Rd H a (.lst xs)\/
  ∃(o:Obj) (its:Array Value) (n:Nat),K.lookup a=some o/\o.cls= .type "list"/\o.dict=none/\o.data= .seq its n/\its.size<=sizeLine/\vx_ xs its.toList
def SqT (K:PySem.W.Frag) (H:Hp) (a:Addr) (xs:List V):Prop:=
 Rd H a (.tup xs)\/
  ∃(o:Obj) (its:Array Value) (n:Nat),K.lookup a=some o/\o.cls= .type "tuple"/\o.data= .seq its n/\its.size<=sizeLine/\vx_ xs its.toList
def absV:Value->Option V
 | .none=>some .non
 | .bool b=>some (.bl b)
 | .int i _=>some (.int i)
 | .str x _=>some (.str x)
 | .bytes b _=>some (.byt b)
 | .float b _=>some (.flt b)
 | .ref a=>some (.ref a)
 | .type n=>some (.ty n)
 |_=>none
theorem vt_.abs {x:V} {u:Value} (r:vt_ x u):absV u=some x:=by
 cases x with
 |non=>cases r;rfl
 |bl _=>cases r;rfl
 |int _=>obtain⟨t,rfl⟩:=r;rfl
 |str _=>obtain⟨t,rfl⟩:=r;rfl
 |byt _=>obtain⟨t,rfl⟩:=r;rfl
 |flt _=>obtain⟨t,rfl⟩:=r;rfl
 |ref _=>cases r;rfl
 |ty _=>cases r;rfl
theorem vt_.inj {x y:V} {u:Value} (r:vt_ x u) (q:vt_ y u):x=y:=Option.some.inj (r.abs.symm.trans q.abs)
theorem vx_.inj: ∀ {xs ys:List V} {us:List Value},vx_ xs us->vx_ ys us->xs=ys
 |_,_,_, .nil, .nil=>rfl
 |_,_,_, .cons r t, .cons r' t'=>by rw[r.inj r',vx_.inj t t']
section
variable {X:Cx} {pins:List (Addr×Obj)} {σ:St} {H:Hp} {s:Shared} {a:Addr} {xs ys:List V}
theorem SqL.of {K:PySem.W.Frag} (h:H a=some (.lst xs)):SqL K H a xs:= .inl (.inl h)
theorem SqT.of {K:PySem.W.Frag} (h:H a=some (.tup xs)):SqT K H a xs:= .inl (.inl h)
theorem Inv.list (I:Inv X pins σ H s) (h:SqL X.K H a xs): ∃its:List Value,vx_ xs its/\PlainL s.heap a its.toArray/\xs.length<=sizeLine:=by
 rcases h with h|⟨o,its,n,hk,hc,hd,hs,hz,r⟩
 ·obtain⟨z,its,n,r,e⟩:=h.ok I.hok
  exact⟨its,r,⟨_,n,e,rfl,rfl,rfl⟩,z⟩
 ·refine⟨its.toList,r,⟨o,n,I.kIn a o hk,hc,hd,by simpa using hs⟩,?_⟩
  have e:=r.length
  simp only[Array.length_toList] at e
  omega
theorem Inv.tuple (I:Inv X pins σ H s) (h:SqT X.K H a xs): ∃its:List Value,vx_ xs its/\IsTup s.heap a its.toArray/\xs.length<=sizeLine:=by
 rcases h with h|⟨o,its,n,hk,hc,hs,hz,r⟩
 ·obtain⟨z,its,r,p⟩:=h.ok I.hok
  exact⟨its,r,p,z⟩
 ·refine⟨its.toList,r,⟨o,I.kIn a o hk,hc,n,by simpa using hs⟩,?_⟩
  have e:=r.length
  simp only[Array.length_toList] at e
  omega
theorem Inv.list_inj (I:Inv X pins σ H s) (h:SqL X.K H a xs) (h':SqL X.K H a ys):xs=ys:=by
 obtain⟨its,r,⟨o,n,e,_,_,d⟩,_⟩:=I.list h
 obtain⟨its',r',⟨o',n',e',_,_,d'⟩,_⟩:=I.list h'
 rw[e] at e';cases e'
 rw[d] at d'
 injection d' with d1 _
 have:its=its':=by simpa using congrArg Array.toList d1
 subst this
 exact r.inj r'
end
abbrev Cx.wish (X:Cx) (E:Value->Shared->Prop):Cx:= { X with xe:=E }
abbrev Cx.nox (X:Cx):Cx:=X.wish fun _ _=>False
theorem Cx.Ok.wish {X:Cx} (ok:X.Ok) (E:Value->Shared->Prop):(X.wish E).Ok:=
 ⟨ok.mod,ok.kind,ok.glob,ok.blt,ok.above,ok.inj,ok.has,ok.cab,ok.hd,ok.frames,ok.stk,ok.exf,ok.bs,ok.bsz,ok.noex,ok.exfs,ok.funs,ok.frf⟩
theorem Cx.Ok.unwish {X:Cx} {E:Value->Shared->Prop} (ok:(X.wish E).Ok):X.Ok:=
 ⟨ok.mod,ok.kind,ok.glob,ok.blt,ok.above,ok.inj,ok.has,ok.cab,ok.hd,ok.frames,ok.stk,ok.exf,ok.bs,ok.bsz,ok.noex,ok.exfs,ok.funs,ok.frf⟩
section
variable {X:Cx} {pins:List (Addr×Obj)} {σ:St} {H:Hp} {s:Shared} {E:Value->Shared->Prop}
theorem Inv.wish (I:Inv X pins σ H s) (E:Value->Shared->Prop):Inv (X.wish E) pins σ H s:=⟨I.ok.wish E,I.os,I.bare,I.base,I.loc,I.cell,I.free,I.freeC,I.pin,I.hok,I.len⟩
theorem Inv.unwish (I:Inv (X.wish E) pins σ H s):Inv X pins σ H s:=⟨I.ok.unwish,I.os,I.bare,I.base,I.loc,I.cell,I.free,I.freeC,I.pin,I.hok,I.len⟩
theorem SP.unwish {D:Ends} {f:Flow} {s':Shared} (h:SP (X.wish E) pins D f s'):SP X pins D f s':=by
 cases f with
 |next=>obtain⟨σ',H',I,q⟩:=h;exact⟨σ',H',I.unwish,q⟩
 |brk=>obtain⟨σ',H',I,q⟩:=h;exact⟨σ',H',I.unwish,q⟩
 |cont=>obtain⟨σ',H',I,q⟩:=h;exact⟨σ',H',I.unwish,q⟩
 |ret u=>obtain⟨v,σ',H',I,r,q⟩:=h;exact⟨v,σ',H',I.unwish,r,q⟩
theorem PSs.nox {st:List Stmt} {t:TS} (h:PSs X.nox st t):PSs X st t:=fun pins s σ H D I hw=>
 wpAny_mono (h pins s σ H D (I.wish _) hw) (fun _ _ q=>q.unwish) fun _ _ z=>False.elim z
end
section
variable {X:Cx} {st:Stmt} {rest:List Stmt} {t u:TS} {e:Expr} {te:TE} {pos:Pos}
def tNext:TS:=fun D σ H=>D.nx σ H
def tSeq (t u:TS):TS:=fun D σ H=>t { D with nx:=u D } σ H
theorem ji_:PSs X [] tNext:=fun _ _ σ H _ I h=>wpAny_execs_nil ⟨σ,H,I,h⟩
theorem j2_ (h1:PS X st t) (h2:PSs X rest u):PSs X (st::rest) (tSeq t u):=by
 intro pins s σ H D I h
 refine wpAny_execs_cons (thn (h1 pins s σ H { D with nx:=u D } I h) fun f s1 q=>?_)
 cases f with
 |next=>
  obtain⟨σ',H',I',q⟩:=q
  exact h2 pins s1 σ' H' D I' q
 |ret v=>exact q
 |brk=>exact q
 |cont=>exact q
theorem j7_ (h1:PS X st t):PSs X [st] t:=by
 intro pins s σ H D I h
 refine wpAny_execs_cons (thn (h1 pins s σ H D I h) fun f s1 q=>?_)
 cases f with
 |next=>exact wpAny_execs_nil q
 |ret v=>exact q
 |brk=>exact q
 |cont=>exact q
def tBreak:TS:=fun D σ H=>D.bk σ H
theorem ps_break:PS X (.Break pos) tBreak:=fun _ _ σ H _ I h=>wpAny_Break ⟨σ,H,I,h⟩
theorem Inv.quiet {pins:List (Addr×Obj)} {σ:St} {H:Hp} {s:Shared} (I:Inv X pins σ H s):interactive X.env=false:=by simp [interactive,I.ok.kind]
def tDrop (te:TE):TS:=fun D σ H=>te σ H fun _ H1=>D.nx σ H1
theorem jd_ (he:PE X e te) (hs:swapsWith e none pos.line X.env=pure false:=by rfl):PS X (.Expr e pos) (tDrop te):=by
 intro pins s σ H D I h
 exact wpAny_Expr_any (thn (he pins s σ H _ I h) fun v s1 ⟨x,H1,I1,r1,q1⟩=>⟨σ,H1,I1,q1⟩) I.quiet hs
def tRet (te:TE):TS:=fun D σ H=>te σ H D.rt
theorem jh_ (he:PE X e te):PS X (.Return (some e) pos) (tRet te):=by
 intro pins s σ H D I h
 exact wpAny_Return_some (thn (he pins s σ H _ I h) fun v s1 ⟨x,H1,I1,r1,q1⟩=>⟨x,σ,H1,I1,r1,q1⟩)
def tIfS (c:TT) (t u:TS):TS:=fun D σ H=>c σ H fun b H1=>if b=true then t D σ H1 else u D σ H1
theorem yg_ {c:Expr} {a b:List Stmt} {tc:TT} (hc:PT X c tc) (ha:PSs X a t) (hb:PSs X b u):PS X (.If c a b pos) (tIfS tc t u):=by
 intro pins s σ H D I h
 refine wpAny_If (thn (hc pins s σ H _ I h) fun d s1 ⟨H1,I1,q1⟩=>?_)
 cases d with
 |true=>exact ha pins s1 σ H1 D I1 q1
 |false=>exact hb pins s1 σ H1 D I1 q1
end
abbrev TG:=V->St->Hp->(St->Hp->Prop)->Prop
def PG (X:Cx) (target:Expr) (t:TG):Prop:=
 ∀(pins:List (Addr×Obj)) (s:Shared) (σ:St) (H:Hp) (v:V) (u:Value) (Q:St->Hp->Prop),Inv X pins σ H s->vt_ v u->t v σ H Q->
  wpAny (model X.prog X.w) X.A (assign target X.env u) (fun _ s'=> ∃σ' H',Inv X pins σ' H' s'/\Q σ' H') X.xe s
abbrev TIp:=V->V->Hp->VK->Prop
def PIp (X:Cx) (op:Operator) (t:TIp):Prop:=
 ∀(pins:List (Addr×Obj)) (s:Shared) (σ:St) (H:Hp) (x y:V) (v u:Value) (Q:VK),Inv X pins σ H s->vt_ x v->vt_ y u->t x y H Q->
  wpAny (model X.prog X.w) X.A (inplaceOp op v u) (EP X pins σ Q) X.xe s
section
variable {X:Cx} {pos:Pos}
def gName (i:Nat):TG:=fun v σ H Q=>Q (σ.set i (some v)) H
theorem pg_name {i:Nat} {x:Str} (hN:X.N.Nodup) (hi:X.N[i]?=some x) (hx:Loc X.env.scope x) (hf:X.fn x=true\/X.env.scope.names.lookup x=some .local:=by first|exact .inl rfl|exact .inr rfl|assumption):PG X (.Name x pos) (gName i):=by
 intro pins s σ H v u Q I r h
 exact wpAny_assign_Name (store_ok I hN hi hx r (fun s' I'=>⟨_,H,I',h⟩) hf)
def tAsg (te:TE) (g:TG):TS:=fun D σ H=>te σ H fun x H1=>g x σ H1 D.nx
theorem jg_ {i:Nat} {x:Str} {e:Expr} {te:TE} {pos':Pos} (hN:X.N.Nodup) (hi:X.N[i]?=some x) (hx:Loc X.env.scope x) (he:PE X e te) (hs:swapsWith e (some (.Name x pos')) pos.line X.env=pure false:=by rfl) (hf:X.fn x=true\/X.env.scope.names.lookup x=some .local:=by first|exact .inl rfl|exact .inr rfl|assumption):
  PS X (.Assign [.Name x pos'] e pos) (tAsg te (gName i)):=by
 intro pins s σ H D I h
 refine wpAny_Assign_Name (thn (he pins s σ H _ I h) fun v s1 ⟨y,H1,I1,r1,q1⟩=>?_) hs
 exact store_ok I1 hN hi hx r1 (fun s2 I2=>⟨_,H1,I2,q1⟩) hf
def tAug (i:Nat) (te:TE) (ti:TIp):TS:=fun D σ H=> ∃x,σ[i]?=some (some x)/\te σ H fun y H1=>ti x y H1 fun z H2=>D.nx (σ.set i (some z)) H2
theorem ps_aug {i:Nat} {x:Str} {e:Expr} {te:TE} {op:Operator} {ti:TIp} {pos':Pos} (hN:X.N.Nodup) (hi:X.N[i]?=some x) (hx:Loc X.env.scope x) (he:PE X e te) (ho:PIp X op ti) (hf:X.fn x=true\/X.env.scope.names.lookup x=some .local:=by first|exact .inl rfl|exact .inr rfl|assumption):
  PS X (.AugAssign (.Name x pos') op e pos) (tAug i te ti):=by
 intro pins s σ H D I h
 obtain⟨v,e1,h⟩:=h
 obtain⟨m,hn,hl⟩:=I.loc
 have vis:Vis X.env.scope x:=by rcases hx with k|k;exact .inl k;exact .inr (.inl k)
 obtain⟨u,r,l⟩:=hl i x v hi e1 vis
 refine wpAny_AugAssign_Name ?_
 have go:wpAny (model X.prog X.w) X.A (eval e X.env) (fun w s₂=>wpAny (model X.prog X.w) X.A (inplaceOp op u w) (fun r s₃=>wpAny (model X.prog X.w) X.A (storeName X.env x r) (fun _=>SP X pins D .next) X.xe s₃) X.xe s₂) X.xe s:=by
  refine thn (he pins s σ H _ I h) fun w s1 ⟨y,H1,I1,r1,q1⟩=>?_
  refine thn (ho pins s1 σ H1 v y u w _ I1 r r1 q1) fun z s2 ⟨zv,H2,I2,r2,q2⟩=>?_
  exact store_ok I2 hN hi hx r2 (fun s3 I3=>⟨_,H2,I3,q2⟩) hf
 rcases l with⟨hk,hm⟩|⟨hk,c,hc,hcell⟩
 ·exact wpAny_loadName_local I.ok.kind hk hn hm go
 ·rcases hk with hk|hk
  ·exact wpAny_loadName_cell I.ok.kind hk hc hcell go
  ·rcases hx with k|k
   ·have:X.env.scope.names.lookup x=some .free:=hk
    rw[k] at this;cases this
   ·have:X.env.scope.names.lookup x=some .free:=hk
    rw[k] at this;cases this
def ipI (f:Int->Int->Int):TIp:=fun x y H Q=> ∃i j,x= .int i/\y= .int j/\Q (.int (f i j)) H
theorem ip_add:PIp X .Add (ipI fun i j=>i+j):=by
 intro pins s σ H x y v u Q I r1 r2 h
 obtain⟨i,j,e1,e2,q⟩:=h
 subst e1;subst e2
 obtain⟨t,rfl⟩:=r1
 obtain⟨t',rfl⟩:=r2
 exact iadd_int ⟨.int _,H,I.tok _,⟨_,rfl⟩,q⟩
end
section
variable {X:Cx} {pos:Pos}
def tWhile (c:TT) (tb:TS):TS:=fun D σ H=> ∃W:Nat->St->Hp->Prop,(∃m,W m σ H)/\ ∀m σ H,W m σ H->
 c σ H fun b H1=>if b=true then∃N:St->Hp->Prop,(∀σ' H',N σ' H'-> ∃m',m'<m/\W m' σ' H')/\tb { D with nx:=N,ct:=N,bk:=D.nx } σ H1 else D.nx σ H1
theorem u6_ {c:Expr} {body:List Stmt} {tc:TT} {tb:TS} (hp:PassesOwn (model X.prog X.w) X.A X.env X.xe) (hc:PT X c tc) (hb:PSs X body tb):PS X (.While c body [] pos) (tWhile tc tb):=by
 intro pins s σ H D I h
 obtain⟨W,⟨m0,w0⟩,turn⟩:=h
 refine wpAny_While (codeAny_whileLoop (fun n s'=> ∃σ' H',Inv X pins σ' H' s'/\W n σ' H') ?_ m0 ⟨σ,H,I,w0⟩)
 rintro n s1 ⟨σ1,H1,I1,w1⟩
 refine wpAny_passesOwn hp (thn (hc pins s1 σ1 H1 _ I1 (turn n σ1 H1 w1)) fun b s2 ⟨H2,I2,q2⟩=>?_)
 cases b with
 |true=>
  obtain⟨N,hN,q2⟩:=q2
  rw[if_pos rfl]
  refine wpAny_passesOwn hp (thn (hb pins s2 σ1 H2 _ I2 q2) fun f s3 q3=>?_)
  cases f with
  |next=>
   obtain⟨σ3,H3,I3,n3⟩:=q3
   obtain⟨m',hm,w3⟩:=hN σ3 H3 n3
   exact⟨m',hm,σ3,H3,I3,w3⟩
  |cont=>
   obtain⟨σ3,H3,I3,n3⟩:=q3
   obtain⟨m',hm,w3⟩:=hN σ3 H3 n3
   exact⟨m',hm,σ3,H3,I3,w3⟩
  |brk=>exact q3
  |ret v=>exact q3
 |false=>
  rw[if_neg Bool.false_ne_true]
  exact wpAny_execs_nil ⟨σ1,H2,I2,q2⟩
end
structure It where
 go:Nat->Hp->Prop
 yld:Nat->Hp->V->Hp->Prop
 stop:Nat->Hp->Prop
def FpOk (X:Cx) (pins:List (Addr×Obj)) (H:Hp) (b:Addr):Prop:=
 H b=none/\b≠X.env.locals/\b∉X.fs/\(b∈X.ex\/X.s_0.heap.objs.size<=b)/\(∀x c,X.env.cells.lookup x=some c->c≠b)/\ ∀p∈X.pn++pins,p.1≠b
theorem Inv.fpOk {X:Cx} {pins:List (Addr×Obj)} {σ:St} {H H':Hp} {s:Shared} {b:Addr} (I:Inv X pins σ H s) (hb:s.heap.objs.size<=b) (hn:H' b=none):FpOk X pins H' b:=by
 refine⟨hn,Nat.ne_of_gt (Nat.lt_of_lt_of_le I.lt hb),I.nofs hb, .inr (Nat.le_trans I.sz hb),fun x c e z=>?_,fun p hp z=>?_⟩
 ·obtain⟨v,q⟩:=I.cell x c e
  exact absurd (Nat.lt_of_lt_of_le q.lt (by rw[z];exact hb)) (Nat.lt_irrefl _)
 ·exact absurd (Nat.lt_of_lt_of_le (Heap.lt_size (I.pin p hp).1) (by rw[z];exact hb)) (Nat.lt_irrefl _)
structure Turn (P:Program) (w:World) (K:PySem.W.Frag) (tg:Expr) (J:It) (fp:List Addr) (it:Addr) (tn:Nat->Heap->Prop):Prop where
 mem:it∈fp
 obj: ∀i h,tn i h-> ∀b∈fp,∃o,h.get? b=some o/\ ∀v,o.data≠ .cell v
 keep: ∀i h h',tn i h->(∀b∈fp,∀o,h.get? b=some o->h'.get? b=some o)->tn i h'
 item: ∀(X:Cx),X.prog=P->X.w=w->X.K=K->X.calm=true-> ∀(i:Nat) (pins:List (Addr×Obj)) (s:Shared) (σ:St) (H:Hp) (E:Value->Shared->Prop),Inv X pins σ H s->(∀b∈fp,FpOk X pins H b)->tn i s.heap->J.go i H->
  wpAny (model P w) X.A (pyNext (.ref it)) (fun r s1=> ∃u,r=some u/\
   wpAny (model P w) X.A (letOwnedTupleGo tg (.ref it) u) (fun _ s2=> ∃x H',Inv X pins σ H' s2/\vt_ x u/\J.yld i H x H'/\tn (i+1) s2.heap/\ ∀b∈fp,H' b=none) E s1) E s
 done: ∀(X:Cx),X.prog=P->X.w=w->X.K=K->X.calm=true-> ∀(i:Nat) (pins:List (Addr×Obj)) (s:Shared) (σ:St) (H:Hp) (E:Value->Shared->Prop),Inv X pins σ H s->(∀b∈fp,FpOk X pins H b)->tn i s.heap->J.stop i H->
  wpAny (model P w) X.A (pyNext (.ref it)) (fun r s1=>r=none/\Inv X pins σ H s1) E s
 self: ∀(A:Around) (i:Nat) (s:Shared) (Q:Value->Shared->Prop) (E:Value->Shared->Prop),tn i s.heap->Q (.ref it) s->wpAny (model P w) A (pyIter (.ref it)) Q E s
abbrev TI:=St->Hp->(It->Hp->Prop)->Prop
def PIE (X:Cx) (pins:List (Addr×Obj)) (σ:St) (tg:Expr) (R:It->Hp->Prop) (itv:Value) (s2:Shared):Prop:=
 ∃(it:Addr) (fp:List Addr) (tn:Nat->Heap->Prop) (J:It) (H':Hp),itv= .ref it/\Inv X pins σ H' s2/\Turn X.prog X.w X.K tg J fp it tn/\tn 0 s2.heap/\(∀b∈fp,FpOk X pins H' b)/\R J H'
def PI (X:Cx) (tg iter:Expr) (wi:TI):Prop:=
 ∀(pins:List (Addr×Obj)) (s:Shared) (σ:St) (H:Hp) (R:It->Hp->Prop),Inv X pins σ H s->wi σ H R->
  wpAny (model X.prog X.w) X.A (eval iter X.env) (fun v s1=>wpAny (model X.prog X.w) X.A (pyIter v) (PIE X pins σ tg R) X.xe s1) X.xe s
theorem go_of {M:Model} {A:Around} {E:Value->Shared->Prop} {s:Shared} {tg:Expr} {it:Addr} {u:Value} {o:Obj} {n:String} {vs:Array Value} {Q:Unit->Shared->Prop} (ho:s.heap.get? it=some o) (hc:o.cls= .type n) (hd:o.data= .fields vs)
  (hn:["enumerate","zip","dict_itemiterator","dict_reverseitemiterator","odict_iterator","itertools.zip_longest","itertools.pairwise"].contains n=false) (hQ:Q () s):wpAny M A (letOwnedTupleGo tg (.ref it) u) Q E s:=by
 unfold letOwnedTupleGo
 cases tg<;>first
  |exact wpAny_pure hQ
  | (cases u<;>first
    |exact wpAny_pure hQ
    | (refine wpAny_bind (wpAny_load ho ?_)
       rw[hc,hd]
       show wpAny M A (if(["enumerate","zip","dict_itemiterator","dict_reverseitemiterator","odict_iterator","itertools.zip_longest","itertools.pairwise"].contains n&&vs[0]? == some (rawInt _))=true then _ else _) Q E s
       rw[if_neg (by intro h;rw[hn,Bool.false_and] at h;cases h)]
       exact wpAny_pure hQ))
def Itl (K:PySem.W.Frag) (a:Addr):It:=
 ⟨fun i H=> ∃xs x,SqL K H a xs/\xs[i]?=some x,fun i H x H'=>H'=H/\ ∀xs,SqL K H a xs->xs[i]?=some x,fun i H=> ∃xs,SqL K H a xs/\xs.length<=i⟩
theorem turn_list {P:Program} {w:World} {K:PySem.W.Frag} {tg:Expr} (a it:Addr):Turn P w K tg (Itl K a) [it] it (fun i h=>h.IsListIter it a i) where
 mem:=by simp
 obj:=fun i h st b hb=>by
  have e:b=it:=by simpa using hb
  subst e
  obtain⟨o,e,c,d⟩:=st
  exact⟨o,e,fun v z=>by rw[d] at z;cases z⟩
 keep:=fun i h h' st k=>st.at fun o e=>k it (by simp) o e
 item:=by
  intro X hP hw hK hc i pins s σ H E I hf st hg
  subst hP hw hK
  obtain⟨xs,x,hq,hx⟩:=hg
  obtain⟨its,rv,p,hz⟩:=I.list hq
  obtain⟨u,hu,ru⟩:=rv.get hx
  obtain⟨f0,f1,f2,f3,f4,f5⟩:=hf it (by simp)
  refine wpAny_pyNext_list_item st p.isList (x:=u) (by simpa using hu) fun h' st' sb=>?_
  have I1:Inv X pins σ H { s with heap:=h' } :=I.turned (t':=s.toks) (fun b o hb e=>(sb.2 b hb).trans e) f0 f1 f3 f4 f5
  obtain⟨o,e,c,d⟩:=id st'
  exact⟨u,rfl,go_of (s:= { s with heap:=h' }) e c d (by decide) ⟨x,H,I1,ru,⟨rfl,fun ys hy=>by rw[I.list_inj hy hq];exact hx⟩,st',fun b hb=>(hf b hb).1⟩⟩
 done:=by
  intro X hP hw hK hc i pins s σ H E I hf st hg
  subst hP hw hK
  obtain⟨xs,hq,hx⟩:=hg
  obtain⟨its,rv,p,hz⟩:=I.list hq
  obtain⟨f0,f1,f2,f3,f4,f5⟩:=hf it (by simp)
  have hl:=rv.length
  exact wpAny_pyNext_list_end (I.ok.hd hc) st p.isList (by simp;omega) fun h' eb=>⟨rfl,I.turned (t':=s.toks) (fun b o hb e=>eb b o hb e) f0 f1 f3 f4 f5⟩
 self:=fun _ _ _ _ _ st h=>wpAny_pyIter_listiter st h
end L2
namespace L2
open PySem PySem.Spec PyProof.Rows
section
variable {X:Cx} {tg:Expr}
def iList (K:PySem.W.Frag) (tl:TE):TI:=fun σ H R=>tl σ H fun x H1=> ∃a,x= .ref a/\(∃xs,SqL K H1 a xs)/\R (Itl K a) H1
theorem pi_list {l:Expr} {tl:TE} (hl:PE X l tl):PI X tg l (iList X.K tl):=by
 intro pins s σ H R I h
 refine thn (hl pins s σ H _ I h) fun v s1 ⟨x,H1,I1,r1,q1⟩=>?_
 obtain⟨a,e,⟨xs,hq⟩,q⟩:=q1
 subst e
 cases r1
 obtain⟨its,rv,p,hz⟩:=I1.list hq
 refine wpAny_pyIter_list p.isList ?_
 refine⟨s1.heap.objs.size,[s1.heap.objs.size],_,_,H1,rfl,I1.kept (t':=s1.toks) fun b o e=>Heap.get?_push_of_some _ e,turn_list a _,⟨_,Heap.get?_push_size _ rfl,rfl,rfl⟩,fun b hb=>?_,q⟩
 have e:b=s1.heap.objs.size:=by simpa using hb
 subst e
 exact I1.fpOk (Nat.le_refl _) (I1.hok.fresh (Nat.le_refl _))
def tFor (wi:TI) (g:TG) (tb:TS):TS:=fun D σ H=>wi σ H fun J H1=> ∃W:Nat->Nat->St->Hp->Prop,(∃m,W 0 m σ H1)/\ ∀i m σ H,W i m σ H->
 (J.stop i H/\D.nx σ H)\/(J.go i H/\ ∃N:St->Hp->Prop,(∀σ' H',N σ' H'-> ∃m',m'<m/\W (i+1) m' σ' H')/\ ∀x H',J.yld i H x H'->g x σ H' fun σ2 H2=>tb { D with nx:=N,ct:=N,bk:=D.nx } σ2 H2)
def pinsAt (fp:List Addr) (h:Heap):List (Addr×Obj):=fp.filterMap fun b=>(h.get? b).map fun o=>(b,o)
theorem mem_pinsAt {fp:List Addr} {h:Heap} {b:Addr} {o:Obj} (hb:b∈fp) (e:h.get? b=some o):(b,o)∈pinsAt fp h:=List.mem_filterMap.mpr ⟨b,hb,by rw[e];rfl⟩
theorem of_pinsAt {fp:List Addr} {h:Heap} {p:Addr×Obj} (hp:p∈pinsAt fp h):p.1∈fp/\h.get? p.1=some p.2:=by
 obtain⟨b,hb,e⟩:=List.mem_filterMap.mp hp
 cases q:h.get? b with
 |none=>rw[q] at e;cases e
 |some o=>
  rw[q] at e
  have e':(b,o)=p:=Option.some.inj e
  subst e'
  exact⟨hb,q⟩
theorem Inv.pinned {pins:List (Addr×Obj)} {σ:St} {H:Hp} {s:Shared} {fp:List Addr} (I:Inv X pins σ H s) (hf: ∀b∈fp,FpOk X pins H b) (ho: ∀b∈fp,∃o,s.heap.get? b=some o/\ ∀v,o.data≠ .cell v):Inv X (pins++pinsAt fp s.heap) σ H s:=
 I.pins_of fun p hp=>(List.mem_append.mp hp).elim (fun z=>I.pin p (List.mem_append_right _ z)) fun z=>by
  obtain⟨hb,e⟩:=of_pinsAt z
  obtain⟨f0,f1,f2,_⟩:=hf p.1 hb
  obtain⟨o,e',d⟩:=ho p.1 hb
  rw[e] at e';cases e'
  exact⟨e,f0,f1,f2,d⟩
theorem Inv.unpinned {pins pl:List (Addr×Obj)} {σ:St} {H:Hp} {s:Shared} (I:Inv X (pins++pl) σ H s):Inv X pins σ H s:=I.pins_of fun p hp=>I.pin p (List.mem_append_right _ (List.mem_append_left _ hp))
theorem ps_for {iter:Expr} {body:List Stmt} {wi:TI} {g:TG} {tb:TS} {pos:Pos} (hp:PassesOwn (model X.prog X.w) X.A X.env X.xe) (hc:X.calm=true) (hi:PI X tg iter wi) (hg:PG X tg g) (hb:PSs X body tb)
  (hs: ∀x,foldedSetIterable iter X.env x=pure x:=by intro _;rfl):PS X (.For tg iter body [] pos) (tFor wi g tb):=by
 intro pins s σ H D I h
 refine wpAny_For (thn (hi pins s σ H _ I h) fun v s1 h1=>thn h1 fun itv s2 h2=>?_) hs
 obtain⟨it,fp,tn,J,H2,e,I2,T,st2,f2,W,⟨m0,w0⟩,turn⟩:=h2
 subst e
 have stat: ∀ {H':Hp},(∀b∈fp,H' b=none)-> ∀b∈fp,FpOk X pins H' b:=fun hn b hb=>⟨hn b hb,(f2 b hb).2⟩
 refine codeAny_forLoop_any (fun n s'=> ∃i σ' H',Inv X pins σ' H' s'/\tn i s'.heap/\(∀b∈fp,H' b=none)/\W i n σ' H') ?_ m0 ⟨0,σ,H2,I2,st2,fun b hb=>(f2 b hb).1,w0⟩
 rintro n s3 ⟨i,σ3,H3,I3,st3,fr3,w3⟩
 rcases turn i n σ3 H3 w3 with⟨stop,qn⟩|⟨go,N,hN,step⟩
 ·refine wpAny_passesOwn hp (thn (T.done X rfl rfl rfl hc i pins s3 σ3 H3 X.xe I3 (stat fr3) st3 stop) fun r s4 ⟨hr,I4⟩=>?_)
  subst hr
  exact wpAny_execs_nil ⟨σ3,H3,I4,qn⟩
 ·refine wpAny_passesOwn hp (thn (T.item X rfl rfl rfl hc i pins s3 σ3 H3 X.xe I3 (stat fr3) st3 go) fun r s4 ⟨u,hr,h4⟩=>?_)
  subst hr
  refine wpAny_passesOwn hp (thn h4 fun _ s5 ⟨x,H5,I5,r5,y5,st5,fr5⟩=>?_)
  have I5':=I5.pinned (stat fr5) (T.obj _ _ st5)
  refine wpAny_passesOwn hp (thn (hg _ s5 σ3 H5 x u _ I5' r5 (step x H5 y5)) fun _ s6 ⟨σ6,H6,I6,q6⟩=>?_)
  refine wpAny_passesOwn hp (thn (hb _ s6 σ6 H6 _ I6 q6) fun f s7 q7=>?_)
  have again: ∀ {σ7:St} {H7:Hp},Inv X (pins++pinsAt fp s5.heap) σ7 H7 s7->N σ7 H7-> ∃m,m<n/\ ∃i σ' H',Inv X pins σ' H' s7/\tn i s7.heap/\(∀b∈fp,H' b=none)/\W i m σ' H':=fun {σ7 H7} I7 n7=>by
   obtain⟨m',hm,w7⟩:=hN σ7 H7 n7
   refine⟨m',hm,i+1,σ7,H7,I7.unpinned,T.keep _ _ _ st5 fun b hb o e=>(I7.pin (b,o) (List.mem_append_right _ (List.mem_append_right _ (mem_pinsAt hb e)))).1,fun b hb=>?_,w7⟩
   obtain⟨o,e,d⟩:=T.obj _ _ st5 b hb
   exact(I7.pin (b,o) (List.mem_append_right _ (List.mem_append_right _ (mem_pinsAt hb e)))).2.1
  cases f with
  |next=>obtain⟨σ7,H7,I7,n7⟩:=q7;exact again I7 n7
  |cont=>obtain⟨σ7,H7,I7,n7⟩:=q7;exact again I7 n7
  |brk=>obtain⟨σ7,H7,I7,q7⟩:=q7;exact⟨σ7,H7,I7.unpinned,q7⟩
  |ret v=>obtain⟨x7,σ7,H7,I7,r7,q7⟩:=q7;exact⟨x7,σ7,H7,I7.unpinned,r7,q7⟩
end
theorem for_list {K:PySem.W.Frag} {a:Addr} {xs:List V} {g:TG} {tb:TS} {D:Ends} {σ:St} {H:Hp} (Pv:Nat->St->Hp->Prop) (h0:Pv 0 σ H) (hl: ∀i σ H,i<=xs.length->Pv i σ H->SqL K H a xs)
  (hs: ∀i x σ H,xs[i]?=some x->Pv i σ H->g x σ H fun σ2 H2=>tb { D with nx:=Pv (i+1),ct:=Pv (i+1),bk:=D.nx } σ2 H2) (hd: ∀σ H,Pv xs.length σ H->D.nx σ H):
  ∃W:Nat->Nat->St->Hp->Prop,(∃m,W 0 m σ H)/\ ∀i m σ H,W i m σ H->
   ((Itl K a).stop i H/\D.nx σ H)\/((Itl K a).go i H/\ ∃N:St->Hp->Prop,(∀σ' H',N σ' H'-> ∃m',m'<m/\W (i+1) m' σ' H')/\ ∀x H',(Itl K a).yld i H x H'->g x σ H' fun σ2 H2=>tb { D with nx:=N,ct:=N,bk:=D.nx } σ2 H2):=by
 refine⟨fun i m σ H=>m=xs.length-i/\i<=xs.length/\Pv i σ H,⟨xs.length,by simp,Nat.zero_le _,h0⟩,?_⟩
 rintro i m σ H ⟨rfl,hi,p⟩
 have q:=hl i σ H hi p
 by_cases hlt:i<xs.length
 ·refine .inr ⟨⟨xs,xs[i],q,by simp [hlt]⟩,Pv (i+1),fun σ' H' p'=>⟨xs.length-(i+1),by omega,rfl,hlt,p'⟩,fun x H' y=>?_⟩
  obtain⟨e,y⟩:=y
  subst e
  exact hs i x σ _ (y xs q) p
 ·have e:i=xs.length:=by omega
  subst e
  exact .inl ⟨⟨xs,q,Nat.le_refl _⟩,hd σ H p⟩
end L2
namespace L2
open PySem PySem.Spec PyProof.Rows
abbrev R2:=V->V->Hp->VK->Prop
def OpR (X:Cx) (f:Value->Value->Sem Value) (r:R2):Prop:=
 ∀(pins:List (Addr×Obj)) (s:Shared) (σ:St) (H:Hp) (x y:V) (v u:Value) (Q:VK),Inv X pins σ H s->vt_ x v->vt_ y u->r x y H Q->
  wpAny (model X.prog X.w) X.A (f v u) (EP X pins σ Q) X.xe s
def UnR (X:Cx) (f:Value->Sem Value) (r:V->Hp->VK->Prop):Prop:=
 ∀(pins:List (Addr×Obj)) (s:Shared) (σ:St) (H:Hp) (x:V) (v:Value) (Q:VK),Inv X pins σ H s->vt_ x v->r x H Q->
  wpAny (model X.prog X.w) X.A (f v) (EP X pins σ Q) X.xe s
def CallR (X:Cx) (f:Value) (r:List V->Hp->VK->Prop):Prop:=
 ∀(pins:List (Addr×Obj)) (s:Shared) (σ:St) (H:Hp) (xs:List V) (us:List Value) (Q:VK),Inv X pins σ H s->vx_ xs us->r xs H Q->
  wpAny (model X.prog X.w) X.A (call f us) (EP X pins σ Q) X.xe s
def tOp (r:R2) (ta tb:TE):TE:=fun σ H Q=>ta σ H fun x H1=>tb σ H1 fun y H2=>r x y H2 Q
def tUn (r:V->Hp->VK->Prop) (ta:TE):TE:=fun σ H Q=>ta σ H fun x H1=>r x H1 Q
def rI (C:Int->Int->Prop) (g:Int->Int->V):R2:=fun x y H Q=> ∃i j,x= .int i/\y= .int j/\C i j/\Q (g i j) H
def rI0 (g:Int->Int->V):R2:=fun x y H Q=> ∃i j,x= .int i/\y= .int j/\Q (g i j) H
def rU (g:Int->V):V->Hp->VK->Prop:=fun x H Q=> ∃i,x= .int i/\Q (g i) H
section
variable {X:Cx} {a b c:Expr} {ta tb tc:TE} {pos:Pos}
theorem binT (ha:PE X a ta) (hb:PE X b tb) {pins:List (Addr×Obj)} {s:Shared} {σ:St} {H:Hp} {R:V->V->Hp->Prop} (I:Inv X pins σ H s)
  (h:ta σ H fun x H1=>tb σ H1 fun y H2=>R x y H2) {Q:Value->Shared->Prop} {f:Value->Value->Sem Value}
  (hf: ∀v u s2 x y H2,Inv X pins σ H2 s2->vt_ x v->vt_ y u->R x y H2->wpAny (model X.prog X.w) X.A (f v u) Q X.xe s2):
  wpAny (model X.prog X.w) X.A (eval a X.env) (fun v s₁=>wpAny (model X.prog X.w) X.A (eval b X.env) (fun u s₂=>wpAny (model X.prog X.w) X.A (f v u) Q X.xe s₂) X.xe s₁) X.xe s:=by
 refine thn (ha pins s σ H _ I h) fun v s1 ⟨x,H1,I1,r1,q1⟩=>?_
 refine thn (hb pins s1 σ H1 _ I1 q1) fun u s2 ⟨y,H2,I2,r2,q2⟩=>?_
 exact hf v u s2 x y H2 I2 r1 r2 q2
theorem uq_ {op:Operator} {r:R2} (ho:OpR X (binaryOp op) r) (ha:PE X a ta) (hb:PE X b tb):PE X (.BinOp a op b pos) (tOp r ta tb):=by
 intro pins s σ H Q I h
 exact wpAny_BinOp (binT ha hb I h fun v u s2 x y H2 I2 rx ry q=>ho pins s2 σ H2 x y v u Q I2 rx ry q)
theorem pe_un {op:UnaryOp} {r:V->Hp->VK->Prop} (ho:UnR X (unaryOp op) r) (ha:PE X a ta):PE X (.UnaryOp op a pos) (tUn r ta):=by
 intro pins s σ H Q I h
 exact UnaryOp_ (thn (ha pins s σ H _ I h) fun v s1 ⟨x,H1,I1,r1,q1⟩=>ho pins s1 σ H1 x v Q I1 r1 q1)
theorem opI {f:Value->Value->Sem Value} {C:Int->Int->Prop} {g:Int->Int->Int}
  (rule: ∀(i j:Int) (t u:Tok) (s:Shared) (Q:Value->Shared->Prop) (E:Value->Shared->Prop),C i j->Q (.int (g i j) s.toks) { s with toks:=s.toks+1 } ->wpAny (model X.prog X.w) X.A (f (.int i t) (.int j u)) Q E s):
  OpR X f (rI C fun i j=> .int (g i j)):=by
 intro pins s σ H x y v u Q I rx ry h
 obtain⟨i,j,rfl,rfl,hc,q⟩:=h
 obtain⟨t,rfl⟩:=rx
 obtain⟨t',rfl⟩:=ry
 exact rule i j t t' s _ _ hc ⟨.int (g i j),H,I.tok _,⟨_,rfl⟩,q⟩
theorem opI0 {f:Value->Value->Sem Value} {g:Int->Int->Int}
  (rule: ∀(i j:Int) (t u:Tok) (s:Shared) (Q:Value->Shared->Prop) (E:Value->Shared->Prop),Q (.int (g i j) s.toks) { s with toks:=s.toks+1 } ->wpAny (model X.prog X.w) X.A (f (.int i t) (.int j u)) Q E s):
  OpR X f (rI0 fun i j=> .int (g i j)):=by
 intro pins s σ H x y v u Q I rx ry h
 obtain⟨i,j,rfl,rfl,q⟩:=h
 obtain⟨t,rfl⟩:=rx
 obtain⟨t',rfl⟩:=ry
 exact rule i j t t' s _ _ ⟨.int (g i j),H,I.tok _,⟨_,rfl⟩,q⟩
theorem opB0 {f:Value->Value->Sem Value} {g:Int->Int->Bool}
  (rule: ∀(i j:Int) (t u:Tok) (s:Shared) (Q:Value->Shared->Prop) (E:Value->Shared->Prop),Q (.bool (g i j)) s->wpAny (model X.prog X.w) X.A (f (.int i t) (.int j u)) Q E s):
  OpR X f (rI0 fun i j=> .bl (g i j)):=by
 intro pins s σ H x y v u Q I rx ry h
 obtain⟨i,j,rfl,rfl,q⟩:=h
 obtain⟨t,rfl⟩:=rx
 obtain⟨t',rfl⟩:=ry
 exact rule i j t t' s _ _ ⟨.bl (g i j),H,I,rfl,q⟩
def CMul (i j:Int):Prop:=(-(2 ^ 64)<i/\i<2 ^ 64)\/(-(2 ^ 64)<j/\j<2 ^ 64)
theorem CMul.ok {i j:Int} (h:CMul i j):IntMulOk i j:=by
 rcases h with⟨h1,h2⟩|⟨h1,h2⟩
 ·exact .of_left (intBits_le_64 h1 h2)
 ·exact .of_right (intBits_le_64 h1 h2)
theorem uy_:OpR X (binaryOp .Add) (rI0 fun i j=> .int (i+j)):=opI0 fun _ _ _ _ _ _ _ q=>add_int q
theorem op_sub:OpR X (binaryOp .Sub) (rI0 fun i j=> .int (i-j)):=opI0 fun _ _ _ _ _ _ _ q=>sub_int q
theorem op_mul:OpR X (binaryOp .Mult) (rI CMul fun i j=> .int (i*j)):=opI fun _ _ _ _ _ _ _ hc q=>mul_int q hc.ok
theorem unI {f:Value->Sem Value} {g:Int->Int}
  (rule: ∀(i:Int) (t:Tok) (s:Shared) (Q:Value->Shared->Prop) (E:Value->Shared->Prop),Q (.int (g i) s.toks) { s with toks:=s.toks+1 } ->wpAny (model X.prog X.w) X.A (f (.int i t)) Q E s):
  UnR X f (rU fun i=> .int (g i)):=by
 intro pins s σ H x v Q I rx h
 obtain⟨i,rfl,q⟩:=h
 obtain⟨t,rfl⟩:=rx
 exact rule i t s _ _ ⟨.int (g i),H,I.tok _,⟨_,rfl⟩,q⟩
theorem un_neg:UnR X (unaryOp .USub) (rU fun i=> .int (-i)):=unI fun _ _ _ _ _ q=>neg_int q
end
def scal:V->V->Bool
 | .non, .non=>true| .non, .int _=>true| .int _, .non=>true| .non, .bl _=>true| .bl _, .non=>true| .non, .str _=>true| .str _, .non=>true
 | .int _, .int _=>true| .bl _, .bl _=>true| .str _, .str _=>true| .byt _, .byt _=>true
 | .int _, .str _=>true| .str _, .int _=>true| .bl _, .str _=>true| .str _, .bl _=>true
 |_,_=>false
def rEq:R2:=fun x y H Q=>scal x y=true/\Q (.bl (decide (x=y))) H
def rNe:R2:=fun x y H Q=>scal x y=true/\Q (.bl (!decide (x=y))) H
theorem dec_int {i j:Int} :decide (V.int i=V.int j)=(i == j):=by
 rw[Bool.eq_iff_iff]
 simp
theorem dec_bl {i j:Bool} :decide (V.bl i=V.bl j)=(i == j):=by
 rw[Bool.eq_iff_iff]
 simp
theorem dec_str {i j:Str} :decide (V.str i=V.str j)=(i == j):=by
 rw[Bool.eq_iff_iff]
 simp
theorem dec_byt {i j:Array UInt8} :decide (V.byt i=V.byt j)=(i.toList == j.toList):=by
 rw[Bool.eq_iff_iff]
 cases i
 cases j
 simp
section
variable {X:Cx} {a b c:Expr} {ta tb tc:TE} {pos:Pos}
theorem v7_ {pins:List (Addr×Obj)} {σ:St} {H:Hp} {s:Shared} {Q:VK} {k k':Bool} (I:Inv X pins σ H s) (q:Q (.bl k) H) (e:k=k'):EP X pins σ Q (.bool k') s:=by
 subst e
 exact⟨.bl k,H,I,rfl,q⟩
theorem uk_:OpR X (compareOp .Eq) rEq:=by
 intro pins s σ H x y v u Q I rx ry h
 obtain⟨hs,q⟩:=h
 cases x with
 |non=>
  cases rx
  cases y with
  |non=>cases ry;exact PySem.EqNone.eq_none_none (v7_ I q (by simp))
  |bl j=>cases ry;exact PySem.EqNone.eq_none_bool (v7_ I q (by simp))
  |int j=>obtain⟨t',rfl⟩:=ry;exact PySem.EqNone.eq_none_int (v7_ I q (by simp))
  |str j=>obtain⟨t',rfl⟩:=ry;exact PySem.EqNone.eq_none_str (v7_ I q (by simp))
  |_=>exact absurd (show false=true from hs) Bool.false_ne_true
 |bl i=>
  cases rx
  cases y with
  |non=>cases ry;exact PySem.EqNone.eq_bool_none (v7_ I q (by simp))
  |bl j=>cases ry;exact eq_bool (v7_ I q dec_bl)
  |str j=>obtain⟨t',rfl⟩:=ry;exact PySem.EqMixed.eq_bool_str (v7_ I q (by simp))
  |_=>exact absurd (show false=true from hs) Bool.false_ne_true
 |int i=>
  obtain⟨t,rfl⟩:=rx
  cases y with
  |non=>cases ry;exact PySem.EqNone.eq_int_none (v7_ I q (by simp))
  |int j=>obtain⟨t',rfl⟩:=ry;exact eq_int (v7_ I q dec_int)
  |str j=>obtain⟨t',rfl⟩:=ry;exact PySem.EqMixed.eq_int_str (v7_ I q (by simp))
  |_=>exact absurd (show false=true from hs) Bool.false_ne_true
 |str i=>
  obtain⟨t,rfl⟩:=rx
  cases y with
  |non=>cases ry;exact PySem.EqNone.eq_str_none (v7_ I q (by simp))
  |bl j=>cases ry;exact PySem.EqMixed.eq_str_bool (v7_ I q (by simp))
  |int j=>obtain⟨t',rfl⟩:=ry;exact PySem.EqMixed.eq_str_int (v7_ I q (by simp))
  |str j=>obtain⟨t',rfl⟩:=ry;exact eq_str (v7_ I q dec_str)
  |_=>exact absurd (show false=true from hs) Bool.false_ne_true
 |byt i=>
  obtain⟨t,rfl⟩:=rx
  cases y with
  |byt j=>obtain⟨t',rfl⟩:=ry;exact PySem.W.eq_bytes (v7_ I q dec_byt)
  |_=>exact absurd (show false=true from hs) Bool.false_ne_true
 |_=>cases y<;>exact absurd (show false=true from hs) Bool.false_ne_true
theorem op_ne:OpR X (compareOp .NotEq) rNe:=by
 intro pins s σ H x y v u Q I rx ry h
 obtain⟨hs,q⟩:=h
 cases x with
 |non=>
  cases rx
  cases y with
  |non=>cases ry;exact PySem.EqNone.ne_none_none (v7_ I q (by simp))
  |bl j=>cases ry;exact PySem.EqNone.ne_none_bool (v7_ I q (by simp))
  |int j=>obtain⟨t',rfl⟩:=ry;exact PySem.EqNone.ne_none_int (v7_ I q (by simp))
  |str j=>obtain⟨t',rfl⟩:=ry;exact PySem.EqNone.ne_none_str (v7_ I q (by simp))
  |_=>exact absurd (show false=true from hs) Bool.false_ne_true
 |bl i=>
  cases rx
  cases y with
  |non=>cases ry;exact PySem.EqNone.ne_bool_none (v7_ I q (by simp))
  |bl j=>cases ry;exact ne_bool (v7_ I q (congrArg not dec_bl))
  |str j=>obtain⟨t',rfl⟩:=ry;exact PySem.EqMixed.ne_bool_str (v7_ I q (by simp))
  |_=>exact absurd (show false=true from hs) Bool.false_ne_true
 |int i=>
  obtain⟨t,rfl⟩:=rx
  cases y with
  |non=>cases ry;exact PySem.EqNone.ne_int_none (v7_ I q (by simp))
  |int j=>obtain⟨t',rfl⟩:=ry;exact ne_int (v7_ I q (congrArg not dec_int))
  |str j=>obtain⟨t',rfl⟩:=ry;exact PySem.EqMixed.ne_int_str (v7_ I q (by simp))
  |_=>exact absurd (show false=true from hs) Bool.false_ne_true
 |str i=>
  obtain⟨t,rfl⟩:=rx
  cases y with
  |non=>cases ry;exact PySem.EqNone.ne_str_none (v7_ I q (by simp))
  |bl j=>cases ry;exact PySem.EqMixed.ne_str_bool (v7_ I q (by simp))
  |int j=>obtain⟨t',rfl⟩:=ry;exact PySem.EqMixed.ne_str_int (v7_ I q (by simp))
  |str j=>obtain⟨t',rfl⟩:=ry;exact ne_str (v7_ I q (congrArg not dec_str))
  |_=>exact absurd (show false=true from hs) Bool.false_ne_true
 |byt i=>
  obtain⟨t,rfl⟩:=rx
  cases y with
  |byt j=>obtain⟨t',rfl⟩:=ry;exact PySem.W.ne_bytes (v7_ I q (congrArg not dec_byt))
  |_=>exact absurd (show false=true from hs) Bool.false_ne_true
 |_=>cases y<;>exact absurd (show false=true from hs) Bool.false_ne_true
theorem op_lt:OpR X (compareOp .Lt) (rI0 fun i j=> .bl (decide (i<j))):=opB0 fun _ _ _ _ _ _ _ q=>lt_int q
theorem op_le:OpR X (compareOp .LtE) (rI0 fun i j=> .bl (decide (i<=j))):=opB0 fun _ _ _ _ _ _ _ q=>le_int q
theorem op_gt:OpR X (compareOp .Gt) (rI0 fun i j=> .bl (decide (j<i))):=opB0 fun _ _ _ _ _ _ _ q=>gt_int q
theorem yk_ (b:Expr) {op:CmpOp} (h:op≠ .In:=by decide) (h2:op≠ .NotIn:=by decide):behindInMarks op b=false:=by
 have e1:(op == CmpOp.In)=false:=by cases op<;>first|rfl|exact absurd rfl h
 have e2:(op == CmpOp.NotIn)=false:=by cases op<;>first|rfl|exact absurd rfl h2
 cases b<;>simp [behindInMarks,e1,e2]
theorem ww_ {op:CmpOp} {r:R2} (ho:OpR X (compareOp op) r) (ha:PE X a ta) (hb:PE X b tb) (hm:behindInMarks op b=false):PE X (.Compare a [op] [b] pos) (tOp r ta tb):=by
 intro pins s σ H Q I h
 exact wpAny_Compare1 (binT ha hb I h fun v u s2 x y H2 I2 rx ry q=>ho pins s2 σ H2 x y v u Q I2 rx ry q) hm
def tTest (t:TE):TT:=fun σ H Q=>t σ H fun x H'=> ∃k,x= .bl k/\Q k H'
theorem ya_ {op:CmpOp} {r:R2} (ho:OpR X (compareOp op) r) (ha:PE X a ta) (hb:PE X b tb) (hm:behindInMarks op b=false):PT X (.Compare a [op] [b] pos) (tTest (tOp r ta tb)):=by
 intro pins s σ H Q I h
 refine wpAny_isTrue_Compare1 (thn (ha pins s σ H _ I h) fun v s1 ⟨x,H1,I1,r1,q1⟩=>thn (hb pins s1 σ H1 _ I1 q1) fun u s2 ⟨y,H2,I2,r2,q2⟩=>
  thn (ho pins s2 σ H2 x y v u _ I2 r1 r2 q2) fun c s3 ⟨z,H3,I3,r3,k,e,q3⟩=>?_) hm
 subst e
 cases r3
 exact wpAny_truthy_bool ⟨H3,I3,q3⟩
def tChain (r r':R2) (ta tb tc:TE):TE:=fun σ H Q=>ta σ H fun x H1=>tb σ H1 fun y H2=>r x y H2 fun z H3=> ∃k,z= .bl k/\
 (if k=true then tc σ H3 fun w' H4=>r' y w' H4 Q else Q (.bl false) H3)
theorem pe_chain {op op':CmpOp} {r r':R2} (ho:OpR X (compareOp op) r) (ho':OpR X (compareOp op') r') (ha:PE X a ta) (hb:PE X b tb) (hc:PE X c tc)
  (hm:lastMarks [op,op'] [b,c]=false:=by with_unfolding_all rfl):PE X (.Compare a [op,op'] [b,c] pos) (tChain r r' ta tb tc):=by
 intro pins s σ H Q I h
 refine Compare_chain (thn (ha pins s σ H _ I h) fun v s1 ⟨x,H1,I1,r1,q1⟩=>chain_link (thn (hb pins s1 σ H1 _ I1 q1) fun u s2 ⟨y,H2,I2,r2,q2⟩=>
  thn (ho pins s2 σ H2 x y v u _ I2 r1 r2 q2) fun d s3 ⟨z,H3,I3,r3,k,e,q3⟩=>?_)) hm
 subst e
 cases r3
 refine wpAny_truthy_bool ?_
 cases k with
 |false=>exact ite_ff ⟨.bl false,H3,I3,rfl,q3⟩
 |true=>exact ite_tt (chain_last (thn (hc pins s3 σ H3 _ I3 q3) fun w' s4 ⟨z',H4,I4,r4,q4⟩=>ho' pins s4 σ H4 y z' u w' Q I4 r2 r4 q4))
theorem line63:(sizeLine:Nat)<2 ^ 63:=by rw[sizeLine_eq];decide
theorem vals1 {x:V} {us:List Value} (r:vx_ [x] us): ∃u,us=[u]/\vt_ x u:=by
 cases r with
 |cons r1 r2=>cases r2;exact⟨_,rfl,r1⟩
theorem vals2 {x y:V} {us:List Value} (r:vx_ [x,y] us): ∃u w',us=[u,w']/\vt_ x u/\vt_ y w':=by
 cases r with
 |cons r1 r2=>
  cases r2 with
  |cons r3 r4=>cases r4;exact⟨_,_,rfl,r1,r3⟩
end
end L2
namespace L2
open PySem PySem.Spec PyProof.Rows
structure ObjM (h:Heap) (x dx C:Addr) (mA:Str->Option Value):Prop where
 obj:h.get? x=some (PySem.W.instObj C dx)
 ns:h.Ns1 dx mA
 ne:dx≠x
theorem lookIn_ns {h:Heap} {dx:Addr} {mA:Str->Option Value} (n:h.Ns1 dx mA): ∃od,h.get? dx=some od/\ ∀name,PySem.W.lookIn name od=some (mA name):=by
 obtain⟨o,es,ep,ho,hd,hk,_,hm⟩:=n
 refine⟨o,ho,fun name=>?_⟩
 have e:=hm name
 unfold nsFind findBy at e
 rw[<-Array.find?_toList] at e
 unfold PySem.W.lookIn
 rw[hd]
 dsimp only
 split
 ·rename_i y q
  rw[q] at e
  exact congrArg some e
 ·rename_i q
  rw[q] at e
  have a:es.toList.any (·.refKey)=false:=by
   rw[List.any_eq_false]
   intro y hy
   obtain⟨z,t,hkey⟩:=hk y (Array.mem_toList_iff.mp hy)
   simp [DictEntry.refKey,hkey]
  have a': ¬es.toList.any (·.refKey)=true:=by rw[a];exact Bool.false_ne_true
  rw[if_neg a']
  exact congrArg some e
theorem ObjM.look {h:Heap} {x dx C:Addr} {mA:Str->Option Value} (I:ObjM h x dx C mA): ∃od,PySem.W.InstAt h x (PySem.W.instObj C dx) C (some od)/\ ∀name,PySem.W.lookIn name od=some (mA name):=
 let ⟨od,ho,hl⟩:=lookIn_ns I.ns
 ⟨od,⟨I.obj,rfl,rfl,ho⟩,hl⟩
section
variable {prog:Program} {w:World} {A:Around} {E:Value->Shared->Prop} {s:Shared} {K:PySem.W.Frag} {x dx C f:Addr} {mA:Str->Option Value} {name:Str} {v:Value}
theorem get_map {expr:Bool} {Q:Value->Shared->Prop} (X:K.In s.heap) (I:ObjM s.heap x dx C mA) (hg:PySem.W.plainGet K C name=true) (hh:PySem.W.hasDictIn K C=true)
  (ha:PySem.W.findIn K (.ref C) name=some none) (hv:mA name=some v) (hv':PySem.W.handedIn v=true) (h:Q v { s with toks:=s.toks+1 }):
  wpAny (model prog w) A (getAttr (.ref x) name expr) Q E s:=by
 obtain⟨od,J,hl⟩:=I.look
 exact PySem.W.get_value X J (PySem.W.plainGet_of hg).1 (PySem.W.findObj_own hh ha rfl (by rw[hl,hv])) hv' h
theorem get_meth {pl:Sem Bool} {Q:Value×List Value->Shared->Prop} (X:K.In s.heap) (I:ObjM s.heap x dx C mA) (hg:PySem.W.plainGet K C name=true)
  (hf:PySem.W.findIn K (.ref C) name=some (some (.ref f))) (ht:PySem.W.isFn K (.ref f)=true) (hv:mA name=none) (h:Q (.ref f,[.ref x]) s):
  wpAny (model prog w) A (getMethod (.ref x) name pl) Q E s:=by
 obtain⟨od,J,hl⟩:=I.look
 exact PySem.W.method_fn X J (PySem.W.plainGet_of hg).1 (PySem.W.plainGet_of hg).2 hf (beq_iff_eq.mp ht) (by show(PySem.W.lookIn name od).map (·.isSome)=some false;rw[hl,hv];rfl) h
theorem set_map {ns:List Str} {Q:Unit->Shared->Prop} (X:K.In s.heap) (I:ObjM s.heap x dx C mA)
  (hs:PySem.W.findIn K (.ref C) "__setattr__"=some (some (.builtin "object.__setattr__"))) (hp:PySem.W.plainOver K C=true) (ht:PySem.W.takerIn K C name=some none) (hh:PySem.W.hasDictIn K C=true)
  (hw:PySem.Within mA ns) (hsz:ns.length<=sizeLine)
  (h: ∀h',ObjM h' x dx C (fun y=>if y=name then some v else mA y)->Heap.SameBut dx s.heap h'->Q () { s with heap:=h',toks:=s.toks+2 }):
  wpAny (model prog w) A (setAttr (.ref x) name v) Q E s:=by
 obtain⟨od,J,hl⟩:=I.look
 refine PySem.W.set_plain X J hs (PySem.W.osa_open (s:= { s with toks:=s.toks+1 }) (r:=none) X J hp ht fun b=>?_)
 obtain⟨cd,hc,hd'⟩:=PySem.W.any_some hh
 have hx:s.heap.get? x=some ⟨.ref C,some dx, .plain, #[]⟩:=I.obj
 refine wpAny_bind (wpAny_pure (wpAny_bind (wpAny_bind (wpAny_loadPart hx (wpAny_bind (PySem.W.Looks.here (s:= { s with toks:=s.toks+1 }) (PySem.W.looks_clsIn X hc) ?_))))))
 rw[hd']
 refine wpAny_pure (a:=some dx) (wpAny_bind (wpAny_pure (wpAny_bind ?_)))
 refine wpAny_nsSet1 (s:= { s with toks:=s.toks+1 }) I.ns fun h' hn2 hs2=>?_
 obtain⟨oD,esD,epD,hoD,hdD,hcD⟩:=hn2.count (PySem.Within.cons name v hw)
 refine wpAny_bind (wpAny_lookBehind hoD (by rw[hdD];exact pastItsLine_dict (Nat.le_trans hcD (by rw[List.length_cons];omega))) ?_)
 exact wpAny_pure (h _ ⟨(hs2.2 _ (Ne.symm I.ne)).trans I.obj,hn2,I.ne⟩ hs2)
theorem make_map {R:Result->Shared->Prop} {vs:List Value} {kw:List (Str×Value)} (X:K.In s.heap) (hm:PySem.W.makesIn K C=true)
  (hi:PySem.W.findIn K (.ref C) "__init__"=some (some (.ref f))) (hf:PySem.W.typeIn K (.ref f)=some (.type "function"))
  (h:codeAny (model prog w) (A.under (.builtin "type.__call__" ⟨.ref C::vs,kw⟩)) (.call (.ref f) ⟨.ref (s.heap.objs.size+1)::vs,kw⟩) (PySem.W.InitBack (s.heap.objs.size+1) R)
   { s with heap:=(s.heap.push PySem.W.emptyDict).push (PySem.W.instObj C s.heap.objs.size) }):
  codeAny (model prog w) A (.call (.ref C) ⟨vs,kw⟩) R s:=by
 obtain⟨hh,g,d,t,os⟩:=s
 exact PySem.W.make_core (PySem.W.makes_of X hm) (PySem.W.looks_findIn X hi) (fun self=>PySem.W.bind_fn X self hf) (.inl rfl) h
end
def putF (f:Str) (v:V):List (Str×V)->List (Str×V)
 |[]=>[(f,v)]
 | (g,x)::r=>if g=f then(g,v)::r else(g,x)::putF f v r
theorem j0v_ (f g:Str) (v:V): ∀fs:List (Str×V),(putF f v fs).lookup g=if g=f then some v else fs.lookup g
 |[]=>by
  show List.lookup g [(f,v)]=_
  by_cases h:g=f
  ·have hb:(g == f)=true:=beq_iff_eq.mpr h
   simp only[List.lookup,hb,if_pos h]
  ·have hb:(g == f)=false:=beq_eq_false_iff_ne.mpr h
   simp only[List.lookup,hb,if_neg h]
 | (k,x)::r=>by
  have ih:=j0v_ f g v r
  rw[show putF f v ((k,x)::r)=(if k=f then(k,v)::r else(k,x)::putF f v r) from rfl]
  by_cases hk:k=f
  ·rw[if_pos hk]
   by_cases h:g=k
   ·have hb:(g == k)=true:=beq_iff_eq.mpr h
    simp only[List.lookup,hb,if_pos (h.trans hk)]
   ·have hb:(g == k)=false:=beq_eq_false_iff_ne.mpr h
    simp only[List.lookup,hb,if_neg (fun e:g=f=>h (e.trans hk.symm))]
  ·rw[if_neg hk]
   by_cases h:g=k
   ·have hb:(g == k)=true:=beq_iff_eq.mpr h
    simp only[List.lookup,hb,if_neg (fun e:g=f=>hk (h.symm.trans e))]
   ·have hb:(g == k)=false:=beq_eq_false_iff_ne.mpr h
    simp only[List.lookup,hb]
    exact ih
theorem j07_ (f:Str) (v:V): ∀fs:List (Str×V),f∈(putF f v fs).map (·.1)/\ ∀g,g∈fs.map (·.1)->g∈(putF f v fs).map (·.1)
 |[]=>⟨by simp [putF],fun g h=>by simp at h⟩
 | (k,x)::r=>by
  obtain⟨i1,i2⟩:=j07_ f v r
  rw[show putF f v ((k,x)::r)=(if k=f then(k,v)::r else(k,x)::putF f v r) from rfl]
  by_cases hk:k=f
  ·rw[if_pos hk]
   subst hk
   exact⟨by simp,fun g h=>by simpa using h⟩
  ·rw[if_neg hk]
   refine⟨?_,fun g h=>?_⟩
   ·rw[List.map_cons]
    exact List.mem_cons_of_mem _ i1
   ·rw[List.map_cons] at h ⊢
    rcases List.mem_cons.mp h with e|e
    ·exact List.mem_cons.mpr (.inl e)
    ·exact List.mem_cons_of_mem _ (i2 g e)
theorem vz_ (f:Str) (v:V): ∀fs:List (Str×V),(putF f v fs).length<=fs.length+1
 |[]=>by simp [putF]
 | (k,x)::r=>by
  have ih:=vz_ f v r
  rw[show putF f v ((k,x)::r)=(if k=f then(k,v)::r else(k,x)::putF f v r) from rfl]
  by_cases hk:k=f
  ·rw[if_pos hk,List.length_cons,List.length_cons];omega
  ·rw[if_neg hk,List.length_cons,List.length_cons];omega
theorem RelO.some_of {v:V} {o:Option Value} (r:RelO (some v) o): ∃u,o=some u/\vt_ v u:=by
 cases o with
 |none=>exact(show False from r).elim
 |some u=>exact⟨u,rfl,r⟩
theorem RelO.none_of {o:Option Value} (r:RelO none o):o=none:=by
 cases o with
 |none=>rfl
 |some u=>exact(show False from r).elim
theorem handed_of {v:V} {u:Value} (r:vt_ v u):PySem.W.handedIn u=true:=by
 cases v with
 |non=>cases (show u=Value.none from r);rfl
 |bl b=>cases (show u=Value.bool b from r);rfl
 |int i=>obtain⟨t,e⟩:=(show∃t,u=Value.int i t from r);cases e;rfl
 |str x=>obtain⟨t,e⟩:=(show∃t,u=Value.str x t from r);cases e;rfl
 |byt b=>obtain⟨t,e⟩:=(show∃t,u=Value.bytes b t from r);cases e;rfl
 |flt b=>obtain⟨t,e⟩:=(show∃t,u=Value.float b t from r);cases e;rfl
 |ref a=>cases (show u=Value.ref a from r);rfl
 |ty n=>cases (show u=Value.type n from r);rfl
section
variable {P:Program} {w:World} {H H':Hp} {h h':Heap} {a C dx:Addr} {fs fs':List (Str×V)}
theorem ins_get (hok:HOk P w H h) (e:H a=some (.ins C dx fs)): ∃mA,ObjM h a dx C mA/\(∀f,RelO (fs.lookup f) (mA f))/\PySem.Within mA (fs.map (·.1))/\fs.length<=1000/\H dx=some (.own a):=by
 obtain⟨d,z,ne,ob,mA,n,r,q⟩:=(show qh_ P w H h a (.ins C dx fs) from hok a _ e)
 exact⟨mA,⟨ob,n,ne⟩,r,q,z,d⟩
end
structure Cls (K:PySem.W.Frag) (C:Addr):Prop where
 pg:PySem.W.plainGet K C Str.empty=true
 hd:PySem.W.hasDictIn K C=true
 po:PySem.W.plainOver K C=true
 sa:PySem.W.findIn K (.ref C) "__setattr__"=some (some (.builtin "object.__setattr__"))
theorem Cls.get {K:PySem.W.Frag} {C:Addr} (c:Cls K C) (f:Str):PySem.W.plainGet K C f=true:=c.pg
def jm_ (K:PySem.W.Frag) (C:Addr) (f:Str):Prop:=PySem.W.findIn K (.ref C) f=some none
theorem jm_.taker {K:PySem.W.Frag} {C:Addr} {f:Str} (n:jm_ K C f):PySem.W.takerIn K C f=some none:=by
 unfold PySem.W.takerIn
 rw[show PySem.W.findIn K (.ref C) f=some none from n]
 rfl
structure Meth (K:PySem.W.Frag) (C:Addr) (m:Str) (f:Addr):Prop where
 at_:PySem.W.findIn K (.ref C) m=some (some (.ref f))
 fn:PySem.W.isFn K (.ref f)=true
 kp:PySem.W.keepIn K (.ref f)=true
section
variable {X:Cx} {pins:List (Addr×Obj)} {σ:St} {H:Hp} {s:Shared} {a C dx:Addr} {fs:List (Str×V)} {f:Str} {v:V} {A:Around} {E:Value->Shared->Prop}
theorem getattr_ok {b:Bool} {Q:Value->Shared->Prop} (I:Inv X pins σ H s) (e:H a=some (.ins C dx fs)) (c:Cls X.K C) (n:jm_ X.K C f) (l:fs.lookup f=some v)
  (h: ∀u s',Inv X pins σ H s'->vt_ v u->Q u s'):wpAny (model X.prog X.w) A (getAttr (.ref a) f b) Q E s:=by
 obtain⟨mA,O,r,_,_,_⟩:=ins_get I.hok e
 obtain⟨u,hu,ru⟩:=RelO.some_of (v:=v) (o:=mA f) (by rw[<-l];exact r f)
 exact get_map I.kIn O (c.get f) c.hd n hu (handed_of ru) (h u _ (I.tok _) ru)
theorem getmeth_ok {m:Str} {g:Addr} {pl:Sem Bool} {Q:Value×List Value->Shared->Prop} (I:Inv X pins σ H s) (e:H a=some (.ins C dx fs)) (c:Cls X.K C) (k:Meth X.K C m g) (l:fs.lookup m=none)
  (h:Q (.ref g,[.ref a]) s):wpAny (model X.prog X.w) A (getMethod (.ref a) m pl) Q E s:=by
 obtain⟨mA,O,r,_,_,_⟩:=ins_get I.hok e
 have hn:mA m=none:=RelO.none_of (by rw[<-l];exact r m)
 exact get_meth I.kIn O (c.get m) k.at_ k.fn hn h
theorem setattr_ok {y:V} {u:Value} {Q:Unit->Shared->Prop} (I:Inv X pins σ H s) (e:H a=some (.ins C dx fs)) (c:Cls X.K C) (n:jm_ X.K C f) (hl:fs.length<1000) (ry:vt_ y u)
  (h: ∀s',Inv X pins σ (upd H a (.ins C dx (putF f y fs))) s'->Q () s'):wpAny (model X.prog X.w) A (setAttr (.ref a) f u) Q E s:=by
 obtain⟨mA,O,r,wi,_,ho⟩:=ins_get I.hok e
 have hz:(fs.map (·.1)).length<=sizeLine:=by rw[List.length_map,sizeLine_eq];omega
 refine set_map I.kIn O c.sa c.po n.taker c.hd wi hz fun h' O' sb=>h _ ?_
 have hd: ∃o,h'.get? dx=some o:=let ⟨o,_,_,e',_⟩:=O'.ns;⟨o,e'⟩
 refine I.write (x:=a) (e:=dx) (by rw[e];exact True.intro) (.inr ho) (fun b q hb z=>(sb.2 b hb).trans z) hd ?_
 refine⟨by rw[j3_ O.ne];exact ho,?_,O.ne,O'.obj,_,O'.ns,fun g=>?_,fun g hg=>?_⟩
 ·have:=vz_ f y fs;omega
 ·show RelO ((putF f y fs).lookup g) (if g=f then some u else mA g)
  rw[j0v_]
  by_cases q:g=f
  ·rw[if_pos q,if_pos q];exact ry
  ·rw[if_neg q,if_neg q];exact r g
 ·by_cases q:g=f
  ·rw[q];exact(j07_ f y fs).1
  ·refine(j07_ f y fs).2 g (wi g fun z=>hg ?_)
   show(if g=f then some u else mA g)=none
   rw[if_neg q];exact z
theorem Inv.made (I:Inv X pins σ H s):Inv X pins σ (upd (upd H s.heap.objs.size (.own (s.heap.objs.size+1))) (s.heap.objs.size+1) (.ins C s.heap.objs.size []))
  { s with heap:=(s.heap.push PySem.W.emptyDict).push (PySem.W.instObj C s.heap.objs.size) } :=by
 have e1:(s.heap.push PySem.W.emptyDict).get? s.heap.objs.size=some PySem.W.emptyDict:=Heap.get?_push_size s.heap rfl
 have e2:((s.heap.push PySem.W.emptyDict).push (PySem.W.instObj C s.heap.objs.size)).get? (s.heap.objs.size+1)=some (PySem.W.instObj C s.heap.objs.size):=by
  have:=Heap.get?_push_size (s.heap.push PySem.W.emptyDict) (o:=PySem.W.instObj C s.heap.objs.size) rfl
  rwa [Heap.size_push] at this
 have e3:(s.heap.push PySem.W.emptyDict).Ns s.heap.objs.size (fun _=>none):=⟨PySem.W.emptyDict, #[],_,e1,rfl,(fun e he=>absurd he (by simp)),fun _=>rfl⟩
 have I1:=I.laid (a:=s.heap.objs.size) (o:= .own (s.heap.objs.size+1)) (h':=s.heap.push PySem.W.emptyDict) (t':=s.toks) (fun b u q=>Heap.get?_push_of_some _ q) (Nat.le_refl _) ⟨_,e1⟩
 refine I1.laid (a:=s.heap.objs.size+1) (o:= .ins C s.heap.objs.size []) (t':=s.toks) (fun b u q=>Heap.get?_push_of_some _ q) (Nat.le_of_eq (Heap.size_push _ _)) ?_
 have ne:s.heap.objs.size≠s.heap.objs.size+1:=Nat.ne_of_lt (Nat.lt_succ_self _)
 refine⟨by rw[j3_ ne,j4_],Nat.zero_le _,ne,e2,fun _=>none,(Heap.Ns1.of_empty e3).at fun o q=>Heap.get?_push_of_some _ q,fun _=>True.intro,fun y hy=>absurd rfl hy⟩
theorem attr_of {prog:Program} {w:World} {env:Env} {e:Expr} {f:Str} {pos:Pos} {s:Shared} {Q:Value->Shared->Prop} (hb:attributeBase e f env (eval e env)=eval e env)
  (h:wpAny (model prog w) A (eval e env) (fun o s₁=>wpAny (model prog w) A (getAttr o f true) Q E s₁) E s):wpAny (model prog w) A (eval (.Attribute e f pos) env) Q E s:=
 Attribute_any_ h (by rw[arm_eval_Attribute,hb])
end
def tFld (K:PySem.W.Frag) (ta:TE) (f:Str):TE:=fun σ H Q=>ta σ H fun x H1=> ∃a C dx fs v,x= .ref a/\H1 a=some (.ins C dx fs)/\Cls K C/\jm_ K C f/\fs.lookup f=some v/\Q v H1
def sFld (K:PySem.W.Frag) (ta tv:TE) (f:Str):TS:=fun D σ H=>tv σ H fun y H1=>ta σ H1 fun x H2=> ∃a C dx fs,x= .ref a/\H2 a=some (.ins C dx fs)/\Cls K C/\jm_ K C f/\fs.length<1000/\
 D.nx σ (upd H2 a (.ins C dx (putF f y fs)))
def InOp (X:Cx) (op:Operator) (rd:V->V->Hp->VK->Prop):Prop:=
 ∀(pins:List (Addr×Obj)) (s:Shared) (σ:St) (H:Hp) (x y:V) (u v:Value) (Q:VK),Inv X pins σ H s->vt_ x u->vt_ y v->rd x y H Q->wpAny (model X.prog X.w) X.A (inplaceOp op u v) (EP X pins σ Q) X.xe s
def sFldAug (K:PySem.W.Frag) (ta tv:TE) (rd:V->V->Hp->VK->Prop) (f:Str):TS:=fun D σ H=>ta σ H fun x H1=> ∃a C dx fs v,x= .ref a/\H1 a=some (.ins C dx fs)/\Cls K C/\jm_ K C f/\fs.lookup f=some v/\
 tv σ H1 fun y H2=>rd v y H2 fun z H3=> ∃dx' fs',H3 a=some (.ins C dx' fs')/\fs'.length<1000/\D.nx σ (upd H3 a (.ins C dx' (putF f z fs')))
section
variable {X:Cx} {o e value:Expr} {f:Str} {pos pos' tpos:Pos} {ta tv:TE}
theorem yf_ (he:PE X e ta) (hb:attributeBase e f X.env (eval e X.env)=eval e X.env):PE X (.Attribute e f pos) (tFld X.K ta f):=by
 intro pins s σ H Q I h
 refine attr_of hb (thn (he pins s σ H _ I h) fun u s1 ⟨x,H1,I1,rx,a,C,dx,fs,v,ex,ea,c,n,l,q⟩=>?_)
 subst ex
 obtain rfl:u=Value.ref a:=rx
 exact getattr_ok I1 ea c n l fun u' s2 I2 ru=>⟨v,H1,I2,ru,q⟩
theorem jq_ (ha:PE X o ta) (hv:PE X value tv) (hs:swapsWith value (some (.Attribute o f pos')) pos.line X.env=pure false):PS X (.Assign [.Attribute o f pos'] value pos) (sFld X.K ta tv f):=by
 intro pins s σ H D I h
 refine plainObj_wpAny_Assign_Attribute (thn (hv pins s σ H _ I h) fun u s1 ⟨y,H1,I1,ry,q⟩=>thn (ha pins s1 σ H1 _ I1 q) fun ov s2 ⟨x,H2,I2,rx,a,C,dx,fs,ex,ea,c,n,l,q2⟩=>?_) hs
 subst ex
 obtain rfl:ov=Value.ref a:=rx
 exact setattr_ok I2 ea c n l ry fun s3 I3=>⟨σ,_,I3,q2⟩
theorem ps_fldaug {op:Operator} {rd:V->V->Hp->VK->Prop} (ha:PE X o ta) (hv:PE X value tv) (hop:InOp X op rd):PS X (.AugAssign (.Attribute o f tpos) op value pos) (sFldAug X.K ta tv rd f):=by
 intro pins s σ H D I h
 refine wpAny_AugAssign_AttributeAny (thn (ha pins s σ H _ I h) fun ov s1 ⟨x,H1,I1,rx,a,C,dx,fs,v,ex,ea,c,n,l,q⟩=>?_)
 subst ex
 obtain rfl:ov=Value.ref a:=rx
 refine getattr_ok I1 ea c n l fun u s2 I2 ru=>thn (hv pins s2 σ H1 _ I2 q) fun w3 s3 ⟨y,H2,I3,ry,q3⟩=>thn (hop pins s3 σ H2 v y u w3 _ I3 ru ry q3) fun w4 s4 ⟨z,H3,I4,rz,dx',fs',ea',l',q4⟩=>?_
 exact setattr_ok I4 ea' c n l' rz fun s5 I5=>⟨σ,_,I5,q4⟩
def rAdd:V->V->Hp->VK->Prop:=fun x y H Q=> ∃i j,x= .int i/\y= .int j/\Q (.int (i+j)) H
theorem in_add:InOp X .Add rAdd:=by
 rintro pins s σ H x y u v Q I rx ry ⟨i,j,rfl,rfl,q⟩
 obtain⟨t,rfl⟩:=(show∃t,u=Value.int i t from rx)
 obtain⟨t',rfl⟩:=(show∃t',v=Value.int j t' from ry)
 exact PyProof.Rows.iadd_int ⟨.int (i+j),H,I.tok _,⟨_,rfl⟩,q⟩
end
section
variable {X:Cx} {pins:List (Addr×Obj)} {σ:St} {H:Hp} {s:Shared} {A:Around} {E:Value->Shared->Prop} {Q:Value->Shared->Prop} {c:Value} {b:Bool}
inductive TyOf (K:PySem.W.Frag) (H:Hp):V->Value->Prop where
 |non:TyOf K H .non (.type "NoneType")
 |bl (x:Bool):TyOf K H (.bl x) (.type "bool")
 |int (i:Int):TyOf K H (.int i) (.type "int")
 |str (x:Str):TyOf K H (.str x) (.type "str")
 |flt (x:UInt64):TyOf K H (.flt x) (.type "float")
 |lst {a:Addr} {xs:List V} (e:H a=some (.lst xs)):TyOf K H (.ref a) (.type "list")
 |frz {a:Addr} {o:Obj} {xs:List V} (e:H a=some (.frz o (.lst xs))):TyOf K H (.ref a) (.type "list")
 |tup {a:Addr} {xs:List V} (e:H a=some (.tup xs)):TyOf K H (.ref a) (.type "tuple")
 |dK {a:Addr} {kvs:List (Key×V)} (e:H a=some (.dK kvs)):TyOf K H (.ref a) (.type "dict")
 |dT {a:Addr} {kvs:List (List Key×V)} (e:H a=some (.dT kvs)):TyOf K H (.ref a) (.type "dict")
 |ins {a C dx:Addr} {fs:List (Str×V)} (e:H a=some (.ins C dx fs)) (cl:Cls K C) (ha:PySem.W.findIn K (.ref C) "__class__"=some (some (.builtin "object.__class__")))
   (hn:PySem.W.specialIn K (.builtin "object.__class__") "__get__"=some (some (.builtin "getset_descriptor.__get__"))) (htk:PySem.W.takesIn K (.builtin "object.__class__")=some true)
   (hm:PySem.W.mroIn K C (.type "object")=some true):TyOf K H (.ref a) (.ref C)
theorem isinst_ok {x:V} {u t:Value} (I:Inv X pins σ H s) (rx:vt_ x u) (ty:TyOf X.K H x t) (e:PySem.W.kitOne X.K t c=some b) (h: ∀tk,Q (.bool b) { s with toks:=tk }):
  wpAny (model X.prog X.w) A (call (.builtin "isinstance") [u,c]) Q E s:=by
 cases ty with
 |non=>cases (show u=Value.none from rx);exact PySem.W.kia_one PySem.W.kitx_none I.kIn True.intro e (fun z=>nomatch z) h
 |bl y=>cases (show u=Value.bool y from rx);exact PySem.W.kia_one PySem.W.kitx_bool I.kIn True.intro e (fun z=>nomatch z) h
 |int i=>obtain⟨t,q⟩:=(show∃t,u=Value.int i t from rx);cases q;exact PySem.W.kia_one PySem.W.kitx_int I.kIn True.intro e (fun z=>nomatch z) h
 |str y=>obtain⟨t,q⟩:=(show∃t,u=Value.str y t from rx);cases q;exact PySem.W.kia_one PySem.W.kitx_str I.kIn True.intro e (fun z=>nomatch z) h
 |flt y=>obtain⟨t,q⟩:=(show∃t,u=Value.float y t from rx);cases q;exact PySem.W.kia_one PySem.W.kitx_float I.kIn True.intro e (fun z=>nomatch z) h
 | @lst a xs ea=>
  cases (show u=Value.ref a from rx)
  obtain⟨_,_,n,_,h1⟩:=(show qh_ X.prog X.w H s.heap a (.lst xs) from I.hok a _ ea)
  exact PySem.W.kia_one PySem.W.kitx_list I.kIn ⟨_,h1,rfl⟩ e (fun z=>nomatch z) h
 | @frz a ob xs ea=>
  cases (show u=Value.ref a from rx)
  obtain⟨_,_,_,n,_,h1⟩:=(show qh_ X.prog X.w H s.heap a (.frz ob (.lst xs)) from I.hok a _ ea)
  exact PySem.W.kia_one PySem.W.kitx_list I.kIn ⟨_,h1,rfl⟩ e (fun z=>nomatch z) h
 | @tup a xs ea=>
  cases (show u=Value.ref a from rx)
  obtain⟨_,_,_,p⟩:=(show qh_ X.prog X.w H s.heap a (.tup xs) from I.hok a _ ea)
  obtain⟨o,h1,h2,_⟩:=p
  exact PySem.W.kia_one PySem.W.kitx_tuple I.kIn ⟨o,h1,h2⟩ e (fun z=>nomatch z) h
 | @dK a kvs ea=>
  cases (show u=Value.ref a from rx)
  obtain⟨_,_,vs,_,p⟩:=(show qh_ X.prog X.w H s.heap a (.dK kvs) from I.hok a _ ea)
  obtain⟨o,es,ep,h1,h2,_⟩:=p
  exact PySem.W.kia_one PySem.W.kitx_dict I.kIn ⟨o,h1,h2.1⟩ e (fun z=>nomatch z) h
 | @dT a kvs ea=>
  cases (show u=Value.ref a from rx)
  obtain⟨_,_,xs,_,o,es,ep,h1,h2,_⟩:=(show qh_ X.prog X.w H s.heap a (.dT kvs) from I.hok a _ ea)
  exact PySem.W.kia_one PySem.W.kitx_dict I.kIn ⟨o,h1,h2.1⟩ e (fun z=>nomatch z) h
 | @ins a C dx fs ea cl ha hn htk hm=>
  cases (show u=Value.ref a from rx)
  obtain⟨mA,O,_⟩:=ins_get I.hok ea
  obtain⟨od,J,_⟩:=O.look
  exact PySem.W.kia_one (PySem.W.kitx_own (cl.get _) cl.hd ha hn htk hm) I.kIn J e (fun z=>nomatch z) h
end
end L2
namespace L2
open PySem PySem.Spec PyProof.Rows
structure j15_ (k:Nat) (A:Around):Prop where
 hd:A.handled=none
 dp:A.depth+3*k+5<recursionLimit
 un:A.units+16*k+200<cLine
theorem j15_.mono {j k:Nat} {A:Around} (r:j15_ k A) (h:j<=k):j15_ j A:=⟨r.hd,by have:=r.dp;omega,by have:=r.un;omega⟩
theorem j15_.deeper {k:Nat} {A:Around} (r:j15_ (k+1) A) (env:Env):j15_ k (A.deeper env):=
 ⟨r.hd,by have:=r.dp;show A.depth+1+3*k+5<_;omega,by have:=r.un;show A.units+3+16*k+200<_;omega⟩
theorem make_depth {A:Around} {C:Addr} {us:List Value} {kw:List (Str×Value)} :(A.under (.builtin "type.__call__" ⟨.ref C::us,kw⟩)).depth=A.depth+1:=by
 first|rfl|simp [Around.under,Code.weight,Code.isCreation,Code.isGuard,Code.isCaller,Code.frames,Code.isFrame,guardIds]
theorem make_units {A:Around} {C:Addr} {us:List Value} {kw:List (Str×Value)} :(A.under (.builtin "type.__call__" ⟨.ref C::us,kw⟩)).units=A.units+1:=by
 first|rfl|simp [Around.under,Code.cUnits,Code.frames,Code.isFrame]
theorem j15_.make {k:Nat} {A:Around} (r:j15_ (k+1) A) (C:Addr) (us:List Value) (kw:List (Str×Value)):j15_ k (A.under (.builtin "type.__call__" ⟨.ref C::us,kw⟩)):=
 ⟨r.hd,by have:=r.dp;rw[make_depth];omega,by have:=r.un;rw[make_units];omega⟩
theorem j15_.depth {k:Nat} {A:Around} (r:j15_ k A):A.depth<recursionLimit:=by have:=r.dp;omega
theorem j15_.units {k:Nat} {A:Around} (r:j15_ k A):A.units+64<cLine:=by have:=r.un;omega
def j14_:TA:=fun _ H Q=>Q [] H
def ua_ (ta:TE) (tr:TA):TA:=fun σ H Q=>ta σ H fun x H1=>tr σ H1 fun xs H2=>Q (x::xs) H2
section
variable {X:Cx} {e:Expr} {es:List Expr} {te:TE} {t:TA} {pos:Pos}
theorem j5_:PA X [] j14_:=fun _ _ _ _ H Q I h=>Calls.spliced_nil ⟨[],H,I, .nil,h⟩
theorem j0_ (ha:PE X e te) (hr:PA X es t) (hs:starEach (e::es) X.env=(false,eval e X.env)::starEach es X.env:=by rfl):PA X (e::es) (ua_ te t):=by
 intro pos pins s σ H Q I h
 rw[hs]
 show wpAny _ _ (spliced ((false,eval e X.env)::backTo pos (starEach es X.env))) _ _ s
 refine Calls.spliced_cons (thn (ha pins s σ H _ I h) fun u s1 ⟨x,H1,I1,r1,q1⟩=>?_)
 exact thn (hr pos pins s1 σ H1 _ I1 q1) fun us s2 ⟨xs,H2,I2,r2,q2⟩=>⟨x::xs,H2,I2, .cons r1 r2,q2⟩
def tLst (t:TA):TE:=fun σ H Q=>t σ H fun xs H1=>xs.length<=sizeLine/\ ∀p,H1 p=none->Q (.ref p) (upd H1 p (.lst xs))
theorem uu_ (h:PA X es t):PE X (.List es pos) (tLst t):=by
 intro pins s σ H Q I hq
 refine wpAny_List_spliced (thn (h pos pins s σ H _ I hq) fun us s1 ⟨xs,H1,I1,r,z,q⟩=>⟨by rw[<-r.length];exact z,?_⟩)
 have hf:H1 s1.heap.objs.size=none:=I1.hok.fresh (Nat.le_refl _)
 refine⟨.ref s1.heap.objs.size,upd H1 s1.heap.objs.size (.lst xs),I1.laid (t':=s1.toks) (fun b u e=>Heap.get?_push_of_some _ e) (Nat.le_refl _) ?_,rfl,q _ hf⟩
 exact⟨z,us,0,r,Heap.get?_push_size _ rfl⟩
end
abbrev Sp:=List V->Hp->VK->XK->Prop
abbrev CXT:=List Env->Hp->Shared->XK->Value->Shared->Prop
structure Env0 (P:Program) (w:World) (K:PySem.W.Frag) (mg:Str->Option Value) (base:Heap) (A:Around) (outer:List Env) (s:Shared) (H:Hp):Prop where
 frames:A.frames=some outer
 mod:Mod K mg base
 bs: ∀b o,base.get? b=some o->s.heap.get? b=some o/\H b=none
 bsz:base.objs.size<=s.heap.objs.size
 funs:s.heap.FunFrames base outer
 frf: ∀b∈frs outer,H b=none
 hok:HOk P w H s.heap
 bare:AllBare s.gens
def CE (outer:List Env) (P:Program) (w:World) (H:Hp) (s:Shared) (Q:VK) (u:Value) (s':Shared):Prop:=
 ∃v H',s'.os=s.os/\AllBare s'.gens/\Un (frs outer) [] H H' s.heap s'.heap/\HOk P w H' s'.heap/\vt_ v u/\Q v H'
def CR (CX:CXT) (outer:List Env) (P:Program) (w:World) (H:Hp) (s:Shared) (Q:VK) (E:XK) (r:Result) (s':Shared):Prop:=
 match r with
 | .ok (.ret u)=>CE outer P w H s Q u s'
 | .ok _=>False
 | .error e=>CX outer H s E e s'
structure ju_ (P:Program) (w:World) (K:PySem.W.Frag) (mg:Str->Option Value) (base:Heap) (CX:CXT) (k:Nat) (f:Addr) (fd:FuncData) (ps:List Str) (sp:Sp):Prop where
 len: ∀vs H Q E,sp vs H Q E->vs.length=ps.length
 run: ∀(A:Around) (outer:List Env) (s:Shared) (H:Hp) (args:Args) (us:List Value) (vs:List V) (Q:VK) (E:XK),j15_ k A->Env0 P w K mg base A outer s H->BindsTo s fd args (ps.zip us)->vx_ vs us->sp vs H Q E->
  codeAny (model P w) A (.call (.ref f) args) (CR CX outer P w H s Q E) s
theorem ju_.mono {P:Program} {w:World} {K:PySem.W.Frag} {mg:Str->Option Value} {base:Heap} {CX:CXT} {j k:Nat} {f:Addr} {fd:FuncData} {ps:List Str} {sp:Sp} (F:ju_ P w K mg base CX j f fd ps sp) (h:j<=k):
  ju_ P w K mg base CX k f fd ps sp:=⟨F.len,fun A outer s H args us vs Q E hr=>F.run A outer s H args us vs Q E (hr.mono h)⟩
theorem ju_.imp {P:Program} {w:World} {K:PySem.W.Frag} {mg:Str->Option Value} {base:Heap} {CX:CXT} {k:Nat} {f:Addr} {fd:FuncData} {ps:List Str} {sp sp':Sp} (F:ju_ P w K mg base CX k f fd ps sp)
  (h: ∀vs H Q E,sp' vs H Q E->sp vs H Q E):ju_ P w K mg base CX k f fd ps sp':=
 ⟨fun vs H Q E q=>F.len vs H Q E (h _ _ _ _ q),fun A outer s H args us vs Q E hr he hb hv hs=>F.run A outer s H args us vs Q E hr he hb hv (h _ _ _ _ hs)⟩
theorem Env0.make {P:Program} {w:World} {K:PySem.W.Frag} {mg:Str->Option Value} {base:Heap} {A:Around} {outer:List Env} {s:Shared} {H:Hp} (e:Env0 P w K mg base A outer s H) (C:Addr) (us:List Value) (kw:List (Str×Value)):
  Env0 P w K mg base (A.under (.builtin "type.__call__" ⟨.ref C::us,kw⟩)) outer s H:=⟨by first|exact e.frames|(simpa [Around.under,Code.envs,Code.isFrame,pushEnvs] using e.frames),e.mod,e.bs,e.bsz,e.funs,e.frf,e.hok,e.bare⟩
section
variable {X:Cx} {pins:List (Addr×Obj)} {σ:St} {H:Hp} {s s':Shared}
theorem Inv.env0 (I:Inv X pins σ H s):Env0 X.prog X.w X.K X.mg X.base X.A X.stack s H:=
 ⟨I.ok.frames,I.ok.mod,I.bs,Nat.le_trans I.ok.bsz I.sz,I.stack,I.stkFree,I.hok,I.bare⟩
theorem Inv.after {Q:VK} {u:Value} (I:Inv X pins σ H s) (h:CE X.stack X.prog X.w H s Q u s'):EP X pins σ Q u s':=by
 obtain⟨v,H',os,bare,un,hok,r,q⟩:=h
 obtain⟨hh,g,d,t,os'⟩:=s'
 obtain rfl:os'=s.os:=os
 exact⟨v,H',I.call (h':=hh) (g':=g) (d':=d) (t':=t) (ch:=[]) un hok bare (fun b z=>absurd z (by simp)),r,q⟩
end
def tCall (sp:Sp) (dvs:List V) (E:XK) (t:TA):TE:=fun σ H Q=>t σ H fun vs H1=>sp (vs++dvs) H1 Q E
def tMeth (C:Addr) (m:Str) (sp:Sp) (dvs:List V) (E:XK) (ta:TE) (t:TA):TE:=fun σ H Q=>ta σ H fun x H1=> ∃a dx fs,x= .ref a/\H1 a=some (.ins C dx fs)/\fs.lookup m=none/\
 t σ H1 fun vs H2=>sp (x::(vs++dvs)) H2 Q E
def tMake (C:Addr) (sp:Sp) (dvs:List V) (E:XK) (t:TA):TE:=fun σ H Q=>t σ H fun vs H1=> ∀x dx,H1 x=none->H1 dx=none->dx≠x->
 sp (.ref x::(vs++dvs)) (upd (upd H1 dx (.own x)) x (.ins C dx [])) (fun v H2=>v= .non/\Q (.ref x) H2) E
def jo_ (K:PySem.W.Frag) (fd:FuncData) (ps:List Str) (ds:List Value):Prop:=
 ∀(s:Shared) (us:List Value),K.In s.heap->(us++ds).length=ps.length->BindsTo s fd ⟨us,[]⟩ (ps.zip (us++ds))
theorem jo_.all {K:PySem.W.Frag} {fd:FuncData} {ps:List Str} (h: ∀us:List Value,us.length=ps.length->bindArgs fd ⟨us,[]⟩=pure (ps.zip us)):jo_ K fd ps []:=fun s us _ hl=>by
 rw[List.append_nil] at hl ⊢
 exact .of_eq (h us hl)
def j0h_ (CX:CXT) (X:Cx) (E:XK):Prop:= ∀(pins:List (Addr×Obj)) (σ:St) (H:Hp) (s:Shared) (e:Value) (s':Shared),Inv X pins σ H s->CX X.stack H s E e s'->X.xe e s'
section
variable {X:Cx} {CX:CXT} {k:Nat} {f C:Addr} {fd:FuncData} {ps:List Str} {sp:Sp} {dvs:List V} {ds:List Value} {E:XK} {x m:Str} {p pos apos:Pos} {e o:Expr} {es:List Expr} {ta:TE} {t:TA}
theorem run_fn {pins:List (Addr×Obj)} {σ:St} {H:Hp} {s:Shared} {Q:VK} {us:List Value} {vs:List V} (F:ju_ X.prog X.w X.K X.mg X.base CX k f fd ps sp) (hr:j15_ k X.A) (hb:jo_ X.K fd ps ds) (hd:vx_ dvs ds) (hx:j0h_ CX X E)
  (I:Inv X pins σ H s) (r:vx_ vs us) (h:sp (vs++dvs) H Q E):wpAny (model X.prog X.w) X.A (call (.ref f) us) (EP X pins σ Q) X.xe s:=by
 have r2:vx_ (vs++dvs) (us++ds):=r.append hd
 have hl:(us++ds).length=ps.length:=by rw[<-r2.length];exact F.len _ _ _ _ h
 refine wpAny_call (codeAny_mono (F.run X.A X.stack s H ⟨us,[]⟩ (us++ds) (vs++dvs) Q E hr I.env0 (hb s us I.kIn hl) r2 h) fun r s' hq=>?_)
 cases r with
 |error e=>exact hx pins σ H s e s' I hq
 |ok fl=>
  cases fl with
  |ret u=>exact I.after hq
  |next=>exact False.elim hq
  |brk=>exact False.elim hq
  |cont=>exact False.elim hq
theorem j9_ (F:ju_ X.prog X.w X.K X.mg X.base CX k f fd ps sp) (hr:j15_ k X.A) (hg:Gl X x) (hm:X.mg x=some (.ref f)) (hk:PySem.W.keepIn X.K (.ref f)=true) (hb:jo_ X.K fd ps ds) (hd:vx_ dvs ds) (hx:j0h_ CX X E)
  (ha:PA X (e::es) t) (hdb:(x == ("__debug__":Str))=false:=by decide) (he:starEach (e::es) X.env=(false,eval e X.env)::starEach es X.env:=by rfl) (hpl:(backTo pos (starEach es X.env)).any (·.1)=false:=by rfl):
  PE X (.Call (.Name x p) (e::es) [] pos) (tCall sp dvs E t):=by
 intro pins s σ H Q I h
 refine wpAny_Call_Name_kw (ld_glob I hg hm ?_ hdb)
 refine PySem.W.callWith_K (h₀:=X.base) I.ok.mod.kin hk (thn (ha pos pins s σ H _ I h) fun us s1 ⟨vs,H1,I1,r,q⟩=>⟨I1.kIn,?_⟩) he hpl
 exact run_fn F hr hb hd hx I1 r q
theorem jb_ {pl:Sem Bool} (he:PE X o ta) (c:Cls X.K C) (hm:Meth X.K C m f) (F:ju_ X.prog X.w X.K X.mg X.base CX k f fd ps sp) (hr:j15_ k X.A) (hb:jo_ X.K fd ps ds) (hd:vx_ dvs ds) (hx:j0h_ CX X E) (ha:PA X (e::es) t)
  (hst:starEach (e::es) X.env=(false,eval e X.env)::starEach es X.env:=by rfl) (hpl:(backTo pos (starEach es X.env)).any (·.1)=false:=by rfl)
  (ht:eval (.Call (.Attribute o m apos) (e::es) [] pos) X.env=(do
   let ov<-eval o X.env
   standAt apos.atName
   let (f,first)<-holding [ov] (getMethod ov m pl)
   callWith pos f first (backTo pos (starEach (e::es) X.env)) (backToKw pos (keywordEach [] X.env))):=by rfl):
  PE X (.Call (.Attribute o m apos) (e::es) [] pos) (tMeth C m sp dvs E ta t):=by
 intro pins s σ H Q I h
 refine PySem.W.methodCall_KW (pl:=pl) (thn (he pins s σ H _ I h) fun u s1 ⟨x,H1,I1,rx,a,dx,fs,ex,ea,l,q⟩=>?_) ht
 subst ex
 obtain rfl:u=Value.ref a:=rx
 refine getmeth_ok I1 ea c hm l ?_
 refine PySem.W.callWith_K (first:=[.ref a]) (h₀:=X.base) I.ok.mod.kin hm.kp (thn (ha pos pins s1 σ H1 _ I1 q) fun us s2 ⟨vs,H2,I2,r,q2⟩=>⟨I2.kIn,?_⟩) hst hpl
 exact run_fn (us:= .ref a::us) (vs:= .ref a::vs) F hr hb hd hx I2 (.cons rfl r) q2
theorem jn_ {pl:Sem Bool} (he:PE X o ta) (c:Cls X.K C) (hm:Meth X.K C m f) (F:ju_ X.prog X.w X.K X.mg X.base CX k f fd ps sp) (hr:j15_ k X.A) (hb:jo_ X.K fd ps ds) (hd:vx_ dvs ds) (hx:j0h_ CX X E)
  (ht:eval (.Call (.Attribute o m apos) [] [] pos) X.env=(do
   let ov<-eval o X.env
   standAt apos.atName
   let (f,first)<-holding [ov] (getMethod ov m pl)
   callWith pos f first (backTo pos (starEach [] X.env)) (backToKw pos (keywordEach [] X.env))):=by rfl):
  PE X (.Call (.Attribute o m apos) [] [] pos) (tMeth C m sp dvs E ta j14_):=by
 intro pins s σ H Q I h
 refine PySem.W.methodCall_KW (pl:=pl) (thn (he pins s σ H _ I h) fun u s1 ⟨x,H1,I1,rx,a,dx,fs,ex,ea,l,q⟩=>?_) ht
 subst ex
 obtain rfl:u=Value.ref a:=rx
 refine getmeth_ok I1 ea c hm l ?_
 exact PySem.W.callWith_K0 (first:=[.ref a]) I1.kIn hm.kp (run_fn (us:=[.ref a]) (vs:=[.ref a]) F hr hb hd hx I1 (.cons rfl .nil) q)
structure Mk (K:PySem.W.Frag) (C f:Addr):Prop where
 makes:PySem.W.makesIn K C=true
 init:PySem.W.findIn K (.ref C) "__init__"=some (some (.ref f))
 fn:PySem.W.isFn K (.ref f)=true
 kp:PySem.W.keepIn K (.ref C)=true
theorem run_make {pins:List (Addr×Obj)} {σ:St} {H:Hp} {s:Shared} {Q:VK} {us:List Value} {vs:List V} (M:Mk X.K C f) (F:ju_ X.prog X.w X.K X.mg X.base CX k f fd ps sp) (hr:j15_ (k+1) X.A) (hb:jo_ X.K fd ps ds) (hd:vx_ dvs ds)
  (hx:j0h_ CX X E) (I:Inv X pins σ H s) (r:vx_ vs us)
  (h: ∀x dx,H x=none->H dx=none->dx≠x->sp (.ref x::(vs++dvs)) (upd (upd H dx (.own x)) x (.ins C dx [])) (fun v H2=>v= .non/\Q (.ref x) H2) E):
  wpAny (model X.prog X.w) X.A (call (.ref C) us) (EP X pins σ Q) X.xe s:=by
 have hq:=h (s.heap.objs.size+1) s.heap.objs.size (I.hok.fresh (Nat.le_succ _)) (I.hok.fresh (Nat.le_refl _)) (Nat.ne_of_lt (Nat.lt_succ_self _))
 have I2:=Inv.made (C:=C) I
 have r2:vx_ (V.ref (s.heap.objs.size+1)::(vs++dvs)) (Value.ref (s.heap.objs.size+1)::(us++ds)):= .cons rfl (r.append hd)
 have hl:(Value.ref (s.heap.objs.size+1)::us++ds).length=ps.length:=by
  have e:=r2.length
  rw[F.len _ _ _ _ hq] at e
  exact e.symm
 refine wpAny_call (make_map (f:=f) I.kIn M.makes M.init (beq_iff_eq.mp M.fn) (codeAny_mono (F.run _ X.stack _ _ ⟨Value.ref (s.heap.objs.size+1)::us,[]⟩ (Value.ref (s.heap.objs.size+1)::(us++ds)) _ _ E (hr.make C us [])
  (I2.env0.make C us []) (hb _ (Value.ref (s.heap.objs.size+1)::us) I2.kIn hl) r2 hq) fun r s' hq'=>?_))
 cases r with
 |error e=>exact hx pins σ _ _ e s' I2 hq'
 |ok fl=>
  cases fl with
  |ret u=>
   obtain⟨v,H',I3,rv,ev,q3⟩:=I2.after hq'
   subst ev
   exact⟨rv,⟨V.ref (s.heap.objs.size+1),H',I3,rfl,q3⟩⟩
  |next=>exact False.elim hq'
  |brk=>exact False.elim hq'
  |cont=>exact False.elim hq'
theorem vf_ (M:Mk X.K C f) (F:ju_ X.prog X.w X.K X.mg X.base CX k f fd ps sp) (hr:j15_ (k+1) X.A) (hg:Gl X x) (hm:X.mg x=some (.ref C)) (hb:jo_ X.K fd ps ds) (hd:vx_ dvs ds) (hx:j0h_ CX X E)
  (ha:PA X (e::es) t) (hdb:(x == ("__debug__":Str))=false:=by decide) (he:starEach (e::es) X.env=(false,eval e X.env)::starEach es X.env:=by rfl) (hpl:(backTo pos (starEach es X.env)).any (·.1)=false:=by rfl):
  PE X (.Call (.Name x p) (e::es) [] pos) (tMake C sp dvs E t):=by
 intro pins s σ H Q I h
 refine wpAny_Call_Name_kw (ld_glob I hg hm ?_ hdb)
 refine PySem.W.callWith_K (h₀:=X.base) I.ok.mod.kin M.kp (thn (ha pos pins s σ H _ I h) fun us s1 ⟨vs,H1,I1,r,q⟩=>⟨I1.kIn,?_⟩) he hpl
 exact run_make M F hr hb hd hx I1 r q
end
structure jc_ (N P:List Str) (sc:Scope):Prop where
 kind:sc.kind= .function
 co:sc.isCoroutine=false
 gen:sc.isGenerator=false
 nd:N.Nodup
 pre:N.take P.length=P
 par: ∀x∈P,sc.names.lookup x=some .local\/sc.names.lookup x=some .cell
 nofree: ∀y∈sc.names,y.2≠ .free
theorem bindL_out {kindOf:Str->Option NameKind} {x:Str} : ∀ {binds:List (Str×Value)} {m:Str->Option Value},(∀v,(x,v)∉binds)->bindL kindOf binds m x=m x
 |[],_,_=>rfl
 | (n,v)::r,m,h=>by
  unfold bindL
  rw[bindL_out fun w hw=>h w (List.mem_cons_of_mem _ hw)]
  split
  ·have:x≠n:=by rintro rfl;exact h v List.mem_cons_self
   simp [this]
  ·rfl
theorem bindC_out {kindOf:Str->Option NameKind} {x:Str} : ∀ {binds:List (Str×Value)} {m:Str->Option Value},(∀v,(x,v)∉binds)->bindC kindOf binds m x=m x
 |[],_,_=>rfl
 | (n,v)::r,m,h=>by
  unfold bindC
  rw[bindC_out fun w hw=>h w (List.mem_cons_of_mem _ hw)]
  split
  ·rfl
  ·have:x≠n:=by rintro rfl;exact h v List.mem_cons_self
   simp [this]
theorem bindL_get {kindOf:Str->Option NameKind} {x:Str} {v:Value} : ∀ {P:List Str} {vs:List Value} {i:Nat} {m:Str->Option Value},P.Nodup->P[i]?=some x->vs[i]?=some v->kindOf x=some .local->
  bindL kindOf (P.zip vs) m x=some v
 |[],_,_,_,_,h,_,_=>by simp at h
 |_::_,[],_,_,_,_,h,_=>by simp at h
 |p::P,w::vs,0,m,nd,h1,h2,hk=>by
  simp at h1 h2;subst h1;subst h2
  show bindL kindOf ((p,w)::P.zip vs) m p=_
  unfold bindL
  rw[bindL_out fun v hv=>(List.nodup_cons.mp nd).1 (List.of_mem_zip hv).1,if_pos hk]
  simp
 |p::P,w::vs,i+1,m,nd,h1,h2,hk=>by
  show bindL kindOf ((p,w)::P.zip vs) m x=_
  unfold bindL
  exact bindL_get (i:=i) (List.nodup_cons.mp nd).2 (by simpa using h1) (by simpa using h2) hk
theorem bindC_get {kindOf:Str->Option NameKind} {x:Str} {v:Value} : ∀ {P:List Str} {vs:List Value} {i:Nat} {m:Str->Option Value},P.Nodup->P[i]?=some x->vs[i]?=some v->kindOf x≠some .local->
  bindC kindOf (P.zip vs) m x=some v
 |[],_,_,_,_,h,_,_=>by simp at h
 |_::_,[],_,_,_,_,h,_=>by simp at h
 |p::P,w::vs,0,m,nd,h1,h2,hk=>by
  simp at h1 h2;subst h1;subst h2
  show bindC kindOf ((p,w)::P.zip vs) m p=_
  unfold bindC
  rw[bindC_out fun v hv=>(List.nodup_cons.mp nd).1 (List.of_mem_zip hv).1,if_neg hk]
  simp
 |p::P,w::vs,i+1,m,nd,h1,h2,hk=>by
  show bindC kindOf ((p,w)::P.zip vs) m x=_
  unfold bindC
  exact bindC_get (i:=i) (List.nodup_cons.mp nd).2 (by simpa using h1) (by simpa using h2) hk
def start (N:List Str) (vs:List V):St:=vs.map some++List.replicate (N.length-vs.length) none
def cxOf (CX:CXT) (P:Program) (w:World) (K:PySem.W.Frag) (mg:Str->Option Value) (base:Heap) (N:List Str) (qual:Str) (scope:Scope) (f:Addr) (cd:Value) (A:Around) (outer:List Env) (s:Shared) (H:Hp) (E:XK):Cx where
 prog:=P
 w:=w
 K:=K
 mg:=mg
 base:=base
 A:=A.deeper (envOfC qual scope s.heap.objs.size f cd)
 N:=N
 s_0:=s
 H_0:=H
 env:=envOfC qual scope s.heap.objs.size f cd
 outer:=outer
 stack:=envOfC qual scope s.heap.objs.size f cd::outer
 ex:=[]
 calm:=true
 fn:=fun _=>true
 pn:=[]
 xe:=fun e s'=>wpAny (model P w) (A.deeper (envOfC qual scope s.heap.objs.size f cd)) (leaving (envOfC qual scope s.heap.objs.size f cd) e) (fun _ s''=>CX outer H s E e s'') (fun e' s''=>CX outer H s E e' s'') s'
theorem cell_has {sc:Scope} {n:Nat} {x:Str} (h:sc.names.lookup x=some .cell): ∃c,(cellsFrom n sc.names []).lookup x=some c:=by
 have q:=PySem.W.cellsFrom_some sc.names n [] (.inl h)
 exact Option.isSome_iff_exists.mp q
theorem inv_start {CX:CXT} {P:Program} {w:World} {K:PySem.W.Frag} {mg:Str->Option Value} {base:Heap} {N ps:List Str} {qual:Str} {scope:Scope} {f:Addr} {cd:Value} {A:Around} {outer:List Env} {s s1:Shared} {H:Hp} {E:XK} {us:List Value} {vs:List V}
  (S:jc_ N ps scope) (hd:A.handled=none) (e0:Env0 P w K mg base A outer s H) (hl:vs.length=ps.length) (r:vx_ vs us)
  (x:InCallC s s.heap.objs.size (bindL (envOfC qual scope s.heap.objs.size f cd).kindOf (ps.zip us) fun _=>none) (cellsFrom (s.heap.objs.size+1) scope.names []) (bindC (envOfC qual scope s.heap.objs.size f cd).kindOf (ps.zip us) fun _=>none) s1):
  Inv (cxOf CX P w K mg base N qual scope f cd A outer s H E) [] (start N vs) H s1:=by
 have hpl:ps.length<=N.length:=by have:=congrArg List.length S.pre;rw[List.length_take] at this;omega
 obtain⟨h1,tk,rfl,hk⟩:=x.done
 have noA: ∀b:Addr,b∉(cxOf CX P w K mg base N qual scope f cd A outer s H E).ex:=fun b z=>absurd (show b∈([]:List Addr) from z) (by simp)
 refine⟨⟨e0.mod,S.kind,rfl,rfl,Nat.le_refl _,fun y z c h1 h2=>?_,fun y hy=>?_,fun y c _ h=>?_,fun _=>hd,Around.frames_deeper e0.frames, .inr ⟨rfl,rfl⟩,fun b z=>absurd z (noA b),e0.bs,e0.bsz,fun b _ _=>noA b,fun b z=>absurd z (noA b),e0.funs,e0.frf⟩,
  rfl,e0.bare,Un.kept hk,⟨_,x.toInCall.ns,fun i y v h1 h2 h3=>?_⟩,fun y c h=>⟨_,x.cell y c h⟩,e0.hok.fresh (Nat.le_refl _),fun y c h=>?_,fun p hp=>absurd (show p∈([]:List (Addr×Obj)) from hp) (by simp),e0.hok.kept hk,?_⟩
 ·exact name_of_addr x.apart (PySem.mem_of_lookup h1) (PySem.mem_of_lookup h2)
 ·have hy:scope.names.lookup y=some .cell\/scope.names.lookup y=some .free:=hy
  rcases hy with hy|hy
  ·exact cell_has hy
  ·exact absurd rfl (S.nofree _ (PySem.mem_of_lookup hy))
 ·exact Nat.le_of_lt (x.above y c (PySem.mem_of_lookup h))
 ·have hi:i<vs.length:=by
   unfold start at h2
   by_cases hi:i<vs.length
   ·exact hi
   ·rw[List.getElem?_append_right (by simpa using hi)] at h2
    rw[List.getElem?_replicate] at h2
    split at h2<;>cases h2
  have ha:vs[i]?=some v:=by
   unfold start at h2
   rw[List.getElem?_append_left (by simpa using hi),List.getElem?_map] at h2
   cases e:vs[i]? with
   |none=>rw[e] at h2;cases h2
   |some a=>rw[e] at h2;cases h2;rfl
  obtain⟨u,hu,rv⟩:=r.get ha
  have hp:ps[i]?=some y:=by
   rw[<-S.pre,List.getElem?_take_of_lt (by omega)];exact h1
  have ndP:ps.Nodup:=by rw[<-S.pre];exact S.nd.sublist (List.take_sublist _ _)
  refine⟨u,rv,?_⟩
  rcases S.par y (List.mem_of_getElem? hp) with k|k
  ·exact .inl ⟨k,bindL_get ndP hp hu k⟩
  ·obtain⟨c,e⟩:=cell_has (n:=s.heap.objs.size+1) k
   refine .inr ⟨.inl k,c,e,?_⟩
   have q:=x.cell y c e
   rw[bindC_get ndP hp hu (by show scope.names.lookup y≠_;rw[k];decide)] at q
   exact q
 ·exact e0.hok.fresh (Nat.le_of_lt (x.above y c (PySem.mem_of_lookup h)))
 ·unfold start
  show _=N.length
  rw[List.length_append,List.length_map,List.length_replicate]
  omega
theorem fn_of {CX:CXT} {P:Program} {w:World} {K:PySem.W.Frag} {mg:Str->Option Value} {base:Heap} {k:Nat} {f:Addr} {name qual:Str} {params:Arguments} {body:List Stmt} {scope:Scope} {dV kV doc pm cdv ct oc:Value} {an od:Option Addr}
  {osl:Array (Option Value)} {N ps:List Str} {sp:Sp} (lk:K.lookup f=some ⟨oc,od, .func (PySem.W.fnOf name qual params body scope dV kV doc pm an cdv ct),osl⟩) (hcd:PySem.W.codeIn K cdv qual=true) (S:jc_ N ps scope)
  (len: ∀vs H Q E,sp vs H Q E->vs.length=ps.length)
  (hbody: ∀(A:Around) (outer:List Env) (s:Shared) (H:Hp) (vs:List V) (Q:VK) (E:XK),j15_ k (A.deeper (envOfC qual scope s.heap.objs.size f cdv))->sp vs H Q E->
   ∃t,PSs (cxOf CX P w K mg base N qual scope f cdv A outer s H E) body t/\t { nx:=fun _ H'=>Q .non H',rt:=Q } (start N vs) H):
  ju_ P w K mg base CX (k+1) f (PySem.W.fnOf name qual params body scope dV kV doc pm an cdv ct) ps sp:=by
 refine⟨len,fun A outer s H args us vs Q E hr e0 hb r hsp=>?_⟩
 have hl:=len _ _ _ _ hsp
 have KX:K.In s.heap:=e0.mod.kin.keeps fun b o e=>(e0.bs b o e).1
 have lim:s.heap.NoLimit:=e0.mod.nolimit.keeps fun b o e=>(e0.bs b o e).1
 have hkind: ∀y∈ps.zip us,scope.names.lookup y.1=some .local\/(scope.names.lookup y.1=some .cell/\((cellsFrom (s.heap.objs.size+1) scope.names []).lookup y.1).isSome=true):=fun⟨n,v⟩ hy=>by
  rcases S.par n (List.of_mem_zip hy).1 with q|q
  ·exact .inl q
  ·exact .inr ⟨q,PySem.W.cellsFrom_some _ _ _ (.inl q)⟩
 refine codeAny_call_function hr.depth (KX _ _ lk) rfl S.co S.gen rfl (PySem.W.codeRec_of KX hcd) (hb _ _ _ _ ?_)
 refine wpAny_newFunctionEnv_cells S.kind hkind fun env he s1 x=>?_
 subst he
 refine⟨lim.keeps x.toInCall.keep,codeAny_func ?_⟩
 obtain⟨t,ht,hq⟩:=hbody A outer s H vs Q E (hr.deeper _) hsp
 have I:Inv (cxOf CX P w K mg base N qual scope f cdv A outer s H E) [] (start N vs) H s1:=inv_start S hr.hd e0 hl r x
 refine wpAny_mono (ht [] s1 (start N vs) H _ I hq) (fun fl s' hs=>?_) fun e s' hs=>hs
 have fin: ∀ {σ':St} {H':Hp} {v:V} {u:Value},Inv (cxOf CX P w K mg base N qual scope f cdv A outer s H E) [] σ' H' s'->vt_ v u->Q v H'->CE outer P w H s Q u s':=
  fun {σ' H' v u} J rv q=>⟨v,H',J.os,J.bare,J.base,J.hok,rv,q⟩
 cases fl with
 |ret u=>
  obtain⟨v,σ',H',J,rv,q⟩:=hs
  exact fin J rv q
 |next=>
  obtain⟨σ',H',J,q⟩:=hs
  exact fin (v:=V.non) (u:=Value.none) J rfl q
 |brk=>
  obtain⟨_,_,_,q⟩:=hs
  exact False.elim q
 |cont=>
  obtain⟨_,_,_,q⟩:=hs
  exact False.elim q
end L2
namespace L2
open PySem PySem.Spec PyProof.Rows
section
variable {X:Cx} {x:Str} {p pos:Pos} {e:Expr} {es:List Expr} {t:TA} {id T:String} {r:List V->Hp->VK->Prop}
def tCB (r:List V->Hp->VK->Prop) (t:TA):TE:=fun σ H Q=>t σ H fun vs H1=>r vs H1 Q
theorem yw_ (hc:CallR X (.builtin id) r) (hg:Gl X x) (hm:X.mg x=none) (hv:bootBuiltins x=some (.builtin id)) (ha:PA X (e::es) t) (hn:x≠"__name__":=by decide) (hdb:(x == ("__debug__":Str))=false:=by decide)
  (he:starEach (e::es) X.env=(false,eval e X.env)::starEach es X.env:=by rfl) (hpl:(backTo pos (starEach es X.env)).any (·.1)=false:=by rfl):PE X (.Call (.Name x p) (e::es) [] pos) (tCB r t):=by
 intro pins s σ H Q I h
 refine wpAny_Call_Name_kw (ld_blt I hg hm hv ?_ hn hdb)
 exact PyProof.Rows.callWith_builtin1 (thn (ha pos pins s σ H _ I h) fun us s1 ⟨vs,H1,I1,r1,q1⟩=>hc pins s1 σ H1 vs us Q I1 r1 q1) he hpl
theorem j1e_ (hc:CallR X (.type T) r) (hg:Gl X x) (hm:X.mg x=none) (hv:bootBuiltins x=some (.type T)) (ha:PA X (e::es) t) (hn:x≠"__name__":=by decide) (hdb:(x == ("__debug__":Str))=false:=by decide)
  (he:starEach (e::es) X.env=(false,eval e X.env)::starEach es X.env:=by rfl) (hpl:(backTo pos (starEach es X.env)).any (·.1)=false:=by rfl):PE X (.Call (.Name x p) (e::es) [] pos) (tCB r t):=by
 intro pins s σ H Q I h
 refine wpAny_Call_Name_kw (ld_blt I hg hm hv ?_ hn hdb)
 exact PyProof.Rows.callWith_type1 (thn (ha pos pins s σ H _ I h) fun us s1 ⟨vs,H1,I1,r1,q1⟩=>hc pins s1 σ H1 vs us Q I1 r1 q1) he hpl
end
end L2
namespace HT
open PySem PyProof.Rows
section
open PySem.SeqAt
open PySem.AutoSeq1 (wpAny_loadPart')
open PySem.MeetsSeq PySem.MeetsSeq2 PySem.MeetsSeq3
end
section
variable {prog:Program} {w:World} {A:Around} {E:Value->Shared->Prop} {s:Shared}
def sIx (n d:Nat):Option Int->Nat
 |none=>d
 |some v=>if v<0 then(v+(n:Int)).toNat else min v.toNat n
theorem sIx_nat (n d k:Nat):sIx n d (some (k:Int))=min k n:=by
 show(if(k:Int)<0 then((k:Int)+(n:Int)).toNat else min (k:Int).toNat n)=min k n
 rw[if_neg (by omega),Int.toNat_natCast]
end
end HT
namespace L2
open PySem PySem.Spec PyProof.Rows
abbrev TO:=St->Hp->(Option Int->Hp->Prop)->Prop
def PO (X:Cx) (e:Option Expr) (t:TO):Prop:=
 ∀(pins:List (Addr×Obj)) (s:Shared) (σ:St) (H:Hp) (Q:Option Int->Hp->Prop),Inv X pins σ H s->t σ H Q->
  wpAny (model X.prog X.w) X.A (evalPart e X.env) (fun u s'=> ∃o H',Inv X pins σ H' s'/\IsPart u o/\Q o H') X.xe s
def tPart (t:TE):TO:=fun σ H Q=>t σ H fun x H1=> ∃i,x= .int i/\Q (some i) H1
section
variable {X:Cx} {e:Expr} {te:TE} {lo hi:Option Expr} {tl th:TO} {pos p2:Pos}
theorem po_some (h:PE X e te):PO X (some e) (tPart te):=by
 intro pins s σ H Q I hw
 rw[evalPart_some]
 refine thn (h pins s σ H _ I hw) fun u s1 ⟨x,H1,I1,r1,q1⟩=>?_
 obtain⟨i,rfl,q⟩:=q1
 obtain⟨t,rfl⟩:=r1
 exact⟨some i,H1,I1, .int i t,q⟩
def SlR (X:Cx) (r:V->Option Int->Option Int->Hp->VK->Prop):Prop:=
 ∀(pins:List (Addr×Obj)) (s:Shared) (σ:St) (H:Hp) (x:V) (v vl vu:Value) (lo hi:Option Int) (sl:Addr) (Q:VK),Inv X pins σ H s->vt_ x v->s.heap.IsSliceOf sl vl vu .none->IsPart vl lo->IsPart vu hi->r x lo hi H Q->
  ∃T id,typeLookup (.type T) "__getitem__"=pure (some (.builtin id))/\s.TypeIs v T/\wpAny (model X.prog X.w) X.A (getItem v (.ref sl)) (EP X pins σ Q) X.xe s
def tSl (r:V->Option Int->Option Int->Hp->VK->Prop) (te:TE) (tl th:TO):TE:=fun σ H Q=>te σ H fun x H1=>tl σ H1 fun l H2=>th σ H2 fun u H3=>r x l u H3 Q
theorem pe_slice {r:V->Option Int->Option Int->Hp->VK->Prop} (hr:SlR X r) (he:PE X e te) (hl:PO X lo tl) (hu:PO X hi th):PE X (.Subscript e (.Slice lo hi none p2) pos) (tSl r te tl th):=by
 intro pins s σ H Q I h
 refine Subscript_ (thn (he pins s σ H _ I h) fun v s1 ⟨x,H1,I1,r1,q1⟩=>?_)
 refine wpAny_Slice (thn (hl pins s1 σ H1 _ I1 q1) fun vl s2 ⟨l,H2,I2,pl,q2⟩=>thn (hu pins s2 σ H2 _ I2 q2) fun vu s3 ⟨u,H3,I3,pu,q3⟩=>?_)
 rw[evalPart_none]
 refine wpAny_pure ?_
 have I4:Inv X pins σ H3 { s3 with heap:=s3.heap.push { cls:= .type "slice",data:= .fields #[vl,vu, .none] } } :=I3.kept (t':=s3.toks) fun b ob q=>Heap.get?_push_of_some _ q
 obtain⟨T,id,hT,ht,hg⟩:=hr pins { s3 with heap:=s3.heap.push { cls:= .type "slice",data:= .fields #[vl,vu, .none] } } σ H3 x v vl vu l u s3.heap.objs.size Q I4 r1 (Heap.IsSliceOf.new ..) pl pu q3
 show wpAny (model X.prog X.w) X.A (subscriptTail e (.Slice lo hi none p2) v (.ref s3.heap.objs.size)) (EP X pins σ Q) X.xe { s3 with heap:=s3.heap.push { cls:= .type "slice",data:= .fields #[vl,vu, .none] } }
 exact tail_any (ops:=[.ref s3.heap.objs.size,v]) ht hT hg (by with_unfolding_all rfl)
def cutV (xs:List V) (lo hi:Option Int):List V:=(xs.drop (HT.sIx xs.length 0 lo)).take (HT.sIx xs.length xs.length hi-HT.sIx xs.length 0 lo)
theorem cutV_length (xs:List V) (lo hi:Option Int):(cutV xs lo hi).length<=xs.length:=by
 unfold cutV
 rw[List.length_take,List.length_drop]
 omega
end
end L2
namespace L2
open PySem PySem.Spec PyProof.Rows
def ixN (n:Nat) (i:Int):Option Nat:=if 0<=i then(if i<n then some i.toNat else none) else if-(n:Int)<=i then some (i+n).toNat else none
def atI {α:Type} (xs:List α) (i:Int):Option α:=(ixN xs.length i).bind fun j=>xs[j]?
theorem ixN_seq {n:Nat} {i:Int} {j:Nat} (h:ixN n i=some j):seqIndex? i n=some j/\j<n/\ -(n:Int)<=i/\i<n:=by
 unfold ixN at h
 by_cases h0:0<=i
 ·rw[if_pos h0] at h
  by_cases h1:i<n
  ·rw[if_pos h1] at h
   have e:i.toNat=j:=Option.some.inj h
   exact⟨by rw[seqIndex_of h0 h1,e],by omega,by omega,h1⟩
  ·rw[if_neg h1] at h;cases h
 ·rw[if_neg h0] at h
  by_cases h1: -(n:Int)<=i
  ·rw[if_pos h1] at h
   have e:(i+n).toNat=j:=Option.some.inj h
   exact⟨by rw[seqIndex_neg (by omega) h1,e],by omega,h1,by omega⟩
  ·rw[if_neg h1] at h;cases h
theorem atI_get {α:Type} {xs:List α} {i:Int} {v:α} (h:atI xs i=some v): ∃j,seqIndex? i xs.length=some j/\xs[j]?=some v/\j<xs.length/\ -(xs.length:Int)<=i/\i<xs.length:=by
 unfold atI at h
 cases e:ixN xs.length i with
 |none=>rw[e] at h;cases h
 |some j=>
  rw[e] at h
  obtain⟨h1,h2,h3,h4⟩:=ixN_seq e
  exact⟨j,h1,h,h2,h3,h4⟩
theorem qb_ {α:Type} {xs:List α} {j:Nat} {v:α} (h:xs[j]?=some v):atI xs (j:Int)=some v:=by
 have hj:j<xs.length:=(List.getElem?_eq_some_iff.mp h).1
 have e:ixN xs.length (j:Int)=some j:=by
  unfold ixN
  rw[if_pos (by omega),if_pos (by omega)];simp
 unfold atI;rw[e];exact h
def PlainIx (b:Expr):Prop:= ∀o i,subscripted b false o i=operate [o,i] (getItem o i)
def IxR (X:Cx) (r:R2):Prop:=
 ∀(value slice:Expr) (pins:List (Addr×Obj)) (s:Shared) (σ:St) (H:Hp) (x y:V) (v u:Value) (Q:VK),Inv X pins σ H s->vt_ x v->vt_ y u->r x y H Q->
  subscripted slice false v u=operate [v,u] (getItem v u)->wpAny (model X.prog X.w) X.A (subscriptTail value slice v u) (EP X pins σ Q) X.xe s
def MtR (X:Cx) (id:String) (r:V->List V->Hp->VK->Prop):Prop:=
 ∀(pins:List (Addr×Obj)) (s:Shared) (σ:St) (H:Hp) (x:V) (xs:List V) (v:Value) (us:List Value) (Q:VK),Inv X pins σ H s->vt_ x v->vx_ xs us->r x xs H Q->
  wpAny (model X.prog X.w) X.A (call (.builtin id) (v::us)) (EP X pins σ Q) X.xe s
section
variable {X:Cx} {a b:Expr} {ta tb:TE} {pos:Pos}
theorem wo_ {r:R2} (hr:IxR X r) (ha:PE X a ta) (hb:PE X b tb) (hs:PlainIx b):PE X (.Subscript a b pos) (tOp r ta tb):=by
 intro pins s σ H Q I h
 exact Subscript_ (binT ha hb I h fun v u s2 x y H2 I2 rx ry q=>hr a b pins s2 σ H2 x y v u Q I2 rx ry q (hs _ _))
def rIxL (K:PySem.W.Frag):R2:=fun x y H Q=> ∃p xs i v,x= .ref p/\y= .int i/\SqL K H p xs/\atI xs i=some v/\Q v H
def rIxT (K:PySem.W.Frag):R2:=fun x y H Q=> ∃p xs i v,x= .ref p/\y= .int i/\SqT K H p xs/\atI xs i=some v/\Q v H
def rIxS:R2:=fun x y H Q=> ∃z i c,x= .str z/\y= .int i/\z.length<=sizeLine/\atI z.cps.toList i=some c/\Q (.str ⟨#[c]⟩) H
theorem qa_:IxR X (rIxL X.K):=by
 intro value slice pins s σ H x y v u Q I rx ry h hs
 obtain⟨p,xs,i,z,rfl,rfl,hq,he,q⟩:=h
 cases rx
 obtain⟨t,rfl⟩:=ry
 obtain⟨its,r,pl,hz⟩:=I.list hq
 obtain⟨j,h1,h2,h3,h4,h5⟩:=atI_get he
 obtain⟨w,ew,rw'⟩:=r.get h2
 have hl:=r.length
 have hn:=line63
 have fin:EP X pins σ Q w s:=⟨z,H,I,rw',q⟩
 by_cases h0:0<=i
 ·have hj:i.toNat=j:=by
   rw[seqIndex_of h0 h5] at h1
   exact Option.some.inj h1
  exact item_listR pl.isList h0 (by omega) (by rw[hj];simpa using ew) fin hs
 ·have hj:(i+(its.toArray.size:Int)).toNat=j:=by
   rw[seqIndex_neg (by omega) h4] at h1
   rw[List.size_toArray,<-hl]
   exact Option.some.inj h1
  exact subscriptTail_builtinR (x:=w) pl.isList.typeIs slot_list_getitem.lookup
   (wpAny_getItem_list_neg (Q:=fun r s'=>r=w/\EP X pins σ Q r s') pl.isList (by omega) (by rw[List.size_toArray]<;>omega) (by omega) (by rw[hj];simpa using ew) ⟨rfl,fin⟩) hs
theorem ix_tup:IxR X (rIxT X.K):=by
 intro value slice pins s σ H x y v u Q I rx ry h hs
 obtain⟨p,xs,i,z,rfl,rfl,hq,he,q⟩:=h
 cases rx
 obtain⟨t,rfl⟩:=ry
 obtain⟨its,r,pl,hz⟩:=I.tuple hq
 obtain⟨j,h1,h2,h3,h4,h5⟩:=atI_get he
 obtain⟨w,ew,rw'⟩:=r.get h2
 have hl:=r.length
 have hn:=line63
 have fin:EP X pins σ Q w s:=⟨z,H,I,rw',q⟩
 exact subscriptTail_builtinR (x:=w) pl.typeIs slot_tuple_getitem.lookup
  (getItem_tuple (j:=j) (Q:=fun r s'=>r=w/\EP X pins σ Q r s') pl (by omega) (by omega) (by rw[List.size_toArray,<-hl];exact h1) (by simpa using ew) ⟨rfl,fin⟩) hs
theorem ix_str:IxR X rIxS:=by
 intro value slice pins s σ H x y v u Q I rx ry h hs
 obtain⟨z,i,c,rfl,rfl,hz,he,q⟩:=h
 obtain⟨t,rfl⟩:=rx
 obtain⟨t',rfl⟩:=ry
 obtain⟨j,h1,h2,h3,h4,h5⟩:=atI_get he
 have hl:z.cps.toList.length=z.length:=by simp [Str.length]
 rw[hl] at h1 h4 h5
 have hn:=line63
 exact tail_any (typeIs_str s z t) slot_str_getitem.lookup (getItem_str (c:=c) (by
  have e1:decide (i< -(2 ^ 63:Int))=false:=decide_eq_false (by omega)
  have e2:decide (i ≥ 2 ^ 63)=false:=decide_eq_false (by omega)
  rw[e1,e2,Bool.or_false]) (by rw[h1];simpa using h2) ⟨.str ⟨#[c]⟩,H,I.tok _,⟨_,rfl⟩,q⟩) hs
theorem slice_bounds (lo hi:Option Int) (n:Nat):(sliceBounds lo hi none n).1=((HT.sIx n 0 lo:Nat):Int)/\(sliceBounds lo hi none n).2.1=((HT.sIx n n hi:Nat):Int)/\(sliceBounds lo hi none n).2.2=1:=by
 refine⟨?_,?_,rfl⟩
 ·cases lo with
  |none=>simp [sliceBounds,HT.sIx]
  |some i=>
   simp only[sliceBounds,HT.sIx,Option.getD_none,show(1:Int)>0 by decide,if_true]
   by_cases h:i<0
   ·simp only[h,if_true]<;>omega
   ·simp only[h,if_false]<;>omega
 ·cases hi with
  |none=>simp [sliceBounds,HT.sIx]
  |some i=>
   simp only[sliceBounds,HT.sIx,Option.getD_none,show(1:Int)>0 by decide,if_true]
   by_cases h:i<0
   ·simp only[h,if_true]<;>omega
   ·simp only[h,if_false]<;>omega
theorem slicePick_cut (its:List Value) (lo hi:Option Int):slicePick its.toArray lo hi none=((its.drop (HT.sIx its.length 0 lo)).take (HT.sIx its.length its.length hi-HT.sIx its.length 0 lo)).toArray:=by
 obtain⟨h1,h2,h3⟩:=slice_bounds lo hi its.toArray.size
 unfold slicePick
 rw[h1,h2,h3]
 simp only[sliceRange_one,pick_run,List.size_toArray]<;>rfl
def rSlL (K:PySem.W.Frag):V->Option Int->Option Int->Hp->VK->Prop:=fun x lo hi H Q=> ∃a xs,x= .ref a/\SqL K H a xs/\ ∀p,H p=none->Q (.ref p) (upd H p (.lst (cutV xs lo hi)))
theorem sl_list:SlR X (rSlL X.K):=by
 intro pins s σ H x v vl vu lo hi sl Q I rx hs pl pu h
 obtain⟨a,xs,rfl,hx,q⟩:=h
 cases rx
 obtain⟨its,r,ht,hz⟩:=I.list hx
 have hlen:=r.length
 refine⟨"list",_,slot_list_getitem.lookup,ht.isList.typeIs,?_⟩
 refine wpAny_getItem_list_slice ht.isList hs pl pu .none (by simp) ?_ (by rw[List.size_toArray]<;>omega)
 rw[slicePick_cut,<-hlen]
 refine⟨.ref s.heap.objs.size,_,I.laid (t':=s.toks) (o:= .lst (cutV xs lo hi)) (fun b ob q=>Heap.get?_push_of_some _ q) (Nat.le_refl _) ?_,rfl,q _ (I.hok.fresh (Nat.le_refl _))⟩
 exact⟨Nat.le_trans (cutV_length xs lo hi) hz,_,0,(r.drop (HT.sIx xs.length 0 lo)).take (HT.sIx xs.length xs.length hi-HT.sIx xs.length 0 lo),Heap.get?_push_size _ rfl⟩
def flatV:V->Bool
 | .non=>true
 | .bl _=>true
 | .int _=>true
 | .str _=>true
 |_=>false
def eqV:V->V->Bool
 | .non, .non=>true
 | .bl a, .bl b=>a == b
 | .bl a, .int b=>(if a then 1 else 0) == b
 | .int a, .bl b=>a == (if b then 1 else 0)
 | .int a, .int b=>a == b
 | .str a, .str b=>a == b
 |_,_=>false
theorem eqAt_V {A:Around} {s:Shared} {y x:V} {u v:Value} (ry:vt_ y u) (rx:vt_ x v) (fy:flatV y=true) (fx:flatV x=true):SeqAt.EqAt A s u v (eqV y x):=by
 cases y with
 |non=>
  cases ry
  cases x with
  |non=>cases rx;exact SeqAt.EqAt.same _
  |bl b=>cases rx;exact SeqAt.EqAt.none_bool b
  |int b=>obtain⟨t,rfl⟩:=rx;exact SeqAt.EqAt.none_int b t
  |str b=>obtain⟨t,rfl⟩:=rx;exact SeqAt.EqAt.none_str b t
  |_=>exact absurd (show false=true from fx) Bool.false_ne_true
 |bl a=>
  cases ry
  cases x with
  |non=>cases rx;exact SeqAt.EqAt.bool_none a
  |bl b=>cases rx;exact SeqAt.EqAt.bool_bool a b
  |int b=>obtain⟨t,rfl⟩:=rx;exact SeqAt.EqAt.bool_int a b t
  |str b=>obtain⟨t,rfl⟩:=rx;exact SeqAt.EqAt.bool_str a b t
  |_=>exact absurd (show false=true from fx) Bool.false_ne_true
 |int a=>
  obtain⟨t',rfl⟩:=ry
  cases x with
  |non=>cases rx;exact SeqAt.EqAt.int_none a t'
  |bl b=>cases rx;exact SeqAt.EqAt.int_bool a t' b
  |int b=>obtain⟨t,rfl⟩:=rx;exact SeqAt.EqAt.int_int a t' b t
  |str b=>obtain⟨t,rfl⟩:=rx;exact SeqAt.EqAt.int_str a t' b t
  |_=>exact absurd (show false=true from fx) Bool.false_ne_true
 |str a=>
  obtain⟨t',rfl⟩:=ry
  cases x with
  |non=>cases rx;exact SeqAt.EqAt.str_none a t'
  |bl b=>cases rx;exact SeqAt.EqAt.str_bool a t' b
  |int b=>obtain⟨t,rfl⟩:=rx;exact SeqAt.EqAt.str_int a t' b t
  |str b=>obtain⟨t,rfl⟩:=rx;exact SeqAt.EqAt.str_str a t' b t
  |_=>exact absurd (show false=true from fx) Bool.false_ne_true
 |_=>exact absurd (show false=true from fy) Bool.false_ne_true
def eqU (x:V) (u:Value):Bool:=match u with
 | .none=>eqV .non x
 | .bool b=>eqV (.bl b) x
 | .int i _=>eqV (.int i) x
 | .str z _=>eqV (.str z) x
 |_=>false
theorem eqU_of {x y:V} {u:Value} (r:vt_ y u) (f:flatV y=true):eqU x u=eqV y x:=by
 cases y with
 |non=>cases r;rfl
 |bl b=>cases r;rfl
 |int i=>obtain⟨t,rfl⟩:=r;rfl
 |str z=>obtain⟨t,rfl⟩:=r;rfl
 |_=>exact absurd (show false=true from f) Bool.false_ne_true
theorem any_eqU {x:V} : ∀ {xs:List V} {us:List Value},vx_ xs us->xs.all flatV=true->us.any (eqU x)=xs.any fun y=>eqV y x
 |_,_, .nil,_=>rfl
 |y::xs,u::us, .cons r t,f=>by
  rw[List.all_cons,Bool.and_eq_true] at f
  rw[List.any_cons,List.any_cons,eqU_of r f.1,any_eqU t f.2]
theorem j18_ {A:Around} {s:Shared} {x:V} {v:Value} (rx:vt_ x v) (fx:flatV x=true): ∀ {xs:List V} {us:List Value},vx_ xs us->xs.all flatV=true-> ∀u∈us,SeqAt.EqAt A s u v (eqU x u)
 |_,_, .nil,_=>fun u hu=>by cases hu
 |y::xs,u::us, .cons r t,f=>fun u' hu=>by
  rw[List.all_cons,Bool.and_eq_true] at f
  rcases List.mem_cons.mp hu with rfl|hu
  ·rw[eqU_of r f.1];exact eqAt_V r rx f.1 fx
  ·exact j18_ rx fx t f.2 u' hu
def inV (x:V) (xs:List V):Bool:=xs.any fun y=>eqV y x
def rIn (K:PySem.W.Frag) (neg:Bool):R2:=fun x y H Q=> ∃p xs,y= .ref p/\(SqL K H p xs\/SqT K H p xs)/\flatV x=true/\xs.all flatV=true/\Q (.bl (if neg then !inV x xs else inV x xs)) H
theorem op_in_seq:OpR X (compareOp .In) (rIn X.K false):=by
 intro pins s σ H x y v u Q I rx ry h
 obtain⟨p,xs,rfl,hq,fx,fs,q⟩:=h
 cases ry
 rcases hq with hq|hq
 ·obtain⟨its,r,pl,hz⟩:=I.list hq
  refine SeqAt.in_listAt (eqU x) pl.isList (fun w hw=>j18_ rx fx r fs w (by simpa using hw)) ⟨.bl _,H,I,rfl,?_⟩
  rw[show its.toArray.any (eqU x)=its.any (eqU x) by simp,any_eqU r fs]
  exact q
 ·obtain⟨its,r,pl,hz⟩:=I.tuple hq
  refine SeqAt.in_tupleAt (eqU x) pl (fun w hw=>j18_ rx fx r fs w (by simpa using hw)) ⟨.bl _,H,I,rfl,?_⟩
  rw[show its.toArray.any (eqU x)=its.any (eqU x) by simp,any_eqU r fs]
  exact q
theorem op_notIn_seq:OpR X (compareOp .NotIn) (rIn X.K true):=by
 intro pins s σ H x y v u Q I rx ry h
 obtain⟨p,xs,rfl,hq,fx,fs,q⟩:=h
 cases ry
 rcases hq with hq|hq
 ·obtain⟨its,r,pl,hz⟩:=I.list hq
  refine SeqAt.notIn_listAt (eqU x) pl.isList (fun w hw=>j18_ rx fx r fs w (by simpa using hw)) ⟨.bl _,H,I,rfl,?_⟩
  rw[show its.toArray.any (eqU x)=its.any (eqU x) by simp,any_eqU r fs]
  exact q
 ·obtain⟨its,r,pl,hz⟩:=I.tuple hq
  refine SeqAt.notIn_tupleAt (eqU x) pl (fun w hw=>j18_ rx fx r fs w (by simpa using hw)) ⟨.bl _,H,I,rfl,?_⟩
  rw[show its.toArray.any (eqU x)=its.any (eqU x) by simp,any_eqU r fs]
  exact q
theorem jv_:CallR X (.builtin "len") (fun xs H Q=> ∃p ys,xs=[.ref p]/\(SqL X.K H p ys\/SqT X.K H p ys)/\Q (.int ys.length) H):=by
 intro pins s σ H xs us Q I r h
 obtain⟨p,ys,rfl,hq,q⟩:=h
 obtain⟨u,rfl,rx⟩:=vals1 r
 cases rx
 have hn:=line63
 rcases hq with hq|hq
 ·obtain⟨its,r',pl,hz⟩:=I.list hq
  have hlen:=r'.length
  exact Calls.call_len_list pl.isList (by simp only[List.size_toArray]<;>omega) ⟨.int ys.length,H,I.tok _,⟨s.toks+1,by rw[List.size_toArray,hlen]⟩,q⟩
 ·obtain⟨its,r',pl,hz⟩:=I.tuple hq
  have hlen:=r'.length
  exact len_tuple pl (by simp only[List.size_toArray]<;>omega) ⟨.int ys.length,H,I.tok _,⟨s.toks+1,by rw[List.size_toArray,hlen]⟩,q⟩
theorem wn_:CallR X (.type "tuple") (fun xs H Q=> ∃p ys,xs=[.ref p]/\((SqL X.K H p ys/\ ∀l,H l=none->Q (.ref l) (upd H l (.tup ys)))\/(SqT X.K H p ys/\Q (.ref p) H))):=by
 intro pins s σ H xs us Q I r h
 obtain⟨p,ys,rfl,h⟩:=h
 obtain⟨u,rfl,rx⟩:=vals1 r
 cases rx
 rcases h with⟨hq,q⟩|⟨hq,q⟩
 ·obtain⟨its,r',pl,hz⟩:=I.list hq
  have hlen:=r'.length
  refine call_tuple_list pl.isList (fun h' kp=>?_) (by simp only[List.size_toArray]<;>omega)
  have I1:Inv X pins σ H { s with heap:=h' } :=I.kept (t':=s.toks) kp
  have I2:Inv X pins σ (upd H h'.objs.size (.tup ys)) { s with heap:=h'.push { cls:= .type "tuple",data:= .seq its.toArray } } :=
   I1.laid (t':=s.toks) (fun b o e=>Heap.get?_push_of_some _ e) (Nat.le_refl _) (show qh_ X.prog X.w _ _ _ (.tup ys) from⟨hz,its,r',IsTup.new _ _⟩)
  exact⟨.ref h'.objs.size,_,I2,rfl,q _ (I1.hok.fresh (Nat.le_refl _))⟩
 ·obtain⟨its,r',pl,hz⟩:=I.tuple hq
  exact call_tuple_same pl ⟨.ref p,H,I,rfl,q⟩
def tyV (K:PySem.W.Frag) (T:String) (x:V) (H:Hp):Prop:=match x with
 | .str _=>T="str"
 | .int _=>T="int"
 | .ref p=>(T="list"/\ ∃xs,SqL K H p xs)\/(T="tuple"/\ ∃o,K.lookup p=some o/\o.cls= .type "tuple"/\o.dict=none)\/
   (T="dict"/\((∃kvs,H p=some (.dK kvs))\/ ∃kvs,H p=some (.dT kvs)))\/(T="set"/\ ∃S n,H p=some (.set S n))
 |_=>False
theorem tyV_is {pins:List (Addr×Obj)} {σ:St} {H:Hp} {s:Shared} {T:String} {x:V} {v:Value} (I:Inv X pins σ H s) (r:vt_ x v) (ty:tyV X.K T x H):
  s.TypeIs v T/\ ∀a,v= .ref a-> ∃ob,s.heap.get? a=some ob/\ob.dict=none:=by
 cases x with
 |str z=>
  obtain⟨t,rfl⟩:=r
  cases (show T="str" from ty)
  exact⟨typeIs_str s z t,fun _ e=>nomatch e⟩
 |int i=>
  obtain⟨t,rfl⟩:=r
  cases (show T="int" from ty)
  exact⟨typeIs_int s i t,fun _ e=>nomatch e⟩
 |ref p=>
  cases r
  rcases ty with⟨rfl,xs,hq⟩|⟨rfl,o,hk,hc,hd⟩|⟨rfl,hk⟩|⟨rfl,S,n,hk⟩
  ·obtain⟨its,_,pl,_⟩:=I.list hq
   refine⟨pl.isList.typeIs,fun a e=>?_⟩
   cases e
   obtain⟨o,n,e,c,hd,_⟩:=pl
   exact⟨o,e,hd⟩
  ·refine⟨⟨o,I.kIn p o hk,hc⟩,fun a e=>?_⟩
   cases e
   exact⟨o,I.kIn _ o hk,hd⟩
  ·have z: ∃o,s.heap.get? p=some o/\o.ExactDict:=by
    rcases hk with⟨kvs,hk⟩|⟨kvs,hk⟩
    ·obtain⟨_,_,_,_,o,_,_,e,ex,_⟩:=I.hok p _ hk
     exact⟨o,e,ex⟩
    ·obtain⟨_,_,_,_,o,_,_,e,ex,_⟩:=I.hok p _ hk
     exact⟨o,e,ex⟩
   obtain⟨o,e,ex⟩:=z
   refine⟨⟨o,e,ex.1⟩,fun a e2=>?_⟩
   cases e2
   exact⟨o,e,ex.2.1⟩
  ·obtain⟨o,_,_,_,e,ex,_⟩:=I.hok p _ hk
   refine⟨⟨o,e,ex.1⟩,fun a e2=>?_⟩
   cases e2
   exact⟨o,e,ex.2.1⟩
 |_=>exact False.elim ty
def tBM (K:PySem.W.Frag) (T:String) (r:V->List V->Hp->VK->Prop) (to:TE) (t:TA):TE:=fun σ H Q=>to σ H fun x H1=>tyV K T x H1/\t σ H1 fun xs H2=>r x xs H2 Q
variable {o e:Expr} {es:List Expr} {to:TE} {t:TA} {name:Str} {apos cpos:Pos} {T id:String} {r:V->List V->Hp->VK->Prop}
theorem pe_bm (pa:PlainAttrs T) (slot:Slot T name id) (hty:typeOf (.builtin id)=pure (.type "method_descriptor")) (hm:MtR X id r) (ho:PE X o to) (ha:PA X (e::es) t)
  (hbase:attributeBase o name X.env (eval o X.env)=eval o X.env:=by rfl)
  (hfew:((backTo cpos (starEach (e::es) X.env)).all (fun x=>!x.1)&&(backToKw cpos (keywordEach [] X.env)).all (fun x=>x.1.isSome)
   &&decide ((e::es).length+([]:List Keyword).length+(if([]:List Keyword).isEmpty then 0 else 1)<30))=true:=by rfl)
  (hline:(apos.endLine == cpos.line)=true:=by rfl) (hs:starEach (e::es) X.env=(false,eval e X.env)::starEach es X.env:=by rfl) (hplain:(backTo cpos (starEach es X.env)).any (·.1)=false:=by rfl):
  PE X (.Call (.Attribute o name apos) (e::es) [] cpos) (tBM X.K T r to t):=by
 intro pins s σ H Q I h
 refine wpAny_Call_method_late hbase hfew hline rfl (thn (ho pins s σ H _ I h) fun v s1 ⟨x,H1,I1,r1,ty,q1⟩=>?_)
 obtain⟨h1,h2⟩:=tyV_is I1 r1 ty
 refine⟨T,id,pa,slot,hty,h1,h2,?_⟩
 have hA:=ha cpos pins s1 σ H1 _ I1 q1
 rw[hs] at hA ⊢
 refine Calls.callWith_builtin (by show(false||(backTo cpos (starEach es X.env)).any (·.1))=false;rw[hplain]<;>rfl) (Calls.evalArgs_plain ?_)
 exact thn hA fun us s2 ⟨vs,H2,I2,r2,q2⟩=>hm pins s2 σ H2 x vs v us Q I2 r1 r2 q2
end
end L2
namespace L2
open PySem PySem.Spec PyProof.Rows
def MtM (X:Cx) (id:String) (r:V->List V->Hp->VK->Prop):Prop:=
 ∀(pins:List (Addr×Obj)) (s:Shared) (σ:St) (H:Hp) (x:V) (xs:List V) (v:Value) (us:List Value) (Q:VK),Inv X pins σ H s->vt_ x v->vx_ xs us->r x xs H Q->
  wpAny (model X.prog X.w) X.A (call (.builtin id) (v::us)) (EP X pins σ Q) X.xe s
theorem vx_.one: ∀ {x:V} {us:List Value},vx_ [x] us-> ∃u,us=[u]/\vt_ x u
 |_,_, .cons r .nil=>⟨_,rfl,r⟩
section
variable {X:Cx} {pins:List (Addr×Obj)} {σ:St} {H:Hp} {s:Shared} {l b:Addr} {xs ys zs:List V}
theorem Inv.lset {its its':List Value} {n:Nat} {f:Array Value->Array Value} {t':Nat} (I:Inv X pins σ H s) (hH:H l=some (.lst xs))
  (e:s.heap.get? l=some { cls:= .type "list",data:= .seq its.toArray n }) (hf:f its.toArray=its'.toArray) (hv:vx_ ys its') (hz:ys.length<=sizeLine):
  Inv X pins σ (upd H l (.lst ys)) { s with heap:=s.heap.update l (Obj.mapSeq f),toks:=t' } :=by
 have q:=PySem.IsL.update e f
 rw[hf] at q
 refine I.write (x:=l) (e:=l) (by rw[hH];exact trivial) (.inl rfl) (fun b' u hb hu=>(Heap.get?_update_other s.heap (Obj.mapSeq f) (Ne.symm hb)).trans hu) ⟨_,q⟩ ?_
 exact⟨hz,its',_,hv,q⟩
theorem Inv.lstM (I:Inv X pins σ H s) (hH:H l=some (.lst xs)):xs.length<=sizeLine/\ ∃(its:List Value) (n:Nat),vx_ xs its/\xs.length=its.length/\s.heap.get? l=some { cls:= .type "list",data:= .seq its.toArray n } :=by
 obtain⟨z,its,n,r,e⟩:=I.hok l _ hH
 exact⟨z,its,n,r,r.length,e⟩
end
section
variable {X:Cx}
def rAppend:V->List V->Hp->VK->Prop:=fun x vs H Q=> ∃l xs y,x= .ref l/\vs=[y]/\H l=some (.lst xs)/\xs.length<sizeLine/\Q .non (upd H l (.lst (xs++[y])))
theorem qc_:MtM X "list.append" rAppend:=by
 intro pins s σ H x vs v us Q I rx rv h
 obtain⟨l,xs,y,rfl,rfl,hH,hz,q⟩:=h
 cases rx
 obtain⟨u,rfl,ru⟩:=rv.one
 obtain⟨z,its,n,r,hl,e⟩:=I.lstM hH
 refine call_meets F.slot_list_append ⟨_,e,rfl⟩ F.entry_list_append (F.args_list_append_2 _ _) (PySem.list_append l its.toArray n u (by rw[List.size_toArray];omega)) ⟨e,?_⟩
 refine⟨.non,_,I.lset (its':=its++[u]) hH e (by simp) (r.append (.cons ru .nil)) ?_,rfl,q⟩
 rw[List.length_append,List.length_singleton]
 omega
end
section
variable {prog:Program} {w:World} {A:Around} {E:Value->Shared->Prop} {s:Shared}
set_option maxRecDepth 100000 in
end
end L2
namespace L2
open PySem PySem.Spec PyProof.Rows
theorem vx_.bls: ∀ {bs:List Bool} {us:List Value},vx_ (bs.map V.bl) us->us=bs.map Value.bool
 |[],us,h=>by
  rw[List.map_nil] at h
  cases h
  rfl
 |b::bs,us,h=>by
  rw[List.map_cons] at h
  cases h with
  |cons r t=>
   cases r
   rw[vx_.bls t,List.map_cons]
theorem vx_.ref1 {a:Addr} {us:List Value} (r:vx_ [V.ref a] us):us=[Value.ref a]:=by
 cases r with
 |cons r t=>
  cases t
  cases r
  rfl
theorem iter_any {prog:Program} {w:World} {A:Around} {E:Value->Shared->Prop} {s:Shared} {l:Addr} {items:Array Value} {Q:Value->Shared->Prop} (hl:s.heap.IsList l items)
  (h: ∀s₂:Shared,s₂= { s with heap:=s.heap.push { cls:= .type "list_iterator",data:= .fields #[.ref l, .int 0 0] } } ->
   (s₂.heap.IsListIter s.heap.objs.size l 0/\s₂.heap.IsList l items)->l≠s.heap.objs.size->Q (.ref s.heap.objs.size) s₂):wpAny (model prog w) A (pyIter (.ref l)) Q E s:=by
 have hlt:l<s.heap.objs.size:=by obtain⟨_,e,_⟩:=hl;exact Heap.lt_size e
 exact wpAny_pyIter_list hl (h _ rfl ⟨⟨_,Heap.get?_push_size _ rfl,rfl,rfl⟩,hl.push _⟩ (Nat.ne_of_lt hlt))
theorem truth_bools {prog:Program} {w:World} {A:Around} {bs:List Bool} {its:List Value} (e:its=bs.map Value.bool):
  TruthOf prog w A (fun i v=>its.toArray[i]?=some v) (fun i=>bs.getD i false):=fun i v s Q E hv hq=>by
 have hv':its[i]?=some v:=by simpa using hv
 rw[e,List.getElem?_map] at hv'
 obtain⟨b,hb,rfl⟩:=Option.map_eq_some_iff.mp hv'
 have hg:bs.getD i false=b:=by rw[List.getD_eq_getElem?_getD,hb]<;>rfl
 have hq':Q (bs.getD i false) s:=hq
 rw[hg] at hq'
 exact wpAny_truthy_bool hq'
theorem all_range: ∀bs:List Bool,(List.range bs.length).all (fun i=>bs.getD i false)=bs.all id
 |[]=>rfl
 |b::bs=>by
  rw[List.length_cons,List.range_succ_eq_map,List.all_cons,List.all_map,List.all_cons,<-all_range bs]
  all_goals rfl
section
variable {X:Cx}
def rAll (K:PySem.W.Frag):List V->Hp->VK->Prop:=fun vs H Q=> ∃(a:Addr) (bs:List Bool),vs=[V.ref a]/\SqL K H a (bs.map V.bl)/\Q (.bl (bs.all id)) H
theorem cr_all (hc:X.calm=true):CallR X (.builtin "all") (rAll X.K):=by
 intro pins s σ H vs us Q I r h
 obtain⟨a,bs,rfl,hs,q⟩:=h
 obtain⟨its,rv,hl,_⟩:=I.list hs
 rw[vx_.ref1 r]
 have hb:=rv.bls
 refine call_all_walk (iter_any hl.isList fun s₂ e2 st hne=>?_)
 subst e2
 refine⟨_,_,_,_,_,_,_,rfl,Walks.list (A:=X.A.in1) (I.ok.hd hc) _ a hne its.toArray,st,truth_bools hb,fun h' tk hk=>?_⟩
 refine⟨.bl _,H,I.kept fun b o eo=>hk b o (fun hmem=>?_) (Heap.get?_push_of_some _ eo),?_,q⟩
 ·rcases List.mem_cons.mp hmem with e1|hmem
  ·exact absurd (e1▸Heap.lt_size eo) (Nat.lt_irrefl _)
  ·cases hmem
 ·show Value.bool _=Value.bool _
  rw[<-all_range,hb,List.size_toArray,List.length_map]
end
end L2
namespace L2
open PySem PySem.Spec PyProof.Rows
abbrev CellAt (h:Heap) (c:Addr) (v:Option Value):Prop:=h.IsCell c v
def relS (scope sc:Scope):Scope:=
 { scope with names:=scope.names.map fun(n,k)=>if(k == .free&&sc.kind == .function&&sc.names.lookup n == some .cell) then(n, .cell) else(n,k) }
def vb_ (cells:List (Str×Addr)):List (Str×NameKind)->List (Str×Addr)->List (Str×Addr)
 |[],acc=>acc
 | (n,k)::r,acc=>if k == .free then vb_ cells r ((n,(cells.lookup n).getD 0)::acc) else vb_ cells r acc
theorem closure_loop (env:Env) (f:Str×NameKind->List (Str×Addr)->Sem (ForInStep (List (Str×Addr))))
  (hf: ∀n k c,f (n,k) c=if k == .free then(do let a<-cellOf env n;pure (.yield ((n,a)::c))) else pure (.yield c)):
  ∀(names:List (Str×NameKind)) (acc:List (Str×Addr)),(∀y∈names,y.2= .free-> ∃c,env.cells.lookup y.1=some c)->forIn names acc f=pure (vb_ env.cells names acc)
 |[],acc,_=>by rw[List.forIn_nil];rfl
 | (n,k)::r,acc,h=>by
  rw[List.forIn_cons,hf]
  have ih:=fun acc=>closure_loop env f hf r acc fun y hy=>h y (List.mem_cons_of_mem _ hy)
  unfold vb_
  by_cases hk:(k == NameKind.free)=true
  ·rw[if_pos hk,if_pos hk]
   obtain⟨c,hc⟩:=h (n,k) List.mem_cons_self (by simpa using hk)
   have e:cellOf env n=pure c:=by unfold cellOf;rw[hc]
   rw[e]
   have e2:(env.cells.lookup n).getD 0=c:=by rw[hc];rfl
   rw[e2]
   exact ih _
  ·rw[if_neg hk,if_neg hk]
   exact ih _
theorem closure_ok {scope:Scope} {env:Env} (h: ∀y∈scope.names,y.2= .free-> ∃c,env.cells.lookup y.1=some c):closureFor scope env=pure (vb_ env.cells scope.names []):=by
 simp only[closureFor]
 rw[closure_loop env _ (fun n k c=>rfl) scope.names [] h]
 rfl
theorem mem_lookup {α:Type} : ∀ {l:List (Str×α)} {n:Str} {c:α},(n,c)∈l-> ∃c',l.lookup n=some c'
 | (k,v)::r,n,c,h=>by
  rw[List.lookup_cons]
  cases hb:n == k with
  |true=>exact⟨_,rfl⟩
  |false=>
   rcases List.mem_cons.mp h with e|h
   ·cases e;simp at hb
   ·exact mem_lookup h
theorem wm_ {cells:List (Str×Addr)} : ∀ {names:List (Str×NameKind)} {acc:List (Str×Addr)} {n:Str} {c:Addr},(n,c)∈vb_ cells names acc->(n,c)∈acc\/((n, .free)∈names/\c=(cells.lookup n).getD 0)
 |[],_,_,_,h=> .inl h
 | (m,k)::r,acc,n,c,h=>by
  unfold vb_ at h
  split at h
  ·rename_i hk
   have hk:k= .free:=by simpa using hk
   rcases wm_ h with h|⟨h1,h2⟩
   ·rcases List.mem_cons.mp h with e|h
    ·cases e;exact .inr ⟨hk▸List.mem_cons_self,rfl⟩
    ·exact .inl h
   ·exact .inr ⟨List.mem_cons_of_mem _ h1,h2⟩
  ·rcases wm_ h with h|⟨h1,h2⟩
   ·exact .inl h
   ·exact .inr ⟨List.mem_cons_of_mem _ h1,h2⟩
theorem j12_ {cells:List (Str×Addr)} : ∀ {names:List (Str×NameKind)} {acc:List (Str×Addr)} {p:Str×Addr},p∈acc->p∈vb_ cells names acc
 |[],_,_,h=>h
 | (m,k)::r,acc,p,h=>by
  unfold vb_
  split
  ·exact j12_ (List.mem_cons_of_mem _ h)
  ·exact j12_ h
theorem j0z_ {cells:List (Str×Addr)} : ∀ {names:List (Str×NameKind)} {acc:List (Str×Addr)} {n:Str},(n, .free)∈names->(n,(cells.lookup n).getD 0)∈vb_ cells names acc
 | (m,k)::r,acc,n,h=>by
  unfold vb_
  rcases List.mem_cons.mp h with e|h
  ·cases e
   exact j12_ List.mem_cons_self
  ·split
   ·exact j0z_ h
   ·exact j0z_ h
theorem j0e_: ∀ {names:List (Str×NameKind)} {h:Heap} {acc:List (Str×Addr)} {x:Str} {c:Addr},(x,c)∈cellsFrom h.objs.size names acc->
  (x,c)∈acc\/((x, .cell)∈names/\h.objs.size<=c/\CellAt (pushCells h names) c none)
 |[],_,_,_,_,h=> .inl h
 | (n,k)::r,h,acc,x,c,hm=>by
  unfold cellsFrom at hm
  unfold pushCells
  split at hm
  ·rename_i hk
   rw[if_pos hk]
   have hk:k= .cell:=by simpa using hk
   rw[<-Heap.size_push h { cls:= .type "cell",data:= .cell none }] at hm
   rcases j0e_ hm with hm|⟨h1,h2,h3⟩
   ·rcases List.mem_cons.mp hm with e|hm
    ·cases e
     exact .inr ⟨hk▸List.mem_cons_self,Nat.le_refl _,_,pushCells_keeps r _ _ _ (Heap.get?_push_size _ rfl),rfl⟩
    ·exact .inl hm
   ·rw[Heap.size_push] at h2
    exact .inr ⟨List.mem_cons_of_mem _ h1,Nat.le_of_succ_le h2,h3⟩
  ·rename_i hk
   rw[if_neg hk]
   rcases j0e_ hm with hm|⟨h1,h2,h3⟩
   ·exact .inl hm
   ·exact .inr ⟨List.mem_cons_of_mem _ h1,h2,h3⟩
theorem j1f_: ∀ {names:List (Str×NameKind)} {n:Nat} {acc:List (Str×Addr)} {p:Str×Addr},p∈acc->p∈cellsFrom n names acc
 |[],_,_,_,h=>h
 | (m,k)::r,n,acc,p,h=>by
  unfold cellsFrom
  split
  ·exact j1f_ (List.mem_cons_of_mem _ h)
  ·exact j1f_ h
theorem cells_has: ∀ {names:List (Str×NameKind)} {n:Nat} {acc:List (Str×Addr)} {x:Str},(x, .cell)∈names-> ∃c,(x,c)∈cellsFrom n names acc
 | (m,k)::r,n,acc,x,h=>by
  unfold cellsFrom
  rcases List.mem_cons.mp h with e|h
  ·cases e
   exact⟨n,j1f_ List.mem_cons_self⟩
  ·split
   ·exact cells_has h
   ·exact cells_has h
theorem cells_inj: ∀ {names:List (Str×NameKind)} {h:Heap} {acc:List (Str×Addr)} {x y:Str} {c:Addr},(∀p∈acc,p.2<h.objs.size)->(∀x y c,(x,c)∈acc->(y,c)∈acc->x=y)->
  (x,c)∈cellsFrom h.objs.size names acc->(y,c)∈cellsFrom h.objs.size names acc->x=y
 |[],_,_,_,_,_,_,hi,h1,h2=>hi _ _ _ h1 h2
 | (n,k)::r,h,acc,x,y,c,hl,hi,h1,h2=>by
  unfold cellsFrom at h1 h2
  split at h1
  ·rename_i hk
   rw[if_pos hk] at h2
   rw[<-Heap.size_push h { cls:= .type "cell",data:= .cell none }] at h1 h2
   refine cells_inj (h:=h.push _) (fun p hp=>?_) (fun x y c a b=>?_) h1 h2
   ·rw[Heap.size_push]
    rcases List.mem_cons.mp hp with rfl|hp
    ·exact Nat.lt_succ_self _
    ·exact Nat.lt_succ_of_lt (hl p hp)
   ·rcases List.mem_cons.mp a with e|a<;>rcases List.mem_cons.mp b with e'|b
    ·cases e;cases e';rfl
    ·cases e;exact absurd (hl _ b) (Nat.lt_irrefl _)
    ·cases e';exact absurd (hl _ a) (Nat.lt_irrefl _)
    ·exact hi _ _ _ a b
  ·rename_i hk
   rw[if_neg hk] at h2
   exact cells_inj hl hi h1 h2
theorem newEnv_comp {M:Model} {A:Around} {E:Value->Shared->Prop} {s:Shared} {scope:Scope} {globals:Addr} {closure:List (Str×Addr)} {qual:Str} {func:Option Addr} {code:Value} {around:Env} {builtins:Addr} {Q:Env->Shared->Prop}
  (h:Q (newEnv scope s.heap.objs.size globals (cellsFrom (s.heap.objs.size+1) scope.names closure) qual func code (some around) builtins)
   { s with heap:=pushCells (s.heap.push { cls:= .type "dict",data:= .dict #[] }) scope.names }):
  wpAny M A (newFunctionEnv scope globals closure [] qual func code (some around) builtins) Q E s:=by
 simp only[newFunctionEnv,Option.isSome_some,if_true]
 refine wpAny_bind (wpAny_alloc ?_)
 refine wpAny_bind (wpAny_layCells _ (fun n k c=>rfl) scope.names closure _ _ ?_)
 rw[show({ s with heap:=s.heap.push { cls:= .type "dict",data:= .dict #[] } } :Shared).heap.objs.size=s.heap.objs.size+1 from Heap.size_push ..]
 rw[List.forIn_nil]
 exact wpAny_bind (wpAny_pure (wpAny_pure h))
theorem j13_ {sc:Scope} : ∀ {names:List (Str×NameKind)} {x:Str} {k:NameKind},
  (names.map fun(n,k)=>if(k == NameKind.free&&sc.kind == .function&&sc.names.lookup n == some .cell) then(n,NameKind.cell) else(n,k)).lookup x=some k->
  ∃k',names.lookup x=some k'/\(k=k'\/(k'= .free/\k= .cell))
 |[],_,_,h=>by simp at h
 | (n,k₀)::r,x,k,h=>by
  have ih:= @j13_ sc r x k
  have h':List.lookup x ((if(k₀ == NameKind.free&&sc.kind == .function&&sc.names.lookup n == some .cell)=true then(n,NameKind.cell) else(n,k₀))::(r.map _))=some k:=h
  cases hx:x == n with
  |true=>
   simp only[List.lookup_cons,hx]
   by_cases hc:(k₀ == NameKind.free&&sc.kind == .function&&sc.names.lookup n == some .cell)=true
   ·rw[if_pos hc] at h'
    simp only[List.lookup_cons,hx] at h'
    cases h'
    simp only[Bool.and_eq_true,beq_iff_eq] at hc
    exact⟨k₀,rfl, .inr ⟨hc.1.1,rfl⟩⟩
   ·rw[if_neg hc] at h'
    simp only[List.lookup_cons,hx] at h'
    cases h'
    exact⟨_,rfl, .inl rfl⟩
  |false=>
   simp only[List.lookup_cons,hx]
   by_cases hc:(k₀ == NameKind.free&&sc.kind == .function&&sc.names.lookup n == some .cell)=true
   ·rw[if_pos hc] at h'
    simp only[List.lookup_cons,hx] at h'
    exact ih h'
   ·rw[if_neg hc] at h'
    simp only[List.lookup_cons,hx] at h'
    exact ih h'
structure BlkOk (N:List Str) (sc scope:Scope) (own:List (Str×Nat)):Prop where
 kind:scope.kind= .function
 uniq: ∀y∈scope.names,scope.names.lookup y.1=some y.2
 ix: ∀p∈own,N[p.2]?=some p.1
 free: ∀y∈scope.names,y.2= .free->sc.names.lookup y.1=some .cell\/sc.names.lookup y.1=some .free
 own: ∀y∈scope.names,y.2= .local\/y.2= .cell->y.1∈own.map (·.1)\/y.1∉N
def wipe (σ:St):List Nat->St
 |[]=>σ
 |v::vs=>(wipe σ vs).set v none
theorem j0w_ (σ:St): ∀vs:List Nat,(wipe σ vs).length=σ.length
 |[]=>rfl
 |v::vs=>by unfold wipe;rw[List.length_set,j0w_ σ vs]
theorem wipe_some {σ:St} {i:Nat} {x:V} : ∀ {vs:List Nat},(wipe σ vs)[i]?=some (some x)->σ[i]?=some (some x)/\i∉vs
 |[],h=>⟨h,by simp⟩
 |v::vs,h=>by
  unfold wipe at h
  by_cases hi:v=i
  ·subst hi
   by_cases hv:v<(wipe σ vs).length
   ·rw[List.getElem?_set_self hv] at h;cases h
   ·rw[List.getElem?_eq_none (by simpa using hv)] at h;cases h
  ·rw[List.getElem?_set_ne hi] at h
   obtain⟨h1,h2⟩:=wipe_some h
   exact⟨h1,by simp only[List.mem_cons,not_or];exact⟨fun e=>hi e.symm,h2⟩⟩
abbrev Cx.blk (X:Cx) (s:Shared) (H:Hp) (scope:Scope) (cenv:Env) (fp:List Addr):Cx:= { X with s_0:=s,H_0:=H,env:=cenv,outer:=X.stack,ex:=fp,fn:=fun x=>scope.names.lookup x == some .cell,pn:=[],xe:=fun _ _=>False }
section
variable {X:Cx} {pins:List (Addr×Obj)} {σ:St} {H:Hp} {s:Shared}
theorem block_start {scope:Scope} {own:List (Str×Nat)} {fp:List Addr} (I:Inv X pins σ H s) (ok:BlkOk X.N X.env.scope scope own) (hN:X.N.Nodup) (hfp: ∀b∈fp,FpOk X pins H b/\b<s.heap.objs.size):
  Inv (X.blk s H scope (compEnvC scope (cellsFrom (s.heap.objs.size+1) scope.names (vb_ X.env.cells scope.names [])) s.heap.objs.size X.env) fp) [] (wipe σ (own.map (·.2))) H { s with heap:=pushCells (s.heap.push { cls:= .type "dict",data:= .dict #[] }) scope.names } :=by
 have hfree: ∀y∈scope.names,y.2= .free-> ∃c,X.env.cells.lookup y.1=some c:=fun y hy e=>by
  rcases ok.free y hy e with k|k
  ·exact I.ok.has _ (.inl k)
  ·exact I.ok.has _ (.inr k)
 generalize hcenv:compEnvC scope (cellsFrom (s.heap.objs.size+1) scope.names (vb_ X.env.cells scope.names [])) s.heap.objs.size X.env=cenv
 have kp: ∀b o,s.heap.get? b=some o->(pushCells (s.heap.push { cls:= .type "dict",data:= .dict #[] }) scope.names).get? b=some o:=fun b o e=>pushCells_keeps _ _ _ _ (Heap.get?_push_of_some _ e)
 have hL:cenv.locals=s.heap.objs.size:=by rw[<-hcenv];rfl
 have hcl:cenv.cells=cellsFrom (s.heap.objs.size+1) scope.names (vb_ X.env.cells scope.names []):=by rw[<-hcenv];rfl
 have hsc:cenv.scope=relS scope X.env.scope:=by rw[<-hcenv];rfl
 rw[<-Heap.size_push s.heap { cls:= .type "dict",data:= .dict #[] }] at hcl
 have cm: ∀ {y c},(y,c)∈vb_ X.env.cells scope.names []->X.env.cells.lookup y=some c/\c<s.heap.objs.size:=fun {y c} hm=>by
  rcases wm_ hm with hm|⟨h1,rfl⟩
  ·cases hm
  ·obtain⟨c,hc⟩:=hfree _ h1 rfl
   rw[hc]
   obtain⟨w,z⟩:=I.cell _ _ hc
   exact⟨rfl,z.lt⟩
 have mem: ∀ {y c},cenv.cells.lookup y=some c->(X.env.cells.lookup y=some c/\c<s.heap.objs.size)\/(s.heap.objs.size+1<=c/\CellAt (pushCells (s.heap.push { cls:= .type "dict",data:= .dict #[] }) scope.names) c none):=fun {y c} e=>by
  rw[hcl] at e
  rcases j0e_ (PySem.mem_of_lookup e) with hm|⟨_,h2,h3⟩
  ·exact .inl (cm hm)
  ·rw[Heap.size_push] at h2;exact .inr ⟨h2,h3⟩
 have look: ∀ {y},scope.names.lookup y=some .free-> ∃c,cenv.cells.lookup y=some c/\X.env.cells.lookup y=some c:=fun {y} hl=>by
  have hy:(y,NameKind.free)∈scope.names:=PySem.mem_of_lookup hl
  obtain⟨c',e'⟩:=mem_lookup (j1f_ (names:=scope.names) (n:=(s.heap.push { cls:= .type "dict",data:= .dict #[] }).objs.size) (j0z_ (cells:=X.env.cells) (acc:=[]) hy))
  rw[<-hcl] at e'
  refine⟨c',e',?_⟩
  rw[hcl] at e'
  rcases j0e_ (PySem.mem_of_lookup e') with hm|⟨h1,_,_⟩
  ·exact(cm hm).1
  ·have:=ok.uniq _ h1
   rw[hl] at this;cases this
 have okB:(X.blk s H scope cenv fp).Ok:=by
  refine⟨I.ok.mod,by show cenv.scope.kind=_;rw[hsc];exact ok.kind,by show cenv.globals=_;rw[<-hcenv];exact I.ok.glob,by show cenv.builtins=_;rw[<-hcenv];exact I.ok.blt,by show s.heap.objs.size<=cenv.locals;rw[hL];exact Nat.le_refl _,
   fun y z c e1 e2=>?_,fun y hy=>?_,fun y c z e=>?_,I.ok.hd,I.ok.frames, .inl rfl,fun b hb=>⟨?_,fun y c e z=>?_⟩,I.bs,Nat.le_trans I.ok.bsz I.sz,fun b o e hb=>?_,fun b hb z=>?_,I.stack,I.stkFree⟩
  ·have e1:cenv.cells.lookup y=some c:=e1
   have e2:cenv.cells.lookup z=some c:=e2
   rw[hcl] at e1 e2
   refine cells_inj (fun p hp=>?_) (fun y z c a b=>I.ok.inj y z c (cm a).1 (cm b).1) (PySem.mem_of_lookup e1) (PySem.mem_of_lookup e2)
   rw[Heap.size_push]
   exact Nat.lt_succ_of_lt (cm (y:=p.1) (c:=p.2) hp).2
  ·show∃c,cenv.cells.lookup y=some c
   have key: ∀k,cenv.kindOf y=some k->(k= .cell\/k= .free)-> ∃c,cenv.cells.lookup y=some c:=fun k hk hk'=>by
    unfold Env.kindOf at hk
    rw[hsc] at hk
    obtain⟨k',e,r⟩:=j13_ hk
    have:k'= .cell\/k'= .free:=by
     rcases r with rfl|⟨rfl,_⟩
     ·exact hk'
     ·exact .inr rfl
    rcases this with rfl|rfl
    ·obtain⟨c,hm⟩:=cells_has (n:=(s.heap.push { cls:= .type "dict",data:= .dict #[] }).objs.size) (acc:=vb_ X.env.cells scope.names []) (PySem.mem_of_lookup e)
     obtain⟨c',e'⟩:=mem_lookup hm
     exact⟨c',by rw[hcl];exact e'⟩
    ·obtain⟨c,h1,_⟩:=look e
     exact⟨c,h1⟩
   rcases hy with hy|hy
   ·exact key _ hy (.inl rfl)
   ·exact key _ hy (.inr rfl)
  ·have z:(scope.names.lookup y == some NameKind.cell)=true:=z
   have z:scope.names.lookup y=some .cell:=by simpa using z
   have e:cenv.cells.lookup y=some c:=e
   rw[hcl] at e
   rcases j0e_ (PySem.mem_of_lookup e) with hm|⟨_,h2,_⟩
   ·rcases wm_ hm with hm|⟨h1,_⟩
    ·cases hm
    ·have q:=ok.uniq _ h1
     rw[z] at q;cases q
   ·rw[Heap.size_push] at h2
    exact Nat.le_of_succ_le h2
  ·show b≠cenv.locals
   rw[hL];exact Nat.ne_of_lt (hfp b hb).2
  ·have e:cenv.cells.lookup y=some c:=e
   rcases mem e with⟨h1,_⟩|⟨h1,_⟩
   ·exact(hfp b hb).1.2.2.2.2.1 y c h1 z
   ·have h2:s.heap.objs.size+1<=b:=by rw[<-z];exact h1
    exact absurd (Nat.lt_of_lt_of_le (hfp b hb).2 (Nat.le_of_succ_le h2)) (Nat.lt_irrefl _)
  ·rcases(hfp b hb).1.2.2.2.1 with z|z
   ·exact I.ok.noex b o e z
   ·exact absurd (Nat.lt_of_lt_of_le (Heap.lt_size e) (Nat.le_trans I.ok.bsz z)) (Nat.lt_irrefl _)
  ·rcases List.mem_cons.mp (I.stkSub b z) with z|z
   ·exact(hfp b hb).1.2.1 z
   ·exact(hfp b hb).1.2.2.1 z
 refine⟨okB,rfl,I.bare,Un.kept kp,⟨fun _=>none,?_,fun i y av e1 e2 e3=>?_⟩,fun y c e=>?_,?_,fun y c e=>?_,fun p hp=>?_,I.hok.kept kp,by rw[j0w_];exact I.len⟩
 ·show Heap.Ns _ cenv.locals _
  rw[hL]
  exact Heap.Ns.keeps (Heap.Ns.new ..) fun b o e=>pushCells_keeps _ _ _ _ e
 ·obtain⟨e2,hne⟩:=wipe_some e2
  have hfr:scope.names.lookup y=some .free/\(cenv.kindOf y=some .cell\/cenv.kindOf y=some .free):=by
   have key: ∀k,cenv.scope.names.lookup y=some k->k= .local\/k= .cell\/k= .free->scope.names.lookup y=some .free/\(cenv.kindOf y=some .cell\/cenv.kindOf y=some .free):=fun k hk hk'=>by
    have hk0:=hk
    rw[hsc] at hk
    obtain⟨k',e,r⟩:=j13_ hk
    have no: ¬(k'= .local\/k'= .cell):=fun hh=>by
     rcases ok.own _ (PySem.mem_of_lookup e) hh with e'|e'
     ·obtain⟨p,hp,hpy⟩:=List.mem_map.mp e'
      have e3:=ok.ix p hp
      have:p.1=y:=hpy
      rw[this] at e3
      exact hne (List.mem_map.mpr ⟨p,hp,nodup_ix hN e3 e1⟩)
     ·exact e' (List.mem_of_getElem? e1)
    rcases r with rfl|⟨rfl,rfl⟩
    ·rcases hk' with rfl|rfl|rfl
     ·exact absurd (.inl rfl) no
     ·exact absurd (.inr rfl) no
     ·exact⟨e, .inr hk0⟩
    ·exact⟨e, .inl hk0⟩
   have e3:Vis cenv.scope y:=e3
   rcases e3 with e3|e3|e3
   ·exact key _ e3 (.inl rfl)
   ·exact key _ e3 (.inr (.inl rfl))
   ·exact key _ e3 (.inr (.inr rfl))
  obtain⟨m,hn,hl⟩:=I.loc
  have hvis:Vis X.env.scope y:=(ok.free _ (PySem.mem_of_lookup hfr.1) rfl).elim (fun k=> .inr (.inl k)) (fun k=> .inr (.inr k))
  obtain⟨w,r,q⟩:=hl i y av e1 e2 hvis
  refine⟨w,r, .inr ⟨hfr.2,?_⟩⟩
  obtain⟨c,h1,h2⟩:=look hfr.1
  rcases q with⟨k,_⟩|⟨_,c',e',z⟩
  ·have k:X.env.scope.names.lookup y=some .local:=k
   rcases ok.free _ (PySem.mem_of_lookup hfr.1) rfl with k'|k'<;>rw[show X.env.scope.names.lookup y=_ from k'] at k<;>cases k
  ·rw[h2] at e';cases e'
   exact⟨c,h1,z.keeps kp⟩
 ·have e:cenv.cells.lookup y=some c:=e
  rcases mem e with⟨h1,_⟩|⟨_,z⟩
  ·obtain⟨w,z⟩:=I.cell y c h1
   exact⟨w,z.keeps kp⟩
  ·exact⟨_,z⟩
 ·show H cenv.locals=none
  rw[hL];exact I.hok.fresh (Nat.le_refl _)
 ·have e:cenv.cells.lookup y=some c:=e
  rcases mem e with⟨h1,_⟩|⟨h1,_⟩
  ·exact I.freeC y c h1
  ·exact I.hok.fresh (Nat.le_of_succ_le h1)
 ·exact absurd (show p∈([]:List (Addr×Obj))++[] from hp) (by simp)
theorem app_ok {E:Value->Shared->Prop} {D:Addr} {xs:List V} {y:V} {v:Value} {Q:Value->Shared->Prop} (I:Inv X pins σ H s) (hD:H D=some (.lst xs)) (hz:xs.length<sizeLine) (r:vt_ y v)
  (h: ∀s',Inv X pins σ (upd H D (.lst (xs++[y]))) s'->Q .none s'):wpAny (model X.prog X.w) X.A (call (.builtin "list.append") [.ref D,v]) Q E s:=by
 obtain⟨hz',its,n,ri,e⟩:=I.hok D _ hD
 have hl:=ri.length
 refine append_at (hsz:=by rw[List.size_toArray];omega) e fun h' sb ho'=>?_
 refine h { s with heap:=h' } (I.write (t':=s.toks) (by rw[hD];trivial) (.inl rfl) (fun b u hb q=>(sb.2 b hb).trans q) ⟨_,ho'⟩ ⟨by rw[List.length_append];exact hz,its++[v],n+1,ri.append (.cons r .nil),?_⟩)
 rw[ho']
 simp
def PTs (X:Cx) (ifs:List Expr) (t:TT):Prop:=
 ∀(pins:List (Addr×Obj)) (s:Shared) (σ:St) (H:Hp) (Q:Bool->Hp->Prop),Inv X pins σ H s->t σ H Q->
  wpAny (model X.prog X.w) X.A (forIn ifs true fun c r=>if r=true then do let ok<-isTrue c X.env (eval c X.env);pure (ForInStep.yield ok) else pure (ForInStep.yield r)) (TP X pins σ Q) X.xe s
def tYes:TT:=fun _ H Q=>Q true H
theorem pts_nil:PTs X [] tYes:=fun _ _ _ H _ I h=>wpAny_tests_nil ⟨H,I,h⟩
end
theorem thnF {α:Type} {t:Sem α} {Q Q':α->Shared->Prop} {M:Model} {A:Around} {E:Value->Shared->Prop} {s:Shared} (h:wpAny M A t Q (fun _ _=>False) s) (hQ: ∀a s,Q a s->Q' a s):wpAny M A t Q' E s:=wpAny_mono h hQ fun _ _ z=>False.elim z
theorem compLoop_any {prog:Program} {w:World} {A:Around} {R:Result->Shared->Prop} {s:Shared} {elt target iter:Expr} {ifs:List Expr} {scope:Scope} {pos:Pos} {it acc:Value} {env:Env} (I:Nat->Shared->Prop)
  (turn: ∀n s,I n s->wpAny (model prog w) A (pyNext it) (fun r s₁=>match r with
   |none=>R (.ok .next) s₁
   |some v=>wpAny (model prog w) A (letOwnedTupleGo target it v) (fun _ s₁'=>wpAny (model prog w) A (assign target env v) (fun _ s₂=>
     wpAny (model prog w) A (forIn ifs true fun c r=>if r=true then do let ok<-isTrue c env (eval c env);pure (ForInStep.yield ok) else pure (ForInStep.yield r)) (fun ok s₃=>
      if ok=true then wpAny (model prog w) A (eval elt env) (fun x s₄=>
       wpAny (model prog w) A (call (.builtin "list.append") [acc,x]) (fun _ s₅=> ∃m,m<n/\I m s₅) (notedBy (model prog w) A env fun e s'=>R (.error e) s') s₄) (notedBy (model prog w) A env fun e s'=>R (.error e) s') s₃
      else∃m,m<n/\I m s₃) (notedBy (model prog w) A env fun e s'=>R (.error e) s') s₂) (notedBy (model prog w) A env fun e s'=>R (.error e) s') s₁') (notedBy (model prog w) A env fun e s'=>R (.error e) s') s₁) (notedBy (model prog w) A env fun e s'=>R (.error e) s') s)
  (n:Nat) (h:I n s):
  codeAny (model prog w) A (.compLoop (.ListComp elt [⟨target,iter,ifs,0⟩] scope pos) 0 it acc env) R s:=by
 refine codeAny_loop rfl I (fun n s hI=>?_) n h
 show wpAny _ A ((compTurn (.ListComp elt [⟨target,iter,ifs,0⟩] scope pos) 0 it acc env).onRaise (fun x=>do noteFrame x env;theTreesLotGoes x)) _ _ s
 refine wpAny_noted ?_
 rw[compTurn_list]
 refine wpAny_bind (wpAny_standAt (wpAny_bind (wpAny_mono (turn n s hI) (fun r s₁ h₁=>?_) fun _ _ h'=>h')))
 cases r with
 |none=>exact wpAny_pure h₁
 |some v=>
  refine wpAny_bind (wpAny_mono h₁ (fun _ s₁' h₁'=>?_) fun _ _ h'=>h')
  refine wpAny_bind (wpAny_mono h₁' (fun _ s₂ h₂=>wpAny_bind (wpAny_mono h₂ (fun ok s₃ h₃=>?_) fun _ _ h'=>h')) fun _ _ h'=>h')
  cases ok with
  |false=>exact wpAny_pure ⟨rfl,h₃⟩
  |true=>
   exact wpAny_bind (wpAny_bind (wpAny_mono h₃ (fun x s₄ h₄=>wpAny_bind (wpAny_mono h₄ (fun _ s₅ h₅=>wpAny_pure (wpAny_pure ⟨rfl,h₅⟩)) fun _ _ h'=>h')) fun _ _ h'=>h'))
section
variable {X:Cx}
def tLc (wi:TI) (g:TG) (tt:TT) (te:TE) (vs:List Nat):TE:=fun σ H Q=>wi σ H fun J H1=> ∀D,H1 D=none-> ∃W:Nat->Nat->Hp->Prop,(∃m,W 0 m (upd H1 D (.lst [])))/\ ∀i m H,W i m H->
 (J.stop i H/\Q (.ref D) H)\/(J.go i H/\ ∃Nx:Hp->Prop,(∀H',Nx H'-> ∃m',m'<m/\W (i+1) m' H')/\ ∀x H',J.yld i H x H'->g x (wipe σ vs) H' fun σ2 H2=>wipe σ2 vs=wipe σ vs/\tt σ2 H2 fun b H3=>
  if b=true then te σ2 H3 fun y H4=> ∃acc,H4 D=some (.lst acc)/\acc.length<sizeLine/\Nx (upd H4 D (.lst (acc++[y]))) else Nx H3)
theorem lc_core {pins:List (Addr×Obj)} {s:Shared} {σ:St} {H:Hp} {Q:VK} {elt tg iter:Expr} {ifs:List Expr} {scope:Scope} {own:List (Str×Nat)} {pos pos':Pos} {wi:TI} {g:TG} {tt:TT} {te:TE} {use:Option (Value->Sem Unit)} {Qf:Value->Shared->Prop}
  (hc:X.calm=true) (hN:X.N.Nodup) (I:Inv X pins σ H s) (hi:PI X tg iter wi) (ok:BlkOk X.N X.env.scope scope own)
  (hg: ∀(s:Shared) (H:Hp) (C:Addr) (cl:List (Str×Addr)) (fp:List Addr),PG (X.blk s H scope (compEnvC scope cl C X.env) fp) tg g) (ht: ∀(s:Shared) (H:Hp) (C:Addr) (cl:List (Str×Addr)) (fp:List Addr),PTs (X.blk s H scope (compEnvC scope cl C X.env) fp) ifs tt)
  (he: ∀(s:Shared) (H:Hp) (C:Addr) (cl:List (Str×Addr)) (fp:List Addr),PE (X.blk s H scope (compEnvC scope cl C X.env) fp) elt te) (hs: ∀x,foldedSetIterable iter X.env x=pure x)
  (h:tLc wi g tt te (own.map (·.2)) σ H Q)
  (hRR: ∀D C s' m H',Inv X pins σ H' s'->Q (.ref D) H'->s'.heap.Ns C m->FpOk X pins H' C->compPost (model X.prog X.w) X.A X.xe use Qf (.ref D) C (.ok .next) s'):
  wpAny (model X.prog X.w) X.A (comprehension (.ListComp elt [⟨tg,iter,ifs,0⟩] scope pos) scope X.env pos' (newList []) false (eval iter X.env) use) Qf X.xe s:=by
 have hfree: ∀y∈scope.names,y.2= .free-> ∃c,X.env.cells.lookup y.1=some c:=fun y hy e=>by
  rcases ok.free y hy e with k|k
  ·exact I.ok.has _ (.inl k)
  ·exact I.ok.has _ (.inr k)
 refine wpAny_comprehension_free (use:=use) rfl hs (closure_ok hfree) ok.kind (fun y hy e=>by rw[ok.uniq y hy,e])
  (thn (hi pins s σ H _ I h) fun xv s1 hx=>thn hx fun itv s2 h2=>?_)
 obtain⟨it,fp,tn,J,H2,e,I2,T,st2,f2,q⟩:=h2
 subst e
 refine wpAny_newObj_type (newEnv_comp ?_) (by show 0<=sizeLine;decide)
 generalize hD:s2.heap.objs.size=D
 have hDn:H2 D=none:=I2.hok.fresh (Nat.le_of_eq hD)
 obtain⟨W,⟨m0,w0⟩,turn⟩:=q D hDn
 generalize hs3:({ s2 with heap:=s2.heap.push { cls:= .type "list",data:= .seq ([]:List Value).toArray } } :Shared)=s3
 have I3:Inv X pins σ (upd H2 D (.lst [])) s3:=by
  rw[<-hs3]
  refine I2.laid (t':=s2.toks) (fun b o e=>Heap.get?_push_of_some _ e) (Nat.le_of_eq hD) ⟨Nat.zero_le _,[],0, .nil,?_⟩
  rw[<-hD]
  exact Heap.get?_push_size _ rfl
 have h3:s3.heap=s2.heap.push { cls:= .type "list",data:= .seq ([]:List Value).toArray } :=by rw[<-hs3]
 have sz: ∀b∈fp,b<s2.heap.objs.size:=fun b hb=>by
  obtain⟨o,e,_⟩:=T.obj _ _ st2 b hb
  exact Heap.lt_size e
 have f3: ∀b∈fp,FpOk X pins (upd H2 D (.lst [])) b/\b<s3.heap.objs.size:=fun b hb=>by
  have hlt:=sz b hb
  refine⟨⟨?_,(f2 b hb).2⟩,by rw[h3,Heap.size_push];exact Nat.lt_succ_of_lt hlt⟩
  rw[j3_ (by rw[<-hD];exact Nat.ne_of_lt hlt)]
  exact(f2 b hb).1
 have st3:tn 0 s3.heap:=T.keep _ _ _ st2 fun b _ o e=>by rw[h3];exact Heap.get?_push_of_some _ e
 have I4:=block_start I3 ok hN f3
 have pg:=hg s3 (upd H2 D (.lst [])) s3.heap.objs.size (cellsFrom (s3.heap.objs.size+1) scope.names (vb_ X.env.cells scope.names [])) fp
 have pt:=ht s3 (upd H2 D (.lst [])) s3.heap.objs.size (cellsFrom (s3.heap.objs.size+1) scope.names (vb_ X.env.cells scope.names [])) fp
 have pe:=he s3 (upd H2 D (.lst [])) s3.heap.objs.size (cellsFrom (s3.heap.objs.size+1) scope.names (vb_ X.env.cells scope.names [])) fp
 show codeAny _ _ (.compStart (.ListComp elt [⟨tg,iter,ifs,0⟩] scope pos) 0 (.ref it) (.ref D) (compEnvC scope (cellsFrom (s3.heap.objs.size+1) scope.names (vb_ X.env.cells scope.names [])) s3.heap.objs.size X.env)) (compPost (model X.prog X.w) X.A X.xe use Qf (.ref D) s3.heap.objs.size) { s3 with heap:=pushCells (s3.heap.push { cls:= .type "dict",data:= .dict #[] }) scope.names }
 have nfp: ∀b∈fp,(upd H2 D (.lst [])) b=none:=fun b hb=>(f3 b hb).1.1
 generalize hce:compEnvC scope (cellsFrom (s3.heap.objs.size+1) scope.names (vb_ X.env.cells scope.names [])) s3.heap.objs.size X.env=ce at I4 pg pt pe ⊢
 have cL:ce.locals=s3.heap.objs.size:=by subst hce;rfl
 generalize hH3:upd H2 D (.lst [])=H3 at I3 I4 pg pt pe w0 nfp f3
 generalize hs4:({ s3 with heap:=pushCells (s3.heap.push { cls:= .type "dict",data:= .dict #[] }) scope.names } :Shared)=s4 at I4 ⊢
 have st4:tn 0 s4.heap:=T.keep _ _ _ st3 fun b _ o e=>by rw[<-hs4];exact pushCells_keeps _ _ _ _ (Heap.get?_push_of_some _ e)
 have stat: ∀ {σ':St} {H':Hp} {s':Shared},Inv (X.blk s3 H3 scope ce fp) [] σ' H' s'->(∀b∈fp,H' b=none)-> ∀b∈fp,FpOk (X.blk s3 H3 scope ce fp) [] H' b:=fun {σ' H' s'} I' hn b hb=>
  ⟨hn b hb,(I'.ok.exf b hb).1,I'.ok.exfs b hb, .inl hb,fun x c e=>(I'.ok.exf b hb).2 x c e,fun p hp=>absurd (show p∈([]:List (Addr×Obj))++[] from hp) (by simp)⟩
 have loop:codeAny (model X.prog X.w) X.A (.compLoop (.ListComp elt [⟨tg,iter,ifs,0⟩] scope pos) 0 (.ref it) (.ref D) ce) (compPost (model X.prog X.w) X.A X.xe use Qf (.ref D) s3.heap.objs.size) s4:=by
  refine compLoop_any (fun n s'=> ∃i H',Inv (X.blk s3 H3 scope ce fp) [] (wipe σ (own.map (·.2))) H' s'/\tn i s'.heap/\(∀b∈fp,H' b=none)/\W i n H') ?_ m0 ⟨0,H3,I4,st4,nfp,w0⟩
  rintro n s5 ⟨i,H5,I5,st5,n5,w5⟩
  rcases turn i n H5 w5 with⟨stop,qq⟩|⟨go,Nx,hNx,step⟩
  ·have td:=T.done (X.blk s3 H3 scope ce fp) rfl rfl rfl hc i [] s5 _ H5 (fun _ _=>False) I5 (stat I5 n5) st5 stop
   refine thnF td fun r s6 ⟨hr,I6⟩=>?_
   subst hr
   have I7:Inv X pins σ H5 s6:=I3.call' (ch:=fp) I6.os I6.base I6.hok I6.bare fun b hb=>⟨(f3 b hb).1.2.2.2.1,(f3 b hb).1.2.1,(f3 b hb).1.2.2.2.2.1,(f3 b hb).1.2.2.2.2.2⟩
   have nC:H5 s3.heap.objs.size=none:=by
    have z:H5 ce.locals=none:=I6.free
    rw[cL] at z
    exact z
   obtain⟨m,hn,_⟩:=I6.loc
   have hn:s6.heap.Ns ce.locals m:=hn
   rw[cL] at hn
   exact hRR D s3.heap.objs.size s6 m H5 I7 qq hn (I3.fpOk (Nat.le_refl _) nC)
  ·have ti:=T.item (X.blk s3 H3 scope ce fp) rfl rfl rfl hc i [] s5 _ H5 (fun _ _=>False) I5 (stat I5 n5) st5 go
   refine thnF ti fun r s6 ⟨u,hr,h6⟩=>?_
   subst hr
   refine thnF h6 fun _ s7 ⟨x,H7,I7,r7,y7,st7,n7⟩=>?_
   have I7':=I7.pinned (stat I7 n7) (T.obj _ _ st7)
   refine thnF (pg _ s7 _ H7 x u _ I7' r7 (step x H7 y7)) fun _ s8 ⟨σ8,H8,I8,hw8,q8⟩=>?_
   refine thnF (pt _ s8 σ8 H8 _ I8 q8) fun b s9 ⟨H9,I9,q9⟩=>?_
   have fin: ∀ {s':Shared} {H':Hp},Inv (X.blk s3 H3 scope ce fp) ([]++pinsAt fp s7.heap) σ8 H' s'->Nx H'-> ∃m,m<n/\ ∃i H',Inv (X.blk s3 H3 scope ce fp) [] (wipe σ (own.map (·.2))) H' s'/\tn i s'.heap/\(∀b∈fp,H' b=none)/\W i m H':=fun {s' H'} I' nx=>by
    obtain⟨m',hm,w'⟩:=hNx H' nx
    have pin': ∀b∈fp,∀o,s7.heap.get? b=some o->s'.heap.get? b=some o/\H' b=none:=fun b hb o e=>
     let z:=I'.pin (b,o) (List.mem_append_right _ (List.mem_append_right _ (mem_pinsAt hb e)))
     ⟨z.1,z.2.1⟩
    have hl:(wipe σ (own.map (·.2))).length=σ8.length:=by rw[<-hw8,j0w_]
    refine⟨m',hm,i+1,H',(I'.unpinned (pins:=[])).weak hl (fun j v e=>?_),T.keep _ _ _ st7 fun b hb o e=>(pin' b hb o e).1,fun b hb=>?_,w'⟩
    ·rw[<-hw8] at e
     exact(wipe_some e).1
    ·obtain⟨o,e,_⟩:=T.obj _ _ st7 b hb
     exact(pin' b hb o e).2
   cases b with
   |false=>
    simp only[Bool.false_eq_true,if_false] at q9 ⊢
    exact fin I9 q9
   |true=>
    simp only[if_true] at q9 ⊢
    refine thnF (pe _ s9 σ8 H9 _ I9 q9) fun z s10 ⟨yv,H10,I10,r10,acc,hD10,hz10,nx⟩=>?_
    exact app_ok (X:=X.blk s3 H3 scope ce fp) I10 hD10 hz10 r10 fun s11 I11=>fin I11 nx
 exact codeAny_compStart_list loop (T.self X.A 0 _ _ _ st4 loop)
theorem pe_lc {elt tg iter:Expr} {ifs:List Expr} {scope:Scope} {own:List (Str×Nat)} {pos:Pos} {wi:TI} {g:TG} {tt:TT} {te:TE} (hc:X.calm=true) (hN:X.N.Nodup) (hi:PI X tg iter wi) (ok:BlkOk X.N X.env.scope scope own)
  (hg: ∀(s:Shared) (H:Hp) (C:Addr) (cl:List (Str×Addr)) (fp:List Addr),PG (X.blk s H scope (compEnvC scope cl C X.env) fp) tg g) (ht: ∀(s:Shared) (H:Hp) (C:Addr) (cl:List (Str×Addr)) (fp:List Addr),PTs (X.blk s H scope (compEnvC scope cl C X.env) fp) ifs tt)
  (he: ∀(s:Shared) (H:Hp) (C:Addr) (cl:List (Str×Addr)) (fp:List Addr),PE (X.blk s H scope (compEnvC scope cl C X.env) fp) elt te) (hs: ∀x,foldedSetIterable iter X.env x=pure x:=by intro _;rfl):
  PE X (.ListComp elt [⟨tg,iter,ifs,0⟩] scope pos) (tLc wi g tt te (own.map (·.2))):=by
 intro pins s σ H Q I h
 rw[eval_ListComp]
 refine lc_core hc hN I hi ok hg ht he hs h fun D C s' m H' I' q hn f=>⟨m,hn,fun h'' sb=>?_⟩
 obtain⟨f0,f1,f2,f3,f4,f5⟩:=f
 exact⟨.ref D,H',I'.turned (t':=s'.toks) (fun b o hb e=>(sb.2 b hb).trans e) f0 f1 f3 f4 f5,rfl,q⟩
end
theorem lc_list {K:PySem.W.Frag} {a:Addr} {xs:List V} {g:TG} {tt:TT} {te:TE} {vs:List Nat} {σ:St} {H1:Hp} {D:Addr} {Qd:Hp->Prop} (Pv:Nat->Hp->Prop) (h0:Pv 0 (upd H1 D (.lst []))) (hl: ∀i H,i<=xs.length->Pv i H->SqL K H a xs)
  (hs: ∀i x H,xs[i]?=some x->Pv i H->g x (wipe σ vs) H fun σ2 H2=>wipe σ2 vs=wipe σ vs/\tt σ2 H2 fun b H3=>
   if b=true then te σ2 H3 fun y H4=> ∃acc,H4 D=some (.lst acc)/\acc.length<sizeLine/\Pv (i+1) (upd H4 D (.lst (acc++[y]))) else Pv (i+1) H3) (hd: ∀H,Pv xs.length H->Qd H):
  ∃W:Nat->Nat->Hp->Prop,(∃m,W 0 m (upd H1 D (.lst [])))/\ ∀i m H,W i m H->
   ((Itl K a).stop i H/\Qd H)\/((Itl K a).go i H/\ ∃Nx:Hp->Prop,(∀H',Nx H'-> ∃m',m'<m/\W (i+1) m' H')/\ ∀x H',(Itl K a).yld i H x H'->g x (wipe σ vs) H' fun σ2 H2=>wipe σ2 vs=wipe σ vs/\tt σ2 H2 fun b H3=>
    if b=true then te σ2 H3 fun y H4=> ∃acc,H4 D=some (.lst acc)/\acc.length<sizeLine/\Nx (upd H4 D (.lst (acc++[y]))) else Nx H3):=by
 refine⟨fun i m H=>m=xs.length-i/\i<=xs.length/\Pv i H,⟨xs.length,by simp,Nat.zero_le _,h0⟩,?_⟩
 rintro i m H ⟨rfl,hi,p⟩
 have q:=hl i H hi p
 by_cases hlt:i<xs.length
 ·refine .inr ⟨⟨xs,xs[i],q,by simp [hlt]⟩,Pv (i+1),fun H' p'=>⟨xs.length-(i+1),by omega,rfl,hlt,p'⟩,fun x H' y=>?_⟩
  obtain⟨e,y⟩:=y
  subst e
  exact hs i x _ (y xs q) p
 ·have e:i=xs.length:=by omega
  subst e
  exact .inl ⟨⟨xs,q,Nat.le_refl _⟩,hd H p⟩
def blkC (N:List Str) (sc scope:Scope) (own:List (Str×Nat)):Bool:=
 (match scope.kind with| .function=>true|_=>false)&&(scope.names.all fun y=>decide (scope.names.lookup y.1=some y.2))&&(own.all fun p=>decide (N[p.2]?=some p.1))&&
  (scope.names.all fun y=>match y.2 with
   | .free=>(match sc.names.lookup y.1 with|some .cell=>true|some .free=>true|_=>false)
   | .local=>decide (y.1∈own.map (·.1))||decide (y.1∉N)
   | .cell=>decide (y.1∈own.map (·.1))||decide (y.1∉N)
   |_=>true)
theorem blkOk_by {N:List Str} {sc scope:Scope} {own:List (Str×Nat)} (h:blkC N sc scope own=true):BlkOk N sc scope own:=by
 unfold blkC at h
 simp only[Bool.and_eq_true,List.all_eq_true,decide_eq_true_eq] at h
 obtain⟨⟨⟨h1,h2⟩,h3⟩,h4⟩:=h
 refine⟨?_,h2,h3,fun y hy e=>?_,fun y hy e=>?_⟩
 ·split at h1
  ·assumption
  ·cases h1
 ·have q:=h4 y hy
  simp only[e] at q
  split at q<;>first|exact .inl (by assumption)|exact .inr (by assumption)|cases q
 ·have q:=h4 y hy
  rcases e with e|e<;>(simp only[e,Bool.or_eq_true,decide_eq_true_eq] at q;exact q)
end L2
namespace L2
open PySem PySem.Spec PyProof.Rows
end L2
namespace L2
open PySem PySem.Spec PyProof.Rows
section
variable {κ:Type} [DecidableEq κ]
def uo_ (kvs:List (κ×V)) (k:κ):Option V:=(kvs.find? fun kv=>decide (kv.1=k)).map (·.2)
def j0l_ (kvs:List (κ×V)) (k:κ) (v:V):List (κ×V):=
 if(kvs.any fun kv=>decide (kv.1=k))=true then kvs.map (fun kv=>if kv.1=k then(kv.1,v) else kv) else kvs++[(k,v)]
def wt_ (kvs:List (κ×V)) (k:κ):List (κ×V):=kvs.filter fun kv=>decide (kv.1≠k)
theorem vj_ {p:κ×V} {r:List (κ×V)} {k:κ} (e:p.1=k):uo_ (p::r) k=some p.2:=by simp [uo_,List.find?_cons,e]
theorem ve_ {p:κ×V} {r:List (κ×V)} {k:κ} (e: ¬p.1=k):uo_ (p::r) k=uo_ r k:=by simp [uo_,List.find?_cons,e]
theorem valV_any (k:κ): ∀kvs:List (κ×V),(kvs.any fun kv=>decide (kv.1=k))=(uo_ kvs k).isSome
 |[]=>rfl
 |p::r=>by
  rw[List.any_cons]
  by_cases e:p.1=k
  ·simp only[vj_ e,decide_eq_true e,Bool.true_or,Option.isSome_some]
  ·rw[ve_ e,decide_eq_false e,Bool.false_or];exact valV_any k r
theorem valV_map (k j:κ) (y:V): ∀kvs:List (κ×V),uo_ (kvs.map fun kv=>if kv.1=k then(kv.1,y) else kv) j=(uo_ kvs j).map fun x=>if j=k then y else x
 |[]=>rfl
 |p::r=>by
  have ih:=valV_map k j y r
  rw[List.map_cons]
  by_cases h:p.1=k
  ·rw[if_pos h]
   by_cases e:p.1=j
   ·rw[vj_ (p:=(p.1,y)) e,vj_ e,Option.map_some,if_pos (e.symm.trans h)]
   ·rw[ve_ (p:=(p.1,y)) e,ve_ e,ih]
  ·rw[if_neg h]
   by_cases e:p.1=j
   ·rw[vj_ (p:=p) e,vj_ e,Option.map_some,if_neg (fun z=>h (e.trans z))]
   ·rw[ve_ (p:=p) e,ve_ e,ih]
theorem valV_snoc (k j:κ) (y:V): ∀kvs:List (κ×V),uo_ kvs k=none->uo_ (kvs++[(k,y)]) j=if j=k then some y else uo_ kvs j
 |[],_=>by
  by_cases e:k=j
  ·rw[if_pos e.symm];exact vj_ (p:=(k,y)) e
  ·rw[if_neg (fun z=>e z.symm)];exact ve_ (p:=(k,y)) e
 |p::r,hn=>by
  rw[List.cons_append]
  have hk: ¬p.1=k:=fun z=>by rw[vj_ z] at hn;cases hn
  rw[ve_ hk] at hn
  have ih:=valV_snoc k j y r hn
  by_cases e:p.1=j
  ·rw[vj_ e,vj_ e,if_neg (fun z=>hk (e.trans z))]
  ·rw[ve_ e,ve_ e,ih]
theorem valV_put (kvs:List (κ×V)) (k j:κ) (y:V):uo_ (j0l_ kvs k y) j=if j=k then some y else uo_ kvs j:=by
 unfold j0l_
 by_cases a:(kvs.any fun kv=>decide (kv.1=k))=true
 ·rw[if_pos a,valV_map]
  rw[valV_any] at a
  by_cases e:j=k
  ·obtain⟨x,hx⟩:=Option.isSome_iff_exists.mp a
   rw[if_pos e,e,hx,Option.map_some,if_pos rfl]
  ·rw[if_neg e]
   cases uo_ kvs j with
   |none=>rfl
   |some x=>rw[Option.map_some,if_neg e]
 ·rw[if_neg a]
  refine valV_snoc k j y kvs ?_
  rw[valV_any] at a
  cases q:uo_ kvs k with
  |none=>rfl
  |some x=>rw[q] at a;exact(a rfl).elim
theorem ug_ (kvs:List (κ×V)) (k:κ) (v:V):(j0l_ kvs k v).length<=kvs.length+1:=by
 unfold j0l_
 split
 ·rw[List.length_map];omega
 ·rw[List.length_append,List.length_cons,List.length_nil];omega
theorem RelO.isSome_eq {o:Option V} {u:Option Value} (r:RelO o u):o.isSome=u.isSome:=by
 cases o with
 |none=>cases u with
  |none=>rfl
  |some _=>exact(show False from r).elim
 |some _=>cases u with
  |none=>exact(show False from r).elim
  |some _=>rfl
theorem KV.val {kvs:List (κ×V)} {vs:List (κ×Value)} (r:KV kvs vs) (k:κ):RelO (uo_ kvs k) (valueAt vs k):=by
 unfold KV at r
 induction r with
 |nil=>exact True.intro
 | @cons p q ps qs h t ih=>
  obtain⟨h1,h2⟩:=h
  by_cases e:p.1=k
  ·have e':q.1=k:=h1.symm.trans e
   have b:valueAt (q::qs) k=some q.2:=by simp [valueAt,List.find?_cons,e']
   rw[vj_ e,b];exact h2
  ·have e': ¬q.1=k:=fun z=>e (h1.trans z)
   have b:valueAt (q::qs) k=valueAt qs k:=by simp [valueAt,List.find?_cons,e']
   rw[ve_ e,b];exact ih
theorem KV.any {kvs:List (κ×V)} {vs:List (κ×Value)} (r:KV kvs vs) (k:κ):(kvs.any fun kv=>decide (kv.1=k))=vs.any fun kv=>decide (kv.1=k):=by
 unfold KV at r
 induction r with
 |nil=>rfl
 |cons h t ih=>rw[List.any_cons,List.any_cons,ih,h.1]
theorem KV.repl {kvs:List (κ×V)} {vs:List (κ×Value)} (r:KV kvs vs) (k:κ) {y:V} {u:Value} (ry:vt_ y u):
  KV (kvs.map fun kv=>if kv.1=k then(kv.1,y) else kv) (vs.map fun kv=>if kv.1=k then(kv.1,u) else kv):=by
 unfold KV at r ⊢
 induction r with
 |nil=>exact .nil
 | @cons p q ps qs h t ih=>
  rw[List.map_cons,List.map_cons]
  refine .cons ?_ ih
  obtain⟨h1,h2⟩:=h
  by_cases e:p.1=k
  ·rw[if_pos e,if_pos (h1.symm.trans e)];exact⟨h1,ry⟩
  ·rw[if_neg e,if_neg (fun z=>e (h1.trans z))];exact⟨h1,h2⟩
theorem KV.put {kvs:List (κ×V)} {vs:List (κ×Value)} (r:KV kvs vs) (k:κ) {y:V} {u:Value} (ry:vt_ y u):KV (j0l_ kvs k y) (stored vs k u):=by
 unfold j0l_ stored
 rw[r.any k]
 by_cases e:(vs.any fun kv=>decide (kv.1=k))=true
 ·rw[if_pos e,if_pos e];exact r.repl k ry
 ·rw[if_neg e,if_neg e];exact Paired.snoc r ⟨rfl,ry⟩
theorem KV.drop {kvs:List (κ×V)} {vs:List (κ×Value)} (r:KV kvs vs) (k:κ):KV (wt_ kvs k) (without vs k):=by
 unfold KV at r ⊢
 unfold wt_ without
 induction r with
 |nil=>exact .nil
 | @cons p q ps qs h t ih=>
  obtain⟨h1,h2⟩:=h
  rw[List.filter_cons,List.filter_cons]
  by_cases e:p.1=k
  ·have a: ¬decide (p.1≠k)=true:=by simp [e]
   have b: ¬decide (q.1≠k)=true:=by simp [h1.symm.trans e]
   rw[if_neg a,if_neg b];exact ih
  ·have e': ¬q.1=k:=fun z=>e (h1.trans z)
   have a:decide (p.1≠k)=true:=by simp [e]
   have b:decide (q.1≠k)=true:=by simp [e']
   rw[if_pos a,if_pos b];exact .cons ⟨h1,h2⟩ ih
theorem KV.length {kvs:List (κ×V)} {vs:List (κ×Value)} (r:KV kvs vs):kvs.length=vs.length:=Paired.length r
theorem dropK_le (kvs:List (κ×V)) (k:κ):(wt_ kvs k).length<=kvs.length:=List.length_filter_le _ _
end
theorem kV_is {P:Program} {w:World} {k:Key} {u:Value} (r:vt_ (kV k) u):(ym_ P w).is k u=true:=by
 cases k with
 |inl i=>obtain⟨t,e⟩:=(show∃t,u=Value.int i t from r);subst e;exact mixKind_int P w i t
 |inr x=>obtain⟨t,e⟩:=(show∃t,u=Value.str x t from r);subst e;exact mixKind_str P w x t
theorem items_are {P:Program} {w:World} : ∀ {ks:List Key} {us:List Value},vx_ (ks.map kV) us->ItemsAre (ym_ P w) ks us
 |[],_,r=>by rw[List.map_nil] at r;cases r;exact .nil
 |k::ks,_,r=>by
  rw[List.map_cons] at r
  cases r with
  |cons h t=>exact .cons (kV_is h) (items_are t)
abbrev KT (H:Hp):List (List Key×V)->List (List Key×Addr×Value)->Prop:=Paired fun p q=>p.1=q.1/\H q.2.1=some (.tup (p.1.map kV))/\vt_ p.2 q.2.2
theorem KT.val {H:Hp} {kvs:List (List Key×V)} {xs:List (List Key×Addr×Value)} (r:KT H kvs xs) (k:List Key):RelO (uo_ kvs k) ((atKey xs k).map (·.2)):=by
 induction r with
 |nil=>exact True.intro
 | @cons p q ps qs h t ih=>
  obtain⟨h1,_,h2⟩:=h
  by_cases e:p.1=k
  ·have e':q.1=k:=h1.symm.trans e
   have b:atKey (q::qs) k=some q.2:=by simp [atKey,List.find?_cons,e']
   rw[vj_ e,b];exact h2
  ·have e': ¬q.1=k:=fun z=>e (h1.trans z)
   have b:atKey (q::qs) k=atKey qs k:=by simp [atKey,List.find?_cons,e']
   rw[ve_ e,b];exact ih
theorem KT.repl {H:Hp} {kvs:List (List Key×V)} {xs:List (List Key×Addr×Value)} (r:KT H kvs xs) (k:List Key) {y:V} {u:Value} (ry:vt_ y u):
  KT H (kvs.map fun kv=>if kv.1=k then(kv.1,y) else kv) (xs.map (putAt k u)):=by
 induction r with
 |nil=>exact .nil
 | @cons p q ps qs h t ih=>
  rw[List.map_cons,List.map_cons]
  refine .cons ?_ ih
  obtain⟨h1,h2,h3⟩:=h
  unfold putAt
  by_cases e:p.1=k
  ·rw[if_pos e,if_pos (h1.symm.trans e)];exact⟨h1,h2,ry⟩
  ·rw[if_neg e,if_neg (fun z=>e (h1.trans z))];exact⟨h1,h2,h3⟩
theorem KT.put {H:Hp} {kvs:List (List Key×V)} {xs:List (List Key×Addr×Value)} (r:KT H kvs xs) (k:List Key) {b:Addr} {y:V} {u:Value} (hb:H b=some (.tup (k.map kV))) (ry:vt_ y u):
  KT H (j0l_ kvs k y) (storedH xs k b u):=by
 have e:(kvs.any fun kv=>decide (kv.1=k))=(atKey xs k).isSome:=by
  rw[valV_any,(r.val k).isSome_eq,Option.isSome_map]
 unfold j0l_ storedH
 rw[e]
 by_cases q:(atKey xs k).isSome=true
 ·rw[if_pos q,if_pos q];exact r.repl k ry
 ·rw[if_neg q,if_neg q];exact Paired.snoc r ⟨rfl,hb,ry⟩
theorem KT.keeps {H H':Hp} {kvs:List (List Key×V)} {xs:List (List Key×Addr×Value)} (r:KT H kvs xs) (ht: ∀b ys,H b=some (.tup ys)->H' b=some (.tup ys)):KT H' kvs xs:=
 Paired.mapP r fun _ _ z=>⟨z.1,ht _ _ z.2.1,z.2.2⟩
section
variable {P:Program} {w:World} {H:Hp} {h:Heap} {a:Addr}
theorem rd_of {u:HO} (ok:HOk P w H h) (e:Rd H a u):qh_ P w H h a u:=e.ok ok
theorem dk_rd {kvs:List (Key×V)} (ok:HOk P w H h) (e:Rd H a (.dK kvs)):kvs.length<=sizeLine/\(a == sysModules)=false/\ ∃vs,KV kvs vs/\h.DictOf (ym_ P w) a vs:=
 show qh_ P w H h a (.dK kvs) from rd_of ok e
theorem dk_of {kvs:List (Key×V)} (ok:HOk P w H h) (e:H a=some (.dK kvs)):kvs.length<=sizeLine/\(a == sysModules)=false/\ ∃vs,KV kvs vs/\h.DictOf (ym_ P w) a vs:=dk_rd ok (.inl e)
theorem key_of {ks:List Key} (ok:HOk P w H h) (e:H a=some (.tup (ks.map kV))):(tupleKind (ym_ P w)).is h ks a:=by
 obtain⟨_,its,r,o,h1,h2,n,h3⟩:=(show qh_ P w H h a (.tup (ks.map kV)) from ok a _ e)
 exact⟨o,its.toArray,n,h1,h2,h3,by simpa using items_are r⟩
theorem dt_rd {kvs:List (List Key×V)} (ok:HOk P w H h) (e:Rd H a (.dT kvs)):kvs.length<=sizeLine/\(a == sysModules)=false/\
  ∃xs,KT H kvs xs/\h.DictOfH (tupleKind (ym_ P w)) a xs:=by
 obtain⟨z,y,xs,r,o,es,ep,h1,h2,h3,h4,h5⟩:=(show qh_ P w H h a (.dT kvs) from rd_of ok e)
 refine⟨z,y,xs,r,o,es,ep,h1,h2,h3,h4,fun x hx=>?_,h5⟩
 have all: ∀ {l:List (List Key×V)} {m:List (List Key×Addr×Value)},KT H l m-> ∀x∈m,(tupleKind (ym_ P w)).is h x.1 x.2.1:=by
  intro l m q
  induction q with
  |nil=>intro x hx;exact nomatch hx
  | @cons p q ps qs hq t ih=>
   intro x hx
   rcases List.mem_cons.mp hx with e|hx
   ·subst e
    exact key_of ok (by rw[<-hq.1];exact hq.2.1)
   ·exact ih x hx
 exact all r x hx
theorem dt_of {kvs:List (List Key×V)} (ok:HOk P w H h) (e:H a=some (.dT kvs)):kvs.length<=sizeLine/\(a == sysModules)=false/\
  ∃xs,KT H kvs xs/\h.DictOfH (tupleKind (ym_ P w)) a xs:=dt_rd ok (.inl e)
end
def DGet (H:Hp) (a:Addr) (y:V) (r:Option V):Prop:=
 (∃kvs k,Rd H a (.dK kvs)/\y=kV k/\r=uo_ kvs k)\/ ∃kvs k b,Rd H a (.dT kvs)/\y= .ref b/\H b=some (.tup (k.map kV))/\r=uo_ kvs k
def DPut (H:Hp) (a:Addr) (y v:V) (H':Hp):Prop:=
 (∃kvs k,H a=some (.dK kvs)/\y=kV k/\kvs.length<sizeLine/\H'=upd H a (.dK (j0l_ kvs k v)))\/
 ∃kvs k b,H a=some (.dT kvs)/\y= .ref b/\H b=some (.tup (k.map kV))/\kvs.length<sizeLine/\H'=upd H a (.dT (j0l_ kvs k v))
theorem DGet.k {H:Hp} {a:Addr} {kvs:List (Key×V)} {k:Key} (e:H a=some (.dK kvs)):DGet H a (kV k) (uo_ kvs k):= .inl ⟨kvs,k, .inl e,rfl,rfl⟩
theorem DPut.k {H:Hp} {a:Addr} {kvs:List (Key×V)} {k:Key} {v:V} (e:H a=some (.dK kvs)) (hl:kvs.length<sizeLine):DPut H a (kV k) v (upd H a (.dK (j0l_ kvs k v))):= .inl ⟨kvs,k,e,rfl,hl,rfl⟩
section
variable {X:Cx} {pins:List (Addr×Obj)} {σ:St} {H:Hp} {s:Shared} {a:Addr} {y v:V} {u r:Value} {o:Option V} {A:Around} {E:Value->Shared->Prop}
theorem Inv.big (I:Inv X pins σ H s):sysModules<s.heap.objs.size:=by
 have h:mainGlobals<s.heap.objs.size:=(I.mod.glob.keeps I.bk).lt
 exact Nat.lt_trans (by decide) h
theorem d_getItem {Q:Value->Shared->Prop} (hu:A.units+1<cLine) (I:Inv X pins σ H s) (g:DGet H a y (some v)) (ry:vt_ y u) (h: ∀w' s',Inv X pins σ H s'->vt_ v w'->Q w' s'):
  wpAny (model X.prog X.w) A (getItem (.ref a) u) Q E s:=by
 rcases g with⟨kvs,k,e,ey,l⟩|⟨kvs,k,b,e,ey,eb,l⟩
 ·subst ey
  obtain⟨z,hd,vs,rel,dd⟩:=dk_rd I.hok e
  obtain⟨w',hw,rw'⟩:=RelO.some_of (v:=v) (o:=valueAt vs k) (by rw[l];exact rel.val k)
  exact wpAny_getItem_of (kV_is ry) dd.mapOf hw (h w' _ (I.tok _) rw')
 ·subst ey
  cases (show u=Value.ref b from ry)
  obtain⟨z,hd,xs,rel,dd⟩:=dt_rd I.hok e
  obtain⟨w',hw,rw'⟩:=RelO.some_of (v:=v) (o:=(atKey xs k).map (·.2)) (by rw[l];exact rel.val k)
  obtain⟨p,hp,hp2⟩:=Option.map_eq_some_iff.mp hw
  refine wpAny_getItem_heap (tupleKind_room_in1 hu) (key_of I.hok eb) dd hp ?_
  rw[hp2]
  exact h w' _ (I.tok _) rw'
theorem d_in {Q:Value->Shared->Prop} (hu:A.units+1<cLine) (I:Inv X pins σ H s) (g:DGet H a y o) (ry:vt_ y u) (h: ∀s',Inv X pins σ H s'->Q (.bool o.isSome) s'):
  wpAny (model X.prog X.w) A (compareOp .In u (.ref a)) Q E s:=by
 rcases g with⟨kvs,k,e,ey,l⟩|⟨kvs,k,b,e,ey,eb,l⟩
 ·subst ey
  obtain⟨z,hd,vs,rel,dd⟩:=dk_rd I.hok e
  refine wpAny_in_of (kV_is ry) hd dd.mapOf ?_
  rw[<-(rel.val k).isSome_eq,<-l]
  exact h _ (I.tok _)
 ·subst ey
  cases (show u=Value.ref b from ry)
  obtain⟨z,hd,xs,rel,dd⟩:=dt_rd I.hok e
  refine wpAny_in_heap (tupleKind_room_in1 hu) (key_of I.hok eb) hd dd ?_
  have q:=(rel.val k).isSome_eq
  rw[Option.isSome_map] at q
  rw[<-q,<-l]
  exact h _ (I.tok _)
theorem d_notIn {Q:Value->Shared->Prop} (hu:A.units+1<cLine) (I:Inv X pins σ H s) (g:DGet H a y o) (ry:vt_ y u) (h: ∀s',Inv X pins σ H s'->Q (.bool (!o.isSome)) s'):
  wpAny (model X.prog X.w) A (compareOp .NotIn u (.ref a)) Q E s:=by
 rcases g with⟨kvs,k,e,ey,l⟩|⟨kvs,k,b,e,ey,eb,l⟩
 ·subst ey
  obtain⟨z,hd,vs,rel,dd⟩:=dk_rd I.hok e
  refine wpAny_notIn_of (kV_is ry) hd dd.mapOf ?_
  rw[<-(rel.val k).isSome_eq,<-l]
  exact h _ (I.tok _)
 ·subst ey
  cases (show u=Value.ref b from ry)
  obtain⟨z,hd,xs,rel,dd⟩:=dt_rd I.hok e
  refine wpAny_notIn_heap (tupleKind_room_in1 hu) (key_of I.hok eb) hd dd ?_
  have q:=(rel.val k).isSome_eq
  rw[Option.isSome_map] at q
  rw[<-q,<-l]
  exact h _ (I.tok _)
theorem d_write {h':Heap} {t':Nat} {ob:HO} (I:Inv X pins σ H s) (mu:Mut (H a)) (hs:Heap.SameBut a s.heap h') (he: ∃q,h'.get? a=some q) (new:qh_ X.prog X.w (upd H a ob) h' a ob):
  Inv X pins σ (upd H a ob) { s with heap:=h',toks:=t' } :=
 I.write (x:=a) (e:=a) mu (.inl rfl) (fun b q hb z=>(hs.2 b hb).trans z) he new
theorem dk_new {P:Program} {w:World} {H':Hp} {h':Heap} {kvs:List (Key×V)} {vs:List (Key×Value)} (z:kvs.length<=sizeLine) (hd:(a == sysModules)=false) (rel:KV kvs vs) (dd:h'.DictOf (ym_ P w) a vs):
  qh_ P w H' h' a (.dK kvs):=⟨z,hd,vs,rel,dd⟩
theorem d_setItem {H':Hp} {Q:Unit->Shared->Prop} (hu:A.units+1<cLine) (I:Inv X pins σ H s) (g:DPut H a y v H') (ry:vt_ y u) (rv:vt_ v r) (h: ∀s',Inv X pins σ H' s'->Q () s'):
  wpAny (model X.prog X.w) A (setItem (.ref a) u r) Q E s:=by
 rcases g with⟨kvs,k,e,ey,l,eH⟩|⟨kvs,k,b,e,ey,eb,l,eH⟩
 ·subst ey eH
  obtain⟨z,hd,vs,rel,dd⟩:=dk_of I.hok e
  have hz:vs.length<=sizeLine:=by rw[<-rel.length];exact z
  have hl:(j0l_ kvs k v).length<=sizeLine:=by have:=ug_ kvs k v;omega
  refine wpAny_setItem_pairs (hsz:=hz) (kV_is ry) dd fun h' dd' hs=>h _ ?_
  have he: ∃q,h'.get? a=some q:=let ⟨q,_,_,hq,_⟩:=dd';⟨q,hq⟩
  exact d_write I (by rw[e];exact True.intro) hs he (dk_new hl hd (rel.put k rv) dd')
 ·subst ey eH
  cases (show u=Value.ref b from ry)
  obtain⟨z,hd,xs,rel,dd⟩:=dt_of I.hok e
  have hz:xs.length<=sizeLine:=by rw[<-Paired.length rel];exact z
  have hl:(j0l_ kvs k v).length<=sizeLine:=by have:=ug_ kvs k v;omega
  refine wpAny_setItem_heap (hsz:=hz) (tupleKind_room_in1 hu) (key_of I.hok eb) dd fun h' dd' hs=>h _ ?_
  obtain⟨q,es,ep,hq,h2,h3,h4,_,h5⟩:=dd'
  refine d_write I (by rw[e];exact True.intro) hs ⟨q,hq⟩ ⟨hl,hd,_,(rel.put k eb rv).keeps fun c ys ec=>?_,q,es,ep,hq,h2,h3,h4,h5⟩
  rw[j3_ (ne_of ec e (fun z=>nomatch z))]
  exact ec
end
section
variable {X:Cx} {pins:List (Addr×Obj)} {σ:St} {H:Hp} {s:Shared} {a:Addr} {kvs:List (Key×V)} {k:Key} {u:Value} {A:Around} {E:Value->Shared->Prop}
theorem d_pop {v:V} {more:List Value} {Q:Value->Shared->Prop} (I:Inv X pins σ H s) (e:H a=some (.dK kvs)) (ry:vt_ (kV k) u) (l:uo_ kvs k=some v) (hm:more=[]\/ ∃x,more=[x])
  (h: ∀w' s',Inv X pins σ (upd H a (.dK (wt_ kvs k))) s'->vt_ v w'->Q w' s'):wpAny (model X.prog X.w) A (call (.builtin "dict.pop") (.ref a::u::more)) Q E s:=by
 obtain⟨z,hd,vs,rel,dd⟩:=dk_of I.hok e
 obtain⟨w',hw,rw'⟩:=RelO.some_of (v:=v) (o:=valueAt vs k) (by rw[<-l];exact rel.val k)
 have hp:(keyPart u).isSome=true:=by
  cases k with
  |inl i=>obtain⟨t,q⟩:=(show∃t,u=Value.int i t from ry);subst q;rfl
  |inr x=>obtain⟨t,q⟩:=(show∃t,u=Value.str x t from ry);subst q;rfl
 have ha:argsOk "dict.pop" ⟨.ref a::u::more,[]⟩:=by
  rcases hm with q|⟨x,q⟩
  ·subst q;exact PySem.F.args_dict_pop_2 _ _
  ·subst q;exact PySem.F.args_dict_pop_3 _ _ _
 refine call_meetsIn PySem.F.slot_dict_pop dd.typeIs PySem.F.entry_dict_pop ha (meets_dict_pop_there (ym_ X.prog X.w) a (kV_is ry) more hm hp)
  ⟨vs,w',dd,by rw[<-rel.length];exact z,hw,fun h' dd' hs=>h w' _ ?_ rw'⟩
 have he: ∃q,h'.get? a=some q:=let ⟨q,_,_,hq,_⟩:=dd';⟨q,hq⟩
 exact d_write I (by rw[e];exact True.intro) hs he (dk_new (Nat.le_trans (dropK_le kvs k) z) hd (rel.drop k) dd')
theorem d_len {Q:Value->Shared->Prop} (I:Inv X pins σ H s) (e:Rd H a (.dK kvs)) (h: ∀t s',Inv X pins σ H s'->Q (.int kvs.length t) s'):wpAny (model X.prog X.w) A (call (.builtin "len") [.ref a]) Q E s:=by
 obtain⟨z,hd,vs,rel,dd⟩:=dk_rd I.hok e
 refine call_len_dict hd dd (by rw[<-rel.length];rw[sizeLine_eq] at z;omega) ?_
 rw[<-rel.length]
 exact h _ _ (I.tok _)
end
def NoSl (i:Expr):Prop:= ∀ov iv,subscripted i false ov iv=operate [ov,iv] (getItem ov iv)
theorem subD_of {prog:Program} {w:World} {A:Around} {E:Value->Shared->Prop} {s:Shared} {env:Env} {value slice:Expr} {pos:Pos} {T id:String} {Q:Value->Shared->Prop}
  (hl:typeLookup (.type T) "__getitem__"=pure (some (.builtin id))) (hs:NoSl slice)
  (h:wpAny (model prog w) A (eval value env) (fun o s₁=>wpAny (model prog w) A (eval slice env) (fun i s₂=>s₂.TypeIs o T/\wpAny (model prog w) A (getItem o i) Q E s₂) E s₁) E s):
  wpAny (model prog w) A (eval (.Subscript value slice pos) env) Q E s:=by
 refine Subscript_ (wpAny_mono h (fun o s₁ h₁=>wpAny_mono h₁ (fun i s₂ h₂=>?_) fun _ _ x=>x) fun _ _ x=>x)
 obtain⟨hT,h₂⟩:=h₂
 unfold subscriptTail
 refine wpAny_bind ?_
 rw[getitemInPython_of_ne hT.not_modules]
 refine wpAny_bind (wpAny_specialOf hT hl ?_)
 have fin:wpAny (model prog w) A (subscripted slice false o i) (fun r s₃=>wpAny (model prog w) A (letTemporaryGo value o r>>=fun _=>pure r) Q E s₃) E s₂:=by
  rw[hs o i]
  exact wpAny_operating (wpAny_mono h₂ (fun r s₃ h₃=>wpAny_bind (wpAny_letTemporaryGo (wpAny_pure h₃))) fun _ _ x=>x)
 first
  |exact wpAny_pure (wpAny_bind fin)
  |exact wpAny_bind (wpAny_pure (wpAny_bind fin))
  |exact wpAny_bind fin
theorem dict_typeIs {X:Cx} {pins:List (Addr×Obj)} {σ:St} {H:Hp} {s:Shared} {a:Addr} {y:V} {o:Option V} (I:Inv X pins σ H s) (g:DGet H a y o):s.TypeIs (.ref a) "dict":=by
 rcases g with⟨kvs,k,e,_,_⟩|⟨kvs,k,b,e,_,_,_⟩
 ·obtain⟨_,_,vs,_,dd⟩:=dk_rd I.hok e
  exact dd.typeIs
 ·obtain⟨_,_,xs,_,dd⟩:=dt_rd I.hok e
  exact dd.typeIs
def tDGet (td ty:TE):TE:=fun σ H Q=>td σ H fun x H1=>ty σ H1 fun y H2=> ∃a v,x= .ref a/\DGet H2 a y (some v)/\Q v H2
def tDIn (ty td:TE):TE:=fun σ H Q=>ty σ H fun y H1=>td σ H1 fun x H2=> ∃a o,x= .ref a/\DGet H2 a y o/\Q (.bl o.isSome) H2
def tDNotIn (ty td:TE):TE:=fun σ H Q=>ty σ H fun y H1=>td σ H1 fun x H2=> ∃a o,x= .ref a/\DGet H2 a y o/\Q (.bl (!o.isSome)) H2
def sDPut (td ty tv:TE):TS:=fun D σ H=>tv σ H fun v H1=>td σ H1 fun x H2=>ty σ H2 fun y H3=> ∃a H4,x= .ref a/\DPut H3 a y v H4/\D.nx σ H4
section
variable {X:Cx} {o i e value:Expr} {pos pos' tpos:Pos} {td ty tv:TE}
theorem pe_dget (hu:X.A.units+1<cLine) (ho:PE X o td) (hi:PE X i ty) (hs:NoSl i):PE X (.Subscript o i pos) (tDGet td ty):=by
 intro pins s σ H Q I h
 refine subD_of PySem.F.slot_dict_getitem.lookup hs (thn (ho pins s σ H _ I h) fun u s1 ⟨x,H1,I1,rx,q1⟩=>thn (hi pins s1 σ H1 _ I1 q1) fun iv s2 ⟨y,H2,I2,ry,a,v,ex,g,q2⟩=>?_)
 subst ex
 obtain rfl:u=Value.ref a:=rx
 exact⟨dict_typeIs I2 g,d_getItem hu I2 g ry fun w' s3 I3 rw'=>⟨v,H2,I3,rw',q2⟩⟩
theorem pc_din (hu:X.A.units+1<cLine) (hi:PE X i ty) (ho:PE X o td):PC X .In i o (tDIn ty td):=by
 intro pins s σ H Q I h
 refine thn (hi pins s σ H _ I h) fun iv s1 ⟨y,H1,I1,ry,q1⟩=>thn (ho pins s1 σ H1 _ I1 q1) fun u s2 ⟨x,H2,I2,rx,a,ov,ex,g,q2⟩=>?_
 subst ex
 obtain rfl:u=Value.ref a:=rx
 exact d_in hu I2 g ry fun s3 I3=>⟨.bl ov.isSome,H2,I3,rfl,q2⟩
theorem pc_dnotin (hu:X.A.units+1<cLine) (hi:PE X i ty) (ho:PE X o td):PC X .NotIn i o (tDNotIn ty td):=by
 intro pins s σ H Q I h
 refine thn (hi pins s σ H _ I h) fun iv s1 ⟨y,H1,I1,ry,q1⟩=>thn (ho pins s1 σ H1 _ I1 q1) fun u s2 ⟨x,H2,I2,rx,a,ov,ex,g,q2⟩=>?_
 subst ex
 obtain rfl:u=Value.ref a:=rx
 exact d_notIn hu I2 g ry fun s3 I3=>⟨.bl (!ov.isSome),H2,I3,rfl,q2⟩
theorem ps_dput (hu:X.A.units+1<cLine) (ho:PE X o td) (hi:PE X i ty) (hv:PE X value tv) (hs:swapsWith value (some (.Subscript o i pos')) pos.line X.env=pure false):
  PS X (.Assign [.Subscript o i pos'] value pos) (sDPut td ty tv):=by
 intro pins s σ H D I h
 refine wpAny_Assign_Subscript (thn (hv pins s σ H _ I h) fun r s1 ⟨v,H1,I1,rv,q1⟩=>thn (ho pins s1 σ H1 _ I1 q1) fun u s2 ⟨x,H2,I2,rx,q2⟩=>thn (hi pins s2 σ H2 _ I2 q2) fun iv s3 ⟨y,H3,I3,ry,a,H4,ex,g,q3⟩=>?_) hs
 subst ex
 obtain rfl:u=Value.ref a:=rx
 exact d_setItem hu I3 g ry rv fun s4 I4=>⟨σ,H4,I4,q3⟩
end
theorem dk_empty {P:Program} {w:World} {H:Hp} (h:Heap) (hb:sysModules<h.objs.size):qh_ P w H (h.push { cls:= .type "dict",data:= .dict #[] }) h.objs.size (.dK []):=
 ⟨Nat.zero_le _,beq_eq_false_iff_ne.mpr (Ne.symm (Nat.ne_of_lt hb)),[], .nil,Heap.DictOf.new h⟩
def tDNewK:TE:=fun _ H Q=> ∀p,H p=none->Q (.ref p) (upd H p (.dK []))
section
variable {X:Cx} {pos:Pos}
theorem pe_dnewK:PE X (.Dict [] [] pos) tDNewK:=fun pins s σ H Q I h=>
 wpAny_Dict_empty ⟨.ref s.heap.objs.size,_,I.laid (a:=s.heap.objs.size) (o:= .dK []) (t':=s.toks) (fun _ _ q=>Heap.get?_push_of_some _ q) (Nat.le_refl _) (dk_empty s.heap I.big),rfl,h _ (I.hok.fresh (Nat.le_refl _))⟩
end
structure M1 (X:Cx) (o:Expr) (m:Str) (apos:Pos) (e:Expr) (cpos:Pos):Prop where
 base:attributeBase o m X.env (eval o X.env)=eval o X.env
 few:((backTo cpos (starEach [e] X.env)).all (fun x=>!x.1)&&(backToKw cpos (keywordEach [] X.env)).all (fun x=>x.1.isSome)
  &&decide (([e]:List Expr).length+([]:List Keyword).length+(if([]:List Keyword).isEmpty then 0 else 1)<30))=true
 line:(apos.endLine == cpos.line)=true
 trees:backTo cpos (starEach [e] X.env)=[(false,eval e X.env)]
def IsD (H:Hp) (a:Addr):Prop:=(∃kvs,Rd H a (.dK kvs))\/ ∃kvs,Rd H a (.dT kvs)
theorem isD_at {X:Cx} {pins:List (Addr×Obj)} {σ:St} {H:Hp} {s:Shared} {a:Addr} (I:Inv X pins σ H s) (d:IsD H a):
  s.TypeIs (.ref a) "dict"/\(∀b,Value.ref a= .ref b-> ∃ob,s.heap.get? b=some ob/\ob.dict=none)/\(a == sysModules)=false:=by
 rcases d with⟨kvs,e⟩|⟨kvs,e⟩
 ·obtain⟨_,hd,vs,_,dd⟩:=dk_rd I.hok e
  refine⟨dd.typeIs,fun b q=>?_,hd⟩
  cases q
  obtain⟨ob,_,_,h1,h2,_⟩:=dd
  exact⟨ob,h1,h2.2.1⟩
 ·obtain⟨_,hd,xs,_,dd⟩:=dt_rd I.hok e
  refine⟨dd.typeIs,fun b q=>?_,hd⟩
  cases q
  obtain⟨ob,_,_,h1,h2,_⟩:=dd
  exact⟨ob,h1,h2.2.1⟩
def tDPop1 (td ty:TE):TE:=fun σ H Q=>td σ H fun x H1=> ∃a,x= .ref a/\IsD H1 a/\ty σ H1 fun y H2=> ∃kvs k v,H2 a=some (.dK kvs)/\y=kV k/\uo_ kvs k=some v/\Q v (upd H2 a (.dK (wt_ kvs k)))
section
variable {X:Cx} {o e f:Expr} {apos cpos:Pos} {td ty tx:TE}
theorem pe_dpop1 (ho:PE X o td) (he:PE X e ty) (m:M1 X o "pop" apos e cpos):PE X (.Call (.Attribute o "pop" apos) [e] [] cpos) (tDPop1 td ty):=by
 intro pins s σ H Q I h
 refine wpAny_Call_method m.base m.few m.line PySem.F.plainAttrs_dict PySem.F.slot_dict_pop PySem.F.type_dict_pop (thn (ho pins s σ H _ I h) fun u s1 ⟨x,H1,I1,rx,a,ex,d,q1⟩=>?_)
 subst ex
 obtain rfl:u=Value.ref a:=rx
 obtain⟨t1,t2,_⟩:=isD_at I1 d
 refine⟨t1,t2,?_⟩
 rw[m.trees]
 refine Calls.callWith_builtin rfl (Calls.evalArgs_plain (Calls.spliced_cons (thn (he pins s1 σ H1 _ I1 q1) fun iv s2 ⟨y,H2,I2,ry,kvs,k,v,ea,ey,l,q2⟩=>Calls.spliced_nil ?_)))
 subst ey
 exact d_pop I2 ea ry l (.inl rfl) fun w' s3 I3 rw'=>⟨v,_,I3,rw',q2⟩
end
end L2
namespace L2
open PySem PySem.Spec PyProof.Rows
end L2
namespace L2
open PySem PySem.Spec PyProof.Rows
end L2
section
namespace Bits
open PySem PyProof.Rows
end Bits
end
section
namespace TL
open PySem PySem.Builtin PySem.Builtin.Str PySem.StrLaws
abbrev tl (x:Str):List Nat:=x.cps.toList
theorem ext_tl {x y:Str} (h:tl x=tl y):x=y:=Str.ext' (Array.toList_inj.mp h)
theorem tl_append (x y:Str):tl (x++y)=tl x++tl y:=by
 show(x++y).cps.toList=_
 rw[Str.cps_append,Array.toList_append]
def joinL (S:List Nat):List (List Nat)->List Nat
 |[]=>[]
 |[p]=>p
 |p::q::r=>p++(S++joinL S (q::r))
theorem tl_join (y:Str): ∀parts:List Str,tl (Str.join y parts)=joinL (tl y) (parts.map tl)
 |[]=>rfl
 |[_]=>rfl
 |x::z::r=>by
  show tl (x++y++Str.join y (z::r))=tl x++(tl y++joinL (tl y) ((z::r).map tl))
  rw[tl_append,tl_append,tl_join y (z::r),List.append_assoc]
theorem join_eq (y:Str) (parts:List Str):Txt.join y parts=Str.join y parts:=glued_eq_join y parts
end TL
end
namespace L2
open PySem PySem.Spec PyProof.Rows
theorem j0g_: ∀ {ys:List Str} {us:List Value},vx_ (ys.map V.str) us->StrsAre us ys
 |[],_, .nil=> .nil
 |y::ys,_, .cons r t=>by
  obtain⟨k,rfl⟩:=r
  exact .cons y k (j0g_ t)
section
variable {X:Cx}
theorem mt_join:MtR X "str.join" (fun x xs H Q=> ∃a p,∃ys:List Str,x= .str a/\xs=[.ref p]/\(SqL X.K H p (ys.map V.str)\/SqT X.K H p (ys.map V.str))/\
  (ys.map (·.length)).sum+ys.length*a.length<=16777216/\Q (.str (Txt.join a ys)) H):=by
 intro pins s σ H x xs v us Q I rx rs h
 obtain⟨a,p,ys,rfl,rfl,hp,hz,h⟩:=h
 obtain⟨t,rfl⟩:=rx
 cases rs with
 |cons r1 rs=>
  cases rs
  cases r1
  rcases hp with hp|hp
  ·obtain⟨its,r,⟨o,n,ho,hc,_,hd⟩,_⟩:=I.list hp
   exact PyProof.Rows.join_list (items:=its.toArray) ⟨o,ho,hc,n,hd⟩ (by rw[List.toList_toArray];exact j0g_ r) hz fun t' k=>⟨.str _,H,I.tok k,⟨t',rfl⟩,h⟩
  ·obtain⟨its,r,ht,_⟩:=I.tuple hp
   exact PyProof.Rows.join_tuple (items:=its.toArray) ht (by rw[List.toList_toArray];exact j0g_ r) hz fun t' k=>⟨.str _,H,I.tok k,⟨t',rfl⟩,h⟩
end
section
variable {X:Cx} {o e:Expr} {to te:TE}
def tM1 (r:V->List V->Hp->VK->Prop) (to te:TE):TE:=fun σ H Q=>to σ H fun x H1=>(∃a,x= .str a)/\te σ H1 fun y H2=>r x [y] H2 Q
theorem pe_m1 {id:String} {name:Str} {apos pos:Pos} {r:V->List V->Hp->VK->Prop} (slot:Slot "str" name id) (ty:typeOf (.builtin id)=pure (.type "method_descriptor")) (rule:MtR X id r) (ho:PE X o to) (he:PE X e te)
  (hs:starEach [e] X.env=[(false,eval e X.env)]:=by rfl) (hbase:attributeBase o name X.env (eval o X.env)=eval o X.env:=by rfl) (hline:(apos.endLine == pos.line)=true:=by rfl):
  PE X (.Call (.Attribute o name apos) [e] [] pos) (tM1 r to te):=by
 intro pins s σ H Q I h
 refine PySem.Call_method1 hbase hs hline (thn (ho pins s σ H _ I h) fun v s1 ⟨x,H1,I1,r1,q1⟩=>?_)
 obtain⟨⟨a,rfl⟩,q1⟩:=q1
 obtain⟨t,rfl⟩:=_root_.id r1
 refine⟨"str",_,F.plainAttrs_str,slot,ty,typeIs_str _ _ _,(fun _ e=>nomatch e),Calls.callWith_builtin rfl (Calls.evalArgs_plain (Calls.spliced_cons ?_))⟩
 exact thn (he pins s1 σ H1 _ I1 q1) fun u s2 ⟨y,H2,I2,r2,q2⟩=>Calls.spliced_nil (rule pins s2 σ H2 _ [y] _ [u] Q I2 r1 (.cons r2 .nil) q2)
theorem pe_join {apos pos:Pos} (ho:PE X o to) (he:PE X e te) (hs:starEach [e] X.env=[(false,eval e X.env)]:=by rfl) (hbase:attributeBase o "join" X.env (eval o X.env)=eval o X.env:=by rfl) (hline:(apos.endLine == pos.line)=true:=by rfl):
  PE X (.Call (.Attribute o "join" apos) [e] [] pos) (tM1 (fun x xs H Q=> ∃a p,∃ys:List Str,x= .str a/\xs=[.ref p]/\(SqL X.K H p (ys.map V.str)\/SqT X.K H p (ys.map V.str))/\
   (ys.map (·.length)).sum+ys.length*a.length<=16777216/\Q (.str (Txt.join a ys)) H) to te):=
 pe_m1 F.slot_str_join F.type_str_join mt_join ho he hs hbase hline
end
end L2
namespace L2
open PySem PySem.Spec PyProof.Rows
end L2
namespace Att
open PySem PySem.W PySem.Calls PyProof.Rows
end Att
namespace L2
open PySem PySem.Spec PyProof.Rows
end L2
namespace L2
open PySem PySem.Spec PyProof.Rows
end L2
namespace L2
open PySem PySem.Spec PyProof.Rows
def jw_ (s:Stmt) (j:Nat):Stmt:=match s with
 | .ClassDef _ _ _ body _ _ _ _ _ _ _=>body.getD j (.Pass ⟨0,0,0,0⟩)
 |_=> .Pass ⟨0,0,0,0⟩
def j0a_ (s:Stmt):Arguments:=match s with
 | .FunctionDef _ a _ _ _ _ _ _ _ _=>a
 |_=> { posonlyargs:=[],args:=[],vararg:=none,kwonlyargs:=[],kw_defaults:=[],kwarg:=none,defaults:=[] }
def wa_ (s:Stmt):List Stmt:=match s with
 | .FunctionDef _ _ b _ _ _ _ _ _ _=>b
 |_=>[]
def j8_ (s:Stmt):Scope:=match s with
 | .FunctionDef _ _ _ _ _ _ sc _ _ _=>sc
 |_=> { kind:= .function,names:=[],isGenerator:=false,isCoroutine:=false }
abbrev CX0:CXT:=fun _ _ _ _ _ _=>False
abbrev E0:XK:=fun _ _ _=>False
theorem yr_ {X:Cx} :j0h_ CX0 X E0:=fun _ _ _ _ _ _ _ h=>h.elim
structure Fun (K:PySem.W.Frag) (x qual:Str) (st:Stmt) (f:Addr) (fd:FuncData):Prop where
 ex: ∃(oc:Value) (od:Option Addr) (kV doc pm:Value) (an:Option Addr) (cdv ct:Value) (osl:Array (Option Value)),
  fd=PySem.W.fnOf x qual (j0a_ st) (wa_ st) (j8_ st) .none kV doc pm an cdv ct/\K.lookup f=some ⟨oc,od, .func fd,osl⟩/\PySem.W.codeIn K cdv qual=true
 kp:PySem.W.keepIn K (.ref f)=true
section
variable {P:Program} {w:World} {K:PySem.W.Frag} {mg:Str->Option Value} {base:Heap}
theorem Fun.ok {x qual:Str} {st:Stmt} {f:Addr} {fd:FuncData} {N ps:List Str} {k:Nat} {sp:Sp} (F:Fun K x qual st f fd) (S:jc_ N ps (j8_ st)) (len: ∀vs H Q E,sp vs H Q E->vs.length=ps.length)
  (hbody: ∀(cdv:Value) (A:Around) (outer:List Env) (s:Shared) (H:Hp) (vs:List V) (Q:VK) (E:XK),j15_ k (A.deeper (envOfC qual (j8_ st) s.heap.objs.size f cdv))->sp vs H Q E->
   ∃t,PSs (cxOf CX0 P w K mg base N qual (j8_ st) f cdv A outer s H E).nox (wa_ st) t/\t { nx:=fun _ H'=>Q .non H',rt:=Q } (start N vs) H):ju_ P w K mg base CX0 (k+1) f fd ps sp:=by
 obtain⟨oc,od,kV,doc,pm,an,cdv,ct,osl,rfl,lk,hcd⟩:=F.ex
 refine fn_of lk hcd S len fun A outer s H vs Q E hr hsp=>?_
 obtain⟨t,h,q⟩:=hbody cdv A outer s H vs Q E hr hsp
 exact⟨t,h.nox,q⟩
theorem Fun.binds {x qual:Str} {st:Stmt} {f:Addr} {fd:FuncData} {ps:List Str} (F:Fun K x qual st f fd)
  (h: ∀(kV doc pm:Value) (an:Option Addr) (cdv ct:Value) (us:List Value),us.length=ps.length->bindArgs (PySem.W.fnOf x qual (j0a_ st) (wa_ st) (j8_ st) .none kV doc pm an cdv ct) ⟨us,[]⟩=pure (ps.zip us)):jo_ K fd ps []:=by
 obtain⟨oc,od,kV,doc,pm,an,cdv,ct,osl,rfl,lk,hcd⟩:=F.ex
 exact .all (h kV doc pm an cdv ct)
theorem fun_mk {x qual:Str} {st:Stmt} {f:Addr} {oc:Value} {od an:Option Addr} {osl:Array (Option Value)} {kV doc pm cdv ct:Value} (l:K.lookup f=some ⟨oc,od, .func (PySem.W.fnOf x qual (j0a_ st) (wa_ st) (j8_ st) .none kV doc pm an cdv ct),osl⟩)
  (c:PySem.W.codeIn K cdv qual=true) (k:PySem.W.keepIn K (.ref f)=true):Fun K x qual st f (PySem.W.fnOf x qual (j0a_ st) (wa_ st) (j8_ st) .none kV doc pm an cdv ct):=⟨⟨oc,od,kV,doc,pm,an,cdv,ct,osl,rfl,l,c⟩,k⟩
end
theorem j16_ {A:Around} {k:Nat} (hr:j15_ k A):A.units+1<cLine:=Nat.lt_of_le_of_lt (Nat.add_le_add_left (by decide:1<=64) _) hr.units
section
variable {X:Cx}
theorem pv (i:Nat) {x:Str} {pos:Pos} (hN:X.N[i]?=some x:=by rfl) (hv:Vis X.env.scope x:=by first|exact Or.inl rfl|exact Or.inr (Or.inl rfl)|exact Or.inr (Or.inr rfl)) (hd:(x == ("__debug__":Str))=false:=by decide)
  (hcd:(x == ("__classdict__":Str))=false:=by decide):PE X (.Name x pos) (tVar i):=pe_var hN hv hd hcd
theorem call_lenD:CallR X (.builtin "len") (fun xs H Q=> ∃a kvs,xs=[V.ref a]/\H a=some (.dK kvs)/\Q (.int kvs.length) H):=by
 intro pins s σ H xs us Q I r h
 obtain⟨a,kvs,rfl,ha,q⟩:=h
 obtain⟨u,rfl,ru⟩:=vals1 r
 cases ru
 exact d_len I (.inl ha) fun t s' I'=>⟨.int kvs.length,H,I',⟨t,rfl⟩,q⟩
end
theorem ur_ {A B:Prop} (h:B):if false=true then A else B:=by
 rw[if_neg Bool.false_ne_true]
 exact h
theorem j0q_ {A B:Prop} (h:A):if true=true then A else B:=by
 rw[if_pos rfl]
 exact h
def vq_ (H H':Hp):Prop:= ∀b o,H b=some o->H' b=some o
theorem vq_.refl (H:Hp):vq_ H H:=fun _ _ h=>h
theorem vq_.trans {H H1 H2:Hp} (a:vq_ H H1) (b:vq_ H1 H2):vq_ H H2:=fun c o h=>b c o (a c o h)
theorem vq_.seq {K:PySem.W.Frag} {H H':Hp} {a:Addr} {xs:List V} (e:vq_ H H') (h:SqL K H a xs):SqL K H' a xs:=by
 rcases h with(h|⟨o,h⟩)|h
 ·exact .inl (.inl (e _ _ h))
 ·exact .inl (.inr ⟨o,e _ _ h⟩)
 ·exact .inr h
end L2
section
set_option Elab.async false
set_option linter.all false
set_option maxRecDepth 100000
set_option maxHeartbeats 2000000
namespace L2
open PySem PySem.Spec PyProof.Rows
open PySem.W (WData Codec OpenSpec Well WellAll ReadsW ReadsAllW)
mutual
inductive Dw (K:PySem.W.Frag) (H:Hp):V->WData->Prop
 |non:Dw K H .non .none
 |bl (b:Bool):Dw K H (.bl b) (.bool b)
 |int (i:Int):Dw K H (.int i) (.int i)
 |str (x:Str):Dw K H (.str x) (.str x)
 |byt (b:Array UInt8):Dw K H (.byt b) (.bytes b.toList)
 |lst {a:Addr} {xs:List V} {ds:List WData} :SqL K H a xs->DwAll K H xs ds->Dw K H (.ref a) (.list ds)
 |tup {a:Addr} {xs:List V} {ds:List WData} :SqT K H a xs->DwAll K H xs ds->Dw K H (.ref a) (.tuple ds)
inductive DwAll (K:PySem.W.Frag) (H:Hp):List V->List WData->Prop
 |nil:DwAll K H [] []
 |cons {v:V} {vs:List V} {d:WData} {ds:List WData} :Dw K H v d->DwAll K H vs ds->DwAll K H (v::vs) (d::ds)
end
theorem dw_ints {K:PySem.W.Frag} {H:Hp} : ∀ns:List Int,DwAll K H (ns.map V.int) (ns.map WData.int)
 |[]=> .nil
 |n::r=> .cons (.int n) (dw_ints r)
theorem ints_dw {K:PySem.W.Frag} {H:Hp} : ∀(ns:List Int) (xs:List V),DwAll K H xs (ns.map WData.int)->xs=ns.map V.int
 |[],xs,h=>by
  cases h
  rfl
 |n::r,xs,h=>by
  cases h with
  |cons h1 h2=>
   cases h1
   rw[ints_dw r _ h2]<;>rfl
section
variable {P:Program} {w:World} {K:PySem.W.Frag} {H:Hp} {h:Heap} {R:PySem.W.WRecords} {cl:Str->Option Addr}
theorem sqL_at {a:Addr} {xs:List V} (hok:HOk P w H h) (KX:K.In h) (q:SqL K H a xs): ∃(its:List Value) (o:Obj) (n:Nat),vx_ xs its/\h.get? a=some o/\o.cls= .type "list"/\o.data= .seq its.toArray n:=by
 rcases q with q|⟨o,its,n,e,hc,_,hd,_,hv⟩
 ·obtain⟨_,its,n,hv,e⟩:=(show qh_ P w H h a (.lst xs) from q.ok hok)
  exact⟨its,_,n,hv,e,rfl,rfl⟩
 ·exact⟨its.toList,o,n,hv,KX _ _ e,hc,by simp [hd]⟩
theorem sqT_at {a:Addr} {xs:List V} (hok:HOk P w H h) (KX:K.In h) (q:SqT K H a xs): ∃(its:List Value) (o:Obj) (n:Nat),vx_ xs its/\h.get? a=some o/\o.cls= .type "tuple"/\o.data= .seq its.toArray n:=by
 rcases q with q|⟨o,its,n,e,hc,hd,_,hv⟩
 ·obtain⟨_,its,hv,o,e,hc,n,hd⟩:=(show qh_ P w H h a (.tup xs) from q.ok hok)
  exact⟨its,o,n,hv,e,hc,hd⟩
 ·exact⟨its.toList,o,n,hv,KX _ _ e,hc,by simp [hd]⟩
mutual
theorem Dw.reads (hok:HOk P w H h) (KX:K.In h): ∀(d:WData) (v:V) (u:Value),Dw K H v d->vt_ v u-> ∃as,ReadsW R cl h u d as
 | .none,_,_,x,r=>by
  cases x
  cases r
  exact⟨_,ReadsW.none⟩
 | .bool b,_,_,x,r=>by
  cases x
  cases r
  exact⟨_,ReadsW.bool b⟩
 | .int i,_,_,x,r=>by
  cases x
  obtain⟨t,rfl⟩:=r
  exact⟨_,ReadsW.int i t⟩
 | .str s,_,_,x,r=>by
  cases x
  obtain⟨t,rfl⟩:=r
  exact⟨_,ReadsW.str s t⟩
 | .bytes b,_,_,x,r=>by
  cases x
  obtain⟨t,rfl⟩:=r
  exact⟨_,ReadsW.bytes _ t⟩
 | .list ds,_,_,x,r=>by
  cases x with
  |lst hs ha=>
   cases r
   obtain⟨its,o,n,rv,ho,hc,hd⟩:=sqL_at hok KX hs
   obtain⟨as,hr⟩:=Dw.readsAll hok KX ds _ its ha rv
   exact⟨_,ReadsW.list ho hc hd hr⟩
 | .tuple ds,_,_,x,r=>by
  cases x with
  |tup hs ha=>
   cases r
   obtain⟨its,o,n,rv,ho,hc,hd⟩:=sqT_at hok KX hs
   obtain⟨as,hr⟩:=Dw.readsAll hok KX ds _ its ha rv
   exact⟨_,ReadsW.tuple ho hc hd hr⟩
 | .float _,_,_,x,_=>by cases x
 | .dict _,_,_,x,_=>by cases x
 | .bytearray _,_,_,x,_=>by cases x
 | .set _,_,_,x,_=>by cases x
 | .frozenset _,_,_,x,_=>by cases x
 | .obj _ _,_,_,x,_=>by cases x
theorem Dw.readsAll (hok:HOk P w H h) (KX:K.In h): ∀(ds:List WData) (vs:List V) (us:List Value),DwAll K H vs ds->vx_ vs us-> ∃as,ReadsAllW R cl h us ds as
 |[],_,_,x,r=>by
  cases x
  cases r
  exact⟨_,ReadsAllW.nil⟩
 |d::ds,_,_,x,r=>by
  cases x with
  |cons h1 h2=>
   cases r with
   |cons r1 r2=>
    obtain⟨as,q1⟩:=Dw.reads hok KX d _ _ h1 r1
    obtain⟨bs,q2⟩:=Dw.readsAll hok KX ds _ _ h2 r2
    exact⟨_,ReadsAllW.cons q1 q2⟩
end
end
mutual
def plW:WData->Bool
 | .none=>true
 | .bool _=>true
 | .int _=>true
 | .str _=>true
 | .bytes _=>true
 | .list xs=>plWs xs
 | .tuple xs=>plWs xs
 |_=>false
def plWs:List WData->Bool
 |[]=>true
 |x::r=>plW x&&plWs r
end
theorem plWs_map {α:Type} {f:α->WData} (h: ∀a,plW (f a)=true): ∀l:List α,plWs (l.map f)=true
 |[]=>rfl
 |x::r=>by
  show(plW (f x)&&plWs (r.map f))=true
  rw[h x,plWs_map h r]<;>rfl
theorem pl_enc: ∀(c:Codec) (a:c.denote),plW (c.enc a)=true
 | .unit,_=>rfl
 | .bool,_=>rfl
 | .int _ _,_=>rfl
 | .nat _ _,_=>rfl
 | .u8,_=>rfl
 | .bytes _ _,_=>rfl
 | .text _ _ _ _,_=>rfl
 | .list _ _ c,a=>plWs_map (fun x=>pl_enc c x) a
 | .pair c d,a=>by
  show(plW (c.enc a.1)&&(plW (d.enc a.2)&&true))=true
  rw[pl_enc c a.1,pl_enc d a.2]<;>rfl
 | .triple c d e,a=>by
  show(plW (c.enc a.1)&&(plW (d.enc a.2.1)&&(plW (e.enc a.2.2)&&true)))=true
  rw[pl_enc c a.1,pl_enc d a.2.1,pl_enc e a.2.2]<;>rfl
 | .option c,none=>rfl
 | .option c,some x=>pl_enc c x
theorem pl_encAll: ∀(cs:List Codec) (a:Codec.denoteAll cs),plWs (Codec.encAll cs a)=true
 |[],_=>rfl
 |c::cs,a=>by
  show(plW (c.enc a.1)&&plWs (Codec.encAll cs a.2))=true
  rw[pl_enc c a.1,pl_encAll cs a.2]<;>rfl
theorem weight_mem: ∀ {xs:List WData} {d:WData},d∈xs->d.weight<=WData.weightAll xs
 |[],d,h=>absurd h (by simp)
 |x::r,d,h=>by
  show d.weight<=x.weight+1+WData.weightAll r
  rcases List.mem_cons.mp h with e|m
  ·rw[e]
   omega
  ·have z:=weight_mem m
   omega
def toV:Value->V
 | .none=> .non
 | .bool b=> .bl b
 | .int i _=> .int i
 | .str x _=> .str x
 | .bytes b _=> .byt b
 | .ref a=> .ref a
 |_=> .non
def OkU (A:List Addr):Value->Prop
 | .none=>True
 | .bool _=>True
 | .int _ _=>True
 | .str _ _=>True
 | .bytes _ _=>True
 | .ref a=>a∈A
 |_=>False
theorem OkU.mono {A B:List Addr} (h: ∀a∈A,a∈B): ∀ {u:Value},OkU A u->OkU B u:=fun {u} x=>by
 cases u with
 |ref a=>exact h a x
 |none=>trivial
 |bool b=>trivial
 |int i t=>trivial
 |str s t=>trivial
 |bytes b t=>trivial
 |_=>exact False.elim x
theorem relV_toV {A:List Addr} {u:Value} (x:OkU A u):vt_ (toV u) u:=by
 cases u with
 |ref a=>rfl
 |none=>rfl
 |bool b=>rfl
 |int i t=>exact⟨t,rfl⟩
 |str s t=>exact⟨t,rfl⟩
 |bytes b t=>exact⟨t,rfl⟩
 |_=>exact False.elim x
theorem j0i_ {A:List Addr} : ∀ {vs:List Value},(∀u∈vs,OkU A u)->vx_ (vs.map toV) vs
 |[],_=> .nil
 |u::r,h=> .cons (relV_toV (h u (List.mem_cons_self ..))) (j0i_ fun x hx=>h x (List.mem_cons_of_mem _ hx))
def ArgOb (h:Heap) (A:List Addr) (a:Addr):Prop:= ∃vs:List Value,vs.length<=sizeLine/\(∀u∈vs,OkU A u)/\
 (h.get? a=some { cls:= .type "list",data:= .seq vs.toArray } \/h.get? a=some { cls:= .type "tuple",data:= .seq vs.toArray })
theorem ArgOb.mono {h:Heap} {A B:List Addr} {a:Addr} (k: ∀a∈A,a∈B) (x:ArgOb h A a):ArgOb h B a:=by
 obtain⟨vs,h1,h2,h3⟩:=x
 exact⟨vs,h1,fun u hu=>(h2 u hu).mono k,h3⟩
theorem wz_ {P:Params} {h:Heap} : ∀ {vs:List Value} {ds:List WData},WellAll P h vs ds->vs.length=ds.length
 |_,_, .nil=>rfl
 |_,_, .cons _ b=>by
  show _+1=_+1
  rw[wz_ b]
theorem well_list {P:Params} {h:Heap} {v:Value} {ds:List WData} (x:Well P h v (.list ds)): ∃(a:Addr) (vs:List Value),v= .ref a/\h.get? a=some { cls:= .type "list",data:= .seq vs.toArray } /\WellAll P h vs ds:=by
 cases x with
 |list ho hall=>exact⟨_,_,rfl,ho,hall⟩
theorem well_tuple {P:Params} {h:Heap} {v:Value} {ds:List WData} (x:Well P h v (.tuple ds)): ∃(a:Addr) (vs:List Value),v= .ref a/\h.get? a=some { cls:= .type "tuple",data:= .seq vs.toArray } /\WellAll P h vs ds:=by
 cases x with
 |tuple ho hall=>exact⟨_,_,rfl,ho,hall⟩
theorem well_cons {P:Params} {h:Heap} {us:List Value} {d:WData} {ds:List WData} (x:WellAll P h us (d::ds)): ∃(v:Value) (vs:List Value),us=v::vs/\Well P h v d/\WellAll P h vs ds:=by
 cases x with
 |cons a b=>exact⟨_,_,rfl,a,b⟩
theorem line_of {n:Nat} (h:n<=1048576):n<=sizeLine:=Nat.le_trans h (by decide)
section
variable {P:Params} {h:Heap}
mutual
theorem area_one: ∀(d:WData) (v:Value),Well P h v d->plW d=true->d.weight<=1048576-> ∃A:List Addr,OkU A v/\ ∀a∈A,ArgOb h A a
 | .none,_,x,_,_=>by
  cases x
  exact⟨[],trivial,fun a m=>absurd m (by simp)⟩
 | .bool b,_,x,_,_=>by
  cases x
  exact⟨[],trivial,fun a m=>absurd m (by simp)⟩
 | .int i,_,x,_,_=>by
  cases x
  exact⟨[],trivial,fun a m=>absurd m (by simp)⟩
 | .str s,_,x,_,_=>by
  cases x
  exact⟨[],trivial,fun a m=>absurd m (by simp)⟩
 | .bytes b,_,x,_,_=>by
  cases x
  exact⟨[],trivial,fun a m=>absurd m (by simp)⟩
 | .list ds,_,x,p,z=>by
  obtain⟨a,vs,rfl,ho,hall⟩:=well_list x
  have z2:WData.weightAll ds<=1048576:=z
  obtain⟨A,h1,h2⟩:=area_all ds _ hall p fun d hd=>Nat.le_trans (weight_mem hd) z2
  have k: ∀b∈A,b∈a::A:=fun b hb=>List.mem_cons_of_mem _ hb
  refine⟨a::A,List.mem_cons_self ..,fun b hb=>?_⟩
  rcases List.mem_cons.mp hb with e|m
  ·rw[e]
   exact⟨vs,line_of (by rw[wz_ hall];exact Nat.le_trans (PySem.W.length_le_weightAllW ds) z2),fun u hu=>(h1 u hu).mono k, .inl ho⟩
  ·exact(h2 b m).mono k
 | .tuple ds,_,x,p,z=>by
  obtain⟨a,vs,rfl,ho,hall⟩:=well_tuple x
  have z2:WData.weightAll ds<=1048576:=z
  obtain⟨A,h1,h2⟩:=area_all ds _ hall p fun d hd=>Nat.le_trans (weight_mem hd) z2
  have k: ∀b∈A,b∈a::A:=fun b hb=>List.mem_cons_of_mem _ hb
  refine⟨a::A,List.mem_cons_self ..,fun b hb=>?_⟩
  rcases List.mem_cons.mp hb with e|m
  ·rw[e]
   exact⟨vs,line_of (by rw[wz_ hall];exact Nat.le_trans (PySem.W.length_le_weightAllW ds) z2),fun u hu=>(h1 u hu).mono k, .inr ho⟩
  ·exact(h2 b m).mono k
 | .float _,_,_,p,_=>Bool.noConfusion (show false=true from p)
 | .dict _,_,_,p,_=>Bool.noConfusion (show false=true from p)
 | .bytearray _,_,_,p,_=>Bool.noConfusion (show false=true from p)
 | .set _,_,_,p,_=>Bool.noConfusion (show false=true from p)
 | .frozenset _,_,_,p,_=>Bool.noConfusion (show false=true from p)
 | .obj _ _,_,_,p,_=>Bool.noConfusion (show false=true from p)
theorem area_all: ∀(ds:List WData) (vs:List Value),WellAll P h vs ds->plWs ds=true->(∀d∈ds,d.weight<=1048576)-> ∃A:List Addr,(∀u∈vs,OkU A u)/\ ∀a∈A,ArgOb h A a
 |[],_,x,_,_=>by
  cases x
  exact⟨[],fun u m=>absurd m (by simp),fun a m=>absurd m (by simp)⟩
 |d::ds,_,x,p,z=>by
  obtain⟨v,vs,rfl,x1,x2⟩:=well_cons x
  have q:plW d=true/\plWs ds=true:=Bool.and_eq_true_iff.mp p
  obtain⟨A,a1,a2⟩:=area_one d v x1 q.1 (z d (List.mem_cons_self ..))
  obtain⟨B,b1,b2⟩:=area_all ds vs x2 q.2 fun e he=>z e (List.mem_cons_of_mem _ he)
  have kA: ∀b∈A,b∈A++B:=fun b hb=>List.mem_append.mpr (.inl hb)
  have kB: ∀b∈B,b∈A++B:=fun b hb=>List.mem_append.mpr (.inr hb)
  refine⟨A++B,fun u hu=>?_,fun b hb=>?_⟩
  ·rcases List.mem_cons.mp hu with e|m
   ·rw[e]
    exact a1.mono kA
   ·exact(b1 u m).mono kB
  ·rcases List.mem_append.mp hb with m|m
   ·exact(a2 b m).mono kA
   ·exact(b2 b m).mono kB
end
end
def hoOf (o:Obj):Option HO:=match o.data with
 | .seq vs _=>if(o.cls == Value.type "list")=true then some (.frz o (.lst (vs.toList.map toV))) else some (.frz o (.tup (vs.toList.map toV)))
 |_=>none
def argH (K:PySem.W.Frag) (h:Heap) (A:List Addr):Hp:=fun b=>if b∈A then(if(K.lookup b).isNone=true then(h.get? b).bind hoOf else none) else none
def OnlyF (H:Hp):Prop:= ∀b,H b=none\/ ∃o u,H b=some (.frz o u)
theorem hoOf_lst (vs:List Value):hoOf { cls:= .type "list",data:= .seq vs.toArray } =some (.frz { cls:= .type "list",data:= .seq vs.toArray } (.lst (vs.map toV))):=by
 show(if(Value.type "list" == Value.type "list")=true then some (HO.frz { cls:= .type "list",data:= .seq vs.toArray } (.lst (vs.toArray.toList.map toV))) else some (HO.frz { cls:= .type "list",data:= .seq vs.toArray } (.tup (vs.toArray.toList.map toV))))=_
 rw[if_pos (beq_self_eq_true _)]
theorem hoOf_tup (vs:List Value):hoOf { cls:= .type "tuple",data:= .seq vs.toArray } =some (.frz { cls:= .type "tuple",data:= .seq vs.toArray } (.tup (vs.map toV))):=by
 show(if(Value.type "tuple" == Value.type "list")=true then some (HO.frz { cls:= .type "tuple",data:= .seq vs.toArray } (.lst (vs.toArray.toList.map toV))) else some (HO.frz { cls:= .type "tuple",data:= .seq vs.toArray } (.tup (vs.toArray.toList.map toV))))=_
 rw[if_neg (by decide)]
section
variable {P:Program} {w:World} {K:PySem.W.Frag} {h:Heap} {A:List Addr}
theorem argH_at {b:Addr} {o:Obj} (hb:b∈A) (hk:K.lookup b=none) (e:h.get? b=some o):argH K h A b=hoOf o:=by
 unfold argH
 rw[if_pos hb,hk,if_pos (show(none:Option Obj).isNone=true from rfl),e]<;>rfl
theorem of_argH {b:Addr} {u:HO} (q:argH K h A b=some u):b∈A/\K.lookup b=none:=by
 unfold argH at q
 by_cases hb:b∈A
 ·rw[if_pos hb] at q
  cases hk:K.lookup b with
  |none=>exact⟨hb,rfl⟩
  |some o=>
   rw[hk,if_neg (by simp)] at q
   cases q
 ·rw[if_neg hb] at q
  cases q
theorem argH_is (ar: ∀a∈A,ArgOb h A a) {b:Addr} {u:HO} (q:argH K h A b=some u):K.lookup b=none/\ ∃vs:List Value,vs.length<=sizeLine/\(∀u∈vs,OkU A u)/\
  ((h.get? b=some { cls:= .type "list",data:= .seq vs.toArray } /\u= .frz { cls:= .type "list",data:= .seq vs.toArray } (.lst (vs.map toV)))\/
    (h.get? b=some { cls:= .type "tuple",data:= .seq vs.toArray } /\u= .frz { cls:= .type "tuple",data:= .seq vs.toArray } (.tup (vs.map toV)))):=by
 obtain⟨hb,hk⟩:=of_argH q
 obtain⟨vs,h1,h2,h3⟩:=ar b hb
 refine⟨hk,vs,h1,h2,?_⟩
 rcases h3 with e|e
 ·rw[argH_at hb hk e,hoOf_lst] at q
  exact .inl ⟨e,(Option.some.inj q).symm⟩
 ·rw[argH_at hb hk e,hoOf_tup] at q
  exact .inr ⟨e,(Option.some.inj q).symm⟩
theorem argH_only (ar: ∀a∈A,ArgOb h A a):OnlyF (argH K h A):=fun b=>by
 cases q:argH K h A b with
 |none=>exact .inl rfl
 |some u=>
  obtain⟨_,vs,_,_,⟨_,e⟩|⟨_,e⟩⟩:=argH_is ar q
  ·exact .inr ⟨_,_,by rw[e]⟩
  ·exact .inr ⟨_,_,by rw[e]⟩
theorem argH_ok (ar: ∀a∈A,ArgOb h A a):HOk P w (argH K h A) h:=fun b u q=>by
 obtain⟨_,vs,h1,h2,⟨e,rfl⟩|⟨e,rfl⟩⟩:=argH_is ar q
 ·exact⟨e,by rw[List.length_map];exact h1,vs,_,j0i_ h2,e⟩
 ·exact⟨e,by rw[List.length_map];exact h1,vs,j0i_ h2,_,e,rfl,_,rfl⟩
theorem seq_inj {c c':Value} {vs us:List Value} (e:(some { cls:=c,data:= .seq vs.toArray } :Option Obj)=some { cls:=c',data:= .seq us.toArray }):c=c'/\vs=us:=by
 have e1:=Option.some.inj e
 have e2:c=c':=congrArg Obj.cls e1
 have e3:Data.seq vs.toArray=Data.seq us.toArray:=congrArg Obj.data e1
 injection e3 with e4
 refine⟨e2,?_⟩
 have e5:=congrArg Array.toList e4
 simpa using e5
theorem argL (KX:K.In h) (ar: ∀a∈A,ArgOb h A a) {a:Addr} {vs:List Value} (ha:a∈A) (e:h.get? a=some { cls:= .type "list",data:= .seq vs.toArray }):(∀u∈vs,OkU A u)/\SqL K (argH K h A) a (vs.map toV):=by
 obtain⟨us,h1,h2,h3⟩:=ar a ha
 have hu:us=vs:=by
  rcases h3 with q|q
  ·rw[e] at q
   exact(seq_inj q).2.symm
  ·rw[e] at q
   exact absurd (Value.type.inj (seq_inj q).1) (by decide)
 subst hu
 refine⟨h2,?_⟩
 cases hk:K.lookup a with
 |none=>exact .inl (.inr ⟨_,by rw[argH_at ha hk e,hoOf_lst]⟩)
 |some o=>
  have e2:=KX a o hk
  rw[e] at e2
  obtain rfl:=Option.some.inj e2
  exact .inr ⟨_,us.toArray,_,hk,rfl,rfl,rfl,by rw[List.size_toArray];exact h1,by simpa using j0i_ h2⟩
theorem argT (KX:K.In h) (ar: ∀a∈A,ArgOb h A a) {a:Addr} {vs:List Value} (ha:a∈A) (e:h.get? a=some { cls:= .type "tuple",data:= .seq vs.toArray }):(∀u∈vs,OkU A u)/\SqT K (argH K h A) a (vs.map toV):=by
 obtain⟨us,h1,h2,h3⟩:=ar a ha
 have hu:us=vs:=by
  rcases h3 with q|q
  ·rw[e] at q
   exact absurd (Value.type.inj (seq_inj q).1) (by decide)
  ·rw[e] at q
   exact(seq_inj q).2.symm
 subst hu
 refine⟨h2,?_⟩
 cases hk:K.lookup a with
 |none=>exact .inl (.inr ⟨_,by rw[argH_at ha hk e,hoOf_tup]⟩)
 |some o=>
  have e2:=KX a o hk
  rw[e] at e2
  obtain rfl:=Option.some.inj e2
  exact .inr ⟨_,us.toArray,_,hk,rfl,rfl,by rw[List.size_toArray];exact h1,by simpa using j0i_ h2⟩
mutual
theorem dw_one {Pm:Params} (KX:K.In h) (ar: ∀a∈A,ArgOb h A a): ∀(d:WData) (v:Value),Well Pm h v d->plW d=true->OkU A v->Dw K (argH K h A) (toV v) d
 | .none,_,x,_,_=>by
  cases x
  exact .non
 | .bool b,_,x,_,_=>by
  cases x
  exact .bl b
 | .int i,_,x,_,_=>by
  cases x
  exact .int i
 | .str s,_,x,_,_=>by
  cases x
  exact .str s
 | .bytes b,_,x,_,_=>by
  cases x
  have z:=Dw.byt (K:=K) (H:=argH K h A) b.toArray
  exact z
 | .list ds,_,x,p,hu=>by
  obtain⟨a,vs,rfl,ho,hall⟩:=well_list x
  obtain⟨h2,hs⟩:=argL KX ar hu ho
  exact .lst hs (dw_all KX ar ds _ hall p h2)
 | .tuple ds,_,x,p,hu=>by
  obtain⟨a,vs,rfl,ho,hall⟩:=well_tuple x
  obtain⟨h2,hs⟩:=argT KX ar hu ho
  exact .tup hs (dw_all KX ar ds _ hall p h2)
 | .float _,_,_,p,_=>Bool.noConfusion (show false=true from p)
 | .dict _,_,_,p,_=>Bool.noConfusion (show false=true from p)
 | .bytearray _,_,_,p,_=>Bool.noConfusion (show false=true from p)
 | .set _,_,_,p,_=>Bool.noConfusion (show false=true from p)
 | .frozenset _,_,_,p,_=>Bool.noConfusion (show false=true from p)
 | .obj _ _,_,_,p,_=>Bool.noConfusion (show false=true from p)
theorem dw_all {Pm:Params} (KX:K.In h) (ar: ∀a∈A,ArgOb h A a): ∀(ds:List WData) (vs:List Value),WellAll Pm h vs ds->plWs ds=true->(∀u∈vs,OkU A u)->DwAll K (argH K h A) (vs.map toV) ds
 |[],_,x,_,_=>by
  cases x
  exact .nil
 |d::ds,_,x,p,hu=>by
  obtain⟨v,vs,rfl,x1,x2⟩:=well_cons x
  have q:plW d=true/\plWs ds=true:=Bool.and_eq_true_iff.mp p
  exact .cons (dw_one KX ar d v x1 q.1 (hu _ (List.mem_cons_self ..))) (dw_all KX ar ds vs x2 q.2 fun u m=>hu u (List.mem_cons_of_mem _ m))
end
end
theorem spec_call {P:Program} {w:World} {K:PySem.W.Frag} {mg mb:Str->Option Value} {CX:CXT} {k:Nat} {fa:Addr} {fd:FuncData} {ps:List Str} {sp:Sp} {s₁:Shared} {vals:List Value} {ds:List WData} {R:PySem.W.WRecords} {cl:Str->Option Addr} {d0:WData}
  (KX:K.In s₁.heap) (hns:s₁.heap.Ns mainGlobals mg) (hb:s₁.heap.Ns builtinsNs mb) (hbb: ∀x:Str,x≠"__name__"->mb x=bootBuiltins x) (hlim:s₁.heap.NoLimit) (hg:s₁.gens= #[])
  (hwl:WellAll w.params s₁.heap vals ds) (hpl:plWs ds=true) (hwt: ∀d∈ds,d.weight<=1048576) (hr:j15_ k callerA)
  (F: ∀base:Heap,K.In base->base.Ns mainGlobals mg->ju_ P w K mg base CX k fa fd ps sp) (hbind: ∀(s:Shared) (us:List Value),us.length=ps.length->BindsTo s fd ⟨us,[]⟩ (ps.zip us)) (hlen:ds.length=ps.length)
  (hsp: ∀(H:Hp) (xs:List V),OnlyF H->DwAll K H xs ds->sp xs H (fun v H'=>Dw K H' v d0) fun _ _ _=>False)
  (hCX: ∀H e s',CX [] H s₁ (fun _ _ _=>False) e s'->False):
  codeAny (model P w) callerA (.call (.ref fa) ⟨vals,[]⟩) (fun r s'=> ∃u as,r= .ok (.ret u)/\ReadsW R cl s'.heap u d0 as/\OldK s₁.heap s'.heap/\s'.os=s₁.os/\AllBare s'.gens) s₁:=by
 obtain⟨A,ho,ar⟩:=area_all ds vals hwl hpl hwt
 have hO:OnlyF (argH K s₁.heap A):=argH_only ar
 have hok:HOk P w (argH K s₁.heap A) s₁.heap:=argH_ok ar
 have hS:=dw_all KX ar ds vals hwl hpl ho
 have hV:=j0i_ ho
 have hK: ∀b u,argH K s₁.heap A b=some u->K.lookup b=none:=fun b u q=>(argH_is ar q).1
 have noA: ∀ {b:Addr} {o:Obj} {es:Array DictEntry} {ep:Nat},s₁.heap.get? b=some o->o.data= .dict es ep->argH K s₁.heap A b=none:=fun {b o es ep} e d=>by
  cases q:argH K s₁.heap A b with
  |none=>rfl
  |some u=>
   obtain⟨_,vs,_,_,⟨e2,_⟩|⟨e2,_⟩⟩:=argH_is ar q
   ·rw[e2] at e
    cases e
    have d':Data.seq vs.toArray _=Data.dict es ep:=d
    cases d'
   ·rw[e2] at e
    cases e
    have d':Data.seq vs.toArray _=Data.dict es ep:=d
    cases d'
 generalize argH K s₁.heap A=H at hO hok hS hK noA
 have base_of: ∀ {b:Addr} {o:Obj},s₁.heap.get? b=some o->H b=none->(hidT s₁.heap H).get? b=some o:=fun e n=>hidT_get e n
 have nsK: ∀ {b:Addr} {m:Str->Option Value},s₁.heap.Ns b m->(hidT s₁.heap H).Ns b m:=fun {b m} ⟨o,es,ep,e,d,r⟩=>⟨o,es,ep,base_of e (noA e d),d,r⟩
 have nK: ∀b o,K.lookup b=some o->H b=none:=fun b o e=>by
  cases q:H b with
  |none=>rfl
  |some u=>
   rw[hK b u q] at e
   cases e
 have hKb:K.In (hidT s₁.heap H):=fun b o e=>base_of (KX b o e) (nK b o e)
 have hM:Mod K mg (hidT s₁.heap H):=⟨hKb,nsK hns,⟨mb,nsK hb,hbb⟩,let ⟨mc,h1,h2⟩:=hlim;⟨mc,nsK h1,h2⟩⟩
 have e0:Env0 P w K mg (hidT s₁.heap H) callerA [] s₁ H:=⟨rfl,hM,fun b o e=>of_hidT e,Nat.le_of_eq (hidT_size _ _),trivial,fun b hb=>absurd (show b∈([]:List Addr) from hb) (by simp),hok, .of_eq hg⟩
 have hl:vals.length=ps.length:=by rw[wz_ hwl];exact hlen
 refine codeAny_mono ((F _ hKb (nsK hns)).run callerA [] s₁ H ⟨vals,[]⟩ vals (vals.map toV) _ _ hr e0 (hbind s₁ vals hl) hV (hsp H _ hO hS)) fun r s' x=>?_
 cases r with
 |error e=>exact(hCX H e s' x).elim
 |ok fl=>
  cases fl with
  |next=>exact False.elim x
  |brk=>exact False.elim x
  |cont=>exact False.elim x
  |ret u=>
   obtain⟨v,H',os,bare,un,hok',r',q⟩:=x
   have kept: ∀b o,s₁.heap.get? b=some o->s'.heap.get? b=some o:=fun b o e=>by
    cases q2:H b with
    |none=>exact un.keep b o e q2 (by intro z;exact absurd (show b∈([]:List Addr) from z) (by simp)) (by simp)
    |some u2=>
     rcases hO b with z|⟨ob,u3,z⟩
     ·rw[q2] at z
      cases z
     ·have z2:=un.frzs b ob _ z
      obtain⟨e1,_⟩:=hok b _ z
      obtain⟨e2,_⟩:=hok' b _ z2
      rw[e] at e1
      cases e1
      exact e2
   have KX':K.In s'.heap:=fun b o e=>kept b o (KX b o e)
   obtain⟨as,hrd⟩:=Dw.reads (R:=R) (cl:=cl) hok' KX' d0 v u q r'
   exact⟨u,as,rfl,hrd,OldK.of_keep kept,os,bare⟩
theorem layable_weight {ds:List WData} (h:WData.layableAll ds=true): ∀d∈ds,d.weight<=1048576:=fun d hd=>
 (PySem.W.layableW_iff.mp (List.all_eq_true.mp h d hd)).2.2
theorem encAll_len: ∀(cs:List Codec) (a:Codec.denoteAll cs),(Codec.encAll cs a).length=cs.length
 |[],_=>rfl
 |c::cs,a=>by
  show(Codec.encAll cs a.2).length+1=cs.length+1
  rw[encAll_len cs a.2]
theorem walk_spec {r:OpenSpec} {k:Nat} {q:Program} {loose:List Str} {XP:(Str->Option Value)->Heap->Prop} {YP:World->Heap->Prop} {d:DefRec} {K:Params->PySem.W.Frag} {CX:World->CXT} {ps:List Str} {sp:World->Sp}
  (hwell:r.wellSaid=true) (hdf:d.params.defaults=[]) (hlen:r.args.length=ps.length) (hr:j15_ k callerA)
  (hY: ∀(w:World) (h:Heap),YP w h->(K w.params).In h)
  (F: ∀(w:World) (mg:Str->Option Value) (fa:Addr) (h:Heap),YP w h->(K w.params).In h->h.Ns mainGlobals mg->mg d.name=some (.ref fa)->
   ∃fd:FuncData,(∀(s:Shared) (us:List Value),us.length=ps.length->BindsTo s fd ⟨us,[]⟩ (ps.zip us))/\
    ∀base:Heap,(K w.params).In base->base.Ns mainGlobals mg->ju_ r.prog w (K w.params) mg base (CX w) k fa fd ps (sp w))
  (hsp: ∀(w:World) (H:Hp) (xs:List V) (a:Codec.denoteAll r.args),OnlyF H->Codec.withinAll r.args a=true->Codec.app r.args r.asked a=true->DwAll (K w.params) H xs (Codec.encAll r.args a)->
   sp w xs H (fun v H'=>Dw (K w.params) H' v (r.ret.enc (Codec.app r.args r.f a))) fun _ _ _=>False)
  (hCX: ∀(w:World) (H:Hp) (s:Shared) (e:Value) (s':Shared),CX w [] H s (fun _ _ _=>False) e s'->False):
  PySem.W.WalkOS q loose XP YP r d [] (fun f vs=>PySem.call f vs):=by
 intro w s_0 s₁ mg mb G Y fa o pm cd doc dV kV ho hd hcd hD hmg hg args vals as hpre hlay hrd hwl hlo
 obtain⟨a,e1,e2⟩:=PySem.W.os_pre_some hpre
 obtain⟨e3,hwi⟩:=Codec.encAll_of_decAll r.args args a e1
 subst e3
 have KX:=hY w _ Y
 obtain⟨fd,hb,hF⟩:=F w mg fa _ Y KX G.T.g hmg
 refine PySem.W.enter_call (codeAny_mono (spec_call (R:=[]) (cl:=classAt s_0.heap) (d0:=r.ret.enc (Codec.app r.args r.f a)) KX G.T.g G.T.b G.T.builtins G.T.nolimit hg hwl (pl_encAll _ _) (layable_weight hlay) hr hF hb (by rw[encAll_len];exact hlen)
  (fun H xs hO hS=>hsp w H xs a hO hwi e2 hS) fun H e s'=>hCX w H s₁ e s') fun r' s' hq=>?_)
 obtain⟨u,as',rfl,h1,h2,h3,h4⟩:=hq
 exact⟨.inl ⟨u,_,as',rfl,fun _=>rfl,h1,(OpenSpec.post_iff hwell hwi _ _).mpr rfl,fun z=>Bool.noConfusion (show false=true from z)⟩,h2,h3,h4⟩
theorem walk_specK {r:OpenSpec} {k:Nat} {q:Program} {loose:List Str} {XP:(Str->Option Value)->Heap->Prop} {YP:World->Heap->Prop} {d:DefRec} {K:Params->PySem.W.Frag} {CX:CXT} {ps:List Str} {sp:PySem.W.Frag->Sp}
  (hwell:r.wellSaid=true) (hdf:d.params.defaults=[]) (hlen:r.args.length=ps.length) (hr:j15_ k callerA)
  (hY: ∀(w:World) (h:Heap),YP w h->(K w.params).In h)
  (F: ∀(w:World) (mg:Str->Option Value) (fa:Addr) (h:Heap),YP w h->(K w.params).In h->h.Ns mainGlobals mg->mg d.name=some (.ref fa)->
   ∃fd:FuncData,(∀(s:Shared) (us:List Value),us.length=ps.length->BindsTo s fd ⟨us,[]⟩ (ps.zip us))/\
    ∀base:Heap,(K w.params).In base->base.Ns mainGlobals mg->ju_ r.prog w (K w.params) mg base CX k fa fd ps (sp (K w.params)))
  (hsp: ∀(K:PySem.W.Frag) (H:Hp) (xs:List V) (a:Codec.denoteAll r.args),OnlyF H->Codec.withinAll r.args a=true->Codec.app r.args r.asked a=true->DwAll K H xs (Codec.encAll r.args a)->
   sp K xs H (fun v H'=>Dw K H' v (r.ret.enc (Codec.app r.args r.f a))) fun _ _ _=>False)
  (hCX: ∀(H:Hp) (s:Shared) (e:Value) (s':Shared),CX [] H s (fun _ _ _=>False) e s'->False):
  PySem.W.WalkOS q loose XP YP r d [] (fun f vs=>PySem.call f vs):=
 walk_spec (K:=K) (CX:=fun _=>CX) (sp:=fun w=>sp (K w.params)) hwell hdf hlen hr hY F (fun w H xs a h1 h2 h3 h4=>hsp (K w.params) H xs a h1 h2 h3 h4) fun _ H s e s'=>hCX H s e s'
end L2
end
set_option Elab.async false
set_option linter.all false
set_option maxRecDepth 100000
set_option maxHeartbeats 4000000
namespace OS
open Vbemac
def vv_ (c:UInt8):Bool:=letter c||digit c
def j05_ (c:UInt8):Bool:=c !=10
def yi_ (p:UInt8->Bool) (bs:Bytes) (i:Nat):Nat:=i+((bs.drop i).takeWhile p).length
theorem wd_ {bs:Bytes} {i:Nat} {c:UInt8} (h:bs[i]?=some c):bs.drop i=c::bs.drop (i+1):=by
 obtain⟨hi,e⟩:=List.getElem?_eq_some_iff.mp h
 rw[List.drop_eq_getElem_cons hi,e]
theorem endAt_go {p:UInt8->Bool} {bs:Bytes} {i:Nat} {c:UInt8} (h:bs[i]?=some c) (hp:p c=true):yi_ p bs i=yi_ p bs (i+1):=by
 unfold yi_
 rw[wd_ h,List.takeWhile_cons,if_pos hp,List.length_cons]
 omega
theorem endAt_no {p:UInt8->Bool} {bs:Bytes} {i:Nat} {c:UInt8} (h:bs[i]?=some c) (hp:p c=false):yi_ p bs i=i:=by
 unfold yi_
 rw[wd_ h,List.takeWhile_cons,if_neg (by rw[hp];exact Bool.false_ne_true)]
 rfl
theorem endAt_out {p:UInt8->Bool} {bs:Bytes} {i:Nat} (h:bs.length<=i):yi_ p bs i=i:=by
 unfold yi_
 rw[List.drop_eq_nil_of_le h]
 rfl
theorem endAt_le {p:UInt8->Bool} {bs:Bytes} {i:Nat} (h:i<=bs.length):yi_ p bs i<=bs.length:=by
 unfold yi_
 have:=(List.takeWhile_sublist p (l:=bs.drop i)).length_le
 rw[List.length_drop] at this
 omega
def ui_ (bs:Bytes) (i j:Nat):Bytes:=(bs.drop i).take (j-i)
theorem tw_take {p:UInt8->Bool} : ∀l:Bytes,l.takeWhile p=l.take (l.takeWhile p).length
 |[]=>rfl
 |a::l=>by
  rw[List.takeWhile_cons]
  split
  ·rw[List.length_cons,List.take_succ_cons,<-tw_take l]
  ·rfl
theorem tw_part (p:UInt8->Bool) (bs:Bytes) (i:Nat):(bs.drop i).takeWhile p=ui_ bs i (yi_ p bs i):=by
 unfold ui_ yi_
 rw[Nat.add_sub_cancel_left]
 exact tw_take _
theorem drop_end (p:UInt8->Bool) (bs:Bytes) (i:Nat):(bs.drop i).drop ((bs.drop i).takeWhile p).length=bs.drop (yi_ p bs i):=by
 rw[List.drop_drop]
 rfl
theorem j0y_: ∀(w:Bytes) (p:Pos),(∀c∈w,c≠10)->moved p w=(p.1,p.2+w.length)
 |[],p,_=>rfl
 |c::w,p,h=>by
  show moved (advance p c) w=_
  rw[j0y_ w _ fun d hd=>h d (List.mem_cons_of_mem _ hd)]
  unfold advance
  rw[if_neg (h c List.mem_cons_self),List.length_cons]
  show(p.1,p.2+1+w.length)=_
  rw[Nat.add_assoc,Nat.add_comm 1]
theorem tw_all {p:UInt8->Bool} : ∀(l:Bytes),∀c∈l.takeWhile p,p c=true
 |[],c,h=>nomatch h
 |a::l,c,h=>by
  rw[List.takeWhile_cons] at h
  split at h
  ·rename_i q
   rcases List.mem_cons.mp h with e|h
   ·rw[e];exact q
   ·exact tw_all l c h
  ·exact nomatch h
theorem moved_tw {p:UInt8->Bool} (hp:p 10=false) (bs:Bytes) (i:Nat) (q:Pos):moved q ((bs.drop i).takeWhile p)=(q.1,q.2+(yi_ p bs i-i)):=by
 rw[j0y_ _ _ fun c hc e=>by
  have:=tw_all _ c hc
  rw[e,hp] at this
  cases this]
 unfold yi_
 rw[Nat.add_sub_cancel_left]
section
variable {bs:Bytes} {i k:Nat} {c:UInt8} {q:Pos}
theorem lex_blank (h:bs[i]?=some c) (hb:blank c=true):lex (k+1) q (bs.drop i)=lex k (advance q c) (bs.drop (i+1)):=by
 rw[wd_ h,lex,if_pos hb]
theorem j0x_ (h:bs[i]?=some c) (hb:blank c=false) (h35:c=35):
  lex (k+1) q (bs.drop i)=lex k (q.1,q.2+(yi_ j05_ bs i-i)) (bs.drop (yi_ j05_ bs i)):=by
 have e:=wd_ h
 have m:=moved_tw (p:=j05_) rfl bs i q
 have d:=drop_end j05_ bs i
 rw[e] at m d
 rw[e,lex,if_neg (by rw[hb];exact Bool.false_ne_true),if_pos h35]
 show lex k (moved q ((c::bs.drop (i+1)).takeWhile j05_)) ((c::bs.drop (i+1)).drop ((c::bs.drop (i+1)).takeWhile j05_).length)=_
 rw[m,d]
theorem lex_word (h:bs[i]?=some c) (hb:blank c=false) (h35: ¬c=35) (hl:letter c=true):
  lex (k+1) q (bs.drop i)=if 24<yi_ vv_ bs i-i then [(.bad,q)] else(.word (ui_ bs i (yi_ vv_ bs i)),q)::lex k (q.1,q.2+(yi_ vv_ bs i-i)) (bs.drop (yi_ vv_ bs i)):=by
 have e:=wd_ h
 have m:=moved_tw (p:=vv_) (by decide) bs i q
 have d:=drop_end vv_ bs i
 have t:=tw_part vv_ bs i
 have n:((bs.drop i).takeWhile vv_).length=yi_ vv_ bs i-i:=by unfold yi_;rw[Nat.add_sub_cancel_left]
 rw[e] at m d t n
 rw[e,lex,if_neg (by rw[hb];exact Bool.false_ne_true),if_neg h35,if_pos hl]
 show(if 24<((c::bs.drop (i+1)).takeWhile vv_).length then _ else(Tok.word ((c::bs.drop (i+1)).takeWhile vv_),q)::lex k (moved q ((c::bs.drop (i+1)).takeWhile vv_)) ((c::bs.drop (i+1)).drop ((c::bs.drop (i+1)).takeWhile vv_).length))=_
 rw[m,d,n,t]
def glued (bs:Bytes) (j:Nat):Bool:=(bs[j]?).any letter
theorem head_drop (bs:Bytes) (j:Nat):(bs.drop j).head?=bs[j]?:=List.head?_drop
theorem lex_num (h:bs[i]?=some c) (hb:blank c=false) (h35: ¬c=35) (hl:letter c=false) (hd:digit c=true):
  lex (k+1) q (bs.drop i)=if 18<yi_ digit bs i-i\/glued bs (yi_ digit bs i)=true then [(.bad,q)] else(.num (valueOf (ui_ bs i (yi_ digit bs i))),q)::lex k (q.1,q.2+(yi_ digit bs i-i)) (bs.drop (yi_ digit bs i)):=by
 have e:=wd_ h
 have m:=moved_tw (p:=digit) (by decide) bs i q
 have d:=drop_end digit bs i
 have t:=tw_part digit bs i
 have n:((bs.drop i).takeWhile digit).length=yi_ digit bs i-i:=by unfold yi_;rw[Nat.add_sub_cancel_left]
 rw[e] at m d t n
 rw[e,lex,if_neg (by rw[hb];exact Bool.false_ne_true),if_neg h35,if_neg (by rw[hl];exact Bool.false_ne_true),if_pos hd]
 show(if 18<((c::bs.drop (i+1)).takeWhile digit).length\/((((c::bs.drop (i+1)).drop ((c::bs.drop (i+1)).takeWhile digit).length).head?).any letter)=true then _
  else(Tok.num (valueOf ((c::bs.drop (i+1)).takeWhile digit)),q)::lex k (moved q ((c::bs.drop (i+1)).takeWhile digit)) ((c::bs.drop (i+1)).drop ((c::bs.drop (i+1)).takeWhile digit).length))=_
 rw[m,d,n,t,head_drop]
 rfl
theorem find_len {n:Nat} {x:Bytes} : ∀(L:List Bytes),(∀s∈L,s.length=n)->L.find? (fun s=>x.take s.length == s)=if x.take n∈L then some (x.take n) else none
 |[],_=>by simp
 |a::L,h=>by
  have ha:=h a List.mem_cons_self
  have ih:=find_len (n:=n) (x:=x) L fun s hs=>h s (List.mem_cons_of_mem _ hs)
  rw[List.find?_cons,ha]
  by_cases e:x.take n=a
  ·rw[show(x.take n == a)=true from by rw[e];exact beq_self_eq_true a,if_pos (by rw[e];exact List.mem_cons_self),e]
  ·rw[show(x.take n == a)=false from beq_eq_false_iff_ne.mpr e]
   show L.find? _=_
   rw[ih]
   by_cases m:x.take n∈L
   ·rw[if_pos m,if_pos (List.mem_cons_of_mem _ m)]
   ·rw[if_neg m,if_neg (fun z=>(List.mem_cons.mp z).elim e m)]
def TWOS:List Bytes:=SIGNS.take 7
def ONES:List Bytes:=SIGNS.drop 7
theorem wv_:SIGNS=TWOS++ONES:=(List.take_append_drop 7 SIGNS).symm
theorem j1g_: ∀s∈TWOS,s.length=2:=by decide
theorem ones_len: ∀s∈ONES,s.length=1:=by decide
theorem signs_no10: ∀s∈SIGNS,∀d∈s,d≠10:=by decide
def ye_ (bs:Bytes) (i:Nat):Nat:=if ui_ bs i (i+2)∈SIGNS then i+(ui_ bs i (i+2)).length else i+1
theorem j08_ (x:Bytes):x∈SIGNS ↔ x∈TWOS\/x∈ONES:=by rw[wv_];exact List.mem_append
theorem find_sign (h:bs[i]?=some c):(SIGNS.find? fun s=>(bs.drop i).take s.length == s)=if ui_ bs i (ye_ bs i)∈SIGNS then some (ui_ bs i (ye_ bs i)) else none:=by
 have e2:(bs.drop i).take 2=ui_ bs i (i+2):=by unfold ui_;rw[Nat.add_sub_cancel_left]
 have e1:(bs.drop i).take 1=ui_ bs i (i+1):=by unfold ui_;rw[Nat.add_sub_cancel_left]
 have l1:(ui_ bs i (i+1)).length=1:=by rw[<-e1,wd_ h];rfl
 rw[wv_,List.find?_append,find_len TWOS j1g_,find_len ONES ones_len,e2,e1]
 by_cases m2:ui_ bs i (i+2)∈TWOS
 ·have n2:=j1g_ _ m2
  have s2:ui_ bs i (i+2)∈SIGNS:=(j08_ _).mpr (.inl m2)
  have se:ye_ bs i=i+2:=by unfold ye_;rw[if_pos s2,n2]
  rw[if_pos m2,se,<-wv_,if_pos s2]
  rfl
 ·have se:ye_ bs i=i+1:=by
   unfold ye_
   by_cases s2:ui_ bs i (i+2)∈SIGNS
   ·rw[if_pos s2,ones_len _ (((j08_ _).mp s2).resolve_left m2)]
   ·rw[if_neg s2]
  have n1: ¬ui_ bs i (i+1)∈TWOS:=fun z=>by
   have:=j1g_ _ z
   omega
  rw[if_neg m2,se,<-wv_,Option.none_or]
  by_cases m1:ui_ bs i (i+1)∈ONES
  ·rw[if_pos m1,if_pos ((j08_ _).mpr (.inr m1))]
  ·rw[if_neg m1,if_neg fun z=>((j08_ _).mp z).elim n1 m1]
theorem part_len_sign (h:bs[i]?=some c) (m:ui_ bs i (ye_ bs i)∈SIGNS):(ui_ bs i (ye_ bs i)).length=ye_ bs i-i:=by
 have e1:(ui_ bs i (i+1)).length=1:=by unfold ui_;rw[Nat.add_sub_cancel_left,wd_ h];rfl
 unfold ye_ at m ⊢
 split
 ·rename_i s2
  rw[if_pos s2] at m
  rcases(j08_ _).mp s2 with z|z
  ·rw[j1g_ _ z,j1g_ _ z];omega
  ·rw[ones_len _ z,e1];omega
 ·rw[e1];omega
theorem lex_sign (h:bs[i]?=some c) (hb:blank c=false) (h35: ¬c=35) (hl:letter c=false) (hd:digit c=false):
  lex (k+1) q (bs.drop i)=if ui_ bs i (ye_ bs i)∈SIGNS then(.sign (ui_ bs i (ye_ bs i)),q)::lex k (q.1,q.2+(ye_ bs i-i)) (bs.drop (ye_ bs i)) else [(.bad,q)]:=by
 have f:=find_sign h
 have e:=wd_ h
 have hle:i<=ye_ bs i:=by unfold ye_;split<;>omega
 have dd: ∀n,(bs.drop i).drop n=bs.drop (i+n):=fun n=>List.drop_drop
 rw[e] at f
 rw[e,lex,if_neg (by rw[hb];exact Bool.false_ne_true),if_neg h35,if_neg (by rw[hl];exact Bool.false_ne_true),if_neg (by rw[hd];exact Bool.false_ne_true),f]
 by_cases m:ui_ bs i (ye_ bs i)∈SIGNS
 ·rw[if_pos m,if_pos m]
  show _::lex k (moved q (ui_ bs i (ye_ bs i))) ((c::bs.drop (i+1)).drop (ui_ bs i (ye_ bs i)).length)=_
  rw[j0y_ _ _ (signs_no10 _ m),part_len_sign h m,<-e,dd,show i+(ye_ bs i-i)=ye_ bs i by omega]
 ·rw[if_neg m,if_neg m]
theorem lex_end (h:bs.length<=i):lex (k+1) q (bs.drop i)=[(.eof,q)]:=by
 rw[List.drop_eq_nil_of_le h,lex]
end
end OS
namespace OS
open Vbemac
def W {α:Type} (p:P α) (t:Toks) (Qo:α->Toks->Prop) (Qe:Nat->Pos->Prop):Prop:=match p t with
 | .ok (a,r)=>Qo a r
 | .error e=>Qe e.1 e.2
section
variable {α β:Type} {p:P α} {f:α->P β} {t:Toks} {Qo Qo':α->Toks->Prop} {Qe Qe':Nat->Pos->Prop} {Ro:β->Toks->Prop}
theorem j0n_ {a:α} {r:Toks} (e:p t= .ok (a,r)):W p t Qo Qe=Qo a r:=by unfold W;rw[e]
theorem W_error {e:Fault} (h:p t= .error e):W p t Qo Qe=Qe e.1 e.2:=by unfold W;rw[h]
theorem jj_:W (p>>=f) t Ro Qe=W p t (fun a r=>W (f a) r Ro Qe) Qe:=by
 have e:(p>>=f) t=(match p t with
  | .error x=> .error x
  | .ok (a,r)=>f a r):=by
  show(StateT.bind p f) t=_
  unfold StateT.bind
  show(Except.bind (p t) _)=_
  cases p t with
  |error x=>rfl
  |ok z=>rfl
 unfold W
 rw[e]
 cases h:p t with
 |error x=>rfl
 |ok z=>rfl
theorem W_pure {a:α} :W (pure a:P α) t Qo Qe=Qo a t:=rfl
theorem W_give {a:α} :W (give a:P α) t Qo Qe=Qo a t:=rfl
theorem W_fail {n:Nat} :W (fail n:P α) t Qo Qe=Qe (if peek t= .bad then 1 else n) (place t):=rfl
theorem W.mono (h:W p t Qo Qe) (ho: ∀a r,Qo a r->Qo' a r) (he: ∀n q,Qe n q->Qe' n q):W p t Qo' Qe':=by
 unfold W at h ⊢
 cases e:p t with
 |error x=>rw[e] at h;exact he _ _ h
 |ok z=>rw[e] at h;exact ho _ _ h
end
def yb_ {α:Type} (p:P α):Prop:= ∀t,peek t= .bad->p t= .error (1,place t)
def Resp {α:Type} (p:P α):Prop:= ∀t,peek t= .bad->p t= .error (1,place t)\/ ∃a,p t= .ok (a,t)
theorem yb_.resp {α:Type} {p:P α} (h:yb_ p):Resp p:=fun t e=> .inl (h t e)
section
variable {α β:Type} {p:P α} {f:α->P β} {t:Toks} {Qo:α->Toks->Prop} {Qe:Nat->Pos->Prop} {Ro:β->Toks->Prop}
theorem yb_.bind (h:yb_ p):yb_ (p>>=f):=fun t e=>by
 show(StateT.bind p f) t=_
 unfold StateT.bind
 rw[h t e]
 rfl
theorem Resp.bind (h:Resp p) (k: ∀a,Resp (f a)):Resp (p>>=f):=fun t e=>by
 show(StateT.bind p f) t=_\/ ∃a,(StateT.bind p f) t=_
 unfold StateT.bind
 rcases h t e with z|⟨a,z⟩
 ·rw[z];exact .inl rfl
 ·rw[z];exact k a t e
theorem Resp.strict (h:Resp p) (k: ∀a,yb_ (f a)):yb_ (p>>=f):=fun t e=>by
 show(StateT.bind p f) t=_
 unfold StateT.bind
 rcases h t e with z|⟨a,z⟩
 ·rw[z];rfl
 ·rw[z];exact k a t e
theorem yb_.at_bad (h:yb_ p) (e:peek t= .bad) (w:W p t Qo Qe):Qe 1 (place t):=by
 rw[W_error (h t e)] at w
 exact w
def W2 {α:Type} (p:P α) (t:Toks) (Qo:α->Toks->Prop) (Qe:Nat->Pos->Prop):Prop:=W p t (fun a r=>if peek r= .bad then Qe 1 (place r) else Qo a r) Qe
theorem W2.of (hs: ∀a,yb_ (f a)) (h:W (p>>=f) t Ro Qe):W2 p t (fun a r=>W (f a) r Ro Qe) Qe:=by
 rw[jj_] at h
 refine h.mono (fun a r w=>?_) fun _ _ w=>w
 by_cases e:peek r= .bad
 ·rw[if_pos e];exact(hs a).at_bad e w
 ·rw[if_neg e];exact w
theorem Resp.at_bad (h:Resp p) (e:peek t= .bad) (w:W2 p t Qo Qe):Qe 1 (place t):=by
 unfold W2 at w
 rcases h t e with z|⟨a,z⟩
 ·rw[W_error z] at w;exact w
 ·rw[j0n_ z,if_pos e] at w;exact w
theorem W2_bind:W2 (p>>=f) t Ro Qe=W p t (fun a r=>W2 (f a) r Ro Qe) Qe:=jj_
theorem W2.of2 (hs: ∀a,Resp (f a)) (h:W2 (p>>=f) t Ro Qe):W2 p t (fun a r=>W2 (f a) r Ro Qe) Qe:=by
 rw[W2_bind] at h
 refine h.mono (fun a r w=>?_) fun _ _ w=>w
 by_cases e:peek r= .bad
 ·rw[if_pos e];exact(hs a).at_bad e w
 ·rw[if_neg e];exact w
theorem W2.mono {Qo':α->Toks->Prop} {Qe':Nat->Pos->Prop} (h:W2 p t Qo Qe) (ho: ∀a r,peek r≠ .bad->Qo a r->Qo' a r) (he: ∀n q,Qe n q->Qe' n q):W2 p t Qo' Qe':=by
 unfold W2 at h ⊢
 refine h.mono (fun a r w=>?_) he
 by_cases e:peek r= .bad
 ·rw[if_pos e] at w ⊢; exact he _ _ w
 ·rw[if_neg e] at w ⊢; exact ho _ _ e w
end
theorem vg_ {t:Toks} (e:peek t= .bad) (w:String):isKey t w=false:=by unfold isKey;rw[e];rfl
theorem vo_ {t:Toks} (e:peek t= .bad) (w:String):isSign t w=false:=by unfold isSign;rw[e];rfl
theorem jl_ {α:Type} (n:Nat):yb_ (fail n:P α):=fun t e=>by unfold fail;rw[if_pos e]
theorem vp_ (w:String):yb_ (key w):=fun t e=>by unfold key;rw[vg_ e];exact jl_ 2 t e
theorem jy_ (w:String):yb_ (sign w):=fun t e=>by unfold sign;rw[vo_ e];exact jl_ 2 t e
theorem u7_:yb_ anyName:=fun t e=>by unfold anyName;rw[e];exact jl_ 2 t e
theorem u9_ (K:Known):yb_ (newName K):=fun t e=>by unfold newName;rw[u7_ t e]
theorem blockName_strict (B:Blocks):yb_ (blockName B):=fun t e=>by unfold blockName;rw[u7_ t e]
theorem knownBlock_strict (B:Blocks):yb_ (knownBlock B):=fun t e=>by unfold knownBlock;rw[u7_ t e]
theorem side_strict:yb_ side:=fun t e=>by unfold side;rw[vg_ e,vg_ e];exact jl_ 2 t e
theorem maybeName_strict (B:Blocks):yb_ (maybeName B):=fun t e=>by
 unfold maybeName
 rw[vg_ e,vg_ e,if_neg (by simp),blockName_strict B t e]
theorem pure_resp {α:Type} (a:α):Resp (pure a:P α):=fun t _=> .inr ⟨a,rfl⟩
theorem ifSign_resp (w:String):Resp (ifSign w):=fun t e=>by unfold ifSign;rw[vo_ e];exact .inr ⟨_,rfl⟩
theorem signOf_resp (l:List String):Resp (signOf l):=fun t e=>by unfold signOf;rw[e];exact .inr ⟨_,rfl⟩
theorem wq_ {α:Type} (w:String) (p:P α):Resp (behind w p):=fun t e=>by unfold behind;rw[vg_ e];exact .inr ⟨_,rfl⟩
theorem j0p_ (k d:Nat) (K:Known):yb_ (primary k d K):=fun t e=>by
 cases k with
 |zero=>rw[primary];exact jl_ 6 t e
 |succ k=>rw[primary];simp only[e];exact jl_ 2 t e
theorem unary_strict (k d:Nat) (K:Known):yb_ (unary k d K):=fun t e=>by
 cases k with
 |zero=>rw[unary];exact jl_ 6 t e
 |succ k=>rw[unary];simp only[vo_ e,Bool.false_eq_true,if_false];exact j0p_ k d K t e
theorem times_strict (k d:Nat) (K:Known):yb_ (times k d K):=by
 cases k with
 |zero=>rw[times];exact jl_ 6
 |succ k=>rw[times];exact(unary_strict k d K).bind
theorem added_strict (k d:Nat) (K:Known):yb_ (added k d K):=by
 cases k with
 |zero=>rw[added];exact jl_ 6
 |succ k=>rw[added];exact(times_strict k d K).bind
theorem compared_strict (k d:Nat) (K:Known):yb_ (compared k d K):=by
 cases k with
 |zero=>rw[compared];exact jl_ 6
 |succ k=>rw[compared];exact(added_strict k d K).bind
theorem ands_strict (k d:Nat) (K:Known):yb_ (ands k d K):=by
 cases k with
 |zero=>rw[ands];exact jl_ 6
 |succ k=>rw[ands];exact(compared_strict k d K).bind
theorem expr_strict (k d:Nat) (K:Known):yb_ (expr k d K):=fun t e=>by
 cases k with
 |zero=>rw[expr];exact jl_ 6 t e
 |succ k=>rw[expr];simp only[vg_ e,Bool.false_eq_true,if_false];exact(ands_strict k d K).bind t e
theorem j02_ (k d:Nat) (K:Known) (n:Nat):yb_ (arguments k d K n):=fun t e=>by
 cases k with
 |zero=>rw[arguments];exact jl_ 6 t e
 |succ k=>rw[arguments];simp only[vo_ e,Bool.false_eq_true,if_false];exact(expr_strict k d K).bind t e
theorem j0s_ (k d:Nat) (K:Known):Resp (moreTimes k d K):=by
 cases k with
 |zero=>rw[moreTimes];exact(jl_ 6).resp
 |succ k=>
  rw[moreTimes]
  intro t e
  refine .inr ⟨.nil,?_⟩
  show(StateT.bind _ _) t=_
  unfold StateT.bind signOf
  rw[e]
  rfl
theorem j0r_ (k d:Nat) (K:Known):Resp (moreAdded k d K):=by
 cases k with
 |zero=>rw[moreAdded];exact(jl_ 6).resp
 |succ k=>
  rw[moreAdded]
  intro t e
  refine .inr ⟨.nil,?_⟩
  show(StateT.bind _ _) t=_
  unfold StateT.bind signOf
  rw[e]
  rfl
theorem moreAnd_resp (k d:Nat) (K:Known):Resp (moreAnd k d K):=by
 cases k with
 |zero=>rw[moreAnd];exact(jl_ 6).resp
 |succ k=>
  rw[moreAnd]
  intro t e
  refine .inr ⟨.nil,?_⟩
  show(StateT.bind _ _) t=_
  unfold StateT.bind ifSign
  rw[vo_ e]
  rfl
theorem moreOr_resp (k d:Nat) (K:Known):Resp (moreOr k d K):=by
 cases k with
 |zero=>rw[moreOr];exact(jl_ 6).resp
 |succ k=>
  rw[moreOr]
  intro t e
  refine .inr ⟨.nil,?_⟩
  show(StateT.bind _ _) t=_
  unfold StateT.bind ifSign
  rw[vo_ e]
  rfl
theorem stmt_strict (k d:Nat) (K:Known) (B:Blocks):yb_ (stmt k d K B):=fun t e=>by
 cases k with
 |zero=>rw[stmt];exact jl_ 6 t e
 |succ k=>rw[stmt];simp only[vg_ e,Bool.false_eq_true,if_false];exact side_strict.bind t e
theorem stmts_strict (k d:Nat) (K:Known) (B:Blocks):yb_ (stmts k d K B):=fun t e=>by
 cases k with
 |zero=>rw[stmts];exact jl_ 6 t e
 |succ k=>rw[stmts];simp only[vo_ e,Bool.false_eq_true,if_false];exact(stmt_strict k d K B).bind t e
theorem j1h_ (k n:Nat) (K:Known):yb_ (params k n K):=fun t e=>by
 cases k with
 |zero=>rw[params];exact jl_ 6 t e
 |succ k=>
  rw[params]
  dsimp only
  by_cases h:n=0
  ·rw[if_pos h];exact jl_ 7 t e
  ·rw[if_neg h];exact(u9_ K).bind t e
theorem tops_strict (k:Nat) (K:Known) (n:Nat) (D:List Bytes):yb_ (tops k K n D):=fun t e=>by
 cases k with
 |zero=>rw[tops];exact jl_ 6 t e
 |succ k=>rw[tops];simp only[e,reduceCtorEq,if_false,vg_ e,Bool.false_eq_true];exact jl_ 2 t e
end OS
namespace OS
open Vbemac
open PySem (Str)
def TokOk:Tok->Prop
 | .word w=>w≠[]/\ ∀c∈w,vv_ c=true
 | .sign s=>s∈SIGNS
 |_=>True
def Mid (x:Tok×Pos):Prop:=x.1≠ .eof/\x.1≠ .bad/\TokOk x.1
def FinT (x:Tok×Pos):Prop:=x.1= .eof\/x.1= .bad
def j11_ (t:Toks):Prop:= ∃ini x,t=ini++[x]/\FinT x/\ ∀y∈ini,Mid y
theorem j11_.one {x:Tok×Pos} (h:FinT x):j11_ [x]:=⟨[],x,rfl,h,fun _ z=>nomatch z⟩
theorem j11_.cons {x:Tok×Pos} {t:Toks} (h:Mid x) (w:j11_ t):j11_ (x::t):=by
 obtain⟨ini,y,rfl,f,a⟩:=w
 refine⟨x::ini,y,rfl,f,fun z hz=>?_⟩
 rcases List.mem_cons.mp hz with e|hz
 ·rw[e];exact h
 ·exact a z hz
theorem j11_.tail {x:Tok×Pos} {t:Toks} (w:j11_ (x::t)) (h: ¬FinT x):Mid x/\j11_ t:=by
 obtain⟨ini,y,e,f,a⟩:=w
 cases ini with
 |nil=>
  injection e with e1 e2
  exact absurd (e1▸f) h
 |cons z ini=>
  injection e with e1 e2
  exact⟨e1▸a z List.mem_cons_self,ini,y,e2,f,fun v hv=>a v (List.mem_cons_of_mem _ hv)⟩
theorem j11_.ne {t:Toks} (w:j11_ t):t≠[]:=by
 obtain⟨ini,y,rfl,_⟩:=w
 simp
theorem wf_: ∀(k:Nat) (q:Pos) (b:Bytes),j11_ (lex k q b)
 |0,q,b=>by rw[lex];exact .one (.inl rfl)
 |k+1,q,[]=>by rw[lex];exact .one (.inl rfl)
 |k+1,q,c::r=>by
  have z:(c::r)[0]?=some c:=rfl
  have d0:(c::r).drop 0=c::r:=rfl
  rw[<-d0]
  by_cases hb:blank c=true
  ·rw[lex_blank z hb];exact wf_ k _ _
  ·have hb:blank c=false:=by simpa using hb
   by_cases h35:c=35
   ·rw[j0x_ z hb h35];exact wf_ k _ _
   ·by_cases hl:letter c=true
    ·rw[lex_word z hb h35 hl]
     split
     ·exact .one (.inr rfl)
     ·refine .cons ⟨by simp,by simp,?_,?_⟩ (wf_ k _ _)
      ·rw[<-tw_part,d0,List.takeWhile_cons,if_pos (by unfold vv_;rw[hl];rfl)]
       simp
      ·rw[<-tw_part];exact tw_all _
    ·have hl:letter c=false:=by simpa using hl
     by_cases hd:digit c=true
     ·rw[lex_num z hb h35 hl hd]
      split
      ·exact .one (.inr rfl)
      ·exact .cons ⟨by simp,by simp,True.intro⟩ (wf_ k _ _)
     ·have hd:digit c=false:=by simpa using hd
      rw[lex_sign z hb h35 hl hd]
      split
      ·rename_i m
       exact .cons ⟨by simp,by simp,m⟩ (wf_ k _ _)
      ·exact .one (.inr rfl)
theorem qx_: ∀(k:Nat) (q:Pos) (b:Bytes),(lex k q b).length<=k+1
 |0,q,b=>by rw[lex];simp
 |k+1,q,[]=>by rw[lex];simp
 |k+1,q,c::r=>by
  have z:(c::r)[0]?=some c:=rfl
  have d0:(c::r).drop 0=c::r:=rfl
  rw[<-d0]
  by_cases hb:blank c=true
  ·rw[lex_blank z hb];exact Nat.le_trans (qx_ k _ _) (by omega)
  ·have hb:blank c=false:=by simpa using hb
   by_cases h35:c=35
   ·rw[j0x_ z hb h35];exact Nat.le_trans (qx_ k _ _) (by omega)
   ·by_cases hl:letter c=true
    ·rw[lex_word z hb h35 hl]
     split
     ·simp
     ·rw[List.length_cons];exact Nat.succ_le_succ (qx_ k _ _)
    ·have hl:letter c=false:=by simpa using hl
     by_cases hd:digit c=true
     ·rw[lex_num z hb h35 hl hd]
      split
      ·simp
      ·rw[List.length_cons];exact Nat.succ_le_succ (qx_ k _ _)
     ·have hd:digit c=false:=by simpa using hd
      rw[lex_sign z hb h35 hl hd]
      split
      ·rw[List.length_cons];exact Nat.succ_le_succ (qx_ k _ _)
      ·simp
def sb (w:Bytes):Str:=⟨(w.map UInt8.toNat).toArray⟩
theorem sb_inj {a b:Bytes} (h:sb a=sb b):a=b:=by
 have e:(a.map UInt8.toNat).toArray=(b.map UInt8.toNat).toArray:=congrArg Str.cps h
 have e:a.map UInt8.toNat=b.map UInt8.toNat:=by simpa using e
 exact List.map_inj_right (fun x y q=>UInt8.toNat_inj.mp q) |>.mp e
def rest37:Str:=⟨#[47,114,101,115,116]⟩
def sgn (s:Bytes):Str:=if s=[37] then rest37 else sb s
theorem sgn_inj: ∀a∈SIGNS,∀b∈SIGNS,sgn a=sgn b->a=b:=by decide+kernel
theorem sgn_first: ∀a∈SIGNS,∀c,(sgn a).cps[0]?=some c-> ∀d:Nat,d<256->d=c->vv_ (UInt8.ofNat d)=false:=by
 have h: ∀a∈SIGNS,∀d:Nat,d<256->(sgn a).cps[0]?=some d->vv_ (UInt8.ofNat d)=false:=by decide+kernel
 intro a ha c hc d hd e
 subst e
 exact h a ha d hd hc
theorem word_sgn {w s:Bytes} (h0:w≠[]) (hw: ∀c∈w,vv_ c=true) (hs:s∈SIGNS):sb w≠sgn s:=fun e=>by
 obtain⟨c,r,rfl⟩: ∃c r,w=c::r:=by cases w with|nil=>exact absurd rfl h0|cons c r=>exact⟨c,r,rfl⟩
 have f:=sgn_first s hs c.toNat (by rw[<-e];rfl) c.toNat (UInt8.toNat_lt c) rfl
 rw[UInt8.ofNat_toNat,hw c List.mem_cons_self] at f
 cases f
def tokStr:Tok->Option Str
 | .word w=>some (sb w)
 | .sign s=>some (sgn s)
 | .num _=>none
 | .eof=>some (sb [])
 | .bad=>some (sb [])
def j0o_ (x:Str) (w:Bytes):Prop:=x=sb w/\w≠[]/\ ∀c∈w,vv_ c=true
def LitS (x:Str) (s:Bytes):Prop:=x=sgn s/\s∈SIGNS
theorem sgn_ne: ∀s∈SIGNS,sgn s≠sb []:=by decide+kernel
theorem tok_word {k:Tok} (ok:TokOk k) {x:Str} {w:Bytes} (h:j0o_ x w):tokStr k=some x ↔ k= .word w:=by
 obtain⟨rfl,h0,h1⟩:=h
 constructor
 ·intro e
  cases k with
  |word v=>exact congrArg Tok.word (sb_inj (Option.some.inj e))
  |sign s=>exact absurd (Option.some.inj e).symm (word_sgn h0 h1 ok)
  |num n=>cases e
  |eof=>exact absurd (sb_inj (Option.some.inj e)).symm h0
  |bad=>exact absurd (sb_inj (Option.some.inj e)).symm h0
 ·intro e;subst e;rfl
theorem tok_sign {k:Tok} (ok:TokOk k) {x:Str} {s:Bytes} (h:LitS x s):tokStr k=some x ↔ k= .sign s:=by
 obtain⟨rfl,hs⟩:=h
 constructor
 ·intro e
  cases k with
  |word v=>exact absurd (Option.some.inj e) (word_sgn ok.1 ok.2 hs)
  |sign r=>exact congrArg Tok.sign (sgn_inj r ok s hs (Option.some.inj e))
  |num n=>cases e
  |eof=>exact absurd (Option.some.inj e).symm (sgn_ne s hs)
  |bad=>exact absurd (Option.some.inj e).symm (sgn_ne s hs)
 ·intro e;subst e;rfl
end OS
namespace OS
open Vbemac
def ors (f d:Nat) (Kn:Vbemac.Known):Vbemac.P Vbemac.Exp:=do
 let x<-ands f d Kn
 let l<-moreOr f d Kn
 return (match l with
  | .nil=>x
  |l=> .either x l)
abbrev Pairs:=List (Bytes×Exp)
def exL:Pairs->Exps->Exps
 |[],l=>l
 |x::r,l=> .cons x.2 (exL r l)
def exR:Pairs->Rest->Rest
 |[],l=>l
 |x::r,l=> .cons x.1 x.2 (exR r l)
theorem exL_snoc {es:Pairs} {x:Bytes×Exp} {l:Exps} :exL (es++[x]) l=exL es (.cons x.2 l):=by
 induction es with
 |nil=>rfl
 |cons y r ih=>show Exps.cons y.2 (exL (r++[x]) l)=_;rw[ih];rfl
theorem exR_snoc {es:Pairs} {x:Bytes×Exp} {l:Rest} :exR (es++[x]) l=exR es (.cons x.1 x.2 l):=by
 induction es with
 |nil=>rfl
 |cons y r ih=>show Rest.cons y.1 y.2 (exR (r++[x]) l)=_;rw[ih];rfl
section
variable {α β:Type} {p p':P α} {t t':Toks} {Qo:α->Toks->Prop} {Qe:Nat->Pos->Prop}
theorem W2_as (e:p t=p' t') (h:W2 p t Qo Qe):W2 p' t' Qo Qe:=by
 unfold W2 W at h ⊢
 rw[<-e]
 exact h
theorem W2_ok {x:α} {r:Toks} (e:p t= .ok (x,r)) (nb:peek r≠ .bad) (h:W2 p t Qo Qe):Qo x r:=by
 unfold W2 at h
 rw[j0n_ e,if_neg nb] at h
 exact h
theorem uz_ {γ:Type} {q:P β} {g:α->β->γ} {Ro:γ->Toks->Prop} (hr:Resp q) (h:W2 (p>>=fun x=>q>>=fun l=>pure (g x l)) t Ro Qe):W2 p t (fun x r=>W2 q r (fun l r2=>Ro (g x l) r2) Qe) Qe:=by
 have h:=W2.of2 (fun x=>hr.bind fun l=>pure_resp _) h
 refine h.mono (fun x r nb w=>?_) fun _ _ z=>z
 rw[W2_bind] at w
 exact w
end
structure ChL (p sub:Nat->Nat->Known->P Exp) (c c':Nat) (sg:List Bytes) (once:Bool) (res:Exp->Pairs->Exp) where
 G:Nat->Known->Exp->Pairs->Toks->(Exp->Toks->Prop)->(Nat->Pos->Prop)->Prop
 start: ∀ {fuel d:Nat} {Kn:Known} {t:Toks} {Ro:Exp->Toks->Prop} {Qe:Nat->Pos->Prop},16*t.length+c<=fuel->W2 (p fuel d Kn) t Ro Qe->
  ∃f,16*t.length+c'<=f/\W2 (sub f d Kn) t (fun e t'=>t'.length<=t.length->G d Kn e [] t' Ro Qe) Qe
 stop: ∀ {d:Nat} {Kn:Known} {e:Exp} {es:Pairs} {t:Toks} {Ro:Exp->Toks->Prop} {Qe:Nat->Pos->Prop},G d Kn e es t Ro Qe->peek t≠ .bad->(once=true/\es≠[]\/ ∀op,peek t= .sign op->op∉sg)->Ro (res e es) t
 go: ∀ {d:Nat} {Kn:Known} {e:Exp} {es:Pairs} {x:Tok×Pos} {t:Toks} {op:Bytes} {Ro:Exp->Toks->Prop} {Qe:Nat->Pos->Prop},G d Kn e es (x::t) Ro Qe->(once=true->es=[])->x.1= .sign op->op∈sg->
  ∃f,16*t.length+c'<=f/\W2 (sub f d Kn) t (fun e2 t'=>t'.length<=t.length->G d Kn e (es++[(op,e2)]) t' Ro Qe) Qe
def eith (e:Exp):Exps->Exp
 | .nil=>e
 |l=> .either e l
def bth (e:Exp):Exps->Exp
 | .nil=>e
 |l=> .both e l
def sms (e:Exp):Rest->Exp
 | .nil=>e
 |l=> .sums e l
def prs (e:Exp):Rest->Exp
 | .nil=>e
 |l=> .prods e l
def S0:List Bytes:=[text "||"]
def S1:List Bytes:=[text "&&"]
def S2:List Bytes:=["==","!=","<=",">=","<",">"].map text
def S3:List Bytes:=["+","-"].map text
def S4:List Bytes:=["*","/","%"].map text
theorem ors_as {f d:Nat} {Kn:Known} :ors f d Kn=(ands f d Kn>>=fun x=>moreOr f d Kn>>=fun l=>pure (eith x l):P Exp):=by
 unfold ors
 congr 1
theorem ands_as {f d:Nat} {Kn:Known} :ands (f+1) d Kn=(compared f d Kn>>=fun x=>moreAnd f d Kn>>=fun l=>pure (bth x l):P Exp):=by
 rw[ands]
 congr 1
theorem added_as {f d:Nat} {Kn:Known} :added (f+1) d Kn=(times f d Kn>>=fun x=>moreAdded f d Kn>>=fun l=>pure (sms x l):P Exp):=by
 rw[added]
 congr 1
theorem times_as {f d:Nat} {Kn:Known} :times (f+1) d Kn=(unary f d Kn>>=fun x=>moreTimes f d Kn>>=fun l=>pure (prs x l):P Exp):=by
 rw[times]
 congr 1
theorem isSign_not {t:Toks} {s:String} {l:List Bytes} (h: ∀op,peek t= .sign op->op∉l) (m:text s∈l):isSign t s=false:=by
 unfold isSign
 rw[beq_eq_false_iff_ne]
 exact fun z=>h _ z m
theorem signOf_not {t:Toks} {l:List String} (h: ∀op,peek t= .sign op->op∉l.map text):signOf l t= .ok (none,t):=by
 unfold signOf
 cases e:peek t with
 |sign s=>
  dsimp only
  rw[if_neg (by rw[List.contains_iff_mem];exact h s e)]
 |_=>rfl
theorem signOf_is {x:Tok×Pos} {t:Toks} {l:List String} {op:Bytes} (e:x.1= .sign op) (h:op∈l.map text):signOf l (x::t)= .ok (some op,t):=by
 unfold signOf
 have e:peek (x::t)= .sign op:=e
 rw[e]
 dsimp only
 rw[if_pos (by rw[List.contains_iff_mem];exact h)]
 rfl
theorem moreOr_not {f d:Nat} {Kn:Known} {t:Toks} (h:isSign t "||"=false):moreOr (f+1) d Kn t= .ok (.nil,t):=by
 rw[moreOr]
 show(StateT.bind (ifSign "||") _) t=_
 unfold StateT.bind ifSign
 rw[h]
 rfl
theorem moreAnd_not {f d:Nat} {Kn:Known} {t:Toks} (h:isSign t "&&"=false):moreAnd (f+1) d Kn t= .ok (.nil,t):=by
 rw[moreAnd]
 show(StateT.bind (ifSign "&&") _) t=_
 unfold StateT.bind ifSign
 rw[h]
 rfl
theorem moreOr_is {f d:Nat} {Kn:Known} {x:Tok×Pos} {t:Toks} (h:isSign (x::t) "||"=true):moreOr (f+1) d Kn (x::t)=(ands f d Kn>>=fun a=>moreOr f d Kn>>=fun l=>pure (.cons a l):P Exps) t:=by
 rw[moreOr]
 show(StateT.bind (ifSign "||") _) (x::t)=_
 unfold StateT.bind ifSign
 rw[h]
 rfl
theorem moreAnd_is {f d:Nat} {Kn:Known} {x:Tok×Pos} {t:Toks} (h:isSign (x::t) "&&"=true):moreAnd (f+1) d Kn (x::t)=(compared f d Kn>>=fun a=>moreAnd f d Kn>>=fun l=>pure (.cons a l):P Exps) t:=by
 rw[moreAnd]
 show(StateT.bind (ifSign "&&") _) (x::t)=_
 unfold StateT.bind ifSign
 rw[h]
 rfl
theorem moreAdded_not {f d:Nat} {Kn:Known} {t:Toks} (h: ∀op,peek t= .sign op->op∉S3):moreAdded (f+1) d Kn t= .ok (.nil,t):=by
 rw[moreAdded]
 show(StateT.bind (signOf ["+","-"]) _) t=_
 unfold StateT.bind
 rw[signOf_not h]
 rfl
theorem moreTimes_not {f d:Nat} {Kn:Known} {t:Toks} (h: ∀op,peek t= .sign op->op∉S4):moreTimes (f+1) d Kn t= .ok (.nil,t):=by
 rw[moreTimes]
 show(StateT.bind (signOf ["*","/","%"]) _) t=_
 unfold StateT.bind
 rw[signOf_not h]
 rfl
theorem moreAdded_is {f d:Nat} {Kn:Known} {x:Tok×Pos} {t:Toks} {op:Bytes} (e:x.1= .sign op) (h:op∈S3):moreAdded (f+1) d Kn (x::t)=(times f d Kn>>=fun a=>moreAdded f d Kn>>=fun l=>pure (.cons op a l):P Rest) t:=by
 rw[moreAdded]
 show(StateT.bind (signOf ["+","-"]) _) (x::t)=_
 unfold StateT.bind
 rw[signOf_is e h]
 rfl
theorem moreTimes_is {f d:Nat} {Kn:Known} {x:Tok×Pos} {t:Toks} {op:Bytes} (e:x.1= .sign op) (h:op∈S4):moreTimes (f+1) d Kn (x::t)=(unary f d Kn>>=fun a=>moreTimes f d Kn>>=fun l=>pure (.cons op a l):P Rest) t:=by
 rw[moreTimes]
 show(StateT.bind (signOf ["*","/","%"]) _) (x::t)=_
 unfold StateT.bind
 rw[signOf_is e h]
 rfl
def cmpGo (f d:Nat) (Kn:Known) (a:Exp):P Exp:=signOf ["==","!=","<=",">=","<",">"]>>=fun s=>match s with
 |none=>pure a
 |some op=>added f d Kn>>=fun b=>pure (.cmp op a b)
theorem compared_as {f d:Nat} {Kn:Known} :compared (f+1) d Kn=(added f d Kn>>=fun x=>cmpGo f d Kn x:P Exp):=by
 rw[compared]
 rfl
theorem cmpGo_resp (f d:Nat) (Kn:Known) (a:Exp):Resp (cmpGo f d Kn a):=(signOf_resp _).bind fun s=>by
 cases s with
 |none=>exact pure_resp _
 |some op=>exact(added_strict f d Kn).bind.resp
theorem cmpGo_not {f d:Nat} {Kn:Known} {a:Exp} {t:Toks} (h: ∀op,peek t= .sign op->op∉S2):cmpGo f d Kn a t= .ok (a,t):=by
 unfold cmpGo
 show(StateT.bind (signOf ["==","!=","<=",">=","<",">"]) _) t=_
 unfold StateT.bind
 rw[signOf_not h]
 rfl
theorem cmpGo_is {f d:Nat} {Kn:Known} {a:Exp} {x:Tok×Pos} {t:Toks} {op:Bytes} (e:x.1= .sign op) (h:op∈S2):cmpGo f d Kn a (x::t)=(added f d Kn>>=fun b=>pure (.cmp op a b):P Exp) t:=by
 unfold cmpGo
 show(StateT.bind (signOf ["==","!=","<=",">=","<",">"]) _) (x::t)=_
 unfold StateT.bind
 rw[signOf_is e h]
 rfl
theorem sign_in {x:Tok×Pos} {t:Toks} {op:Bytes} {s:String} (e:x.1= .sign op) (h:op∈[text s]):isSign (x::t) s=true:=by
 unfold isSign
 obtain rfl:=List.mem_singleton.mp h
 exact beq_iff_eq.mpr e
def chOr:ChL ors ands 11 11 S0 false (fun e es=>eith e (exL es .nil)) where
 G d Kn e es t Ro Qe:= ∃f,16*t.length+11<=f/\W2 (moreOr f d Kn) t (fun l t'=>Ro (eith e (exL es l)) t') Qe
 start {fuel d Kn t Ro Qe} hf h:=by
  rw[ors_as] at h
  exact⟨fuel,hf,(uz_ (moreOr_resp fuel d Kn) h).mono (fun e t' nb w l=>⟨fuel,by omega,w⟩) fun _ _ z=>z⟩
 stop {d Kn e es t Ro Qe} g nb h:=by
  obtain⟨f,hf,w⟩:=g
  obtain⟨f,rfl⟩: ∃f',f=f'+1:=⟨f-1,by omega⟩
  rcases h with⟨h,_⟩|h
  ·cases h
  ·have z:=W2_ok (moreOr_not (isSign_not h (List.mem_singleton.mpr rfl))) nb w
   exact z
 go {d Kn e es x t op Ro Qe} g _ e1 h:=by
  obtain⟨f,hf,w⟩:=g
  rw[List.length_cons] at hf
  obtain⟨f,rfl⟩: ∃f',f=f'+1:=⟨f-1,by omega⟩
  have w:=W2_as (moreOr_is (sign_in e1 h)) w
  refine⟨f,by omega,(uz_ (moreOr_resp f d Kn) w).mono (fun e2 t' nb w l=>⟨f,by omega,?_⟩) fun _ _ z=>z⟩
  simp only[exL_snoc]
  exact w
def chAnd:ChL ands compared 11 10 S1 false (fun e es=>bth e (exL es .nil)) where
 G d Kn e es t Ro Qe:= ∃f,16*t.length+10<=f/\W2 (moreAnd f d Kn) t (fun l t'=>Ro (bth e (exL es l)) t') Qe
 start {fuel d Kn t Ro Qe} hf h:=by
  obtain⟨f,rfl⟩: ∃f',fuel=f'+1:=⟨fuel-1,by omega⟩
  rw[ands_as] at h
  exact⟨f,by omega,(uz_ (moreAnd_resp f d Kn) h).mono (fun e t' nb w l=>⟨f,by omega,w⟩) fun _ _ z=>z⟩
 stop {d Kn e es t Ro Qe} g nb h:=by
  obtain⟨f,hf,w⟩:=g
  obtain⟨f,rfl⟩: ∃f',f=f'+1:=⟨f-1,by omega⟩
  rcases h with⟨h,_⟩|h
  ·cases h
  ·have z:=W2_ok (moreAnd_not (isSign_not h (List.mem_singleton.mpr rfl))) nb w
   exact z
 go {d Kn e es x t op Ro Qe} g _ e1 h:=by
  obtain⟨f,hf,w⟩:=g
  rw[List.length_cons] at hf
  obtain⟨f,rfl⟩: ∃f',f=f'+1:=⟨f-1,by omega⟩
  have w:=W2_as (moreAnd_is (sign_in e1 h)) w
  refine⟨f,by omega,(uz_ (moreAnd_resp f d Kn) w).mono (fun e2 t' nb w l=>⟨f,by omega,?_⟩) fun _ _ z=>z⟩
  simp only[exL_snoc]
  exact w
def chAdd:ChL added times 9 8 S3 false (fun e es=>sms e (exR es .nil)) where
 G d Kn e es t Ro Qe:= ∃f,16*t.length+8<=f/\W2 (moreAdded f d Kn) t (fun l t'=>Ro (sms e (exR es l)) t') Qe
 start {fuel d Kn t Ro Qe} hf h:=by
  obtain⟨f,rfl⟩: ∃f',fuel=f'+1:=⟨fuel-1,by omega⟩
  rw[added_as] at h
  exact⟨f,by omega,(uz_ (j0r_ f d Kn) h).mono (fun e t' nb w l=>⟨f,by omega,w⟩) fun _ _ z=>z⟩
 stop {d Kn e es t Ro Qe} g nb h:=by
  obtain⟨f,hf,w⟩:=g
  obtain⟨f,rfl⟩: ∃f',f=f'+1:=⟨f-1,by omega⟩
  rcases h with⟨h,_⟩|h
  ·cases h
  ·have z:=W2_ok (moreAdded_not h) nb w
   exact z
 go {d Kn e es x t op Ro Qe} g _ e1 h:=by
  obtain⟨f,hf,w⟩:=g
  rw[List.length_cons] at hf
  obtain⟨f,rfl⟩: ∃f',f=f'+1:=⟨f-1,by omega⟩
  have w:=W2_as (moreAdded_is e1 h) w
  refine⟨f,by omega,(uz_ (j0r_ f d Kn) w).mono (fun e2 t' nb w l=>⟨f,by omega,?_⟩) fun _ _ z=>z⟩
  simp only[exR_snoc]
  exact w
def chMul:ChL times unary 8 7 S4 false (fun e es=>prs e (exR es .nil)) where
 G d Kn e es t Ro Qe:= ∃f,16*t.length+7<=f/\W2 (moreTimes f d Kn) t (fun l t'=>Ro (prs e (exR es l)) t') Qe
 start {fuel d Kn t Ro Qe} hf h:=by
  obtain⟨f,rfl⟩: ∃f',fuel=f'+1:=⟨fuel-1,by omega⟩
  rw[times_as] at h
  exact⟨f,by omega,(uz_ (j0s_ f d Kn) h).mono (fun e t' nb w l=>⟨f,by omega,w⟩) fun _ _ z=>z⟩
 stop {d Kn e es t Ro Qe} g nb h:=by
  obtain⟨f,hf,w⟩:=g
  obtain⟨f,rfl⟩: ∃f',f=f'+1:=⟨f-1,by omega⟩
  rcases h with⟨h,_⟩|h
  ·cases h
  ·have z:=W2_ok (moreTimes_not h) nb w
   exact z
 go {d Kn e es x t op Ro Qe} g _ e1 h:=by
  obtain⟨f,hf,w⟩:=g
  rw[List.length_cons] at hf
  obtain⟨f,rfl⟩: ∃f',f=f'+1:=⟨f-1,by omega⟩
  have w:=W2_as (moreTimes_is e1 h) w
  refine⟨f,by omega,(uz_ (j0s_ f d Kn) w).mono (fun e2 t' nb w l=>⟨f,by omega,?_⟩) fun _ _ z=>z⟩
  simp only[exR_snoc]
  exact w
def cmpR (e:Exp):Pairs->Exp
 |[(op,b)]=> .cmp op e b
 |_=>e
def cmpG (d:Nat) (Kn:Known) (e:Exp) (es:Pairs) (t:Toks) (Ro:Exp->Toks->Prop) (Qe:Nat->Pos->Prop):Prop:=match es with
 |[]=> ∃f,16*t.length+9<=f/\W2 (cmpGo f d Kn e) t Ro Qe
 |[(op,b)]=>Ro (.cmp op e b) t
 |_=>False
def chCmp:ChL compared added 10 9 S2 true cmpR where
 G:=cmpG
 start {fuel d Kn t Ro Qe} hf h:=by
  obtain⟨f,rfl⟩: ∃f',fuel=f'+1:=⟨fuel-1,by omega⟩
  rw[compared_as] at h
  exact⟨f,by omega,(W2.of2 (fun x=>cmpGo_resp f d Kn x) h).mono (fun e t' nb w l=>⟨f,by omega,w⟩) fun _ _ z=>z⟩
 stop {d Kn e es t Ro Qe} g nb h:=by
  match es,g,h with
  |[],⟨f,hf,w⟩,h=>
   rcases h with⟨_,h⟩|h
   ·exact absurd rfl h
   ·exact W2_ok (cmpGo_not h) nb w
  |[(op,b)],g,h=>exact g
  |_::_::_,g,h=>exact g.elim
 go {d Kn e es x t op Ro Qe} g h0 e1 h:=by
  obtain rfl:=h0 rfl
  obtain⟨f,hf,w⟩:=g
  rw[List.length_cons] at hf
  have w:=W2_as (cmpGo_is e1 h) w
  have w:=W2.of2 (fun b=>pure_resp _) w
  refine⟨f,by omega,w.mono (fun e2 t' nb w l=>?_) fun _ _ z=>z⟩
  exact W2_ok (p:=pure (.cmp op e e2)) (t:=t') rfl nb w
end OS
namespace OS
open Vbemac
def vw_ (f e:Nat) (K:Known) (m:Nat):P Exps:=fun u=>
 if m=0 then(if isSign u ","=true then fail 5 u else(sign ")">>=fun _=>pure .nil:P Exps) u)
 else(if isSign u ")"=true then fail 5 u else(sign ",">>=fun _=>arguments f e K m:P Exps) u)
def ofL:List Exp->Exps->Exps
 |[],l=>l
 |e::r,l=> .cons e (ofL r l)
theorem ofL_snoc {es:List Exp} {x:Exp} {l:Exps} :ofL (es++[x]) l=ofL es (.cons x l):=by
 induction es with
 |nil=>rfl
 |cons y r ih=>show Exps.cons y (ofL (r++[x]) l)=_;rw[ih];rfl
section
variable {α:Type} {p p':P α} {t t':Toks} {Qo:α->Toks->Prop} {Qe:Nat->Pos->Prop}
theorem j04_ (e:p t=p' t') (h:W p t Qo Qe):W p' t' Qo Qe:=by
 unfold W at h ⊢
 rw[<-e]
 exact h
end
theorem arguments_on {f e n:Nat} {K:Known} {t:Toks} {Ro:Exps->Toks->Prop} {Qe:Nat->Pos->Prop} (hn:1<=n) (hc:isSign t ")"=false) (h:W (arguments (f+1) e K n) t Ro Qe):
  W (expr f e K) t (fun a t'=>W (vw_ f e K (n-1)) t' (fun l t2=>Ro (.cons a l) t2) Qe) Qe:=by
 rw[arguments] at h
 have h:W (expr f e K>>=fun a=>(if n<=1 then(fun u=>if isSign u ","=true then fail 5 u else(sign ")">>=fun _=>pure (.cons a .nil):P Exps) u)
   else(fun u=>if isSign u ")"=true then fail 5 u else(sign ",">>=fun _=>arguments f e K (n-1)>>=fun l=>pure (.cons a l):P Exps) u):P Exps)) t Ro Qe:=j04_ (by
    show(if isSign t ")"=true then _ else _)=_
    rw[if_neg (by rw[hc];exact Bool.false_ne_true)]) h
 rw[jj_] at h
 refine h.mono (fun a u w=>?_) fun _ _ z=>z
 by_cases n1:n<=1
 ·rw[if_pos n1] at w
  have n0:n-1=0:=by omega
  by_cases c:isSign u ","=true
  ·have w:W (fail 5:P Exps) u Ro Qe:=j04_ (by show(if isSign u ","=true then _ else _)=_;rw[if_pos c]) w
   exact j04_ (p:=(fail 5:P Exps)) (t:=u) (by unfold vw_;rw[if_pos n0,if_pos c]) w
  ·have w:W (sign ")">>=fun _=>pure (.cons a .nil):P Exps) u Ro Qe:=j04_ (by show(if isSign u ","=true then _ else _)=_;rw[if_neg c]) w
   refine j04_ (p:=(sign ")">>=fun _=>pure .nil:P Exps)) (t:=u) (by unfold vw_;rw[if_pos n0,if_neg c]) ?_
   rw[jj_] at w ⊢
   exact w
 ·rw[if_neg n1] at w
  have n0: ¬n-1=0:=by omega
  by_cases c:isSign u ")"=true
  ·have w:W (fail 5:P Exps) u Ro Qe:=j04_ (by show(if isSign u ")"=true then _ else _)=_;rw[if_pos c]) w
   exact j04_ (p:=(fail 5:P Exps)) (t:=u) (by unfold vw_;rw[if_neg n0,if_pos c]) w
  ·have w:W (sign ",">>=fun _=>arguments f e K (n-1)>>=fun l=>pure (.cons a l):P Exps) u Ro Qe:=j04_ (by show(if isSign u ")"=true then _ else _)=_;rw[if_neg c]) w
   refine j04_ (p:=(sign ",">>=fun _=>arguments f e K (n-1):P Exps)) (t:=u) (by unfold vw_;rw[if_neg n0,if_neg c]) ?_
   rw[jj_] at w ⊢
   refine w.mono (fun _ r w=>?_) fun _ _ z=>z
   rw[jj_] at w
   exact w
theorem uh_ (f e:Nat) (K:Known) (m:Nat):yb_ (vw_ f e K m):=fun t h=>by
 unfold vw_
 rw[vo_ h,vo_ h]
 by_cases c:m=0
 ·rw[if_pos c,if_neg Bool.false_ne_true]
  exact(jy_ ")").bind t h
 ·rw[if_neg c,if_neg Bool.false_ne_true]
  exact(jy_ ",").bind t h
theorem primary_call {f d:Nat} {Kn:Known} {u:Bytes} {xp:Pos} {t:Toks} {g:Bytes×Nat} (hs:u≠text "sum") (hk:KEYS.contains u=false) (hf:Kn.funs.find? (fun f=>f.1 == u)=some g):
  primary (f+1) d Kn ((.word u,xp)::t)=(deeper d>>=fun e=>next>>=fun _=>sign "(">>=fun _=>(if g.2=0 then(sign ")">>=fun _=>pure (.call u .nil)) else(arguments f e Kn g.2>>=fun l=>pure (.call u l))):P Exp) ((.word u,xp)::t):=by
 rw[primary]
 show(if u=text "sum" then _ else _)=_
 rw[if_neg hs,if_neg (by rw[hk];exact Bool.false_ne_true)]
 simp only[hf]
end OS
namespace OS
open Vbemac
section
variable {α β:Type} {p:P α} {f:α->P β} {t:Toks} {Qo:α->Toks->Prop} {Qe:Nat->Pos->Prop} {Ro:β->Toks->Prop}
def W3 (p:P α) (t:Toks) (Qo:α->Toks->Prop) (Qe:Nat->Pos->Prop):Prop:=W p t (fun a r=>(peek r= .bad->Qe 1 (place r))/\Qo a r) Qe
theorem W3.of (hs: ∀a,yb_ (f a)) (h:W (p>>=f) t Ro Qe):W3 p t (fun a r=>W (f a) r Ro Qe) Qe:=by
 rw[jj_] at h
 exact h.mono (fun a r w=>⟨fun e=>(hs a).at_bad e w,w⟩) fun _ _ w=>w
theorem W3.w (h:W3 p t Qo Qe):W p t Qo Qe:=W.mono h (fun a r w=>w.2) fun _ _ z=>z
theorem W3_as {p':P α} {t':Toks} (e:p t=p' t') (h:W3 p t Qo Qe):W3 p' t' Qo Qe:=by
 unfold W3 W at h ⊢
 rw[<-e]
 exact h
end
section
variable {k d:Nat} {K:Known} {B:Blocks} {t:Toks}
theorem stmt_let (h:isKey t "let"=true):stmt (k+1) d K B t=(next>>=fun _=>newName K>>=fun x=>sign "=">>=fun _=>expr k DEEP K>>=fun e=>sign ";">>=fun _=>pure (.bind x e,K.with x,B):P (Stmt×Known×Blocks)) t:=by
 rw[stmt]
 show(if isKey t "let"=true then _ else _)=_
 rw[if_pos h]
theorem stmt_for (h1:isKey t "let"=false) (h:isKey t "for"=true):stmt (k+1) d K B t=(deeper d>>=fun n=>next>>=fun _=>newName K>>=fun x=>key "in">>=fun _=>expr k DEEP K>>=fun lo=>sign "..">>=fun _=>expr k DEEP K>>=fun hi=>
  sign "{">>=fun _=>stmts k n (K.with x) B>>=fun l=>pure (.loop x lo hi l.1,K,l.2):P (Stmt×Known×Blocks)) t:=by
 rw[stmt]
 show(if isKey t "let"=true then _ else if isKey t "for"=true then _ else _)=_
 rw[if_neg (by rw[h1];exact Bool.false_ne_true),if_pos h]
def condGo (k n:Nat) (K:Known) (c:Exp) (a:Stmts×Blocks):P (Stmt×Known×Blocks):=ifKey "else">>=fun m=>(if m=true then(sign "{">>=fun _=>stmts k n K a.2>>=fun b=>pure (.cond c a.1 b.1,K,b.2)) else pure (.cond c a.1 .nil,K,a.2))
theorem stmt_if (h1:isKey t "let"=false) (h2:isKey t "for"=false) (h:isKey t "if"=true):stmt (k+1) d K B t=(deeper d>>=fun n=>next>>=fun _=>expr k DEEP K>>=fun c=>sign "{">>=fun _=>stmts k n K B>>=fun a=>condGo k n K c a:P (Stmt×Known×Blocks)) t:=by
 rw[stmt]
 show(if isKey t "let"=true then _ else if isKey t "for"=true then _ else if isKey t "if"=true then _ else _)=_
 rw[if_neg (by rw[h1];exact Bool.false_ne_true),if_neg (by rw[h2];exact Bool.false_ne_true),if_pos h]
 rfl
def moreB (m:Option Bytes) (B:Blocks):Blocks:=match m with
 |some w=>w::B
 |none=>B
theorem stmt_block (h1:isKey t "let"=false) (h2:isKey t "for"=false) (h3:isKey t "if"=false) (h:isKey t "block"=true):stmt (k+1) d K B t=(next>>=fun _=>maybeName B>>=fun m=>side>>=fun buy=>key "zone">>=fun _=>expr k DEEP K>>=fun z=>
  key "price">>=fun _=>expr k DEEP K>>=fun p=>key "amount">>=fun _=>newName K>>=fun x=>sign ":">>=fun _=>expr k DEEP (K.with x)>>=fun q=>behind "under" (knownBlock B)>>=fun u=>behind "group" (expr k DEEP K)>>=fun g=>sign ";">>=fun _=>
  pure (.block m buy z p x q u g,K,moreB m B):P (Stmt×Known×Blocks)) t:=by
 rw[stmt]
 show(if isKey t "let"=true then _ else if isKey t "for"=true then _ else if isKey t "if"=true then _ else if isKey t "block"=true then _ else _)=_
 rw[if_neg (by rw[h1];exact Bool.false_ne_true),if_neg (by rw[h2];exact Bool.false_ne_true),if_neg (by rw[h3];exact Bool.false_ne_true),if_pos h]
 rfl
theorem stmt_step (h1:isKey t "let"=false) (h2:isKey t "for"=false) (h3:isKey t "if"=false) (h4:isKey t "block"=false):stmt (k+1) d K B t=(side>>=fun buy=>key "zone">>=fun _=>expr k DEEP K>>=fun z=>
  key "quarter">>=fun _=>expr k DEEP K>>=fun q=>key "price">>=fun _=>expr k DEEP K>>=fun p=>behind "to" (expr k DEEP K)>>=fun top=>key "amount">>=fun _=>expr k DEEP K>>=fun a=>sign ";">>=fun _=>
  pure (.step buy z q p top a,K,B):P (Stmt×Known×Blocks)) t:=by
 rw[stmt]
 show(if isKey t "let"=true then _ else if isKey t "for"=true then _ else if isKey t "if"=true then _ else if isKey t "block"=true then _ else _)=_
 rw[if_neg (by rw[h1];exact Bool.false_ne_true),if_neg (by rw[h2];exact Bool.false_ne_true),if_neg (by rw[h3];exact Bool.false_ne_true),if_neg (by rw[h4];exact Bool.false_ne_true)]
theorem stmts_end (h:isSign t "}"=true):stmts (k+1) d K B t= .ok ((.nil,B),t.drop 1):=by
 rw[stmts]
 show(if isSign t "}"=true then _ else _)=_
 rw[if_pos h]
theorem stmts_go (h:isSign t "}"=false):stmts (k+1) d K B t=(stmt k d K B>>=fun s=>stmts k d s.2.1 s.2.2>>=fun l=>pure (.cons s.1 l.1,l.2):P (Stmts×Blocks)) t:=by
 rw[stmts]
 show(if isSign t "}"=true then _ else _)=_
 rw[if_neg (by rw[h];exact Bool.false_ne_true)]
end
section
variable {k n:Nat} {K:Known} {D:List Bytes} {t:Toks}
theorem params_go (h:n≠0):params (k+1) n K t=(newName K>>=fun x=>ifSign ",">>=fun m=>(if m=true then(params k (n-1) (K.with x)>>=fun l=>pure (x::l)) else(sign ")">>=fun _=>pure [x])):P (List Bytes)) t:=by
 rw[params]
 show(if n=0 then _ else _)=_
 rw[if_neg h]
theorem params_end (h:n=0):params (k+1) n K t=fail 7 t:=by
 rw[params]
 show(if n=0 then _ else _)=_
 rw[if_pos h]
theorem tops_end (h:peek t= .eof):tops (k+1) K n D t= .ok ([],t):=by
 rw[tops]
 show(if peek t= .eof then _ else _)=_
 rw[if_pos h]
theorem tops_const (h0:peek t≠ .eof) (h:isKey t "const"=true):tops (k+1) K n D t=(next>>=fun _=>newName K>>=fun x=>sign "=">>=fun _=>expr k DEEP K>>=fun e=>sign ";">>=fun _=>tops k (K.with x) n D>>=fun l=>pure (.const x e::l):P Sheet) t:=by
 rw[tops]
 show(if peek t= .eof then _ else if isKey t "const"=true then _ else _)=_
 rw[if_neg h0,if_pos h]
theorem tops_fun (h0:peek t≠ .eof) (h1:isKey t "const"=false) (h:isKey t "fun"=true) (hn:n≠0):tops (k+1) K n D t=(next>>=fun _=>newName K>>=fun x=>sign "(">>=fun _=>ifSign ")">>=fun none_=>
  (if none_=true then give [] else params k PARAMS (K.with x))>>=fun ps=>sign "=">>=fun _=>expr k DEEP { K with values:=ps++K.values } >>=fun e=>sign ";">>=fun _=>tops k { K with funs:=(x,ps.length)::K.funs } (n-1) D>>=fun l=>pure (.func x ps e::l):P Sheet) t:=by
 rw[tops]
 show(if peek t= .eof then _ else if isKey t "const"=true then _ else if isKey t "fun"=true then(if n=0 then _ else _) else _)=_
 rw[if_neg h0,if_neg (by rw[h1];exact Bool.false_ne_true),if_pos h,if_neg hn]
theorem tops_fun0 (h0:peek t≠ .eof) (h1:isKey t "const"=false) (h:isKey t "fun"=true) (hn:n=0):tops (k+1) K n D t=fail 7 t:=by
 rw[tops]
 show(if peek t= .eof then _ else if isKey t "const"=true then _ else if isKey t "fun"=true then(if n=0 then _ else _) else _)=_
 rw[if_neg h0,if_neg (by rw[h1];exact Bool.false_ne_true),if_pos h,if_pos hn]
def qz_ (D:List Bytes):P Bytes:=fun u=>match anyName u with
 | .error e=> .error e
 | .ok (w,r)=>if D.contains w=true then fail 4 u else .ok (w,r)
theorem tops_desk (h0:peek t≠ .eof) (h1:isKey t "const"=false) (h2:isKey t "fun"=false) (h:isKey t "desk"=true):tops (k+1) K n D t=(next>>=fun _=>qz_ D>>=fun x=>sign "{">>=fun _=>stmts k NEST K []>>=fun l=>tops k K n (x::D)>>=fun r=>pure (.desk x l.1::r):P Sheet) t:=by
 rw[tops]
 show(if peek t= .eof then _ else if isKey t "const"=true then _ else if isKey t "fun"=true then _ else if isKey t "desk"=true then _ else _)=_
 rw[if_neg h0,if_neg (by rw[h1];exact Bool.false_ne_true),if_neg (by rw[h2];exact Bool.false_ne_true),if_pos h]
 rfl
theorem tops_else (h0:peek t≠ .eof) (h1:isKey t "const"=false) (h2:isKey t "fun"=false) (h:isKey t "desk"=false):tops (k+1) K n D t=fail 2 t:=by
 rw[tops]
 show(if peek t= .eof then _ else if isKey t "const"=true then _ else if isKey t "fun"=true then _ else if isKey t "desk"=true then _ else _)=_
 rw[if_neg h0,if_neg (by rw[h1];exact Bool.false_ne_true),if_neg (by rw[h2];exact Bool.false_ne_true),if_neg (by rw[h];exact Bool.false_ne_true)]
theorem deskName_strict (D:List Bytes):yb_ (qz_ D):=fun t e=>by unfold qz_;rw[u7_ t e]
end
end OS
namespace OS
open Vbemac
section
variable {α:Type} {p:P α} {t:Toks} {Q1 Q2:α->Toks->Prop} {E1 E2:Nat->Pos->Prop}
theorem W_and (h1:W p t Q1 E1) (h2:W p t Q2 E2):W p t (fun a r=>Q1 a r/\Q2 a r) (fun n q=>E1 n q/\E2 n q):=by
 unfold W at h1 h2 ⊢
 cases e:p t with
 |error x=>rw[e] at h1 h2;exact⟨h1,h2⟩
 |ok z=>rw[e] at h1 h2;exact⟨h1,h2⟩
theorem W_true:W p t (fun _ _=>True) (fun _ _=>True):=by
 unfold W
 cases p t<;>exact True.intro
end
def letOf:Stmt->Option Bytes
 | .bind x _=>some x
 |_=>none
def KnOk (K:Known) (s:Stmt) (K':Known):Prop:=match letOf s with
 |some x=>K'=K.with x/\K.taken x=false
 |none=>K'=K
theorem newName_W {K:Known} {t:Toks} :W (newName K) t (fun x _=>K.taken x=false) (fun _ _=>True):=by
 unfold W newName
 cases anyName t with
 |error e=>exact True.intro
 |ok z=>
  obtain⟨w,r⟩:=z
  dsimp only
  by_cases h:K.taken w=true
  ·rw[if_pos h];exact True.intro
  ·rw[if_neg h]
   show K.taken w=false
   exact Bool.eq_false_iff.mpr h
section
variable {α β:Type} {p:P α} {f:α->P β} {t:Toks} {Ro:β->Toks->Prop}
theorem jx_ (h: ∀a r,W (f a) r Ro (fun _ _=>True)):W (p>>=f) t Ro (fun _ _=>True):=by
 rw[jj_]
 exact W_true.mono (fun a r _=>h a r) fun _ _ z=>z
end
theorem stmt_kn (k d:Nat) (K:Known) (B:Blocks) (t:Toks):W (stmt k d K B) t (fun s _=>KnOk K s.1 s.2.1) (fun _ _=>True):=by
 cases k with
 |zero=>rw[stmt];exact True.intro
 |succ k=>
  cases h1:isKey t "let" with
  |true=>
   refine j04_ (stmt_let h1).symm (jx_ fun _ _=>?_)
   rw[jj_]
   refine newName_W.mono (fun x _ hx=>?_) fun _ _ z=>z
   exact jx_ fun _ _=>jx_ fun _ _=>jx_ fun _ _=>⟨rfl,hx⟩
  |false=>
   cases h2:isKey t "for" with
   |true=>
    refine j04_ (stmt_for h1 h2).symm ?_
    exact jx_ fun _ _=>jx_ fun _ _=>jx_ fun _ _=>jx_ fun _ _=>jx_ fun _ _=>jx_ fun _ _=>jx_ fun _ _=>jx_ fun _ _=>jx_ fun _ _=>rfl
   |false=>
    cases h3:isKey t "if" with
    |true=>
     refine j04_ (stmt_if h1 h2 h3).symm ?_
     refine jx_ fun _ _=>jx_ fun _ _=>jx_ fun _ _=>jx_ fun _ _=>jx_ fun _ _=>?_
     unfold condGo
     refine jx_ fun m _=>?_
     cases m with
     |true=>
      rw[if_pos rfl]
      exact jx_ fun _ _=>jx_ fun _ _=>rfl
     |false=>
      rw[if_neg Bool.false_ne_true]
      exact rfl
    |false=>
     cases h4:isKey t "block" with
     |true=>
      refine j04_ (stmt_block h1 h2 h3 h4).symm ?_
      exact jx_ fun _ _=>jx_ fun _ _=>jx_ fun _ _=>jx_ fun _ _=>jx_ fun _ _=>jx_ fun _ _=>jx_ fun _ _=>jx_ fun _ _=>jx_ fun _ _=>jx_ fun _ _=>jx_ fun _ _=>jx_ fun _ _=>jx_ fun _ _=>jx_ fun _ _=>rfl
     |false=>
      refine j04_ (stmt_step h1 h2 h3 h4).symm ?_
      exact jx_ fun _ _=>jx_ fun _ _=>jx_ fun _ _=>jx_ fun _ _=>jx_ fun _ _=>jx_ fun _ _=>jx_ fun _ _=>jx_ fun _ _=>jx_ fun _ _=>jx_ fun _ _=>jx_ fun _ _=>rfl
def lets (ss:List Stmt):List Bytes:=ss.filterMap letOf
def toS:List Stmt->Stmts->Stmts
 |[],l=>l
 |s::r,l=> .cons s (toS r l)
theorem toS_snoc {ss:List Stmt} {x:Stmt} {l:Stmts} :toS (ss++[x]) l=toS ss (.cons x l):=by
 induction ss with
 |nil=>rfl
 |cons y r ih=>show Stmts.cons y (toS (r++[x]) l)=_;rw[ih];rfl
structure LetsOk (K:Known) (ss:List Stmt) (K':Known):Prop where
 funs:K'.funs=K.funs
 vals:K'.values=(lets ss).reverse++K.values
 nodup:(lets ss).Nodup
 free: ∀x∈lets ss,x∉K.values
theorem LetsOk.nil {K:Known} :LetsOk K [] K:=⟨rfl,rfl,List.nodup_nil,fun _ z=>nomatch z⟩
theorem LetsOk.snoc {K K1 K2:Known} {ss:List Stmt} {s:Stmt} (h:LetsOk K ss K1) (h2:KnOk K1 s K2):LetsOk K (ss++[s]) K2:=by
 unfold KnOk at h2
 cases e:letOf s with
 |none=>
  rw[e] at h2
  have h2:K2=K1:=h2
  have:lets (ss++[s])=lets ss:=by unfold lets;rw[List.filterMap_append];simp [e]
  rw[h2]
  exact⟨h.funs,by rw[this];exact h.vals,by rw[this];exact h.nodup,by rw[this];exact h.free⟩
 |some x=>
  rw[e] at h2
  obtain⟨rfl,ht⟩:=h2
  have:lets (ss++[s])=lets ss++[x]:=by unfold lets;rw[List.filterMap_append];simp [e]
  unfold Known.taken at ht
  rw[Bool.or_eq_false_iff] at ht
  have nc:x∉K1.values:=fun z=>by rw[List.contains_iff_mem.mpr z] at ht;cases ht.1
  rw[h.vals] at nc
  refine⟨h.funs,?_,?_,?_⟩
  ·rw[this]
   show x::K1.values=_
   rw[h.vals,List.reverse_append]
   rfl
  ·rw[this,List.nodup_append]
   refine⟨h.nodup,List.nodup_cons.mpr ⟨List.not_mem_nil,List.nodup_nil⟩,fun a ha b hb=>?_⟩
   rw[List.mem_singleton.mp hb]
   intro z
   exact nc (List.mem_append.mpr (.inl (List.mem_reverse.mpr (by rw[<-z];exact ha))))
  ·rw[this]
   intro y hy z
   rcases List.mem_append.mp hy with hy|hy
   ·exact h.free y hy z
   ·rw[List.mem_singleton.mp hy] at z
    exact nc (List.mem_append.mpr (.inr z))
end OS
namespace OS
open Vbemac
abbrev TopR:=Top×Known×Nat×List Bytes
def funP (k:Nat) (K:Known) (n:Nat) (D:List Bytes):P TopR:=newName K>>=fun x=>sign "(">>=fun _=>ifSign ")">>=fun none_=>(if none_=true then give [] else params k PARAMS (K.with x))>>=fun ps=>sign "=">>=fun _=>
 expr k DEEP { K with values:=ps++K.values } >>=fun e=>sign ";">>=fun _=>pure (.func x ps e,{ K with funs:=(x,ps.length)::K.funs },n-1,D)
def constP (k:Nat) (K:Known) (n:Nat) (D:List Bytes):P TopR:=newName K>>=fun x=>sign "=">>=fun _=>expr k DEEP K>>=fun e=>sign ";">>=fun _=>pure (.const x e,K.with x,n,D)
def deskP (k:Nat) (K:Known) (n:Nat) (D:List Bytes):P TopR:=qz_ D>>=fun x=>sign "{">>=fun _=>stmts k NEST K []>>=fun l=>pure (.desk x l.1,K,n,x::D)
def top1 (k:Nat) (K:Known) (n:Nat) (D:List Bytes):P TopR:=fun t=>
 if isKey t "const"=true then(next>>=fun _=>constP k K n D:P TopR) t
 else if isKey t "fun"=true then(if n=0 then fail 7 t else(next>>=fun _=>funP k K n D:P TopR) t)
 else if isKey t "desk"=true then(next>>=fun _=>deskP k K n D:P TopR) t
 else fail 2 t
theorem top1_strict (k:Nat) (K:Known) (n:Nat) (D:List Bytes):yb_ (top1 k K n D):=fun t e=>by
 unfold top1
 rw[vg_ e,vg_ e,vg_ e,if_neg Bool.false_ne_true,if_neg Bool.false_ne_true,if_neg Bool.false_ne_true]
 exact jl_ 2 t e
theorem tops_go {k:Nat} {K:Known} {n:Nat} {D:List Bytes} {t:Toks} {Ro:Sheet->Toks->Prop} {Qe:Nat->Pos->Prop} (h0:peek t≠ .eof) (h:W (tops (k+1) K n D) t Ro Qe):
  W (top1 k K n D) t (fun x t'=>W (tops k x.2.1 x.2.2.1 x.2.2.2) t' (fun l t2=>Ro (x.1::l) t2) Qe) Qe:=by
 cases h1:isKey t "const" with
 |true=>
  have h:=j04_ (tops_const h0 h1) h
  refine j04_ (p:=(next>>=fun _=>constP k K n D:P TopR)) (t:=t) (by unfold top1;rw[if_pos h1]) ?_
  unfold constP
  simp only[jj_,W_pure] at h ⊢
  exact h
 |false=>
  have c1: ¬isKey t "const"=true:=by rw[h1];exact Bool.false_ne_true
  cases h2:isKey t "fun" with
  |true=>
   by_cases hn:n=0
   ·have h:W (fail 7:P Sheet) t Ro Qe:=j04_ (tops_fun0 h0 h1 h2 hn) h
    exact j04_ (p:=(fail 7:P TopR)) (t:=t) (by unfold top1;rw[if_neg c1,if_pos h2,if_pos hn]) h
   ·have h:=j04_ (tops_fun h0 h1 h2 hn) h
    refine j04_ (p:=(next>>=fun _=>funP k K n D:P TopR)) (t:=t) (by unfold top1;rw[if_neg c1,if_pos h2,if_neg hn]) ?_
    unfold funP
    simp only[jj_,W_pure] at h ⊢
    exact h
  |false=>
   have c2: ¬isKey t "fun"=true:=by rw[h2];exact Bool.false_ne_true
   cases h3:isKey t "desk" with
   |true=>
    have h:=j04_ (tops_desk h0 h1 h2 h3) h
    refine j04_ (p:=(next>>=fun _=>deskP k K n D:P TopR)) (t:=t) (by unfold top1;rw[if_neg c1,if_neg c2,if_pos h3]) ?_
    unfold deskP
    simp only[jj_,W_pure] at h ⊢
    exact h
   |false=>
    have h:W (fail 2:P Sheet) t Ro Qe:=j04_ (tops_else h0 h1 h2 h3) h
    exact j04_ (p:=(fail 2:P TopR)) (t:=t) (by unfold top1;rw[if_neg c1,if_neg c2,if_neg (by rw[h3];exact Bool.false_ne_true)]) h
end OS
namespace OS
open PySem
structure Left (l:List Addr) (ch:List Addr) (a:Addr) (oe:Obj) (h h':Heap):Prop where
 keep: ∀b o,b∉l->b∉ch->h.get? b=some o->h'.get? b=some o
 slot: ∀b o,b∈l->b∉ch->h.get? b=some o-> ∃sl,h'.get? b=some { o with slots:=sl }
 there: ∀b o,h.get? b=some o-> ∃u,h'.get? b=some u
 fly: ∃vs T oT ts,h'.get? a=some ⟨oe.cls,oe.dict, .fields vs,oe.slots⟩/\vs[1]?=some (.ref T)/\h.objs.size<=T/\T≠a/\h'.get? T=some oT/\oT.data= .fields ts/\ts[3]?=some .none
theorem mapFields_eq {o:Obj} {vs:Array Value} (hd:o.data= .fields vs) (f:Array Value->Array Value):o.mapFields f=⟨o.cls,o.dict, .fields (f vs),o.slots⟩:=by
 obtain⟨c,d,dt,sl⟩:=o
 cases hd
 rfl
section
variable {M:Model} {A:Around} {E:Value->Shared->Prop} {s:Shared} {base:Heap} {env:Env} {outer:List Env} {L a:Addr} {oe:Obj} {vs:Array Value} {Q:Unit->Shared->Prop}
theorem entry_then {head:Value} {hadNext:Bool} (hfr:A.frames=some (env::outer)) (hl:s.heap.FunFrames base (env::outer)) (hf:env.frame=some L)
  (he:s.heap.get? a=some oe) (hd:oe.data= .fields vs) (hsz:1<vs.size)
  (h: ∀h',Left ((env::outer).filterMap (·.frame)) [a] a oe s.heap h'->Q () { s with heap:=h' }):
  wpAny M A (frameOf env>>=fun x=>entryPlaceOf L hadNext>>=fun pl=>EntryCells.newEntry head x .none (rawInt L) .none pl>>=fun b=>setField (.ref a) 1 b) (fun _ s'=>wpAny M A (setFlight (.ref a) none) Q E s') E s:=by
 have na:a∉(env::outer).filterMap (·.frame):=fun hm=>by
  obtain⟨_,o,ho,hn⟩:=hl.mem hm
  rw[he] at ho
  cases ho
  exact hn vs hd
 refine wpAny_bind (wpAny_frameOf_fun hfr hl hf fun h1 S=>wpAny_bind (wpAny_entryPlaceOf fun pl hpl=>?_))
 unfold EntryCells.newEntry newFields
 refine wpAny_bind (wpAny_newObj_type ?_ (hpl.sizeOk5 _ _ _ _ _))
 have e1:h1.get? a=some oe:=(S.2.1 a na).trans he
 generalize ht:({ cls:= .type "traceback",dict:=none,data:= .fields ([head, .ref L, .none,rawInt L, .none]++(if pl.isEmpty then List.replicate 6 Value.none else pl)).toArray } :Obj)=tb
 have td:tb.data= .fields ([head, .ref L, .none,rawInt L, .none]++(if pl.isEmpty then List.replicate 6 Value.none else pl)).toArray:=by rw[<-ht]
 have tf:tb.isFreed=false:=Obj.isFreed_of_fields td
 have e2:(h1.push tb).get? a=some oe:=Heap.get?_push_of_some tb e1
 refine wpAny_setField e2 hd hsz ?_
 have ne:h1.objs.size≠a:=Nat.ne_of_gt (Heap.lt_size e1)
 have hd3:=Obj.data_mapFields hd (·.setIfInBounds 1 (Value.ref h1.objs.size))
 have e3:=Heap.get?_update_self (Obj.mapFields (·.setIfInBounds 1 (Value.ref h1.objs.size))) e2 (Obj.isFreed_of_fields hd3)
 have t3:((h1.push tb).update a (Obj.mapFields (·.setIfInBounds 1 (Value.ref h1.objs.size)))).get? h1.objs.size=some tb:=
  (Heap.get?_update_other (h1.push tb) _ (Ne.symm ne)).trans (Heap.get?_push_size h1 tf)
 unfold setFlight
 refine wpAny_bind (wpAny_field e3 hd3 (x:= .ref h1.objs.size) (by simp [hsz]) ?_)
 rw[if_pos (show(Value.ref h1.objs.size !=Value.none)=true from by simp)]
 have sz3:3<([head, .ref L, .none,rawInt L, .none]++(if pl.isEmpty then List.replicate 6 Value.none else pl)).toArray.size:=by
  simp only[List.size_toArray,List.length_append,List.length_cons,List.length_nil]
  omega
 refine wpAny_setField t3 td sz3 (h _ ?_)
 have other: ∀b,b≠a->b≠h1.objs.size-> ∀f,(((h1.push tb).update a (Obj.mapFields (·.setIfInBounds 1 (Value.ref h1.objs.size)))).update h1.objs.size f).get? b=(h1.push tb).get? b:=fun b x y f=>by
  rw[Heap.get?_update_other _ _ (Ne.symm y),Heap.get?_update_other _ _ (Ne.symm x)]
 have old: ∀b o,s.heap.get? b=some o->b≠h1.objs.size:=fun b o q=>by
  rw[S.1]
  exact Nat.ne_of_lt (Heap.lt_size q)
 have d4:=Obj.data_mapFields td (·.setIfInBounds 3 ((none:Option Addr).elim Value.none fun f=>rawInt f))
 have t4:=Heap.get?_update_self (Obj.mapFields (·.setIfInBounds 3 ((none:Option Addr).elim Value.none fun f=>rawInt f))) t3 (Obj.isFreed_of_fields d4)
 have a4:(((h1.push tb).update a (Obj.mapFields (·.setIfInBounds 1 (Value.ref h1.objs.size)))).update h1.objs.size (Obj.mapFields (·.setIfInBounds 3 ((none:Option Addr).elim Value.none fun f=>rawInt f)))).get? a=some ⟨oe.cls,oe.dict, .fields (vs.setIfInBounds 1 (Value.ref h1.objs.size)),oe.slots⟩:=by
  rw[Heap.get?_update_other _ _ ne,e3,mapFields_eq hd]
 refine⟨fun b o nl nc q=>?_,fun b o hb nc q=>?_,fun b o q=>?_,?_⟩
 ·rw[other b (fun z=>nc (by rw[z];exact List.mem_cons_self)) (old b o q)]
  exact Heap.get?_push_of_some tb ((S.2.1 b nl).trans q)
 ·obtain⟨sl,z⟩:=S.2.2 b o q
  exact⟨sl,by rw[other b (fun y=>nc (by rw[y];exact List.mem_cons_self)) (old b o q)];exact Heap.get?_push_of_some tb z⟩
 ·by_cases ba:b=a
  ·rw[ba];exact⟨_,a4⟩
  ·obtain⟨sl,z⟩:=S.2.2 b o q
   exact⟨_,by rw[other b ba (old b o q)];exact Heap.get?_push_of_some tb z⟩
 ·refine⟨_,h1.objs.size,_,_,a4,by simp [hsz],Nat.le_of_eq S.1.symm,ne,t4,d4,?_⟩
  simp
theorem leave_new (hfr:A.frames=some (env::outer)) (hl:s.heap.FunFrames base (env::outer)) (hf:env.frame=some L)
  (he:s.heap.get? a=some oe) (hd:oe.data= .fields vs) (h1:vs[1]?=some .none)
  (h: ∀h',Left ((env::outer).filterMap (·.frame)) [a] a oe s.heap h'->Q () { s with heap:=h' }):wpAny M A (leaving env (.ref a)) Q E s:=by
 unfold leaving noteFrame
 simp only[hf]
 refine wpAny_bind (wpAny_bind (wpAny_field he hd h1 ?_))
 rw[if_neg (by decide)]
 exact entry_then hfr hl hf he hd (Array.getElem?_eq_some_iff.mp h1).1 h
theorem look_on {T:Addr} {oT:Obj} {ts:Array Value} (hfr:A.frames=some (env::outer)) (hl:s.heap.FunFrames base (env::outer)) (hf:env.frame=some L)
  (he:s.heap.get? a=some oe) (hd:oe.data= .fields vs) (h1:vs[1]?=some (.ref T)) (ne:T≠a) (hT:s.heap.get? T=some oT) (hdT:oT.data= .fields ts) (h3:ts[3]?=some .none)
  (h: ∀h',Left ((env::outer).filterMap (·.frame)) [a,T] a oe s.heap h'->Q () { s with heap:=h' }):wpAny M A (noteFrame (.ref a) env) (fun _ s'=>wpAny M A (setFlight (.ref a) none) Q E s') E s:=by
 unfold noteFrame
 simp only[hf]
 refine wpAny_bind (wpAny_field he hd h1 ?_)
 rw[if_pos (show(Value.ref T !=Value.none)=true from by simp)]
 refine wpAny_bind (wpAny_field hT hdT h3 ?_)
 rw[if_neg (show¬((Value.none == rawInt L)=true) from by simp [rawInt])]
 refine wpAny_bind (wpAny_setField hT hdT (Array.getElem?_eq_some_iff.mp h3).1 ?_)
 have other: ∀b,b≠T->(s.heap.update T (Obj.mapFields (·.setIfInBounds 3 Value.none))).get? b=s.heap.get? b:=fun b hb=>Heap.get?_update_other _ _ (Ne.symm hb)
 have nT:T∉(env::outer).filterMap (·.frame):=fun hm=>by
  obtain⟨_,o,ho,hn⟩:=hl.mem hm
  rw[hT] at ho
  cases ho
  exact hn ts hdT
 have sT:=Heap.get?_update_self (Obj.mapFields (·.setIfInBounds 3 Value.none)) hT (Obj.isFreed_of_fields (Obj.data_mapFields hdT _))
 refine entry_then (s:= { s with heap:=s.heap.update T (Obj.mapFields (·.setIfInBounds 3 Value.none)) }) hfr (hl.of_keeps fun b o hb hn=>⟨o,(other b fun q=>by rw[q,hT] at hb;cases hb;exact hn ts hdT).trans hb,rfl⟩) hf ((other a (Ne.symm ne)).trans he) hd (Array.getElem?_eq_some_iff.mp h1).1 fun h' X=>h h' ?_
 have size:(s.heap.update T (Obj.mapFields (·.setIfInBounds 3 Value.none))).objs.size=s.heap.objs.size:=Heap.size_after_update ..
 refine⟨fun b o nl nc q=>X.keep b o nl (fun z=>nc (by rcases List.mem_cons.mp z with z|z;rw[z];exact List.mem_cons_self;cases z)) ((other b fun z=>nc (by rw[z];simp)).trans q),
  fun b o hb nc q=>X.slot b o hb (fun z=>nc (by rcases List.mem_cons.mp z with z|z;rw[z];exact List.mem_cons_self;cases z)) ((other b fun z=>nc (by rw[z];simp)).trans q),fun b o q=>?_,?_⟩
 ·by_cases bT:b=T
  ·rw[bT];exact X.there T _ sT
  ·exact X.there b o ((other b bT).trans q)
 ·obtain⟨ws,T',oT',ts',x1,x2,x3,x4⟩:=X.fly
  exact⟨ws,T',oT',ts',x1,x2,by rw[<-size];exact x3,x4⟩
theorem leave_on {T:Addr} {oT:Obj} {ts:Array Value} (hfr:A.frames=some (env::outer)) (hl:s.heap.FunFrames base (env::outer)) (hf:env.frame=some L)
  (he:s.heap.get? a=some oe) (hd:oe.data= .fields vs) (h1:vs[1]?=some (.ref T)) (ne:T≠a) (hT:s.heap.get? T=some oT) (hdT:oT.data= .fields ts) (h3:ts[3]?=some .none)
  (h: ∀h',Left ((env::outer).filterMap (·.frame)) [a,T] a oe s.heap h'->Q () { s with heap:=h' }):wpAny M A (leaving env (.ref a)) Q E s:=by
 unfold leaving
 exact wpAny_bind (look_on hfr hl hf he hd h1 ne hT hdT h3 h)
end
end OS
namespace OS
open PySem
section
variable {prog:Program} {w:World} {A:Around} {E:Value->Shared->Prop} {h:Heap} {g:Array GenState} {d:Drawn} {t:Nat} {os:OsState}
variable {nm q:Str} {C N:Addr} {bs bm bmB:List Value} {hdct:Bool} {sn:List Str} {sub:List Value} {ab:Bool} {col:Option Bool} {dd:Option Addr} {k0 k1 k2 k3 k5:Option Value} {B newId initId:String}
def LA (h:Heap) (l:List Value) (name:Str) (y:Option Value):Prop:= ∀(M:Model) (A:Around) (E:Value->Shared->Prop) (g:Array GenState) (d:Drawn) (t:Nat) (os:OsState) (Q:Option Value->Shared->Prop),Q y ⟨h,g,d,t,os⟩->wpAny M A (lookupAlong l name) Q E ⟨h,g,d,t,os⟩
theorem LA.of {l:List Value} {name:Str} {y:Option Value} (m:mroOf (.type B)=pure l) (k:typeLookup (.type B) name=pure y):LA h l name y:=by
 rw[typeLookup_eq,m] at k
 intro M A E g d t os Q q
 rw[show lookupAlong l name=pure y from k]
 exact wpAny_pure q
theorem LA.own {a:Addr} {c0:Value} {da:Option Addr} {cd:ClassData} {sl:Array (Option Value)} {mA:Str->Option Value} {l:List Value} {name:Str} {y:Option Value} (o:h.get? a=some ⟨c0,da, .cls cd,sl⟩) (n:h.Ns cd.ns mA) (z:mA name=none) (k:LA h l name y):LA h (.ref a::l) name y:=by
 intro M A E g d t os Q q
 rw[lookupAlong_cons]
 refine wpAny_bind (wpAny_classOwn_cls o n ?_)
 rw[z]
 exact k M A E g d t os Q q
theorem j0u_ {M:Model} {name:Str} {mN:Str->Option Value} {y:Option Value} {Q:Option Value->Shared->Prop} (hC:h.get? C=some (excClassObj nm q C N bs bm hdct sn sub ab col dd k0 k1 k2 k3 k5 newId)) (n:h.Ns N mN) (k:mN name=none->LA h bm name y)
  (q:Q (match mN name with|some v=>some v|none=>y) ⟨h,g,d,t,os⟩):wpAny M A (typeLookup (.ref C) name) Q E ⟨h,g,d,t,os⟩:=by
 rw[typeLookup_eq]
 refine wpAny_bind (wpAny_mroOf_exc hC ?_)
 rw[lookupAlong_cons]
 refine wpAny_bind (wpAny_classOwn_exc hC n ?_)
 cases z:mN name with
 |some v=>rw[z] at q;exact wpAny_pure q
 |none=>rw[z] at q;exact k z M A E g d t os Q q
abbrev qm_ (C T:Addr):Obj:= { cls:= .ref C,data:= .fields #[.ref T, .none, .none, .none, .bool false, .none] }
abbrev uv_ (l:List Value):Obj:= { cls:= .type "tuple",data:= .seq l.toArray }
def InitEnd (x:Addr) (Q:Value->Shared->Prop) (E:Value->Shared->Prop) (r:Result) (s':Shared):Prop:=match r with
 | .ok (.ret v)=>v= .none/\Q (.ref x) s'
 | .ok _=>False
 | .error e=>E e s'
structure Up (bm l:List Value) (B:String):Prop where
 b:l.contains (.type B)=true
 a:l.contains (.type "AttributeError")=false
 n:l.contains (.type "NameError")=false
theorem new_look (F:ExcBaseFacts B newId initId bmB) {M:Model} (U:Up bm (.ref C::bm) B) {rest:List Value} {Q:Unit->Shared->Prop} (hC:h.get? C=some (excClassObj nm q C N bs bm hdct sn sub ab col dd k0 k1 k2 k3 k5 newId)) (z:Q () ⟨h,g,d,t,os⟩):wpAny M A (checkBuiltinCall newId ⟨.ref C::rest,[]⟩) Q E ⟨h,g,d,t,os⟩:=by
 have u:=U.b
 have st:=F.noStar
 simp only[F.newRow,F.newSplit,F.newKind,checkBuiltinCall]
 repeat (first|(refine wpAny_isSubtype_exc hC ?_;rw[u])|refine wpAny_loadPart_at hC ?_|refine wpAny_madeBy_exc hC ?_|refine wpAny_staticBase_exc hC ?_|simp only[bne_self_eq_false,Bool.false_eq_true,if_false]|wp_step)
 exact z
theorem new_made (F:ExcBaseFacts B newId initId bmB) (U:Up bm (.ref C::bm) B) {rest:List Value} {R:Result->Shared->Prop} (hC:h.get? C=some (excClassObj nm q C N bs bm hdct sn sub ab col dd k0 k1 k2 k3 k5 newId)) (z:R (.ok (.ret (.ref (h.objs.size+1)))) ⟨(h.push (uv_ rest)).push (qm_ C h.objs.size),g,d,t,os⟩) (hrest:rest.length<=sizeLine):
  codeAny (model prog w) A (.builtin newId ⟨.ref C::rest,[]⟩) R ⟨h,g,d,t,os⟩:=by
 have hends:=F.ends
 have u1:=U.b
 have u2:=U.a
 have u3:=U.n
 refine codeAny_builtinAt F.entry ?_
 unfold Builtin.«BaseException.__new__»
 refine wpAt_bind ?_
 show wpAt _ _ _ (stack>>=_) _ _ _
 refine wpAt_bind (wpAt_stack fun _ _=>wpAt_of_wpAny ?_)
 wp_walk
 refine wpAt_of_wpAny ?_
 rw[F.owner]
 repeat (first|(with_reducible refine wpAny_isSubtype_exc hC ?_;first|rw[u1]|rw[u2]|rw[u3])|with_reducible refine wpAny_madeHere_exc F.canon hC ?_|with_reducible refine wpAny_loadPart_at hC ?_|wp_step)
 show R _ _
 rw[Heap.size_push]
 exact z
theorem init_look (F:ExcBaseFacts B newId initId bmB) (U:Up bm (.ref C::bm) B) {M:Model} {e:Addr} {oe:Obj} {rest:List Value} {Q:Unit->Shared->Prop}
  (hC:h.get? C=some (excClassObj nm q C N bs bm hdct sn sub ab col dd k0 k1 k2 k3 k5 newId)) (he:h.get? e=some oe) (hcls:oe.cls= .ref C) (z:Q () ⟨h,g,d,t,os⟩):wpAny M A (checkBuiltinCall initId ⟨.ref e::rest,[]⟩) Q E ⟨h,g,d,t,os⟩:=by
 have u:=U.b
 have st:=F.noStar
 simp only[F.initRow,F.initSplit,F.initKind,checkBuiltinCall]
 repeat (first|(with_reducible refine wpAny_isSubtype_exc hC ?_;rw[u])|(with_reducible refine wpAny_loadPart_at he ?_;rw[hcls])|with_reducible refine wpAny_loadPart_at hC ?_|wp_step)
 refine wpAny_onRaise ?_
 rw[show∀(a b:String) (n:Nat),Bind.check ⟨.positional,"*",B, .self,[⟨"args", .varPos,false⟩]⟩ a b n (List.map (fun x=>x.1) ({ pos:=Value.ref e::rest } :Args).kw)=pure () from fun _ _ _=>check_star_args _ _ _ _ _ _]
 exact wpAny_pure z
theorem type_call_own (F:ExcBaseFacts B newId initId bmB) (U:Up bm (.ref C::bm) B) {mN:Str->Option Value} {rest:List Value} {fI:Addr} {oI:Obj} {Q:Fin->Shared->Prop}
  (hC:h.get? C=some (excClassObj nm q C N bs bm hdct sn sub ab col dd k0 k1 k2 k3 k5 newId)) (hn:h.Ns N mN) (hni:mN "__init__"=some (.ref fI)) (hI:h.get? fI=some oI) (hIc:oI.cls= .type "function")
  (hq:codeAny (model prog w) A (.call (.ref fI) ⟨.ref (h.objs.size+1)::rest,[]⟩) (InitEnd (h.objs.size+1) (fun v s'=>Q (.done (.ret v)) s') E) ⟨(h.push (uv_ rest)).push (qm_ C h.objs.size),g,d,t,os⟩)
  (hrest:rest.length<=sizeLine):
  wpAny (model prog w) A (Builtin.«type.__call__» ⟨.ref C::rest,[]⟩) Q E ⟨h,g,d,t,os⟩:=by
 repeat (first|with_reducible refine wpAny_loadPart_at hC ?_|with_reducible refine wpAny_madeBy_exc hC ?_|wp_step)
 refine codeAny_call_builtin_code (Code.quiet_builtin _ F.quiet) (new_look F U hC ?_)
 refine new_made F U hC ?_ hrest
 show wpAny _ _ _ _ _ _
 have c1:((h.push (uv_ rest)).push (qm_ C h.objs.size)).get? C=some (excClassObj nm q C N bs bm hdct sn sub ab col dd k0 k1 k2 k3 k5 newId):=Heap.get?_push_of_some _ (Heap.get?_push_of_some _ hC)
 have n1:((h.push (uv_ rest)).push (qm_ C h.objs.size)).Ns N mN:=
  let ⟨o,es,ep,e,r⟩:=hn;⟨o,es,ep,Heap.get?_push_of_some _ (Heap.get?_push_of_some _ e),r⟩
 have i1:((h.push (uv_ rest)).push (qm_ C h.objs.size)).get? fI=some oI:=Heap.get?_push_of_some _ (Heap.get?_push_of_some _ hI)
 have e1:((h.push (uv_ rest)).push (qm_ C h.objs.size)).get? (h.objs.size+1)=some (qm_ C h.objs.size):=by heap_get
 have hcC:(Value.ref C::bm).contains (.ref C)=true:=by simp
 unfold isInstance
 repeat (first|with_reducible refine wpAny_loadPart_at e1 ?_|(with_reducible refine wpAny_isSubtype_exc c1 ?_;rw[hcC])|wp_step)
 show wpAny _ _ (typeLookup (.ref C) _) _ _ _
 refine j0u_ (y:=none) c1 n1 (fun z=>by rw[hni] at z;cases z) ?_
 rw[hni]
 refine wpAny_holding ?_
 unfold bindSpecial
 refine wpAny_bind (wpAny_bind ?_)
 have hT:(⟨(h.push (uv_ rest)).push (qm_ C h.objs.size),g,d,t,os⟩:Shared).TypeIs (.ref fI) "function":=⟨_,i1,hIc⟩
 refine wpAny_typeOf hT (wpAny_pure (wpAny_bind (wpAny_call (codeAny_mono hq fun r s' z=>?_))))
 rcases r with e|(v|_|_|_)
 ·exact z
 ·exact z.elim
 ·exact z.elim
 ·exact z.elim
 ·obtain⟨rfl,z⟩:=z
  exact wpAny_pure (wpAny_pure z)
theorem call_own (F:ExcBaseFacts B newId initId bmB) (U:Up bm (.ref C::bm) B) {mN:Str->Option Value} {rest:List Value} {fI:Addr} {oI:Obj} {R:Result->Shared->Prop}
  (hC:h.get? C=some (excClassObj nm q C N bs bm hdct sn sub ab col dd k0 k1 k2 k3 k5 newId)) (hn:h.Ns N mN) (hni:mN "__init__"=some (.ref fI)) (hI:h.get? fI=some oI) (hIc:oI.cls= .type "function")
  (hq:codeAny (model prog w) (A.under (.builtin "type.__call__" ⟨.ref C::rest,[]⟩)) (.call (.ref fI) ⟨.ref (h.objs.size+1)::rest,[]⟩) (InitEnd (h.objs.size+1) (fun v s'=>R (.ok (.ret v)) s') (fun e s'=>R (.error e) s')) ⟨(h.push (uv_ rest)).push (qm_ C h.objs.size),g,d,t,os⟩)
  (hrest:rest.length<=sizeLine):
  codeAny (model prog w) A (.call (.ref C) ⟨rest,[]⟩) R ⟨h,g,d,t,os⟩:=by
 have f1:=tc_lookup
 have f2:=tc_bind (.ref C)
 have hT:(⟨h,g,d,t,os⟩:Shared).TypeIs (.ref C) "type":=⟨_,hC,rfl⟩
 refine codeAny_of_tree ?_
 show wpAny _ _ (callAny (.ref C) _) _ _ _
 repeat (any_goals (first|assumption|with_reducible refine wpAny_loadPart_at hC ?_|wp_step))
 refine⟨rfl,?_⟩
 refine codeAny_call_builtin_at (Code.quiet_builtin _ (by decide+kernel)) entry_typeCall (wpAny_check_type_call_sub hC (type_call_own F U hC hn hni hI hIc ?_ hrest))
 exact hq
theorem init_base (F:ExcBaseFacts B newId initId bmB) (U:Up bm (.ref C::bm) B) {e T:Addr} {R:Result->Shared->Prop}
  (hC:h.get? C=some (excClassObj nm q C N bs bm hdct sn sub ab col dd k0 k1 k2 k3 k5 newId)) (he:h.get? e=some (qm_ C T))
  (hq:R (.ok (.ret .none)) ⟨(h.push (uv_ [])).update e (Obj.mapFields (·.setIfInBounds 0 (.ref h.objs.size))),g,d,t,os⟩):
  codeAny (model prog w) A (.call (.builtin initId) ⟨[.ref e],[]⟩) R ⟨h,g,d,t,os⟩:=by
 refine codeAny_call_builtin F.init.plain F.initEntry (init_look F U hC he rfl ?_)
 unfold Builtin.«BaseException.__init__»
 wp_walk
 exact hq
end
abbrev qg_:List Value:=[.type "Exception", .type "BaseException", .type "object"]
theorem lk_ga:typeLookup (.type "Exception") "__getattribute__"=pure (some (.builtin "BaseException.__getattribute__")):=by rw[typeLookup_type,builtinLookup_eq_fast];kernel_rfl
theorem lk_gh:typeLookup (.type "Exception") "__getattr__"=pure none:=by rw[typeLookup_type,builtinLookup_eq_fast];kernel_rfl
theorem slot_ga:Slot "Exception" "__getattribute__" "BaseException.__getattribute__":=
 .of (owner:="BaseException") (n:="__getattribute__") (by rw[typeLookup_type,builtinLookup_eq_fast];kernel_rfl) (by decide+kernel) (by decide+kernel) (by decide+kernel)
  (by first|exact .inl (by decide+kernel)|exact .inr (by decide+kernel)) (by rw[isSubtype_type];kernel_rfl)
section
open Builtin Builtin.ObjectAttr
variable {prog:Program} {w:World} {A:Around} {E:Value->Shared->Prop} {h:Heap} {g:Array GenState} {d:Drawn} {t:Nat} {os:OsState}
variable {nm q:Str} {C N x:Addr} {bs bm:List Value} {sn:List Str} {sub:List Value} {ab:Bool} {col:Option Bool} {dd:Option Addr} {k0 k1 k2 k3 k5:Option Value} {newId:String}
 {mN mA:Str->Option Value} {name:Str} {v:Value}
theorem exc_entry {tk:Tok} {Q:PySem.Fin->Shared->Prop}
  (hC:h.get? C=some (excClassObj nm q C N bs bm true sn sub ab col dd k0 k1 k2 k3 k5 newId)) (hn:h.Ns N mN) (hna:mN name=none)
  (hB:LA h bm name none) (I:h.Inst x C mA) (hv:mA name=some v) (hq:Q (.done (.ret v)) ⟨h,g,d,t,os⟩):
  wpAny (model prog w) A (Builtin.«object.__getattribute__» ⟨[.ref x, .str name tk],[]⟩) Q E ⟨h,g,d,t,os⟩:=by
 obtain⟨o,hx,hc,hnc,hd⟩:=I
 rcases hd with⟨_,hmA⟩|⟨dx,hdx,hne,hns⟩
 ·rw[hmA name] at hv;cases hv
 unfold Builtin.«object.__getattribute__»
 repeat (first|(with_reducible refine wpAny_loadPart_at hx ?_;rw[hc])|(with_reducible refine j0u_ hC hn (fun _=>hB) ?_;rw[hna])|wp_step)
 split
 ·rename_i c hcd
  exact absurd hcd (hnc c)
 unfold instanceDict
 repeat (first|(with_reducible refine wpAny_loadPart_at hx ?_;rw[hc])|with_reducible refine wpAny_loadPart_at hC ?_|wp_step)
 rw[hdx]
 repeat (first|(with_reducible refine wpAny_nsGet hns.ns ?_;rw[hv])|wp_step)
 exact hq
theorem exc_z77 {M:Model} (hcB:(Value.ref C::bm).contains (.type "BaseException")=true) {o:Obj} {nameV:Value} {Q:Unit->Shared->Prop} (hC:h.get? C=some (excClassObj nm q C N bs bm true sn sub ab col dd k0 k1 k2 k3 k5 newId))
  (hx:h.get? x=some o) (hc:o.cls= .ref C) (hq:Q () ⟨h,g,d,t,os⟩):wpAny M A (checkBuiltinCall "BaseException.__getattribute__" ⟨[.ref x,nameV],[]⟩) Q E ⟨h,g,d,t,os⟩:=by
 have hk:builtinKind "BaseException.__getattribute__"=some .slot:=by decide+kernel
 have hsplit:splitId "BaseException.__getattribute__"=some ("BaseException","__getattribute__"):=by decide+kernel
 have ha:=PySem.F.args_bexc_ga (.ref x) nameV
 simp only[checkBuiltinCall,hk,hsplit]
 refine wpAny_bind ?_
 unfold isInstance
 repeat (first|(with_reducible refine wpAny_loadPart_at hx ?_;rw[hc])|(with_reducible refine wpAny_isSubtype_exc hC ?_;rw[hcB])|wp_step)
 exact hq
theorem exc_get (hcB:(Value.ref C::bm).contains (.type "BaseException")=true) (l1:LA h bm "__getattribute__" (some (.builtin "BaseException.__getattribute__"))) (l2:LA h bm "__getattr__" none) {expr:Bool} {Q:Value->Shared->Prop}
  (hC:h.get? C=some (excClassObj nm q C N bs bm true sn sub ab col dd k0 k1 k2 k3 k5 newId)) (hn:h.Ns N mN) (hng:mN "__getattribute__"=none) (hnh:mN "__getattr__"=none) (hna:mN name=none)
  (hB:LA h bm name none) (I:h.Inst x C mA) (hv:mA name=some v) (hh:handedOut v=pure v) (hq:Q v ⟨h,g,d,t+1,os⟩):
  wpAny (model prog w) A (getAttr (.ref x) name expr) Q E ⟨h,g,d,t,os⟩:=by
 obtain⟨o,hx,hc,_⟩:=id I
 have f3:=slot_ga.bind (.ref x)
 have hx0:(expr&&onTheHeap (Value.builtin "BaseException.__getattribute__"))=false:=by cases expr<;>rfl
 have hx2:(Value.builtin "BaseException.__getattribute__" == Value.builtin "object.__getattribute__")=false:=by decide+kernel
 have hx1:(onTheHeap (Value.ref C)&&Value.builtin "BaseException.__getattribute__" == Value.builtin "object.__getattribute__")=false:=by rw[hx2];rfl
 have hx3:onTheHeap (Value.ref C)=true:=rfl
 unfold getAttr getAttrBy
 repeat (any_goals (first|assumption|(with_reducible refine wpAny_loadPart_at hx ?_;rw[hc])|(with_reducible refine j0u_ hC hn (fun _=>l1) ?_;rw[hng])|(with_reducible refine j0u_ hC hn (fun _=>l2) ?_;rw[hnh])|wp_step))
 exact codeAny_call_builtin slot_ga.plain PySem.F.entry_bexc_ga (exc_z77 hcB hC hx hc (exc_entry hC hn hna hB I hv (by show wpAny _ _ (handedOut v) _ _ _;rw[hh];exact wpAny_pure hq)))
end
end OS
namespace OS
open PySem
section
open Builtin Builtin.ObjectAttr
variable {prog:Program} {w:World} {A:Around} {E:Value->Shared->Prop} {h:Heap} {g:Array GenState} {d:Drawn} {t:Nat} {os:OsState}
variable {nm q:Str} {C N x R:Addr} {bs bm:List Value} {sn:List Str} {sub:List Value} {ab:Bool} {col:Option Bool} {dd:Option Addr} {k0 k1 k2 k3 k5:Option Value} {newId:String}
 {mN mA:Str->Option Value} {name:Str} {v:Value} {o:Obj} {vs:Array Value} {sa owner B:String}
theorem sa_look {M:Model} {y:Value} {Q:Unit->Shared->Prop} (SF:StoreFacts B bm sa owner) (hC:h.get? C=some (excClassObj nm q C N bs (.ref R::bm) true sn sub ab col dd k0 k1 k2 k3 k5 newId)) (hx:h.get? x=some o) (hc:o.cls= .ref C) (z:Q () ⟨h,g,d,t,os⟩):
  wpAny M A (checkBuiltinCall sa ⟨[.ref x,y,v],[]⟩) Q E ⟨h,g,d,t,os⟩:=by
 have u:(Value.ref C:: .ref R::bm).contains (.type owner)=true:=by rw[List.contains_cons,List.contains_cons,SF.hasOwner,Bool.or_true,Bool.or_true]
 have ha:=SF.args (.ref x) y v
 simp only[SF.split,SF.kind,checkBuiltinCall]
 refine wpAny_bind ?_
 unfold isInstance
 repeat (first|(with_reducible refine wpAny_isSubtype_exc hC ?_;rw[u])|(with_reducible refine wpAny_loadPart_at hx ?_;rw[hc])|wp_step)
 cases hs:Manifest.signature? sa with
 |none=>exact wpAny_pure z
 |some r=>
  simp only[argsOk,hs] at ha
  show wpAny M A (Bind.checkArgs sa r ⟨[.ref x,y,v],[]⟩) Q E _
  rw[show Bind.checkArgs sa r ⟨[.ref x,y,v],[]⟩=pure () from ha]
  exact wpAny_pure z
theorem exc_put0 {tk:Tok} {Q:PySem.Fin->Shared->Prop} (SF:StoreFacts B bm sa owner) (hC:h.get? C=some (excClassObj nm q C N bs (.ref R::bm) true sn sub ab col dd k0 k1 k2 k3 k5 newId)) (hn:h.Ns N mN) (hna:mN name=none)
  (hB:LA h (.ref R::bm) name none) (hx:h.get? x=some o) (hc:o.cls= .ref C) (hdn:o.dict=none) (hfd:o.data= .fields vs)
  (hq: ∀h' tk',(∀b ob,b≠x->h.get? b=some ob->h'.get? b=some ob)->h'.get? x=some ⟨o.cls,some h.objs.size,o.data,o.slots⟩->h'.Ns1 h.objs.size (fun y=>if y=name then some v else none)->
   Q (.done (.ret .none)) ⟨h',g,d,tk',os⟩):
  wpAny (model prog w) A (Builtin.«object.__setattr__» ⟨[.ref x, .str name tk,v],[]⟩) Q E ⟨h,g,d,t,os⟩:=by
 have hpass:=SF.passes (.ref x)
 unfold Builtin.«object.__setattr__»
 repeat (first|rw[refuse_eq]|(rw[refuseLoop_ref,refuseLoop_ref,hpass])|(with_reducible refine wpAny_loadPart_at hx ?_;rw[hc])|with_reducible refine wpAny_mroOf_exc hC ?_|(with_reducible refine j0u_ hC hn (fun _=>hB) ?_;rw[hna])|wp_step)
 rw[hdn,if_neg (by simp [typeHasDict])]
 split
 ·rename_i z
  cases z
 split
 ·rename_i c z
  rw[hfd] at z
  cases z
 ·have x1:(h.push { cls:= .type "dict",data:= .dict #[] }).get? x=some o:=Heap.get?_push_of_some _ hx
  have ne:x≠h.objs.size:=Nat.ne_of_lt (Heap.lt_size hx)
  refine wpAny_bind (wpAny_alloc' ?_)
  refine wpAny_bind (wpAny_update' x1 ?_)
  refine wpAny_pure ?_
  have hgd:((h.push { cls:= .type "dict",data:= .dict #[] }).update x fun o=> { cls:=o.cls,dict:=some h.objs.size,data:=o.data,slots:=o.slots }).get? h.objs.size
    =some { cls:= .type "dict",data:= .dict #[] } :=
   (Heap.get?_update_ne _ _ _ _ ne.symm).trans (Heap.get?_push_at rfl rfl)
  have hnd:((h.push { cls:= .type "dict",data:= .dict #[] }).update x fun o=> { cls:=o.cls,dict:=some h.objs.size,data:=o.data,slots:=o.slots }).Ns h.objs.size (fun _=>none):=
   ⟨_, #[],_,hgd,rfl,fun e he=>absurd he (by simp),fun _=>rfl⟩
  show wpAny _ _ (storeInDict h.objs.size (.str name tk) name v) _ _ _
  unfold storeInDict newKeyGuard
  refine wpAny_bind (wpAny_pure (wpAny_bind (wpAny_nsSet1 (Heap.Ns1.of_empty hnd) fun h' hn' hs=>?_)))
  obtain⟨oD,esD,epD,hoD,hdD,hcD⟩:=hn'.count (Within.cons name v Within.nil)
  refine wpAny_bind (wpAny_lookBehind hoD (by rw[hdD];exact pastItsLine_dict (Nat.le_trans hcD (by rw[List.length_cons,List.length_nil,sizeLine_eq];omega))) ?_)
  wp_walk
  refine hq h' _ (fun b ob hb e=>?_) ?_ hn'
  ·exact(hs.2 b (Nat.ne_of_lt (Heap.lt_size e))).trans ((Heap.get?_update_ne _ _ _ _ hb).trans (Heap.get?_push_of_some _ e))
  ·refine(hs.2 x ne).trans (Heap.get?_update_self _ x1 ?_)
   have hfr:=(Heap.get?_some_iff.mp hx).2
   obtain⟨oc,od,odt,osl⟩:=o
   cases odt<;>first|rfl|exact hfr
theorem exc_put1 {tk:Tok} {dx:Addr} {ns:List Str} {Q:PySem.Fin->Shared->Prop} (SF:StoreFacts B bm sa owner) (hC:h.get? C=some (excClassObj nm q C N bs (.ref R::bm) true sn sub ab col dd k0 k1 k2 k3 k5 newId)) (hn:h.Ns N mN) (hna:mN name=none)
  (hB:LA h (.ref R::bm) name none) (hx:h.get? x=some o) (hc:o.cls= .ref C) (hdx:o.dict=some dx) (hd:h.Ns1 dx mA) (hw:Within mA ns) (hsz:ns.length<=1000)
  (hq: ∀h' tk',(∀b ob,b≠dx->h.get? b=some ob->h'.get? b=some ob)->h'.Ns1 dx (fun y=>if y=name then some v else mA y)->Q (.done (.ret .none)) ⟨h',g,d,tk',os⟩):
  wpAny (model prog w) A (Builtin.«object.__setattr__» ⟨[.ref x, .str name tk,v],[]⟩) Q E ⟨h,g,d,t,os⟩:=by
 have hpass:=SF.passes (.ref x)
 unfold Builtin.«object.__setattr__»
 repeat (first|rw[refuse_eq]|(rw[refuseLoop_ref,refuseLoop_ref,hpass])|(with_reducible refine wpAny_loadPart_at hx ?_;rw[hc])|with_reducible refine wpAny_mroOf_exc hC ?_|(with_reducible refine j0u_ hC hn (fun _=>hB) ?_;rw[hna])|wp_step)
 rw[hdx]
 refine wpAny_pure ?_
 show wpAny _ _ (storeInDict dx (.str name tk) name v) _ _ _
 unfold storeInDict newKeyGuard
 refine wpAny_bind (wpAny_pure (wpAny_bind (wpAny_nsSet1 hd fun h' n' hs=>?_)))
 obtain⟨o1,es1,ep1,h1,d1,c1⟩:=n'.count (Within.cons name v hw)
 refine wpAny_bind (wpAny_lookBehind h1 (by rw[d1];exact pastItsLine_dict (Nat.le_trans c1 (by rw[List.length_cons,sizeLine_eq];omega))) ?_)
 wp_walk
 exact hq h' _ (fun b ob hb e=>(hs.2 b hb).trans e) n'
theorem exc_set {Q:Unit->Shared->Prop} (SF:StoreFacts B bm sa owner) (hC:h.get? C=some (excClassObj nm q C N bs (.ref R::bm) true sn sub ab col dd k0 k1 k2 k3 k5 newId)) (hn:h.Ns N mN) (hns:mN "__setattr__"=none) (l:LA h (.ref R::bm) "__setattr__" (some (.builtin sa))) (hx:h.get? x=some o) (hc:o.cls= .ref C)
  (hq: ∀tk t,wpAny (model prog w) A.in1 (Builtin.«object.__setattr__» ⟨[.ref x, .str name tk,v],[]⟩) (fun f s'=>f= .done (.ret .none)/\Q () s') (fun _ _=>False) ⟨h,g,d,t,os⟩):
  wpAny (model prog w) A (setAttr (.ref x) name v) Q E ⟨h,g,d,t,os⟩:=by
 have f3:=SF.slot.bind (.ref x)
 unfold setAttr callSpecial? specialOf
 repeat (any_goals (first|assumption|(with_reducible refine wpAny_loadPart_at hx ?_;rw[hc])|(with_reducible refine j0u_ hC hn (fun _=>l) ?_;rw[hns])|wp_step))
 refine codeAny_call_builtin SF.slot.plain SF.entry (sa_look SF hC hx hc (wpAny_mono (hq _ _) (fun f s' z=>?_) fun _ _ z=>z.elim))
 obtain⟨rfl,z⟩:=z
 repeat (any_goals (first|assumption|wp_step))
end
end OS
namespace OS
open PySem PySem.Spec L2
open PyProof.Rows hiding St
def del (H:Hp) (ch:List Addr):Hp:=fun b=>if b∈ch then none else H b
theorem wc_ {H:Hp} {ch:List Addr} {b:Addr} (h:b∉ch):del H ch b=H b:=if_neg h
theorem del_in {H:Hp} {ch:List Addr} {b:Addr} (h:b∈ch):del H ch b=none:=if_pos h
theorem del_same {H:Hp} {ch:List Addr} (h: ∀b∈ch,H b=none):del H ch=H:=by
 funext b
 by_cases hb:b∈ch
 ·rw[del_in hb,h b hb]
 ·exact wc_ hb
theorem left_un {X:Cx} {pins:List (Addr×Obj)} {σ:St} {H:Hp} {s:Shared} {ch:List Addr} {a:Addr} {oe:Obj} {h':Heap} (I:Inv X pins σ H s) (hex:X.ex=[])
  (L:Left (frs X.stack) ch a oe s.heap h') (hch: ∀b∈ch,X.s_0.heap.objs.size<=b) (htr: ∀b∈ch,H b=none\/ ∃φ,H b=some (.ext φ)):
  Un X.fs [] X.H_0 (del H ch) X.s_0.heap h'/\HOk X.prog X.w (del H ch) h':=by
 have old: ∀b o,X.s_0.heap.get? b=some o->b∉ch:=fun b o e hb=>absurd (Nat.lt_of_lt_of_le (Heap.lt_size e) (hch b hb)) (Nat.lt_irrefl _)
 have nex: ∀b,b∉X.ex:=fun b hb=>by rw[hex] at hb;exact nomatch hb
 have nst: ∀b o,X.s_0.heap.get? b=some o->b∉X.fs->b∉frs X.stack:=fun b o e hb hs=>by
  rcases List.mem_cons.mp (I.stkSub b hs) with z|z
  ·rw[z] at e
   exact absurd (Nat.lt_of_lt_of_le (Heap.lt_size e) I.ok.above) (Nat.lt_irrefl _)
  ·exact hb z
 have trk: ∀b u,H b=some u->(∀φ,u≠ .ext φ)->b∉ch:=fun b u e ne hb=>by
  rcases htr b hb with z|⟨φ,z⟩
  ·rw[e] at z;cases z
  ·rw[e] at z;exact ne φ (Option.some.inj z)
 have fin: ∀b,b∈X.fs->b∈frs X.stack:=fun b hb=>by
  rcases I.ok.stk with e|⟨e,hf⟩
  ·rw[e];exact hb
  ·rw[e];unfold frs;rw[List.filterMap_cons,hf];exact List.mem_cons_of_mem _ hb
 refine⟨⟨fun b o e n hb _=>?_,fun b o e n hb _=>?_,fun b o e n _=>?_,fun b o e _=>?_,fun b xs e=>?_,fun b o u e=>?_,fun b ps e=>?_⟩,fun x u q=>?_⟩
 ·exact L.keep b o (nst b o e hb) (old b o e) (I.base.keep b o e n hb (nex b))
 ·obtain⟨sl,z⟩:=I.base.slot b o e n hb (nex b)
  obtain⟨sl',z'⟩:=L.slot b _ (fin b hb) (old b o e) z
  exact⟨sl',z'⟩
 ·rw[wc_ (old b o e)]
  exact I.base.free b o e n (nex b)
 ·obtain⟨o',z⟩:=I.base.there b o e (nex b)
  exact L.there b o' z
 ·have z:=I.base.tups b xs e
  rw[wc_ (trk b _ z fun φ y=>nomatch y)]
  exact z
 ·have z:=I.base.frzs b o u e
  rw[wc_ (trk b _ z fun φ y=>nomatch y)]
  exact z
 ·obtain⟨more,z⟩:=I.base.tbls b ps e
  exact⟨more,by rw[wc_ (trk b _ z fun φ y=>nomatch y)];exact z⟩
 ·have hx:x∉ch:=fun z=>by rw[del_in z] at q;cases q
  rw[wc_ hx] at q
  refine(I.hok x u q).stay (fun b v hb e=>?_) (fun b e=>?_) fun b xs e=>?_
  ·refine L.keep b v (fun z=>?_) (fun z=>?_) e
   ·have y:=I.stkFree b z
    rcases hb with rfl|hb
    ·rw[q] at y;cases y
    ·rw[hb] at y;cases y
   ·rcases hb with rfl|hb
    ·exact hx z
    ·exact trk b _ hb (fun φ y=>nomatch y) z
  ·rw[wc_ (trk b _ e fun φ y=>nomatch y)];exact e
  ·rw[wc_ (trk b _ e fun φ y=>nomatch y)];exact e
def FlyAt (C d a:Addr) (n:Nat) (H:Hp) (h:Heap):Prop:= ∃oe vs T oT ts,h.get? a=some oe/\oe.cls= .ref C/\oe.dict=some d/\oe.data= .fields vs/\vs[1]?=some (.ref T)/\n<=T/\T≠a/\H T=none/\
 h.get? T=some oT/\oT.data= .fields ts/\ts[3]?=some .none
def CXF (P:Program) (w:World):CXT:=fun outer H s E e s'=> ∃(C a d:Addr) (H':Hp),e= .ref a/\s'.os=s.os/\AllBare s'.gens/\Un (frs outer) [] H H' s.heap s'.heap/\HOk P w H' s'.heap/\
 s.heap.objs.size<=a/\H' a=none/\FlyAt C d a s.heap.objs.size H' s'.heap/\E (.ref C) (some d) H'
section
variable {P:Program} {w:World} {K:PySem.W.Frag} {mg:Str->Option Value} {base:Heap} {N:List Str} {qual:Str} {scope:Scope} {f:Addr} {cd:Value} {A:Around} {outer:List Env} {s0:Shared} {H0:Hp} {E:XK} {C:Addr} {CX:CXT}
theorem left_fin {pins:List (Addr×Obj)} {σ:St} {H:Hp} {s:Shared} {ch:List Addr} {a d:Addr} {oe:Obj} {h':Heap} (I:Inv (cxOf CX P w K mg base N qual scope f cd A outer s0 H0 E) pins σ H s)
  (L:Left (frs (envOfC qual scope s0.heap.objs.size f cd::outer)) ch a oe s.heap h') (hch: ∀b∈ch,s0.heap.objs.size<=b) (htr: ∀b∈ch,H b=none\/ ∃φ,H b=some (.ext φ)) (ha:a∈ch)
  (hc:oe.cls= .ref C) (hd:oe.dict=some d) (hE:E (.ref C) (some d) (del H ch)):CXF P w outer H0 s0 E (.ref a) { s with heap:=h' } :=by
 obtain⟨u,k⟩:=left_un I rfl L hch htr
 obtain⟨vs,T,oT,ts,x1,x2,x3,x4,x5,x6,x7⟩:=L.fly
 refine⟨C,a,d,del H ch,rfl,I.os,I.bare,u,k,hch a ha,del_in ha,⟨_,vs,T,oT,ts,x1,hc,hd,rfl,x2,Nat.le_trans I.sz x3,x4,?_,x5,x6,x7⟩,hE⟩
 have z:=I.hok.fresh x3
 by_cases hT:T∈ch
 ·exact del_in hT
 ·rw[wc_ hT];exact z
theorem j6_:j0h_ (CXF P w) (cxOf (CXF P w) P w K mg base N qual scope f cd A outer s0 H0 E) E:=by
 intro pins σ H s e s' I h
 obtain⟨C,a,d,H',rfl,os,bare,un,hok,za,ha,⟨oe,vs,T,oT,ts,x1,x2,x3,x4,x5,x6,x7,x8,x9,x10,x11⟩,hE⟩:=h
 have J:=I.call' (ch:=[]) os un hok bare (fun b z=>nomatch z)
 have sz:=I.sz
 have ck: ∀b∈[a,T],H' b=none:=fun b hb=>by
  rcases List.mem_cons.mp hb with z|z
  ·rw[z];exact ha
  ·rw[List.mem_singleton.mp z];exact x8
 refine leave_on (base:=base) J.ok.frames J.stack rfl x1 x4 x5 x7 x9 x10 x11 fun h' L=>?_
 refine left_fin J L (fun b hb=>?_) (fun b hb=> .inl (ck b hb)) List.mem_cons_self x2 x3 (by rw[del_same ck];exact hE)
 rcases List.mem_cons.mp hb with z|z
 ·rw[z];exact Nat.le_trans sz za
 ·rw[List.mem_singleton.mp z];exact Nat.le_trans sz x6
end
end OS
namespace OS
open PySem PySem.Spec L2
open PyProof.Rows hiding St
theorem okX {P:Program} {w:World} {K:PySem.W.Frag} {mg:Str->Option Value} {base:Heap} {x qual:Str} {st:Stmt} {f:Addr} {fd:FuncData} {N ps:List Str} {k:Nat} {sp:Sp} (F:Fun K x qual st f fd)
  (S:jc_ N ps (j8_ st)) (len: ∀vs H Q E,sp vs H Q E->vs.length=ps.length)
  (hbody: ∀(cdv:Value) (A:Around) (outer:List Env) (s:Shared) (H:Hp) (vs:List V) (Q:VK) (E:XK),j15_ k (A.deeper (envOfC qual (j8_ st) s.heap.objs.size f cdv))->sp vs H Q E->
   ∃t,PSs (cxOf (CXF P w) P w K mg base N qual (j8_ st) f cdv A outer s H E) (wa_ st) t/\t { nx:=fun _ H'=>Q .non H',rt:=Q } (start N vs) H):ju_ P w K mg base (CXF P w) (k+1) f fd ps sp:=by
 obtain⟨oc,od,kV,doc,pm,an,cdv,ct,osl,rfl,lk,hcd⟩:=F.ex
 exact fn_of lk hcd S len fun A outer s H vs Q E hr hsp=>hbody cdv A outer s H vs Q E hr hsp
def q0_:List Str:=["__getattribute__","__getattr__","__setattr__","number","kind","line","column"]
def XO (h:Heap) (C N:Addr) (bm:List Value):Prop:= ∃(nm q:Str) (bs:List Value) (sn:List Str) (sub:List Value) (ab:Bool) (col:Option Bool) (dd:Option Addr) (k0 k1 k2 k3 k5:Option Value),h.get? C=some (excClassObj nm q C N bs bm true sn sub ab col dd k0 k1 k2 k3 k5 "Exception.__new__")
def XAt (h:Heap) (R C fI:Addr):Prop:= ∃(N:Addr) (mN:Str->Option Value) (oI:Obj) (NR:Addr) (mR:Str->Option Value),XO h C N (.ref R::qg_)/\h.Ns N mN/\mN "__init__"=some (.ref fI)/\(∀n∈q0_,mN n=none)/\h.get? fI=some oI/\oI.cls= .type "function"/\
 XO h R NR qg_/\h.Ns NR mR/\ ∀n∈q0_,mR n=none
structure XCls (K:PySem.W.Frag) (R C fI:Addr):Prop where
 at_: ∀h:Heap,K.In h->XAt h R C fI
 kp:PySem.W.keepIn K (.ref C)=true
theorem up_R {R C:Addr} :Up (.ref R::qg_) (.ref C:: .ref R::qg_) "Exception":=
 ⟨by rw[List.contains_cons,List.contains_cons];rfl,by rw[List.contains_cons,List.contains_cons];rfl,by rw[List.contains_cons,List.contains_cons];rfl⟩
theorem base_R {R C:Addr} :(Value.ref C:: .ref R::qg_).contains (.type "BaseException")=true:=by rw[List.contains_cons,List.contains_cons];rfl
theorem raise_own {M:Model} {A:Around} {E:Value->Shared->Prop} {s:Shared} {env:Env} {y:Sem Value} {Q:Flow->Shared->Prop} (hh:A.handled=none)
  (H:wpAny M A y (fun v s1=> ∃e oe vs R C fI,v= .ref e/\XAt s1.heap R C fI/\s1.heap.get? e=some oe/\oe.cls= .ref C/\oe.data= .fields vs/\vs[1]?=some .none/\E (.ref e) s1) E s):
  wpAny M A (raiseStmt env (some y) none) Q E s:=by
 unfold raiseStmt
 refine wpAny_bind (wpAny_mono H (fun v s1 h1=>?_) fun _ _ x=>x)
 obtain⟨e,oe,vs,R,C,fI,rfl,⟨Nn,mN,oI,NR,mR,⟨nm,q,bs,sn,sub,ab,col,dd,k0,k1,k2,k3,k5,hC⟩,_⟩,he,hc,hd,h1,hE⟩:=h1
 have hcB:=base_R (R:=R) (C:=C)
 obtain⟨hp,g,d,tk,os⟩:=s1
 repeat (first|(with_reducible refine wpAny_loadPart_at he ?_;rw[hc])|with_reducible refine wpAny_loadPart_at hC ?_|(with_reducible refine wpAny_isSubtype_exc hC ?_;rw[hcB])|with_reducible refine wpAny_field he hd h1 ?_|wp_step)
 exact wpAny_raiseNew_none hh hE
def xraw (C p:Addr):HO:= .ext fun h=> ∃T,h.get? p=some (qm_ C T)
def xnew (C d p:Addr):HO:= .ext fun h=> ∃o vs,h.get? p=some o/\o.cls= .ref C/\o.dict=some d/\o.data= .fields vs/\vs[1]?=some .none
def qj_ (d:Addr) (fs:List (Str×V)):HO:= .ext fun h=> ∃mA,h.Ns1 d mA/\(∀f,RelO (fs.lookup f) (mA f))/\PySem.Within mA (fs.map (·.1))
def spInit (C:Addr) (g:List V->List (Str×V)->Prop):Sp:=fun vs H Q _=> ∃(p:Addr) (us:List V) (fs:List (Str×V)),vs= .ref p::us/\g us fs/\H p=some (xraw C p)/\
 ∀d,H d=none->Q .non (upd (upd H d (qj_ d fs)) p (xnew C d p))
def tRaise (C:Addr) (g:List V->List (Str×V)->Prop) (E:XK) (t:TA):TS:=fun _ σ H=>t σ H fun vs H1=>vs.length<=9/\ ∃fs,g vs fs/\ ∀d,H1 d=none->E (.ref C) (some d) (upd H1 d (qj_ d fs))
def Raises (X:Cx) (E:XK):Prop:= ∀(pins:List (Addr×Obj)) (σ:St) (H:Hp) (s:Shared) (C d a:Addr),Inv X pins σ H s->H a=some (xnew C d a)->X.s_0.heap.objs.size<=a->E (.ref C) (some d) (del H [a])->X.xe (.ref a) s
theorem raise_up {P:Program} {w:World} {K:PySem.W.Frag} {mg:Str->Option Value} {base:Heap} {N:List Str} {qual:Str} {scope:Scope} {f:Addr} {cd:Value} {A:Around} {outer:List Env} {s0:Shared} {H0:Hp} {E:XK} :Raises (cxOf (CXF P w) P w K mg base N qual scope f cd A outer s0 H0 E) E:=by
 intro pins σ H s C d a I h z hE
 obtain⟨⟨o,ws,x1,x2,x3,x4,x5⟩,_⟩:=I.hok _ _ h
 refine leave_new (base:=base) I.ok.frames I.stack rfl x1 x4 x5 fun h' L=>?_
 refine left_fin I L (fun b hb=>?_) (fun b hb=>?_) List.mem_cons_self x2 x3 hE
 ·rw[List.mem_singleton.mp hb]
  exact z
 ·rw[List.mem_singleton.mp hb]
  exact .inr ⟨_,h⟩
section
variable {X:Cx} {E:XK} {R C:Addr} {k:Nat} {fI:Addr} {fdI:FuncData} {ps:List Str} {x:Str} {np cpos pos:Pos} {e:Expr} {es:List Expr} {t:TA} {g:List V->List (Str×V)->Prop}
theorem raise_core {pins:List (Addr×Obj)} {σ:St} {H1:Hp} {s1:Shared} {vs:List V} {us:List Value} {fs:List (Str×V)} (XR:Raises X E) (XC:XCls X.K R C fI) (F:ju_ X.prog X.w X.K X.mg X.base CX0 k fI fdI ps (spInit C g)) (hr:j15_ (k+1) X.A) (hb:jo_ X.K fdI ps [])
  (I1:Inv X pins σ H1 s1) (r:vx_ vs us) (lv:vs.length<=9) (hg:g vs fs) (qE: ∀d,H1 d=none->E (.ref C) (some d) (upd H1 d (qj_ d fs))):
  wpAny (model X.prog X.w) X.A (call (.ref C) us) (fun v s1=> ∃e oe vs R C fI,v= .ref e/\XAt s1.heap R C fI/\s1.heap.get? e=some oe/\oe.cls= .ref C/\oe.data= .fields vs/\vs[1]?=some .none/\X.xe (.ref e) s1) X.xe s1:=by
 obtain⟨h1,g1,d1,t1,os1⟩:=s1
 obtain⟨Nn,mN,oI,NR,mR,⟨nm,q,bs,sn,sub,ab,col,dd,k0,k1,k2,k3,k5,hC⟩,hn,hni,hqN,hI,hIc,_⟩:=XC.at_ h1 I1.kIn
 have lu:us.length<=9:=by rw[<-r.length];exact lv
 have fr:H1 (h1.objs.size+1)=none:=I1.hok.fresh (Nat.le_succ _)
 have ge:((h1.push (uv_ us)).push (qm_ C h1.objs.size)).get? (h1.objs.size+1)=some (qm_ C h1.objs.size):=by heap_get
 have I2:Inv X pins σ (upd H1 (h1.objs.size+1) (xraw C (h1.objs.size+1))) ⟨(h1.push (uv_ us)).push (qm_ C h1.objs.size),g1,d1,t1,os1⟩:=
  I1.laid (t':=t1) (fun b u z=>Heap.get?_push_of_some _ (Heap.get?_push_of_some _ z)) (Nat.le_succ _) ⟨⟨_,ge⟩,⟨_,ge⟩,fun _ _ ⟨T,z⟩ y=>⟨T,y _ z⟩⟩
 have r2:vx_ (V.ref (h1.objs.size+1)::vs) (Value.ref (h1.objs.size+1)::us):= .cons rfl r
 have hsp:spInit C g (V.ref (h1.objs.size+1)::vs) (upd H1 (h1.objs.size+1) (xraw C (h1.objs.size+1)))
   (fun v H'=>v= .non/\ ∃d,(upd H1 (h1.objs.size+1) (xraw C (h1.objs.size+1))) d=none/\H'=upd (upd (upd H1 (h1.objs.size+1) (xraw C (h1.objs.size+1))) d (qj_ d fs)) (h1.objs.size+1) (xnew C d (h1.objs.size+1))) E0:=
  ⟨_,vs,fs,rfl,hg,j4_,fun d hd=>⟨rfl,d,hd,rfl⟩⟩
 have hl:(Value.ref (h1.objs.size+1)::us++[]).length=ps.length:=by
  have z:=r2.length
  rw[F.len _ _ _ _ hsp] at z
  rw[List.append_nil]
  exact z.symm
 have bb:=hb ⟨(h1.push (uv_ us)).push (qm_ C h1.objs.size),g1,d1,t1,os1⟩ (Value.ref (h1.objs.size+1)::us) I2.kIn hl
 rw[List.append_nil] at bb
 refine wpAny_call (call_own PySem.F.excBase_Exception up_R hC hn hni hI hIc (codeAny_mono (F.run _ X.stack _ _ ⟨Value.ref (h1.objs.size+1)::us,[]⟩ (Value.ref (h1.objs.size+1)::us) _ _ E0 (hr.make C us []) (I2.env0.make C us []) bb r2 hsp) fun r s' hq'=>?_) (by rw[sizeLine_eq];omega))
 cases r with
 |error e=>exact hq'.elim
 |ok fl=>
  cases fl with
  |next=>exact hq'.elim
  |brk=>exact hq'.elim
  |cont=>exact hq'.elim
  |ret u=>
   obtain⟨v,H',I3,rv,ev,d,hd,eH⟩:=I2.after hq'
   subst ev
   have np:d≠h1.objs.size+1:=fun z=>by rw[z,j4_] at hd;cases hd
   rw[j3_ np] at hd
   have at3:H' (h1.objs.size+1)=some (xnew C d (h1.objs.size+1)):=by rw[eH];exact j4_
   obtain⟨⟨o,ws,x1,x2,x3,x4,x5⟩,_⟩:=I3.hok _ _ at3
   refine⟨rv,_,o,ws,R,C,fI,rfl,XC.at_ _ I3.kIn,x1,x2,x4,x5,XR pins σ H' _ C d _ I3 at3 (Nat.le_trans I1.sz (Nat.le_succ _)) ?_⟩
   have z:del H' [h1.objs.size+1]=upd H1 d (qj_ d fs):=by
    funext b
    by_cases hb:b=h1.objs.size+1
    ·rw[del_in (by rw[hb];exact List.mem_cons_self),hb,j3_ np.symm,fr]
    ·rw[wc_ (by simpa using hb),eH,j3_ hb]
     by_cases hbd:b=d
     ·rw[hbd,j4_,j4_]
     ·rw[j3_ hbd,j3_ hbd,j3_ hb]
   rw[z]
   exact qE d hd
theorem ps_raise (XR:Raises X E) (XC:XCls X.K R C fI) (F:ju_ X.prog X.w X.K X.mg X.base CX0 k fI fdI ps (spInit C g)) (hr:j15_ (k+1) X.A) (hg:Gl X x) (hm:X.mg x=some (.ref C)) (hb:jo_ X.K fdI ps []) (ha:PA X (e::es) t)
  (hdb:(x == ("__debug__":Str))=false:=by decide) (he:starEach (e::es) X.env=(false,eval e X.env)::starEach es X.env:=by rfl) (hpl:(backTo cpos (starEach es X.env)).any (·.1)=false:=by rfl):
  PS X (.Raise (some (.Call (.Name x np) (e::es) [] cpos)) none pos) (tRaise C g E t):=by
 intro pins s σ H D I h
 rw[arm_exec_Raise]
 refine wpAny_bind (wpAny_standAt (raise_own hr.hd (wpAny_bind (thn ?_ fun v s1 hv=>wpAny_bind (wpAny_standAt (wpAny_pure hv))))))
 refine wpAny_Call_Name_kw (ld_glob I hg hm ?_ hdb)
 refine PySem.W.callWith_K (h₀:=X.base) I.ok.mod.kin XC.kp (thn (ha cpos pins s σ H _ I h) fun us s1 z=>?_) he hpl
 obtain⟨vs,H1,I1,r,lv,fs,hgv,qE⟩:=z
 exact⟨I1.kIn,raise_core XR XC F hr hb I1 r lv hgv qE⟩
end
end OS
namespace OS
open PySem PySem.Spec L2
open PyProof.Rows hiding St
theorem fc_init (K:PySem.W.Frag):PySem.W.findCls K (.type "Exception") (.type "type") "__init__"=some (.val (.builtin "Exception.__init__")):=by kernel_rfl
theorem ty_exc:typeOf (.type "Exception")=pure (.type "type"):=by kernel_rfl
theorem stub_exc:Manifest.isStub "Exception"=false:=by decide+kernel
theorem boot_exc:bootBuiltins "Exception"=some (.type "Exception"):=by decide+kernel
theorem upd_id {H:Hp} {a:Addr} {o:HO} (h:H a=some o):upd H a o=H:=by
 funext b
 by_cases e:b=a
 ·rw[e,j4_,h]
 ·exact j3_ e
section
variable {X:Cx} {R C fI:Addr} {i:Nat} {x:Str} {p1 p2 apos cpos pos:Pos}
def tExcInit (C:Addr) (i:Nat):TS:=fun D σ H=> ∃p,σ[i]?=some (some (.ref p))/\H p=some (xraw C p)/\D.nx σ H
theorem ps_excInit (XC:XCls X.K R C fI) (hg:Gl X "Exception") (hm:X.mg "Exception"=none) (hx:PE X (.Name x p2) (tVar i))
  (hst:starEach [.Name x p2] X.env=[(false,eval (.Name x p2) X.env)]:=by rfl) (hs:swapsWith (.Call (.Attribute (.Name "Exception" p1) "__init__" apos) [.Name x p2] [] cpos) none pos.line X.env=pure false:=by rfl)
  {pl:Sem Bool} (ht:eval (.Call (.Attribute (.Name "Exception" p1) "__init__" apos) [.Name x p2] [] cpos) X.env=(do
   let ov<-eval (.Name "Exception" p1) X.env
   standAt apos.atName
   let (f,first)<-holding [ov] (getMethod ov "__init__" pl)
   callWith cpos f first (backTo cpos (starEach [.Name x p2] X.env)) (backToKw cpos (keywordEach [] X.env))):=by rfl):
  PS X (.Expr (.Call (.Attribute (.Name "Exception" p1) "__init__" apos) [.Name x p2] [] cpos) pos) (tExcInit C i):=by
 intro pins s σ H D I h
 obtain⟨p,hp,hH,hD⟩:=h
 refine wpAny_Expr_any ?_ I.quiet hs
 refine PySem.W.methodCall_KW (pl:=pl) (ld_blt I hg hm boot_exc ?_) ht
 obtain⟨m,Fr⟩:=I.fr
 refine PySem.W.method_type Fr I.mod.kin ty_exc stub_exc (fc_init X.K) rfl ?_
 have I0:Inv X pins σ H { s with toks:=s.toks+1 } :=I.tok _
 refine PyProof.Rows.callWith_builtin1 (e:= .Name x p2) (rest:=[]) ?_ (by rw[hst];rfl) rfl
 rw[hst]
 refine Calls.spliced_cons (thn (hx pins _ σ H (fun v H'=>v= .ref p/\H'=H) I0 ⟨_,hp,rfl,rfl⟩) fun u s1 z=>?_)
 obtain⟨v,H',I1,rv,e1,e2⟩:=z
 subst e1 e2
 cases rv
 refine Calls.spliced_nil ?_
 obtain⟨h1,g1,d1,t1,os1⟩:=s1
 obtain⟨⟨T,hT⟩,_⟩:=I1.hok _ _ hH
 obtain⟨Nn,mN,oI,NR,mR,⟨nm,q,bs,sn,sub,ab,col,dd,k0,k1,k2,k3,k5,hC⟩,_⟩:=XC.at_ h1 I1.kIn
 refine wpAny_call (init_base PySem.F.excBase_Exception up_R hC hT ?_)
 have gx:((h1.push (uv_ [])).update p (Obj.mapFields (·.setIfInBounds 0 (.ref h1.objs.size)))).get? p=some (qm_ C h1.objs.size):=
  Heap.get?_update_self _ (Heap.get?_push_of_some _ hT) rfl
 have J:Inv X pins σ (upd H' p (xraw C p)) ⟨(h1.push (uv_ [])).update p (Obj.mapFields (·.setIfInBounds 0 (.ref h1.objs.size))),g1,d1,t1,os1⟩:=
  I1.write (x:=p) (e:=p) (t':=t1) (by rw[hH];exact True.intro) (.inl rfl) (fun b u hb z=>by rw[Heap.get?_update_other _ _ (Ne.symm hb)];exact Heap.get?_push_of_some _ z) ⟨_,gx⟩
   ⟨⟨_,gx⟩,⟨_,gx⟩,fun _ _ ⟨T,z⟩ y=>⟨T,y _ z⟩⟩
 rw[upd_id hH] at J
 exact⟨σ,H',J,hD⟩
end
structure CMeth (K:PySem.W.Frag) (R:Addr) (m:Str) (f:Addr):Prop where
 sp:PySem.W.specialIn K (.ref R) "__getattribute__"=some (some (.builtin "type.__getattribute__"))
 ty:PySem.W.typeIn K (.ref R)=some (.type "type")
 rd:PySem.W.readsIn K R (.type "type")=true
 fc:PySem.W.findCls K (.ref R) (.type "type") m=some (.val (.ref f))
 kp:PySem.W.keepIn K (.ref f)=true
section
variable {X:Cx} {CX:CXT} {R f:Addr} {fd:FuncData} {k:Nat} {ps:List Str} {sp:Sp} {m x:Str} {p1 apos pos:Pos} {e:Expr} {es:List Expr} {t:TA} {ds:List Value} {dvs:List V} {E:XK}
theorem pe_cmeth {pl:Sem Bool} (hg:Gl X x) (hm:X.mg x=some (.ref R)) (c:CMeth X.K R m f) (F:ju_ X.prog X.w X.K X.mg X.base CX k f fd ps sp) (hr:j15_ k X.A) (hb:jo_ X.K fd ps ds) (hd:vx_ dvs ds) (hx:j0h_ CX X E) (ha:PA X (e::es) t)
  (hdb:(x == ("__debug__":Str))=false:=by decide) (hst:starEach (e::es) X.env=(false,eval e X.env)::starEach es X.env:=by rfl) (hpl:(backTo pos (starEach es X.env)).any (·.1)=false:=by rfl)
  (ht:eval (.Call (.Attribute (.Name x p1) m apos) (e::es) [] pos) X.env=(do
   let ov<-eval (.Name x p1) X.env
   standAt apos.atName
   let (f,first)<-holding [ov] (getMethod ov m pl)
   callWith pos f first (backTo pos (starEach (e::es) X.env)) (backToKw pos (keywordEach [] X.env))):=by rfl):
  PE X (.Call (.Attribute (.Name x p1) m apos) (e::es) [] pos) (tCall sp dvs E t):=by
 intro pins s σ H Q I h
 refine PySem.W.methodCall_KW (pl:=pl) (ld_glob I hg hm ?_ hdb) ht
 obtain⟨mm,Fr⟩:=I.fr
 refine PySem.W.method_of_cls Fr I.mod.kin c.sp (PySem.W.cls_val Fr I.mod.kin c.ty c.rd c.fc rfl ?_)
 have I0:Inv X pins σ H { s with toks:=s.toks+1 } :=I.tok _
 refine PySem.W.callWith_K (first:=[]) (h₀:=X.base) I.ok.mod.kin c.kp (thn (ha pos pins _ σ H _ I0 h) fun us s1 ⟨vs,H1,I1,r,q⟩=>⟨I1.kIn,?_⟩) hst hpl
 exact run_fn F hr hb hd hx I1 r q
end
end OS
namespace OS
open PySem PySem.Spec L2
open PyProof.Rows hiding St
theorem j1d_:("__setattr__":Str)∈q0_:=by decide+kernel
theorem quiet_get:("__getattribute__":Str)∈q0_:=by decide+kernel
theorem quiet_hook:("__getattr__":Str)∈q0_:=by decide+kernel
theorem XAt.la {h:Heap} {R C fI:Addr} {B:String} {n:Str} {y:Option Value} (X:XAt h R C fI) (m:mroOf (.type B)=pure qg_) (q:n∈q0_) (l:typeLookup (.type B) n=pure y):LA h (.ref R::qg_) n y:=by
 obtain⟨_,_,_,_,_,_,_,_,_,_,_,⟨_,_,_,_,_,_,_,_,_,_,_,_,_,hR⟩,nR,qR⟩:=X
 exact LA.own hR nR (qR n q) (LA.of m l)
section
variable {X:Cx} {pins:List (Addr×Obj)} {σ:St} {H:Hp} {s:Shared} {R C fI p d:Addr} {f:Str} {y:V} {u:Value} {A:Around} {E:Value->Shared->Prop} {Q:Unit->Shared->Prop} {fs:List (Str×V)} {sa owner B:String}
theorem xdict_new {h:Heap} {mA:Str->Option Value} (n:h.Ns1 d mA) (r: ∀g,RelO (fs.lookup g) (mA g)) (wi:PySem.Within mA (fs.map (·.1))):qh_ X.prog X.w H h d (qj_ d fs):=by
 obtain⟨o,es,ep,e,z⟩:=id n
 exact⟨⟨mA,n,r,wi⟩,⟨o,e⟩,fun h1 h2 ⟨m,n1,q1⟩ k=>⟨m,n1.at k,q1⟩⟩
theorem xset0_ok (XC:XCls X.K R C fI) (SF:StoreFacts B qg_ sa owner) (hf:f∈q0_) (hB:typeLookup (.type B) f=pure none) (I:Inv X pins σ H s) (e:H p=some (xraw C p)) (ry:vt_ y u)
  (h: ∀d s',H d=none->Inv X pins σ (upd (upd H d (qj_ d [(f,y)])) p (xnew C d p)) s'->Q () s'):wpAny (model X.prog X.w) A (setAttr (.ref p) f u) Q E s:=by
 have XA:=XC.at_ _ I.kIn
 obtain⟨⟨T,hT⟩,_⟩:=I.hok _ _ e
 obtain⟨h1,g1,d1,t1,os1⟩:=s
 obtain⟨Nn,mN,oI,NR,mR,⟨nm,q,bs,sn,sub,ab,col,dd,k0,k1,k2,k3,k5,hC⟩,nsK,hni,hqN,_⟩:=id XA
 refine exc_set SF hC nsK (hqN _ j1d_) (XA.la SF.mro j1d_ SF.slot.lookup) hT rfl fun tk t=>exc_put0 SF hC nsK (hqN _ hf) (XA.la SF.mro hf hB) hT rfl rfl rfl fun h' tk' k kx kn=>⟨rfl,?_⟩
 have fr:H h1.objs.size=none:=I.hok.fresh (Nat.le_refl _)
 have np:h1.objs.size≠p:=fun z=>by rw[z,e] at fr;cases fr
 refine h h1.objs.size _ fr ?_
 have gd:(h1.push { cls:= .type "dict",data:= .dict #[] }).get? h1.objs.size=some { cls:= .type "dict",data:= .dict #[] } :=Heap.get?_push_size _ rfl
 have n0:(h1.push { cls:= .type "dict",data:= .dict #[] }).Ns h1.objs.size (fun _=>none):=⟨_, #[],_,gd,rfl,(fun e he=>absurd he (by simp)),fun _=>rfl⟩
 have I1:Inv X pins σ (upd H h1.objs.size (qj_ h1.objs.size [])) ⟨h1.push { cls:= .type "dict",data:= .dict #[] },g1,d1,tk',os1⟩:=
  I.laid (t':=tk') (fun b u z=>Heap.get?_push_of_some _ z) (Nat.le_refl _) (xdict_new (Heap.Ns1.of_empty n0) (fun _=>True.intro) fun g hg=>absurd rfl hg)
 have hp1:(h1.push { cls:= .type "dict",data:= .dict #[] }).get? p=some (qm_ C T):=Heap.get?_push_of_some _ hT
 have gp:((h1.push { cls:= .type "dict",data:= .dict #[] }).update p fun o=> { o with dict:=some h1.objs.size }).get? p=some { qm_ C T with dict:=some h1.objs.size } :=Heap.get?_update_self _ hp1 rfl
 have I2:Inv X pins σ (upd (upd H h1.objs.size (qj_ h1.objs.size [])) p (xnew C h1.objs.size p)) ⟨(h1.push { cls:= .type "dict",data:= .dict #[] }).update p fun o=> { o with dict:=some h1.objs.size },g1,d1,tk',os1⟩:=
  I1.write (x:=p) (e:=p) (t':=tk') (by rw[j3_ np.symm,e];exact True.intro) (.inl rfl) (fun b u hb z=>by rw[Heap.get?_update_other _ _ (Ne.symm hb)];exact z) ⟨_,gp⟩
   ⟨⟨_,_,gp,rfl,rfl,rfl,rfl⟩,⟨_,gp⟩,fun _ _ ⟨o,vs,z,r⟩ k=>⟨o,vs,k _ z,r⟩⟩
 obtain⟨od,_,_,hod,_⟩:=id kn
 have I3:Inv X pins σ (upd (upd (upd H h1.objs.size (qj_ h1.objs.size [])) p (xnew C h1.objs.size p)) h1.objs.size (qj_ h1.objs.size [(f,y)])) ⟨h',g1,d1,tk',os1⟩:=by
  refine I2.write (x:=h1.objs.size) (e:=h1.objs.size) (t':=tk') (by rw[j3_ np,j4_];exact True.intro) (.inl rfl) (fun b v hb z=>?_) ⟨_,hod⟩ (xdict_new kn (fun g=>?_) fun g hg=>?_)
  ·by_cases bp:b=p
   ·rw[bp] at z ⊢
    rw[gp] at z
    rw[kx,<-z]
   ·rw[Heap.get?_update_other _ _ (Ne.symm bp)] at z
    refine k b v bp ?_
    rcases Heap.get?_push_cases z with⟨z1,_⟩|z1
    ·exact absurd z1 hb
    ·exact z1
  ·show RelO (List.lookup g [(f,y)]) (if g=f then some u else none)
   by_cases gf:g=f
   ·rw[gf,if_pos rfl]
    simp only[List.lookup,beq_self_eq_true]
    exact ry
   ·rw[if_neg gf,List.lookup,show(g == f)=false from beq_eq_false_iff_ne.mpr gf]
    exact True.intro
  ·by_cases gf:g=f
   ·rw[gf];exact List.mem_cons_self
   ·exact absurd (if_neg gf) hg
 have eH:upd (upd (upd H h1.objs.size (qj_ h1.objs.size [])) p (xnew C h1.objs.size p)) h1.objs.size (qj_ h1.objs.size [(f,y)])=upd (upd H h1.objs.size (qj_ h1.objs.size [(f,y)])) p (xnew C h1.objs.size p):=by
  funext b
  by_cases b1:b=h1.objs.size
  ·rw[b1,j4_,j3_ np,j4_]
  ·by_cases b2:b=p
   ·rw[b2,j3_ np.symm,j4_,j4_]
   ·rw[j3_ b1,j3_ b2,j3_ b1,j3_ b2,j3_ b1]
 rw[eH] at I3
 exact I3
theorem xset1_ok (XC:XCls X.K R C fI) (SF:StoreFacts B qg_ sa owner) (hf:f∈q0_) (hB:typeLookup (.type B) f=pure none) (I:Inv X pins σ H s) (e:H p=some (xnew C d p)) (ed:H d=some (qj_ d fs)) (hl:fs.length<1000) (ry:vt_ y u)
  (h: ∀s',Inv X pins σ (upd H d (qj_ d (putF f y fs))) s'->Q () s'):wpAny (model X.prog X.w) A (setAttr (.ref p) f u) Q E s:=by
 have XA:=XC.at_ _ I.kIn
 obtain⟨⟨o,vs,x1,x2,x3,x4,x5⟩,_⟩:=I.hok _ _ e
 obtain⟨⟨mA,n,r,wi⟩,_⟩:=I.hok _ _ ed
 obtain⟨h1,g1,d1,t1,os1⟩:=s
 obtain⟨Nn,mN,oI,NR,mR,⟨nm,q,bs,sn,sub,ab,col,dd,k0,k1,k2,k3,k5,hC⟩,nsK,hni,hqN,_⟩:=id XA
 have dp:d≠p:=fun z=>by
  obtain⟨o',es,ep,z1,z2,_⟩:=n
  rw[z,x1] at z1
  have y:=Option.some.inj z1
  rw[<-y,x4] at z2
  cases z2
 have hz:(fs.map (·.1)).length<=1000:=by rw[List.length_map];omega
 refine exc_set SF hC nsK (hqN _ j1d_) (XA.la SF.mro j1d_ SF.slot.lookup) x1 x2 fun tk t=>exc_put1 SF hC nsK (hqN _ hf) (XA.la SF.mro hf hB) x1 x2 x3 n wi hz fun h' tk' k kn=>⟨rfl,?_⟩
 obtain⟨od,_,_,hod,_⟩:=id kn
 refine h _ (I.write (x:=d) (e:=d) (t':=tk') (by rw[ed];exact True.intro) (.inl rfl) k ⟨_,hod⟩ (xdict_new kn (fun g=>?_) fun g hg=>?_))
 ·rw[j0v_]
  by_cases gf:g=f
  ·rw[if_pos gf,if_pos gf];exact ry
  ·rw[if_neg gf,if_neg gf];exact r g
 ·by_cases gf:g=f
  ·rw[gf];exact(j07_ f y fs).1
  ·refine(j07_ f y fs).2 g (wi g fun z=>hg ?_)
   show(if g=f then some u else mA g)=none
   rw[if_neg gf];exact z
theorem xget_ok {b:Bool} {v:V} {Q:Value->Shared->Prop} {φ:Heap->Prop} (XC:XCls X.K R C fI) (hf:f∈q0_) (hB:typeLookup (.type "Exception") f=pure none) (I:Inv X pins σ H s)
  (e: ∃o vs,s.heap.get? p=some o/\o.cls= .ref C/\o.dict=some d/\o.data= .fields vs) (ed:H d=some (qj_ d fs)) (l:fs.lookup f=some v)
  (h: ∀u s',Inv X pins σ H s'->vt_ v u->Q u s'):wpAny (model X.prog X.w) A (getAttr (.ref p) f b) Q E s:=by
 have XA:=XC.at_ _ I.kIn
 obtain⟨o,vs,x1,x2,x3,x4⟩:=e
 obtain⟨⟨mA,n,r,wi⟩,_⟩:=I.hok _ _ ed
 obtain⟨h1,g1,d1,t1,os1⟩:=s
 obtain⟨Nn,mN,oI,NR,mR,⟨nm,q,bs,sn,sub,ab,col,dd,k0,k1,k2,k3,k5,hC⟩,nsK,hni,hqN,_⟩:=id XA
 have dp:d≠p:=fun z=>by
  obtain⟨o',es,ep,z1,z2,_⟩:=n
  rw[z,x1] at z1
  have y:=Option.some.inj z1
  rw[<-y,x4] at z2
  cases z2
 have nc: ∀c,o.data≠ .cls c:=fun c z=>by rw[x4] at z;cases z
 have I0:h1.Inst p C mA:=⟨o,x1,x2,nc, .inr ⟨d,x3,dp,n⟩⟩
 obtain⟨u,hu,ru⟩:=RelO.some_of (v:=v) (o:=mA f) (by rw[<-l];exact r f)
 exact exc_get base_R (XA.la PySem.F.store_Exception.mro quiet_get lk_ga) (XA.la PySem.F.store_Exception.mro quiet_hook lk_gh) (hC) nsK (hqN _ quiet_get) (hqN _ quiet_hook) (hqN _ hf) (XA.la PySem.F.store_Exception.mro hf hB) I0 hu (PySem.W.handedOut_of (handed_of ru)) (h u _ (I.tok _) ru)
end
section
variable {X:Cx} {R C fI:Addr} {o value:Expr} {f:Str} {pos pos':Pos} {ta tv:TE} {sa owner:String}
def sX0 (C:Addr) (ta tv:TE) (f:Str):TS:=fun D σ H=>tv σ H fun y H1=>ta σ H1 fun x H2=> ∃p,x= .ref p/\H2 p=some (xraw C p)/\ ∀d,H2 d=none->D.nx σ (upd (upd H2 d (qj_ d [(f,y)])) p (xnew C d p))
def sX1 (C:Addr) (ta tv:TE) (f:Str):TS:=fun D σ H=>tv σ H fun y H1=>ta σ H1 fun x H2=> ∃p d fs,x= .ref p/\H2 p=some (xnew C d p)/\H2 d=some (qj_ d fs)/\fs.length<1000/\D.nx σ (upd H2 d (qj_ d (putF f y fs)))
theorem ps_x0 (XC:XCls X.K R C fI) (SF:StoreFacts "Exception" qg_ sa owner) (hf:f∈q0_) (hB:typeLookup (.type "Exception") f=pure none) (ha:PE X o ta) (hv:PE X value tv)
  (hs:swapsWith value (some (.Attribute o f pos')) pos.line X.env=pure false):PS X (.Assign [.Attribute o f pos'] value pos) (sX0 C ta tv f):=by
 intro pins s σ H D I h
 refine plainObj_wpAny_Assign_Attribute (thn (hv pins s σ H _ I h) fun u s1 ⟨y,H1,I1,ry,q⟩=>thn (ha pins s1 σ H1 _ I1 q) fun ov s2 ⟨x,H2,I2,rx,p,ex,ea,q2⟩=>?_) hs
 subst ex
 obtain rfl:ov=Value.ref p:=rx
 exact xset0_ok XC SF hf hB I2 ea ry fun d s3 hd I3=>⟨σ,_,I3,q2 d hd⟩
theorem ps_x1 (XC:XCls X.K R C fI) (SF:StoreFacts "Exception" qg_ sa owner) (hf:f∈q0_) (hB:typeLookup (.type "Exception") f=pure none) (ha:PE X o ta) (hv:PE X value tv)
  (hs:swapsWith value (some (.Attribute o f pos')) pos.line X.env=pure false):PS X (.Assign [.Attribute o f pos'] value pos) (sX1 C ta tv f):=by
 intro pins s σ H D I h
 refine plainObj_wpAny_Assign_Attribute (thn (hv pins s σ H _ I h) fun u s1 ⟨y,H1,I1,ry,q⟩=>thn (ha pins s1 σ H1 _ I1 q) fun ov s2 ⟨x,H2,I2,rx,p,d,fs,ex,ea,ed,l,q2⟩=>?_) hs
 subst ex
 obtain rfl:ov=Value.ref p:=rx
 exact xset1_ok XC SF hf hB I2 ea ed l ry fun s3 I3=>⟨σ,_,I3,q2⟩
end
end OS
namespace OS
open PySem PySem.Spec L2
open PyProof.Rows hiding St
abbrev tryc (X:Cx) (pins:List (Addr×Obj)) (Ew:Value->Shared->Prop):Cx:= { X with pn:=X.pn++pins,xe:=Ew }
abbrev hnd (X:Cx) (a:Addr):Cx:= { X with A:=X.A.mark (some (.ref a)),calm:=false,xe:=fun _ _=>False }
section
variable {X:Cx} {pins pins':List (Addr×Obj)} {σ:St} {H:Hp} {s:Shared} {Ew:Value->Shared->Prop} {a:Addr}
theorem inv_tryc (I:Inv X pins σ H s):Inv (tryc X pins Ew) [] σ H s:=
 ⟨⟨I.ok.mod,I.ok.kind,I.ok.glob,I.ok.blt,I.ok.above,I.ok.inj,I.ok.has,I.ok.cab,I.ok.hd,I.ok.frames,I.ok.stk,I.ok.exf,I.ok.bs,I.ok.bsz,I.ok.noex,I.ok.exfs,I.ok.funs,I.ok.frf⟩,I.os,I.bare,I.base,I.loc,I.cell,I.free,I.freeC,
  fun p hp=>I.pin p (by rw[List.append_nil] at hp;exact hp),I.hok,I.len⟩
theorem uj_ (I:Inv (tryc X pins Ew) pins' σ H s):Inv X pins σ H s:=
 ⟨⟨I.ok.mod,I.ok.kind,I.ok.glob,I.ok.blt,I.ok.above,I.ok.inj,I.ok.has,I.ok.cab,I.ok.hd,I.ok.frames,I.ok.stk,I.ok.exf,I.ok.bs,I.ok.bsz,I.ok.noex,I.ok.exfs,I.ok.funs,I.ok.frf⟩,I.os,I.bare,I.base,I.loc,I.cell,I.free,I.freeC,
  fun p hp=>I.pin p (List.mem_append_left _ hp),I.hok,I.len⟩
theorem inv_hnd (I:Inv X pins σ H s):Inv (hnd X a) pins σ H s:=
 ⟨⟨I.ok.mod,I.ok.kind,I.ok.glob,I.ok.blt,I.ok.above,I.ok.inj,I.ok.has,I.ok.cab,fun z=>Bool.noConfusion z,I.ok.frames,I.ok.stk,I.ok.exf,I.ok.bs,I.ok.bsz,I.ok.noex,I.ok.exfs,I.ok.funs,I.ok.frf⟩,I.os,I.bare,I.base,I.loc,I.cell,I.free,I.freeC,
  I.pin,I.hok,I.len⟩
theorem inv_unhnd (ok:X.Ok) (I:Inv (hnd X a) pins σ H s):Inv X pins σ H s:=⟨ok,I.os,I.bare,I.base,I.loc,I.cell,I.free,I.freeC,I.pin,I.hok,I.len⟩
theorem sp_untry {D:Ends} {f:Flow} {s':Shared} (h:SP (tryc X pins Ew) pins' D f s'):SP X pins D f s':=by
 cases f with
 |next=>obtain⟨σ',H',I,q⟩:=h;exact⟨σ',H',uj_ I,q⟩
 |brk=>obtain⟨σ',H',I,q⟩:=h;exact⟨σ',H',uj_ I,q⟩
 |cont=>obtain⟨σ',H',I,q⟩:=h;exact⟨σ',H',uj_ I,q⟩
 |ret u=>obtain⟨v,σ',H',I,r,q⟩:=h;exact⟨v,σ',H',uj_ I,r,q⟩
theorem inv_track {o:HO} (I:Inv X pins σ H s) (hn:H a=none) (z:X.s_0.heap.objs.size<=a) (nl:a≠X.env.locals) (nc: ∀x c,X.env.cells.lookup x=some c->c≠a) (np: ∀p∈X.pn++pins,p.1≠a)
  (new:qh_ X.prog X.w (upd H a o) s.heap a o):Inv X pins σ (upd H a o) s:=by
 have ne: ∀b u,H b=some u->b≠a:=fun b u e y=>by rw[y,hn] at e;cases e
 refine I.step (h':=s.heap) (g':=s.gens) (t':=s.toks) (d':=s.drawn) (ch:=[a]) (fun b hb=>?_) (fun b o _ _ _ e _=>e) (fun b o _ _ _ e _=>⟨o.slots,e⟩) (fun b o hb e y=>?_) (fun b o _ e=>⟨o,e⟩) (fun b xs e=>?_) (fun b o u e=>?_) (fun b ps e=>⟨#[],?_⟩) (fun m y=>y) (fun b u e=>?_) I.bare
 ·rw[List.mem_singleton.mp hb];exact⟨.inr z,nl,nc,np⟩
 ·rw[j3_ (fun y=>hb (by rw[y];exact List.mem_cons_self))];exact y
 ·rw[j3_ (ne b _ e)];exact e
 ·rw[j3_ (ne b _ e)];exact e
 ·rw[j3_ (ne b _ e),e];simp
 ·by_cases hb:b=a
  ·rw[hb,j4_] at e
   rw[hb,<-Option.some.inj e]
   exact new
  ·rw[j3_ hb] at e
   exact(I.hok b u e).stay (fun c v _ q=>q) (fun c q=>by rw[j3_ (ne c _ q)];exact q) fun c xs q=>by rw[j3_ (ne c _ q)];exact q
theorem inv_gone {h':Heap} {m:Str->Option Value} {t:Nat} (I:Inv X pins σ H s) (hn:h'.Ns X.env.locals m) (hs:Heap.SameBut X.env.locals s.heap h'):Inv X pins (List.replicate X.N.length none) H { s with heap:=h',toks:=t } :=by
 have W:Inv X pins (List.replicate X.N.length none) H s:=I.weak (by rw[List.length_replicate];exact I.len.symm) fun i v e=>by
  rw[List.getElem?_replicate] at e
  split at e<;>cases e
 have nL: ∀b u,H b=some u->b≠X.env.locals:=fun b u e y=>by rw[y,I.free] at e;cases e
 obtain⟨ol,_,_,hol,_⟩:=id hn
 refine⟨W.ok,W.os,W.bare,⟨fun b o e n hb hx=>?_,fun b o e n hb hx=>?_,W.base.free,fun b o e hx=>?_,W.base.tups,W.base.frzs,W.base.tbls⟩,⟨m,hn,fun i x v _ e _=>?_⟩,fun x c e=>?_,W.free,W.freeC,fun p hp=>?_,fun b u e=>?_,W.len⟩
 ·exact(hs.2 b (Nat.ne_of_lt (Nat.lt_of_lt_of_le (Heap.lt_size e) I.ok.above))).trans (W.base.keep b o e n hb hx)
 ·obtain⟨sl,y⟩:=W.base.slot b o e n hb hx
  exact⟨sl,(hs.2 b (Nat.ne_of_lt (Nat.lt_of_lt_of_le (Heap.lt_size e) I.ok.above))).trans y⟩
 ·obtain⟨o',y⟩:=W.base.there b o e hx
  exact⟨o',(hs.2 b (Nat.ne_of_lt (Nat.lt_of_lt_of_le (Heap.lt_size e) I.ok.above))).trans y⟩
 ·rw[List.getElem?_replicate] at e
  split at e<;>cases e
 ·obtain⟨v,o,y,yd⟩:=I.cell x c e
  exact⟨v,o,(hs.2 c (I.cne x c e)).trans y,yd⟩
 ·obtain⟨e1,e2,e3,e4⟩:=I.pin p hp
  exact⟨(hs.2 p.1 e3).trans e1,e2,e3,e4⟩
 ·refine(I.hok b u e).stay (fun c v hc q=>(hs.2 c ?_).trans q) (fun _ q=>q) fun _ _ q=>q
  rcases hc with y|y
  ·rw[y];exact nL b u e
  ·exact nL c _ y
end
end OS
namespace OS
open PySem PySem.Spec L2
open PyProof.Rows hiding St
structure Own (X:Cx) (pins:List (Addr×Obj)) (b:Addr):Prop where
 z:X.s_0.heap.objs.size<=b
 nl:b≠X.env.locals
 nc: ∀x c,X.env.cells.lookup x=some c->c≠b
 np: ∀p∈X.pn++pins,p.1≠b
theorem own_of {X:Cx} {pins:List (Addr×Obj)} {σ:St} {H:Hp} {s:Shared} {b:Addr} (I:Inv X pins σ H s) (hb:s.heap.objs.size<=b):Own X pins b:=by
 refine⟨Nat.le_trans I.sz hb,Nat.ne_of_gt (Nat.lt_of_lt_of_le I.lt hb),fun x c e z=>?_,fun p hp z=>?_⟩
 ·obtain⟨v,q⟩:=I.cell x c e
  exact absurd (Nat.lt_of_lt_of_le q.lt (by rw[z];exact hb)) (Nat.lt_irrefl _)
 ·exact absurd (Nat.lt_of_lt_of_le (Heap.lt_size (I.pin p hp).1) (by rw[z];exact hb)) (Nat.lt_irrefl _)
def xcaught (C d a:Addr):HO:= .ext fun h=> ∃o vs,h.get? a=some o/\o.cls= .ref C/\o.dict=some d/\o.data= .fields vs
structure Come (X:Cx) (pins:List (Addr×Obj)) (H:Hp) (h:Heap) (C d a:Addr):Prop where
 own:Own X pins a
 no:H a=none
 ex: ∃oe vs T oT ts,h.get? a=some oe/\oe.cls= .ref C/\oe.dict=some d/\oe.data= .fields vs/\vs[1]?=some (.ref T)/\T≠a/\H T=none/\Own X pins T/\h.get? T=some oT/\oT.data= .fields ts/\ts[3]?=some .none
abbrev tryE (X:Cx) (hs:List ExceptHandler) (Q:Flow->Shared->Prop):Value->Shared->Prop:=fun e s1=>wpAny (model X.prog X.w) X.A (noteFrame e X.env) (fun _ s2=>wpAny (model X.prog X.w) X.A (setFlight e none) (fun _ s3=>wpAny (model X.prog X.w) X.A (handleBy e X.env hs) Q X.xe s3) X.xe s2) X.xe s1
section
variable {X:Cx} {pins:List (Addr×Obj)} {hs:List ExceptHandler} {Q:Flow->Shared->Prop} {Ek:XK}
theorem come_in (hst:X.stack=X.env::X.outer) (hfr:X.env.frame=some X.env.locals)
  (hh: ∀(C a d:Addr) (σ:St) (H:Hp) (s:Shared),Inv X pins σ H s->Come X pins H s.heap C d a->Ek (.ref C) (some d) H->wpAny (model X.prog X.w) X.A (handleBy (.ref a) X.env hs) Q X.xe s):
  j0h_ (CXF X.prog X.w) (tryc X pins (tryE X hs Q)) Ek:=by
 intro pins' σ H s e s' I h
 obtain⟨C,a,d,H',rfl,os,bare,un,hok,za,ha,⟨oe,vs,T,oT,ts,x1,x2,x3,x4,x5,x6,x7,x8,x9,x10,x11⟩,hE⟩:=h
 have J0:=I.call' (ch:=[]) os un hok bare (fun b z=>nomatch z)
 have J:Inv X pins σ H' s':=uj_ J0
 have oa:Own X pins a:=own_of (uj_ I) za
 have oT':Own X pins T:=own_of (uj_ I) x6
 have fr:X.A.frames=some (X.env::X.outer):=by rw[J.ok.frames,hst]
 have st:s'.heap.FunFrames X.base (X.env::X.outer):=by rw[<-hst];exact J.stack
 show wpAny (model X.prog X.w) X.A (noteFrame (.ref a) X.env) _ _ s'
 refine look_on (base:=X.base) fr st hfr x1 x4 x5 x7 x9 x10 x11 fun h' L=>?_
 have ck: ∀b∈[a,T],H' b=none:=fun b hb=>by
  rcases List.mem_cons.mp hb with z|z
  ·rw[z];exact ha
  ·rw[List.mem_singleton.mp z];exact x8
 have fq:(X.env::X.outer).filterMap (·.frame)=frs X.stack:=by rw[hst];rfl
 rw[fq] at L
 have hk:HOk X.prog X.w H' h':=fun b u e=>by
  refine(J.hok b u e).stay (fun c v hc q=>L.keep c v (fun z=>?_) (fun z=>?_) q) (fun _ q=>q) fun _ _ q=>q
  ·have y:=J.stkFree c z
   rcases hc with w1|w1
   ·rw[w1,e] at y;cases y
   ·rw[w1] at y;cases y
  ·have y:=ck c z
   rcases hc with w1|w1
   ·rw[w1,e] at y;cases y
   ·rw[w1] at y;cases y
 have K1:Inv X pins σ H' { s' with heap:=h' } :=by
  refine J.call (g':=s'.gens) (t':=s'.toks) (d':=s'.drawn) (ch:=[a,T]) ⟨fun b o e n hb hx=>L.keep b o hb hx e,fun b o e n hb hx=>L.slot b o hb hx e,fun b o e n hx=>n,fun b o e hx=>L.there b o e,fun _ _ e=>e,fun _ _ _ e=>e,fun b ps e=>⟨#[],by rw[e];simp⟩⟩ hk J.bare fun b hb=>?_
  rcases List.mem_cons.mp hb with z|z
  ·rw[z];exact⟨.inr oa.z,oa.nl,oa.nc,oa.np⟩
  ·rw[List.mem_singleton.mp z];exact⟨.inr oT'.z,oT'.nl,oT'.nc,oT'.np⟩
 obtain⟨ws,T2,oT2,ts2,y1,y2,y3,y4,y5,y6,y7⟩:=L.fly
 exact hh C a d σ H' _ K1 ⟨oa,ha,_,ws,T2,oT2,ts2,y1,x2,x3,rfl,y2,y4,J.hok.fresh y3,own_of J y3,y5,y6,y7⟩ hE
end
section
variable {X:Cx} {pins:List (Addr×Obj)} {R G C fI a d:Addr} {σ:St} {H:Hp} {s:Shared} {D:Ends} {x n:Str} {np hpos:Pos} {b0:Stmt} {suite:List Stmt} {th:TS} {i:Nat}
def Catch (R G C:Addr):Prop:=G=C\/G=R
theorem exc_self (XC:XCls X.K R C fI) (hG:Catch R G C) {M:Model} {A:Around} {E:Value->Shared->Prop} {Q:Bool->Shared->Prop} (I:Inv X pins σ H s) (cm:Come X pins H s.heap C d a) (q:Q true s):wpAny M A (excMatches (.ref a) (.ref G)) Q E s:=by
 obtain⟨Nn,mN,oI,NR,mR,⟨nm,qq,bs,sn,sub,ab,col,dd,k0,k1,k2,k3,k5,hC⟩,_,_,_,_,_,⟨nm',qq',bs',sn',sub',ab',col',dd',k0',k1',k2',k3',k5',hR⟩,_⟩:=XC.at_ _ I.kIn
 obtain⟨oe,vs,T,oT,ts,y1,y2,_⟩:=cm.ex
 obtain⟨h1,g1,d1,t1,os1⟩:=s
 rcases hG with rfl|rfl
 ·exact wpAny_excMatches_sub_self hC y1 y2 (by rw[List.contains_cons];rfl) q
 ·have u1:(Value.ref G::qg_).contains (.type "BaseException")=true:=by rw[List.contains_cons];rfl
  have u2:(Value.ref C:: .ref G::qg_).contains (.ref G)=true:=by simp
  have f:=tc_notTuple
  unfold excMatches
  repeat (first|(with_reducible refine wpAny_loadPart_at y1 ?_;rw[y2])|with_reducible refine wpAny_loadPart_at hR ?_|(with_reducible refine wpAny_isSubtype_exc hR ?_;rw[u1])|(with_reducible refine wpAny_isSubtype_exc hC ?_;rw[u2])|wp_step)
  exact q
theorem flight_end {M:Model} {A:Around} {E:Value->Shared->Prop} {Q:Unit->Shared->Prop} (I:Inv X pins σ H s) (cm:Come X pins H s.heap C d a)
  (h: ∀s',Inv X pins σ H s'->(∃o vs,s'.heap.get? a=some o/\o.cls= .ref C/\o.dict=some d/\o.data= .fields vs)->Q () s'):wpAny M A (setFlight (.ref a) none) Q E s:=by
 obtain⟨oe,vs,T,oT,ts,y1,y2,y3,y4,y5,y6,y7,y8,y9,y10,y11⟩:=cm.ex
 refine wpAny_setFlight_none y1 y4 y5 y9 y10 (Array.getElem?_eq_some_iff.mp y11).1 (h _ (I.turned (it:=T) (t':=s.toks) (fun b o hb e=>by rw[Heap.get?_update_other _ _ (Ne.symm hb)];exact e) y7 y8.nl (.inr y8.z) y8.nc y8.np) ?_)
 exact⟨oe,vs,by show(s.heap.update T _).get? a=_;rw[Heap.get?_update_other _ _ y6];exact y1,y2,y3,y4⟩
theorem hnd_as (XC:XCls X.K R C fI) (hG:Catch R G C) (hg:Gl X x) (hm:X.mg x=some (.ref G)) (hN:X.N.Nodup) (hi:X.N[i]?=some n) (hl:X.env.scope.names.lookup n=some .local) (hs:PSs (hnd X a) (b0::suite) th)
  (I:Inv X pins σ H s) (cm:Come X pins H s.heap C d a) (hr:th ⟨fun _ _=>False,D.rt,fun _ _=>False,fun _ _=>False⟩ ((List.replicate X.N.length none).set i (some (.ref a))) (upd H a (xcaught C d a)))
  (hdb:(x == ("__debug__":Str))=false:=by decide):
  wpAny (model X.prog X.w) X.A (handleBy (.ref a) X.env [.ExceptHandler (some (.Name x np)) (some n) (b0::suite) hpos]) (SP X pins D) X.xe s:=by
 refine wpAny_handleBy_cons (codeAny_handlers_test ?_) (by intro q;cases q)
 refine ld_glob (X:=hnd X a) (inv_hnd I) hg hm ?_ hdb
 refine exc_self XC hG I cm ?_
 show codeAny _ _ _ _ _
 refine codeAny_handlers_suite_as (flight_end I cm fun s1 I1 e1=>?_)
 have I2:Inv X pins (List.replicate X.N.length none) H s1:=I1.weak (by rw[List.length_replicate];exact I1.len.symm) fun i v e=>by
  rw[List.getElem?_replicate] at e
  split at e<;>cases e
 have I3:Inv X pins (List.replicate X.N.length none) (upd H a (xcaught C d a)) s1:=
  inv_track I2 cm.no cm.own.z cm.own.nl cm.own.nc cm.own.np ⟨e1,⟨_,e1.choose_spec.choose_spec.1⟩,fun _ _ ⟨o,vs,z,r⟩ k=>⟨o,vs,k _ z,r⟩⟩
 refine store_ok (X:=hnd X a) (v:= .ref a) (inv_hnd I3) hN hi (.inl hl) rfl (fun s4 I4=>?_) (.inr hl)
 refine wpAny_mono (hs pins s4 _ _ _ I4 hr) (fun f s5 z=>?_) fun _ _ z=>z.elim
 cases f with
 |next=>obtain⟨_,_,_,z⟩:=z;exact z.elim
 |brk=>obtain⟨_,_,_,z⟩:=z;exact z.elim
 |cont=>obtain⟨_,_,_,z⟩:=z;exact z.elim
 |ret u=>
  obtain⟨v,σ5,H5,I5,r5,q5⟩:=z
  obtain⟨m,hn,_⟩:=id I5.loc
  refine wpAny_nameGoes hl hn (by rw[I.ok.kind];rfl) fun h' m' n' sb=>⟨v,_,H5,inv_gone (inv_unhnd I.ok I5) n' sb,r5,q5⟩
end
section
variable {X:Cx} {R G C fI:Addr} {x n:Str} {np hpos pos:Pos} {b0:Stmt} {suite body:List Stmt} {tb th:TS} {i:Nat} {Ek:XK}
def tTryAs (Ek:XK) (m i:Nat) (tb th:TS):TS:=fun D σ H=>tb D σ H/\ ∀C d H' a,Ek (.ref C) (some d) H'->H' a=none->
 th ⟨fun _ _=>False,D.rt,fun _ _=>False,fun _ _=>False⟩ ((List.replicate m none).set i (some (.ref a))) (upd H' a (xcaught C d a))
theorem ps_tryAs (Ek:XK) (hst:X.stack=X.env::X.outer) (hfr:X.env.frame=some X.env.locals) (hE: ∀C d H,Ek (.ref C) (some d) H-> ∃fI,XCls X.K R C fI/\Catch R G C) (hg:Gl X x) (hm:X.mg x=some (.ref G)) (hN:X.N.Nodup) (hi:X.N[i]?=some n) (hl:X.env.scope.names.lookup n=some .local)
  (hb: ∀pins Ew,j0h_ (CXF X.prog X.w) (tryc X pins Ew) Ek->PSs (tryc X pins Ew) body tb) (hs: ∀a,PSs (hnd X a) (b0::suite) th) (hdb:(x == ("__debug__":Str))=false:=by decide):
  PS X (.Try body [.ExceptHandler (some (.Name x np)) (some n) (b0::suite) hpos] [] [] pos) (tTryAs Ek X.N.length i tb th):=by
 intro pins s σ H D I h
 refine wpAny_Try_except ?_
 have P:=come_in (hs:=[.ExceptHandler (some (.Name x np)) (some n) (b0::suite) hpos]) (Q:=SP X pins D) (Ek:=Ek) hst hfr fun C a d σ1 H1 s1 I1 cm hE1=>(hE C d H1 hE1).elim fun fI ⟨XC,hG⟩=>hnd_as (D:=D) XC hG hg hm hN hi hl (hs a) I1 cm (h.2 C d H1 a hE1 cm.no) hdb
 refine wpAny_mono (hb pins _ P [] s σ H D (inv_tryc I) h.1) (fun f s1 z=>?_) fun e s1 z=>z
 cases f with
 |next=>exact wpAny_execs_nil (sp_untry z)
 |brk=>exact sp_untry z
 |cont=>exact sp_untry z
 |ret u=>exact sp_untry z
def tXFld (K:PySem.W.Frag) (te:TE) (f:Str):TE:=fun σ H Q=>te σ H fun x H1=> ∃R C fI a d fs v,XCls K R C fI/\x= .ref a/\H1 a=some (xcaught C d a)/\H1 d=some (qj_ d fs)/\fs.lookup f=some v/\Q v H1
theorem pe_xfld {e:Expr} {te:TE} {f:Str} {K:PySem.W.Frag} (hK:X.K=K) (hf:f∈q0_) (hB:typeLookup (.type "Exception") f=pure none) (he:PE X e te) (hb:attributeBase e f X.env (eval e X.env)=eval e X.env):PE X (.Attribute e f pos) (tXFld K te f):=by
 intro pins s σ H Q I h
 subst hK
 refine attr_of hb (thn (he pins s σ H _ I h) fun u s1 ⟨x,H1,I1,rx,R,C,fI,a,d,fs,v,XC,ex,ea,ed,l,q⟩=>?_)
 subst ex
 obtain rfl:u=Value.ref a:=rx
 obtain⟨z,_⟩:=I1.hok _ _ ea
 exact xget_ok (φ:=fun _=>True) XC hf hB I1 z ed l fun u' s2 I2 ru=>⟨v,H1,I2,ru,q⟩
end
end OS
namespace OS
open PySem PySem.Spec L2
open PyProof.Rows hiding St
theorem vc_ {X:Cx} {x:Str} {i:Int} {pos:Pos} (hg:Gl X x) (hm: ∃t,X.mg x=some (.int i t)) (hd:(x == ("__debug__":Str))=false:=by decide):PE X (.Name x pos) (tC (.int i)):=by
 obtain⟨t,hm⟩:=hm
 exact pe_glob hg hm ⟨t,rfl⟩ hd
theorem pe_gs {X:Cx} {x:Str} {i:Str} {pos:Pos} (hg:Gl X x) (hm: ∃t,X.mg x=some (.str i t)) (hd:(x == ("__debug__":Str))=false:=by decide):PE X (.Name x pos) (tC (.str i)):=by
 obtain⟨t,hm⟩:=hm
 exact pe_glob hg hm ⟨t,rfl⟩ hd
def KTup (K:PySem.W.Frag) (a:Addr) (xs:List V):Prop:= ∃(o:Obj) (its:Array Value) (n:Nat),K.lookup a=some o/\o.cls= .type "tuple"/\o.data= .seq its n/\its.size<=sizeLine/\vx_ xs its.toList
theorem KTup.sq {K:PySem.W.Frag} {a:Addr} {xs:List V} {H:Hp} (h:KTup K a xs):SqT K H a xs:= .inr h
structure KdT (P:Program) (w:World) (K:PySem.W.Frag) (a:Addr) (kvs:List (List Key×V)):Prop where
 at_: ∃xs:List (List Key×Addr×Value),(∀h:Heap,K.In h->h.DictOfH (tupleKind (ym_ P w)) a xs)/\Paired (fun(p:List Key×V) (q:List Key×Addr×Value)=>p.1=q.1/\vt_ p.2 q.2.2) kvs xs
 no:(a == sysModules)=false
theorem kdt_val {kvs:List (List Key×V)} {xs:List (List Key×Addr×Value)} (r:Paired (fun(p:List Key×V) (q:List Key×Addr×Value)=>p.1=q.1/\vt_ p.2 q.2.2) kvs xs) (k:List Key):RelO (uo_ kvs k) ((atKey xs k).map (·.2)):=by
 induction r with
 |nil=>exact True.intro
 | @cons p q ps qs hq t ih=>
  unfold uo_ atKey at*
  rw[List.find?_cons,List.find?_cons]
  by_cases e:q.1=k
  ·rw[show decide (p.1=k)=true from decide_eq_true (hq.1.trans e),show decide (q.1=k)=true from decide_eq_true e]
   exact hq.2
  ·rw[show decide (p.1=k)=false from decide_eq_false (fun z=>e (hq.1.symm.trans z)),show decide (q.1=k)=false from decide_eq_false e]
   exact ih
section
variable {X:Cx} {o i:Expr} {td ty:TE} {pos:Pos}
def tKdIn (P:Program) (w:World) (K:PySem.W.Frag) (ty td:TE):TE:=fun σ H Q=>ty σ H fun y H1=>td σ H1 fun x H2=> ∃a b k kvs,x= .ref a/\KdT P w K a kvs/\y= .ref b/\H2 b=some (.tup (k.map kV))/\Q (.bl (uo_ kvs k).isSome) H2
def tKdGet (P:Program) (w:World) (K:PySem.W.Frag) (td ty:TE):TE:=fun σ H Q=>td σ H fun x H1=>ty σ H1 fun y H2=> ∃a b k kvs v,x= .ref a/\KdT P w K a kvs/\y= .ref b/\H2 b=some (.tup (k.map kV))/\uo_ kvs k=some v/\Q v H2
theorem pc_kdin (hu:X.A.units+1<cLine) (hi:PE X i ty) (ho:PE X o td):PC X .In i o (tKdIn X.prog X.w X.K ty td):=by
 intro pins s σ H Q I h
 refine bin hi ho I h fun v u s2 x y H2 I2 rx ry q=>?_
 obtain⟨a,b,k,kvs,ey,kd,ex,eb,q⟩:=q
 subst ex
 subst ey
 cases rx
 cases ry
 obtain⟨xs,dd,rel⟩:=kd.at_
 refine wpAny_in_heap (tupleKind_room_in1 hu) (key_of I2.hok eb) kd.no (dd _ I2.kIn) ?_
 have z:=(kdt_val rel k).isSome_eq
 rw[Option.isSome_map] at z
 rw[<-z]
 exact⟨.bl _,H2,I2.tok _,rfl,q⟩
theorem pe_kdget (hu:X.A.units+1<cLine) (ho:PE X o td) (hi:PE X i ty) (hs:NoSl i):PE X (.Subscript o i pos) (tKdGet X.prog X.w X.K td ty):=by
 intro pins s σ H Q I h
 refine subD_of PySem.F.slot_dict_getitem.lookup hs (thn (ho pins s σ H _ I h) fun u s1 ⟨x,H1,I1,rx,q1⟩=>thn (hi pins s1 σ H1 _ I1 q1) fun iv s2 ⟨y,H2,I2,ry,a,b,k,kvs,v',ex,kd,ey,eb,l,q⟩=>?_)
 subst ex
 subst ey
 obtain rfl:u=Value.ref a:=rx
 obtain rfl:iv=Value.ref b:=ry
 obtain⟨xs,dd,rel⟩:=kd.at_
 have z:=kdt_val rel k
 rw[l] at z
 obtain⟨w',hw,rw'⟩:=RelO.some_of z
 obtain⟨p,hp,hp2⟩:=Option.map_eq_some_iff.mp hw
 have D:=dd _ I2.kIn
 refine⟨D.typeIs,wpAny_getItem_heap (tupleKind_room_in1 hu) (key_of I2.hok eb) D hp ?_⟩
 rw[hp2]
 exact⟨v',H2,I2.tok _,rw',q⟩
end
section
variable {X:Cx} {st:Stmt} {t:TS}
def tJoin (t:TS):TS:=fun D σ H=> ∃J:L2.St->Hp->Prop,t { D with nx:=J } σ H/\ ∀σ' H',J σ' H'->D.nx σ' H'
theorem ps_join (h:PS X st t):PS X st (tJoin t):=by
 intro pins s σ H D I h0
 obtain⟨J,h1,h2⟩:=h0
 refine thn (h pins s σ H { D with nx:=J } I h1) fun f s1 q=>?_
 cases f with
 |next=>
  obtain⟨σ',H',I',q⟩:=q
  exact⟨σ',H',I',h2 _ _ q⟩
 |brk=>exact q
 |cont=>exact q
 |ret u=>exact q
end
section
variable {X:Cx}
theorem call_isin:CallR X (.builtin "isinstance") (fun xs H Q=> ∃(x:V) (C:Addr) (t:Value) (b:Bool),xs=[x, .ref C]/\TyOf X.K H x t/\PySem.W.kitOne X.K t (.ref C)=some b/\Q (.bl b) H):=by
 intro pins s σ H xs us Q I r h
 obtain⟨x,C,t,b,rfl,ty,e,q⟩:=h
 obtain⟨u1,u2,rfl,r1,r2⟩:=vals2 r
 cases r2
 exact isinst_ok I r1 ty e fun tk=>⟨.bl b,H,I.tok _,rfl,q⟩
end
structure TyK (K:PySem.W.Frag) (C:Addr):Prop where
 cl:Cls K C
 ha:PySem.W.findIn K (.ref C) "__class__"=some (some (.builtin "object.__class__"))
 hn:PySem.W.specialIn K (.builtin "object.__class__") "__get__"=some (some (.builtin "getset_descriptor.__get__"))
 htk:PySem.W.takesIn K (.builtin "object.__class__")=some true
 hm:PySem.W.mroIn K C (.type "object")=some true
theorem TyK.of {K:PySem.W.Frag} {H:Hp} {C p dx:Addr} {fs:List (Str×V)} (t:TyK K C) (e:H p=some (.ins C dx fs)):TyOf K H (.ref p) (.ref C):= .ins e t.cl t.ha t.hn t.htk t.hm
theorem j0m_ {α β:Type} {F:α->β->Prop} : ∀ {l:List α} {m:List β},Paired F l m->l.length=m.length
 |_,_, .nil=>rfl
 |_,_, .cons r t=>congrArg (· +1) (j0m_ t)
end OS
namespace OS
open PySem PySem.Spec L2
open PyProof.Rows hiding St
def tp (i:Nat):Stmt:=PySem.Challenge.pw_ordersheets_s01_check.main.body.getD i (.Pass ⟨0,0,0,0⟩)
abbrev s_z8:Stmt:=jw_ (tp 2) 0
abbrev s_z23:Stmt:=jw_ (tp 3) 0
abbrev s_z24:Stmt:=jw_ (tp 4) 0
abbrev s_z13:Stmt:=jw_ (tp 5) 0
abbrev s_z14:Stmt:=jw_ (tp 6) 0
abbrev s_z9:Stmt:=jw_ (tp 7) 0
abbrev s_z33:Stmt:=jw_ (tp 8) 0
abbrev s_z34:Stmt:=jw_ (tp 9) 0
abbrev s_z35:Stmt:=jw_ (tp 10) 0
abbrev s_z41:Stmt:=jw_ (tp 11) 0
abbrev s_z25:Stmt:=jw_ (tp 12) 0
abbrev s_z4:Stmt:=jw_ (tp 13) 0
abbrev s_z15:Stmt:=jw_ (tp 14) 0
abbrev s_z16:Stmt:=jw_ (tp 15) 0
abbrev s_z36:Stmt:=jw_ (tp 16) 0
abbrev s_z26:Stmt:=jw_ (tp 17) 0
abbrev s_z5:Stmt:=jw_ (tp 19) 0
abbrev s_z17:Stmt:=jw_ (tp 20) 0
abbrev s_z18:Stmt:=jw_ (tp 34) 0
abbrev s_z66:Stmt:=tp 35
abbrev s_z58:Stmt:=tp 36
abbrev s_z42:Stmt:=tp 37
abbrev s_z67:Stmt:=tp 38
abbrev s_z50:Stmt:=tp 39
abbrev s_z59:Stmt:=tp 40
abbrev s_z51:Stmt:=tp 41
abbrev s_z27:Stmt:=tp 42
abbrev s_z43:Stmt:=tp 43
abbrev s_z60:Stmt:=tp 44
abbrev s_z10:Stmt:=jw_ (tp 55) 0
abbrev s_z19:Stmt:=jw_ (tp 55) 1
abbrev s_z44:Stmt:=jw_ (tp 55) 2
abbrev s_z45:Stmt:=jw_ (tp 55) 3
abbrev s_z28:Stmt:=jw_ (tp 55) 4
abbrev s_z6:Stmt:=jw_ (tp 55) 5
abbrev s_z20:Stmt:=jw_ (tp 55) 6
abbrev s_z1:Stmt:=jw_ (tp 55) 7
abbrev s_z46:Stmt:=jw_ (tp 55) 8
abbrev s_z29:Stmt:=jw_ (tp 55) 9
abbrev s_z37:Stmt:=jw_ (tp 55) 10
abbrev s_z7:Stmt:=jw_ (tp 55) 11
abbrev s_z2:Stmt:=jw_ (tp 55) 12
abbrev s_z0:Stmt:=jw_ (tp 55) 13
abbrev s_z38:Stmt:=jw_ (tp 55) 14
abbrev s_z30:Stmt:=jw_ (tp 55) 15
abbrev s_z76:Stmt:=tp 59
abbrev s_z68:Stmt:=tp 60
abbrev s_z47:Stmt:=tp 61
abbrev s_z52:Stmt:=tp 62
abbrev s_z53:Stmt:=tp 63
abbrev s_z39:Stmt:=tp 64
abbrev s_z31:Stmt:=tp 65
abbrev s_z69:Stmt:=tp 66
abbrev s_z61:Stmt:=tp 67
abbrev s_z48:Stmt:=tp 68
abbrev s_z54:Stmt:=tp 73
abbrev s_z70:Stmt:=tp 74
abbrev s_z55:Stmt:=tp 75
abbrev s_z56:Stmt:=tp 76
abbrev s_z71:Stmt:=tp 77
abbrev s_z11:Stmt:=tp 78
abbrev s_z21:Stmt:=tp 79
abbrev s_z62:Stmt:=tp 80
abbrev s_z49:Stmt:=tp 81
abbrev s_z22:Stmt:=tp 82
abbrev s_z72:Stmt:=tp 83
abbrev s_z32:Stmt:=tp 84
abbrev s_z73:Stmt:=tp 85
abbrev s_z74:Stmt:=tp 86
abbrev s_z63:Stmt:=tp 87
abbrev s_z64:Stmt:=tp 88
abbrev s_z3:Stmt:=tp 89
abbrev s_z65:Stmt:=tp 90
abbrev s_z57:Stmt:=tp 91
abbrev s_z40:Stmt:=tp 92
abbrev s_z12:Stmt:=tp 93
abbrev s_z75:Stmt:=tp 96
abbrev s_z77:Stmt:=tp 97
theorem sc_z8:jc_ ["self","worth"] ["self","worth"] (j8_ s_z8):=⟨rfl,rfl,rfl,by decide+kernel,rfl,by decide+kernel,by decide+kernel⟩
theorem sc_z23:jc_ ["self","name"] ["self","name"] (j8_ s_z23):=⟨rfl,rfl,rfl,by decide+kernel,rfl,by decide+kernel,by decide+kernel⟩
theorem sc_z24:jc_ ["self","name","arguments"] ["self","name","arguments"] (j8_ s_z24):=⟨rfl,rfl,rfl,by decide+kernel,rfl,by decide+kernel,by decide+kernel⟩
theorem sc_z13:jc_ ["self","sign","operand"] ["self","sign","operand"] (j8_ s_z13):=⟨rfl,rfl,rfl,by decide+kernel,rfl,by decide+kernel,by decide+kernel⟩
theorem sc_z14:jc_ ["self","strength","operands","signs"] ["self","strength","operands","signs"] (j8_ s_z14):=⟨rfl,rfl,rfl,by decide+kernel,rfl,by decide+kernel,by decide+kernel⟩
theorem sc_z9:jc_ ["self","condition","chosen","otherwise"] ["self","condition","chosen","otherwise"] (j8_ s_z9):=⟨rfl,rfl,rfl,by decide+kernel,rfl,by decide+kernel,by decide+kernel⟩
theorem sc_z33:jc_ ["self","name","first","last","body"] ["self","name","first","last","body"] (j8_ s_z33):=⟨rfl,rfl,rfl,by decide+kernel,rfl,by decide+kernel,by decide+kernel⟩
theorem sc_z34:jc_ ["self","name","exp"] ["self","name","exp"] (j8_ s_z34):=⟨rfl,rfl,rfl,by decide+kernel,rfl,by decide+kernel,by decide+kernel⟩
theorem sc_z35:jc_ ["self","name","first","last","statements"] ["self","name","first","last","statements"] (j8_ s_z35):=⟨rfl,rfl,rfl,by decide+kernel,rfl,by decide+kernel,by decide+kernel⟩
theorem sc_z41:jc_ ["self","condition","statements","else_statements"] ["self","condition","statements","else_statements"] (j8_ s_z41):=⟨rfl,rfl,rfl,by decide+kernel,rfl,by decide+kernel,by decide+kernel⟩
theorem sc_z25:jc_ ["self","side","zone","quarter","price","to_price","amount"] ["self","side","zone","quarter","price","to_price","amount"] (j8_ s_z25):=⟨rfl,rfl,rfl,by decide+kernel,rfl,by decide+kernel,by decide+kernel⟩
theorem sc_z4:jc_ ["self","name","exp"] ["self","name","exp"] (j8_ s_z4):=⟨rfl,rfl,rfl,by decide+kernel,rfl,by decide+kernel,by decide+kernel⟩
theorem sc_z15:jc_ ["self","name","side","zone","price","amounts","under","group"] ["self","name","side","zone","price","amounts","under","group"] (j8_ s_z15):=⟨rfl,rfl,rfl,by decide+kernel,rfl,by decide+kernel,by decide+kernel⟩
theorem sc_z16:jc_ ["self","name","exp"] ["self","name","exp"] (j8_ s_z16):=⟨rfl,rfl,rfl,by decide+kernel,rfl,by decide+kernel,by decide+kernel⟩
theorem sc_z36:jc_ ["self","name","parameters","exp"] ["self","name","parameters","exp"] (j8_ s_z36):=⟨rfl,rfl,rfl,by decide+kernel,rfl,by decide+kernel,by decide+kernel⟩
theorem sc_z26:jc_ ["self","name","statements"] ["self","name","statements"] (j8_ s_z26):=⟨rfl,rfl,rfl,by decide+kernel,rfl,by decide+kernel,by decide+kernel⟩
theorem sc_z5:jc_ ["self","number"] ["self","number"] (j8_ s_z5):=⟨rfl,rfl,rfl,by decide+kernel,rfl,by decide+kernel,by decide+kernel⟩
theorem sc_z17:jc_ ["self","kind","line","column"] ["self","kind","line","column"] (j8_ s_z17):=⟨rfl,rfl,rfl,by decide+kernel,rfl,by decide+kernel,by decide+kernel⟩
theorem sc_z18:jc_ ["self","kind","value","line","column"] ["self","kind","value","line","column"] (j8_ s_z18):=⟨rfl,rfl,rfl,by decide+kernel,rfl,by decide+kernel,by decide+kernel⟩
theorem sc_z66:jc_ ["byte"] ["byte"] (j8_ s_z66):=⟨rfl,rfl,rfl,by decide+kernel,rfl,by decide+kernel,by decide+kernel⟩
theorem sc_z58:jc_ ["byte"] ["byte"] (j8_ s_z58):=⟨rfl,rfl,rfl,by decide+kernel,rfl,by decide+kernel,by decide+kernel⟩
theorem sc_z42:jc_ ["text","at"] ["text","at"] (j8_ s_z42):=⟨rfl,rfl,rfl,by decide+kernel,rfl,by decide+kernel,by decide+kernel⟩
theorem sc_z67:jc_ ["text","at"] ["text","at"] (j8_ s_z67):=⟨rfl,rfl,rfl,by decide+kernel,rfl,by decide+kernel,by decide+kernel⟩
theorem sc_z50:jc_ ["text","at"] ["text","at"] (j8_ s_z50):=⟨rfl,rfl,rfl,by decide+kernel,rfl,by decide+kernel,by decide+kernel⟩
theorem sc_z59:jc_ ["text","at","pair"] ["text","at"] (j8_ s_z59):=⟨rfl,rfl,rfl,by decide+kernel,rfl,by decide+kernel,by decide+kernel⟩
theorem sc_z51:jc_ ["text","at","end","glued"] ["text","at","end"] (j8_ s_z51):=⟨rfl,rfl,rfl,by decide+kernel,rfl,by decide+kernel,by decide+kernel⟩
theorem sc_z27:jc_ ["part","worth","byte"] ["part"] (j8_ s_z27):=⟨rfl,rfl,rfl,by decide+kernel,rfl,by decide+kernel,by decide+kernel⟩
theorem sc_z43:jc_ ["kind","part","byte"] ["kind","part"] (j8_ s_z43):=⟨rfl,rfl,rfl,by decide+kernel,rfl,by decide+kernel,by decide+kernel⟩
theorem j01_:jc_ ["text","found","line","line_start","at","end","kind"] ["text"] (j8_ s_z60):=⟨rfl,rfl,rfl,by decide+kernel,rfl,by decide+kernel,by decide+kernel⟩
theorem sc_z10:jc_ ["self","tokens"] ["self","tokens"] (j8_ s_z10):=⟨rfl,rfl,rfl,by decide+kernel,rfl,by decide+kernel,by decide+kernel⟩
theorem sc_z19:jc_ ["self","token"] ["self"] (j8_ s_z19):=⟨rfl,rfl,rfl,by decide+kernel,rfl,by decide+kernel,by decide+kernel⟩
theorem sc_z44:jc_ ["self","kind","token"] ["self","kind"] (j8_ s_z44):=⟨rfl,rfl,rfl,by decide+kernel,rfl,by decide+kernel,by decide+kernel⟩
theorem sc_z45:jc_ ["self","value"] ["self","value"] (j8_ s_z45):=⟨rfl,rfl,rfl,by decide+kernel,rfl,by decide+kernel,by decide+kernel⟩
theorem sc_z28:jc_ ["self"] ["self"] (j8_ s_z28):=⟨rfl,rfl,rfl,by decide+kernel,rfl,by decide+kernel,by decide+kernel⟩
theorem sc_z6:jc_ ["self"] ["self"] (j8_ s_z6):=⟨rfl,rfl,rfl,by decide+kernel,rfl,by decide+kernel,by decide+kernel⟩
theorem sc_z20:jc_ ["self","token"] ["self"] (j8_ s_z20):=⟨rfl,rfl,rfl,by decide+kernel,rfl,by decide+kernel,by decide+kernel⟩
theorem sc_z1:jc_ ["self"] ["self"] (j8_ s_z1):=⟨rfl,rfl,rfl,by decide+kernel,rfl,by decide+kernel,by decide+kernel⟩
theorem sc_z46:jc_ ["self","token"] ["self"] (j8_ s_z46):=⟨rfl,rfl,rfl,by decide+kernel,rfl,by decide+kernel,by decide+kernel⟩
theorem sc_z29:jc_ ["self","value"] ["self","value"] (j8_ s_z29):=⟨rfl,rfl,rfl,by decide+kernel,rfl,by decide+kernel,by decide+kernel⟩
theorem sc_z37:jc_ ["self","value"] ["self","value"] (j8_ s_z37):=⟨rfl,rfl,rfl,by decide+kernel,rfl,by decide+kernel,by decide+kernel⟩
theorem sc_z7:jc_ ["self"] ["self"] (j8_ s_z7):=⟨rfl,rfl,rfl,by decide+kernel,rfl,by decide+kernel,by decide+kernel⟩
theorem sc_z2:jc_ ["self","name"] ["self"] (j8_ s_z2):=⟨rfl,rfl,rfl,by decide+kernel,rfl,by decide+kernel,by decide+kernel⟩
theorem sc_z0:jc_ ["self","given"] ["self","given"] (j8_ s_z0):=⟨rfl,rfl,rfl,by decide+kernel,rfl,by decide+kernel,by decide+kernel⟩
theorem sc_z38:jc_ ["self","name"] ["self","name"] (j8_ s_z38):=⟨rfl,rfl,rfl,by decide+kernel,rfl,by decide+kernel,by decide+kernel⟩
theorem sc_z30:jc_ ["self","name"] ["self","name"] (j8_ s_z30):=⟨rfl,rfl,rfl,by decide+kernel,rfl,by decide+kernel,by decide+kernel⟩
theorem sc_z76:jc_ ["reader","depth"] ["reader","depth"] (j8_ s_z76):=⟨rfl,rfl,rfl,by decide+kernel,rfl,by decide+kernel,by decide+kernel⟩
theorem sc_z68:jc_ ["reader","depth"] ["reader","depth"] (j8_ s_z68):=⟨rfl,rfl,rfl,by decide+kernel,rfl,by decide+kernel,by decide+kernel⟩
theorem sc_z47:jc_ ["reader","depth","inner","condition","chosen"] ["reader","depth"] (j8_ s_z47):=⟨rfl,rfl,rfl,by decide+kernel,rfl,by decide+kernel,by decide+kernel⟩
theorem sc_z52:jc_ ["reader","depth","strength","operands","signs"] ["reader","depth","strength"] (j8_ s_z52):=⟨rfl,rfl,rfl,by decide+kernel,rfl,by decide+kernel,by decide+kernel⟩
theorem sc_z53:jc_ ["reader","depth","inner","sign"] ["reader","depth"] (j8_ s_z53):=⟨rfl,rfl,rfl,by decide+kernel,rfl,by decide+kernel,by decide+kernel⟩
theorem sc_z39:jc_ ["reader","depth","name"] ["reader","depth"] (j8_ s_z39):=⟨rfl,rfl,rfl,by decide+kernel,rfl,by decide+kernel,by decide+kernel⟩
theorem sc_z31:jc_ ["reader","depth","inner","exp"] ["reader","depth"] (j8_ s_z31):=⟨rfl,rfl,rfl,by decide+kernel,rfl,by decide+kernel,by decide+kernel⟩
theorem sc_z69:jc_ ["reader","depth","inner","name","first","last","body"] ["reader","depth"] (j8_ s_z69):=⟨rfl,rfl,rfl,by decide+kernel,rfl,by decide+kernel,by decide+kernel⟩
theorem sc_z61:jc_ ["reader","depth","inner","name","wanted","arguments"] ["reader","depth"] (j8_ s_z61):=⟨rfl,rfl,rfl,by decide+kernel,rfl,by decide+kernel,by decide+kernel⟩
theorem sc_z48:jc_ ["reader","sign"] ["reader","sign"] (j8_ s_z48):=⟨rfl,rfl,rfl,by decide+kernel,rfl,by decide+kernel,by decide+kernel⟩
theorem sc_z54:jc_ ["text","reader","tops"] ["text"] (j8_ s_z54):=⟨rfl,rfl,rfl,by decide+kernel,rfl,by decide+kernel,by decide+kernel⟩
theorem sc_z70:jc_ ["reader"] ["reader"] (j8_ s_z70):=⟨rfl,rfl,rfl,by decide+kernel,rfl,by decide+kernel,by decide+kernel⟩
theorem sc_z55:jc_ ["reader","name","exp"] ["reader"] (j8_ s_z55):=⟨rfl,rfl,rfl,by decide+kernel,rfl,by decide+kernel,by decide+kernel⟩
theorem sc_z56:jc_ ["reader","exp"] ["reader"] (j8_ s_z56):=⟨rfl,rfl,rfl,by decide+kernel,rfl,by decide+kernel,by decide+kernel⟩
theorem sc_z71:jc_ ["reader","name","parameters","exp","parameter"] ["reader"] (j8_ s_z71):=⟨rfl,rfl,rfl,by decide+kernel,rfl,by decide+kernel,by decide+kernel⟩
theorem sc_z11:jc_ ["reader","function","parameters"] ["reader","function"] (j8_ s_z11):=⟨rfl,rfl,rfl,by decide+kernel,rfl,by decide+kernel,by decide+kernel⟩
theorem sc_z21:jc_ ["reader","function","name"] ["reader","function"] (j8_ s_z21):=⟨rfl,rfl,rfl,by decide+kernel,rfl,by decide+kernel,by decide+kernel⟩
theorem sc_z62:jc_ ["reader","name"] ["reader"] (j8_ s_z62):=⟨rfl,rfl,rfl,by decide+kernel,rfl,by decide+kernel,by decide+kernel⟩
theorem sc_z49:jc_ ["reader","depth","statements","statement"] ["reader","depth"] (j8_ s_z49):=⟨rfl,rfl,rfl,by decide+kernel,rfl,by decide+kernel,by decide+kernel⟩
theorem sc_z22:jc_ ["reader","depth"] ["reader","depth"] (j8_ s_z22):=⟨rfl,rfl,rfl,by decide+kernel,rfl,by decide+kernel,by decide+kernel⟩
theorem sc_z72:jc_ ["reader","name","exp"] ["reader"] (j8_ s_z72):=⟨rfl,rfl,rfl,by decide+kernel,rfl,by decide+kernel,by decide+kernel⟩
theorem sc_z32:jc_ ["reader","depth"] ["reader","depth"] (j8_ s_z32):=⟨rfl,rfl,rfl,by decide+kernel,rfl,by decide+kernel,by decide+kernel⟩
theorem sc_z73:jc_ ["reader","depth","inner","name","first","last","statements"] ["reader","depth"] (j8_ s_z73):=⟨rfl,rfl,rfl,by decide+kernel,rfl,by decide+kernel,by decide+kernel⟩
theorem sc_z74:jc_ ["reader","depth","inner","condition","statements","else_statements"] ["reader","depth"] (j8_ s_z74):=⟨rfl,rfl,rfl,by decide+kernel,rfl,by decide+kernel,by decide+kernel⟩
theorem sc_z63:jc_ ["reader"] ["reader"] (j8_ s_z63):=⟨rfl,rfl,rfl,by decide+kernel,rfl,by decide+kernel,by decide+kernel⟩
theorem sc_z64:jc_ ["reader","word"] ["reader","word"] (j8_ s_z64):=⟨rfl,rfl,rfl,by decide+kernel,rfl,by decide+kernel,by decide+kernel⟩
theorem sc_z3:jc_ ["reader","word"] ["reader","word"] (j8_ s_z3):=⟨rfl,rfl,rfl,by decide+kernel,rfl,by decide+kernel,by decide+kernel⟩
theorem sc_z65:jc_ ["reader","side","zone","quarter","price","to_price","amount"] ["reader"] (j8_ s_z65):=⟨rfl,rfl,rfl,by decide+kernel,rfl,by decide+kernel,by decide+kernel⟩
theorem j0t_:jc_ ["reader","name","side","zone","price","amounts","under","group"] ["reader"] (j8_ s_z57):=⟨rfl,rfl,rfl,by decide+kernel,rfl,by decide+kernel,by decide+kernel⟩
theorem sc_z40:jc_ ["reader","name","exp"] ["reader"] (j8_ s_z40):=⟨rfl,rfl,rfl,by decide+kernel,rfl,by decide+kernel,by decide+kernel⟩
theorem sc_z12:jc_ ["reader"] ["reader"] (j8_ s_z12):=⟨rfl,rfl,rfl,by decide+kernel,rfl,by decide+kernel,by decide+kernel⟩
theorem sc_z75:jc_ ["text","byte"] ["text"] (j8_ s_z75):=⟨rfl,rfl,rfl,by decide+kernel,rfl,by decide+kernel,by decide+kernel⟩
theorem sc_z77:jc_ ["text","fault"] ["text"] (j8_ s_z77):=⟨rfl,rfl,rfl,by decide+kernel,rfl,by decide+kernel,by decide+kernel⟩
set_option genInjectivity false in
structure Adr where
 f_z8:Addr
 fd_z8:FuncData
 f_z23:Addr
 fd_z23:FuncData
 f_z24:Addr
 fd_z24:FuncData
 f_z13:Addr
 fd_z13:FuncData
 f_z14:Addr
 fd_z14:FuncData
 f_z9:Addr
 fd_z9:FuncData
 f_z33:Addr
 fd_z33:FuncData
 f_z34:Addr
 fd_z34:FuncData
 f_z35:Addr
 fd_z35:FuncData
 f_z41:Addr
 fd_z41:FuncData
 f_z25:Addr
 fd_z25:FuncData
 f_z4:Addr
 fd_z4:FuncData
 f_z15:Addr
 fd_z15:FuncData
 f_z16:Addr
 fd_z16:FuncData
 f_z36:Addr
 fd_z36:FuncData
 f_z26:Addr
 fd_z26:FuncData
 f_z5:Addr
 fd_z5:FuncData
 f_z17:Addr
 fd_z17:FuncData
 f_z18:Addr
 fd_z18:FuncData
 f_z66:Addr
 fd_z66:FuncData
 f_z58:Addr
 fd_z58:FuncData
 f_z42:Addr
 fd_z42:FuncData
 f_z67:Addr
 fd_z67:FuncData
 f_z50:Addr
 fd_z50:FuncData
 f_z59:Addr
 fd_z59:FuncData
 f_z51:Addr
 fd_z51:FuncData
 f_z27:Addr
 fd_z27:FuncData
 f_z43:Addr
 fd_z43:FuncData
 f_z60:Addr
 fd_z60:FuncData
 f_z10:Addr
 fd_z10:FuncData
 f_z19:Addr
 fd_z19:FuncData
 f_z44:Addr
 fd_z44:FuncData
 f_z45:Addr
 fd_z45:FuncData
 f_z28:Addr
 fd_z28:FuncData
 f_z6:Addr
 fd_z6:FuncData
 f_z20:Addr
 fd_z20:FuncData
 f_z1:Addr
 fd_z1:FuncData
 f_z46:Addr
 fd_z46:FuncData
 f_z29:Addr
 fd_z29:FuncData
 f_z37:Addr
 fd_z37:FuncData
 f_z7:Addr
 fd_z7:FuncData
 f_z2:Addr
 fd_z2:FuncData
 f_z0:Addr
 fd_z0:FuncData
 f_z38:Addr
 fd_z38:FuncData
 f_z30:Addr
 fd_z30:FuncData
 f_z76:Addr
 fd_z76:FuncData
 f_z68:Addr
 fd_z68:FuncData
 f_z47:Addr
 fd_z47:FuncData
 f_z52:Addr
 fd_z52:FuncData
 f_z53:Addr
 fd_z53:FuncData
 f_z39:Addr
 fd_z39:FuncData
 f_z31:Addr
 fd_z31:FuncData
 f_z69:Addr
 fd_z69:FuncData
 f_z61:Addr
 fd_z61:FuncData
 f_z48:Addr
 fd_z48:FuncData
 f_z54:Addr
 fd_z54:FuncData
 f_z70:Addr
 fd_z70:FuncData
 f_z55:Addr
 fd_z55:FuncData
 f_z56:Addr
 fd_z56:FuncData
 f_z71:Addr
 fd_z71:FuncData
 f_z11:Addr
 fd_z11:FuncData
 f_z21:Addr
 fd_z21:FuncData
 f_z62:Addr
 fd_z62:FuncData
 f_z49:Addr
 fd_z49:FuncData
 f_z22:Addr
 fd_z22:FuncData
 f_z72:Addr
 fd_z72:FuncData
 f_z32:Addr
 fd_z32:FuncData
 f_z73:Addr
 fd_z73:FuncData
 f_z74:Addr
 fd_z74:FuncData
 f_z63:Addr
 fd_z63:FuncData
 f_z64:Addr
 fd_z64:FuncData
 f_z3:Addr
 fd_z3:FuncData
 f_z65:Addr
 fd_z65:FuncData
 f_z57:Addr
 fd_z57:FuncData
 f_z40:Addr
 fd_z40:FuncData
 f_z12:Addr
 fd_z12:FuncData
 f_z75:Addr
 fd_z75:FuncData
 f_z77:Addr
 fd_z77:FuncData
 c_Number:Addr
 c_Name:Addr
 c_Call:Addr
 c_Unary:Addr
 c_Chain:Addr
 c_Choice:Addr
 c_Sum:Addr
 c_Let:Addr
 c_For:Addr
 c_If:Addr
 c_Step:Addr
 c_Amounts:Addr
 c_Block:Addr
 c_Const:Addr
 c_Fun:Addr
 c_Desk:Addr
 c_Refusal:Addr
 c_Fault:Addr
 c_Token:Addr
 c_Reader:Addr
 k_BLANKS:Addr
 k_SIGNS:Addr
 k_KEY_WORDS:Addr
 k_FIRST_FUNCTIONS:Addr
 k_CHAIN_SIGNS:Addr
structure Txt (K:PySem.W.Frag) (mg:Str->Option Value) (a:Adr):Prop where
 F_z8:Fun K "__init__" "Number.__init__" s_z8 a.f_z8 a.fd_z8
 b_z8:jo_ K a.fd_z8 ["self","worth"] []
 F_z23:Fun K "__init__" "Name.__init__" s_z23 a.f_z23 a.fd_z23
 b_z23:jo_ K a.fd_z23 ["self","name"] []
 F_z24:Fun K "__init__" "Call.__init__" s_z24 a.f_z24 a.fd_z24
 b_z24:jo_ K a.fd_z24 ["self","name","arguments"] []
 F_z13:Fun K "__init__" "Unary.__init__" s_z13 a.f_z13 a.fd_z13
 b_z13:jo_ K a.fd_z13 ["self","sign","operand"] []
 F_z14:Fun K "__init__" "Chain.__init__" s_z14 a.f_z14 a.fd_z14
 b_z14:jo_ K a.fd_z14 ["self","strength","operands","signs"] []
 F_z9:Fun K "__init__" "Choice.__init__" s_z9 a.f_z9 a.fd_z9
 b_z9:jo_ K a.fd_z9 ["self","condition","chosen","otherwise"] []
 F_z33:Fun K "__init__" "Sum.__init__" s_z33 a.f_z33 a.fd_z33
 b_z33:jo_ K a.fd_z33 ["self","name","first","last","body"] []
 F_z34:Fun K "__init__" "Let.__init__" s_z34 a.f_z34 a.fd_z34
 b_z34:jo_ K a.fd_z34 ["self","name","exp"] []
 F_z35:Fun K "__init__" "For.__init__" s_z35 a.f_z35 a.fd_z35
 b_z35:jo_ K a.fd_z35 ["self","name","first","last","statements"] []
 F_z41:Fun K "__init__" "If.__init__" s_z41 a.f_z41 a.fd_z41
 b_z41:jo_ K a.fd_z41 ["self","condition","statements","else_statements"] []
 F_z25:Fun K "__init__" "Step.__init__" s_z25 a.f_z25 a.fd_z25
 b_z25:jo_ K a.fd_z25 ["self","side","zone","quarter","price","to_price","amount"] []
 F_z4:Fun K "__init__" "Amounts.__init__" s_z4 a.f_z4 a.fd_z4
 b_z4:jo_ K a.fd_z4 ["self","name","exp"] []
 F_z15:Fun K "__init__" "Block.__init__" s_z15 a.f_z15 a.fd_z15
 b_z15:jo_ K a.fd_z15 ["self","name","side","zone","price","amounts","under","group"] []
 F_z16:Fun K "__init__" "Const.__init__" s_z16 a.f_z16 a.fd_z16
 b_z16:jo_ K a.fd_z16 ["self","name","exp"] []
 F_z36:Fun K "__init__" "Fun.__init__" s_z36 a.f_z36 a.fd_z36
 b_z36:jo_ K a.fd_z36 ["self","name","parameters","exp"] []
 F_z26:Fun K "__init__" "Desk.__init__" s_z26 a.f_z26 a.fd_z26
 b_z26:jo_ K a.fd_z26 ["self","name","statements"] []
 F_z5:Fun K "__init__" "Refusal.__init__" s_z5 a.f_z5 a.fd_z5
 b_z5:jo_ K a.fd_z5 ["self","number"] []
 F_z17:Fun K "__init__" "Fault.__init__" s_z17 a.f_z17 a.fd_z17
 b_z17:jo_ K a.fd_z17 ["self","kind","line","column"] []
 F_z18:Fun K "__init__" "Token.__init__" s_z18 a.f_z18 a.fd_z18
 b_z18:jo_ K a.fd_z18 ["self","kind","value","line","column"] []
 F_z66:Fun K "is_digit" "is_digit" s_z66 a.f_z66 a.fd_z66
 b_z66:jo_ K a.fd_z66 ["byte"] []
 m_z66:mg "is_digit"=some (.ref a.f_z66)
 F_z58:Fun K "is_letter" "is_letter" s_z58 a.f_z58 a.fd_z58
 b_z58:jo_ K a.fd_z58 ["byte"] []
 m_z58:mg "is_letter"=some (.ref a.f_z58)
 F_z42:Fun K "comment_end" "comment_end" s_z42 a.f_z42 a.fd_z42
 b_z42:jo_ K a.fd_z42 ["text","at"] []
 m_z42:mg "comment_end"=some (.ref a.f_z42)
 F_z67:Fun K "word_end" "word_end" s_z67 a.f_z67 a.fd_z67
 b_z67:jo_ K a.fd_z67 ["text","at"] []
 m_z67:mg "word_end"=some (.ref a.f_z67)
 F_z50:Fun K "digits_end" "digits_end" s_z50 a.f_z50 a.fd_z50
 b_z50:jo_ K a.fd_z50 ["text","at"] []
 m_z50:mg "digits_end"=some (.ref a.f_z50)
 F_z59:Fun K "token_end" "token_end" s_z59 a.f_z59 a.fd_z59
 b_z59:jo_ K a.fd_z59 ["text","at"] []
 m_z59:mg "token_end"=some (.ref a.f_z59)
 F_z51:Fun K "token_kind" "token_kind" s_z51 a.f_z51 a.fd_z51
 b_z51:jo_ K a.fd_z51 ["text","at","end"] []
 m_z51:mg "token_kind"=some (.ref a.f_z51)
 F_z27:Fun K "decimal_worth" "decimal_worth" s_z27 a.f_z27 a.fd_z27
 b_z27:jo_ K a.fd_z27 ["part"] []
 m_z27:mg "decimal_worth"=some (.ref a.f_z27)
 F_z43:Fun K "token_value" "token_value" s_z43 a.f_z43 a.fd_z43
 b_z43:jo_ K a.fd_z43 ["kind","part"] []
 m_z43:mg "token_value"=some (.ref a.f_z43)
 F_z60:Fun K "scan_text" "scan_text" s_z60 a.f_z60 a.fd_z60
 b_z60:jo_ K a.fd_z60 ["text"] []
 m_z60:mg "scan_text"=some (.ref a.f_z60)
 F_z10:Fun K "__init__" "Reader.__init__" s_z10 a.f_z10 a.fd_z10
 b_z10:jo_ K a.fd_z10 ["self","tokens"] []
 F_z19:Fun K "current" "Reader.current" s_z19 a.f_z19 a.fd_z19
 b_z19:jo_ K a.fd_z19 ["self"] []
 me_z19:Meth K a.c_Reader "current" a.f_z19
 F_z44:Fun K "fail" "Reader.fail" s_z44 a.f_z44 a.fd_z44
 b_z44:jo_ K a.fd_z44 ["self","kind"] []
 me_z44:Meth K a.c_Reader "fail" a.f_z44
 F_z45:Fun K "sees" "Reader.sees" s_z45 a.f_z45 a.fd_z45
 b_z45:jo_ K a.fd_z45 ["self","value"] []
 me_z45:Meth K a.c_Reader "sees" a.f_z45
 F_z28:Fun K "at_end" "Reader.at_end" s_z28 a.f_z28 a.fd_z28
 b_z28:jo_ K a.fd_z28 ["self"] []
 me_z28:Meth K a.c_Reader "at_end" a.f_z28
 F_z6:Fun K "at_number" "Reader.at_number" s_z6 a.f_z6 a.fd_z6
 b_z6:jo_ K a.fd_z6 ["self"] []
 me_z6:Meth K a.c_Reader "at_number" a.f_z6
 F_z20:Fun K "at_name" "Reader.at_name" s_z20 a.f_z20 a.fd_z20
 b_z20:jo_ K a.fd_z20 ["self"] []
 me_z20:Meth K a.c_Reader "at_name" a.f_z20
 F_z1:Fun K "number_follows" "Reader.number_follows" s_z1 a.f_z1 a.fd_z1
 b_z1:jo_ K a.fd_z1 ["self"] []
 me_z1:Meth K a.c_Reader "number_follows" a.f_z1
 F_z46:Fun K "take" "Reader.take" s_z46 a.f_z46 a.fd_z46
 b_z46:jo_ K a.fd_z46 ["self"] []
 me_z46:Meth K a.c_Reader "take" a.f_z46
 F_z29:Fun K "expect" "Reader.expect" s_z29 a.f_z29 a.fd_z29
 b_z29:jo_ K a.fd_z29 ["self","value"] []
 me_z29:Meth K a.c_Reader "expect" a.f_z29
 F_z37:Fun K "skips" "Reader.skips" s_z37 a.f_z37 a.fd_z37
 b_z37:jo_ K a.fd_z37 ["self","value"] []
 me_z37:Meth K a.c_Reader "skips" a.f_z37
 F_z7:Fun K "need_name" "Reader.need_name" s_z7 a.f_z7 a.fd_z7
 b_z7:jo_ K a.fd_z7 ["self"] []
 me_z7:Meth K a.c_Reader "need_name" a.f_z7
 F_z2:Fun K "take_free_name" "Reader.take_free_name" s_z2 a.f_z2 a.fd_z2
 b_z2:jo_ K a.fd_z2 ["self"] []
 me_z2:Meth K a.c_Reader "take_free_name" a.f_z2
 F_z0:Fun K "take_name_not_in" "Reader.take_name_not_in" s_z0 a.f_z0 a.fd_z0
 b_z0:jo_ K a.fd_z0 ["self","given"] []
 me_z0:Meth K a.c_Reader "take_name_not_in" a.f_z0
 F_z38:Fun K "learn" "Reader.learn" s_z38 a.f_z38 a.fd_z38
 b_z38:jo_ K a.fd_z38 ["self","name"] []
 me_z38:Meth K a.c_Reader "learn" a.f_z38
 F_z30:Fun K "forget" "Reader.forget" s_z30 a.f_z30 a.fd_z30
 b_z30:jo_ K a.fd_z30 ["self","name"] []
 me_z30:Meth K a.c_Reader "forget" a.f_z30
 F_z76:Fun K "deeper" "deeper" s_z76 a.f_z76 a.fd_z76
 b_z76:jo_ K a.fd_z76 ["reader","depth"] []
 m_z76:mg "deeper"=some (.ref a.f_z76)
 F_z68:Fun K "read_exp" "read_exp" s_z68 a.f_z68 a.fd_z68
 b_z68:jo_ K a.fd_z68 ["reader","depth"] []
 m_z68:mg "read_exp"=some (.ref a.f_z68)
 F_z47:Fun K "read_choice" "read_choice" s_z47 a.f_z47 a.fd_z47
 b_z47:jo_ K a.fd_z47 ["reader","depth"] []
 m_z47:mg "read_choice"=some (.ref a.f_z47)
 F_z52:Fun K "read_chain" "read_chain" s_z52 a.f_z52 a.fd_z52
 b_z52:jo_ K a.fd_z52 ["reader","depth","strength"] []
 m_z52:mg "read_chain"=some (.ref a.f_z52)
 F_z53:Fun K "read_unary" "read_unary" s_z53 a.f_z53 a.fd_z53
 b_z53:jo_ K a.fd_z53 ["reader","depth"] []
 m_z53:mg "read_unary"=some (.ref a.f_z53)
 F_z39:Fun K "read_primary" "read_primary" s_z39 a.f_z39 a.fd_z39
 b_z39:jo_ K a.fd_z39 ["reader","depth"] []
 m_z39:mg "read_primary"=some (.ref a.f_z39)
 F_z31:Fun K "read_brackets" "read_brackets" s_z31 a.f_z31 a.fd_z31
 b_z31:jo_ K a.fd_z31 ["reader","depth"] []
 m_z31:mg "read_brackets"=some (.ref a.f_z31)
 F_z69:Fun K "read_sum" "read_sum" s_z69 a.f_z69 a.fd_z69
 b_z69:jo_ K a.fd_z69 ["reader","depth"] []
 m_z69:mg "read_sum"=some (.ref a.f_z69)
 F_z61:Fun K "read_call" "read_call" s_z61 a.f_z61 a.fd_z61
 b_z61:jo_ K a.fd_z61 ["reader","depth"] []
 m_z61:mg "read_call"=some (.ref a.f_z61)
 F_z48:Fun K "refuse_here" "refuse_here" s_z48 a.f_z48 a.fd_z48
 b_z48:jo_ K a.fd_z48 ["reader","sign"] []
 m_z48:mg "refuse_here"=some (.ref a.f_z48)
 F_z54:Fun K "read_sheet" "read_sheet" s_z54 a.f_z54 a.fd_z54
 b_z54:jo_ K a.fd_z54 ["text"] []
 m_z54:mg "read_sheet"=some (.ref a.f_z54)
 F_z70:Fun K "read_top" "read_top" s_z70 a.f_z70 a.fd_z70
 b_z70:jo_ K a.fd_z70 ["reader"] []
 m_z70:mg "read_top"=some (.ref a.f_z70)
 F_z55:Fun K "read_const" "read_const" s_z55 a.f_z55 a.fd_z55
 b_z55:jo_ K a.fd_z55 ["reader"] []
 m_z55:mg "read_const"=some (.ref a.f_z55)
 F_z56:Fun K "read_given" "read_given" s_z56 a.f_z56 a.fd_z56
 b_z56:jo_ K a.fd_z56 ["reader"] []
 m_z56:mg "read_given"=some (.ref a.f_z56)
 F_z71:Fun K "read_fun" "read_fun" s_z71 a.f_z71 a.fd_z71
 b_z71:jo_ K a.fd_z71 ["reader"] []
 m_z71:mg "read_fun"=some (.ref a.f_z71)
 F_z11:Fun K "read_parameters" "read_parameters" s_z11 a.f_z11 a.fd_z11
 b_z11:jo_ K a.fd_z11 ["reader","function"] []
 m_z11:mg "read_parameters"=some (.ref a.f_z11)
 F_z21:Fun K "read_parameter" "read_parameter" s_z21 a.f_z21 a.fd_z21
 b_z21:jo_ K a.fd_z21 ["reader","function"] []
 m_z21:mg "read_parameter"=some (.ref a.f_z21)
 F_z62:Fun K "read_desk" "read_desk" s_z62 a.f_z62 a.fd_z62
 b_z62:jo_ K a.fd_z62 ["reader"] []
 m_z62:mg "read_desk"=some (.ref a.f_z62)
 F_z49:Fun K "read_braces" "read_braces" s_z49 a.f_z49 a.fd_z49
 b_z49:jo_ K a.fd_z49 ["reader","depth"] []
 m_z49:mg "read_braces"=some (.ref a.f_z49)
 F_z22:Fun K "read_statement" "read_statement" s_z22 a.f_z22 a.fd_z22
 b_z22:jo_ K a.fd_z22 ["reader","depth"] []
 m_z22:mg "read_statement"=some (.ref a.f_z22)
 F_z72:Fun K "read_let" "read_let" s_z72 a.f_z72 a.fd_z72
 b_z72:jo_ K a.fd_z72 ["reader"] []
 m_z72:mg "read_let"=some (.ref a.f_z72)
 F_z32:Fun K "deeper_braces" "deeper_braces" s_z32 a.f_z32 a.fd_z32
 b_z32:jo_ K a.fd_z32 ["reader","depth"] []
 m_z32:mg "deeper_braces"=some (.ref a.f_z32)
 F_z73:Fun K "read_for" "read_for" s_z73 a.f_z73 a.fd_z73
 b_z73:jo_ K a.fd_z73 ["reader","depth"] []
 m_z73:mg "read_for"=some (.ref a.f_z73)
 F_z74:Fun K "read_if" "read_if" s_z74 a.f_z74 a.fd_z74
 b_z74:jo_ K a.fd_z74 ["reader","depth"] []
 m_z74:mg "read_if"=some (.ref a.f_z74)
 F_z63:Fun K "read_side" "read_side" s_z63 a.f_z63 a.fd_z63
 b_z63:jo_ K a.fd_z63 ["reader"] []
 m_z63:mg "read_side"=some (.ref a.f_z63)
 F_z64:Fun K "read_part" "read_part" s_z64 a.f_z64 a.fd_z64
 b_z64:jo_ K a.fd_z64 ["reader","word"] []
 m_z64:mg "read_part"=some (.ref a.f_z64)
 F_z3:Fun K "read_part_if_there" "read_part_if_there" s_z3 a.f_z3 a.fd_z3
 b_z3:jo_ K a.fd_z3 ["reader","word"] []
 m_z3:mg "read_part_if_there"=some (.ref a.f_z3)
 F_z65:Fun K "read_step" "read_step" s_z65 a.f_z65 a.fd_z65
 b_z65:jo_ K a.fd_z65 ["reader"] []
 m_z65:mg "read_step"=some (.ref a.f_z65)
 F_z57:Fun K "read_block" "read_block" s_z57 a.f_z57 a.fd_z57
 b_z57:jo_ K a.fd_z57 ["reader"] []
 m_z57:mg "read_block"=some (.ref a.f_z57)
 F_z40:Fun K "read_amounts" "read_amounts" s_z40 a.f_z40 a.fd_z40
 b_z40:jo_ K a.fd_z40 ["reader"] []
 m_z40:mg "read_amounts"=some (.ref a.f_z40)
 F_z12:Fun K "read_under_name" "read_under_name" s_z12 a.f_z12 a.fd_z12
 b_z12:jo_ K a.fd_z12 ["reader"] []
 m_z12:mg "read_under_name"=some (.ref a.f_z12)
 F_z75:Fun K "is_text" "is_text" s_z75 a.f_z75 a.fd_z75
 b_z75:jo_ K a.fd_z75 ["text"] []
 m_z75:mg "is_text"=some (.ref a.f_z75)
 F_z77:Fun K "check" "check" s_z77 a.f_z77 a.fd_z77
 b_z77:jo_ K a.fd_z77 ["text"] []
 m_z77:mg "check"=some (.ref a.f_z77)
 mg_Number:mg "Number"=some (.ref a.c_Number)
 mg_Name:mg "Name"=some (.ref a.c_Name)
 mg_Call:mg "Call"=some (.ref a.c_Call)
 mg_Unary:mg "Unary"=some (.ref a.c_Unary)
 mg_Chain:mg "Chain"=some (.ref a.c_Chain)
 mg_Choice:mg "Choice"=some (.ref a.c_Choice)
 mg_Sum:mg "Sum"=some (.ref a.c_Sum)
 mg_Let:mg "Let"=some (.ref a.c_Let)
 mg_For:mg "For"=some (.ref a.c_For)
 mg_If:mg "If"=some (.ref a.c_If)
 mg_Step:mg "Step"=some (.ref a.c_Step)
 mg_Amounts:mg "Amounts"=some (.ref a.c_Amounts)
 mg_Block:mg "Block"=some (.ref a.c_Block)
 mg_Const:mg "Const"=some (.ref a.c_Const)
 mg_Fun:mg "Fun"=some (.ref a.c_Fun)
 mg_Desk:mg "Desk"=some (.ref a.c_Desk)
 mg_Refusal:mg "Refusal"=some (.ref a.c_Refusal)
 mg_Fault:mg "Fault"=some (.ref a.c_Fault)
 mg_Token:mg "Token"=some (.ref a.c_Token)
 mg_Reader:mg "Reader"=some (.ref a.c_Reader)
 cl_Number:Cls K a.c_Number
 mk_Number:Mk K a.c_Number a.f_z8
 no_Number_worth:jm_ K a.c_Number "worth"
 cl_Name:Cls K a.c_Name
 mk_Name:Mk K a.c_Name a.f_z23
 no_Name_name:jm_ K a.c_Name "name"
 cl_Call:Cls K a.c_Call
 mk_Call:Mk K a.c_Call a.f_z24
 no_Call_name:jm_ K a.c_Call "name"
 no_Call_arguments:jm_ K a.c_Call "arguments"
 cl_Unary:Cls K a.c_Unary
 mk_Unary:Mk K a.c_Unary a.f_z13
 no_Unary_sign:jm_ K a.c_Unary "sign"
 no_Unary_operand:jm_ K a.c_Unary "operand"
 cl_Chain:Cls K a.c_Chain
 mk_Chain:Mk K a.c_Chain a.f_z14
 no_Chain_strength:jm_ K a.c_Chain "strength"
 no_Chain_operands:jm_ K a.c_Chain "operands"
 no_Chain_signs:jm_ K a.c_Chain "signs"
 cl_Choice:Cls K a.c_Choice
 mk_Choice:Mk K a.c_Choice a.f_z9
 no_Choice_condition:jm_ K a.c_Choice "condition"
 no_Choice_chosen:jm_ K a.c_Choice "chosen"
 no_Choice_otherwise:jm_ K a.c_Choice "otherwise"
 cl_Sum:Cls K a.c_Sum
 mk_Sum:Mk K a.c_Sum a.f_z33
 no_Sum_name:jm_ K a.c_Sum "name"
 no_Sum_first:jm_ K a.c_Sum "first"
 no_Sum_last:jm_ K a.c_Sum "last"
 no_Sum_body:jm_ K a.c_Sum "body"
 cl_Let:Cls K a.c_Let
 mk_Let:Mk K a.c_Let a.f_z34
 no_Let_name:jm_ K a.c_Let "name"
 no_Let_exp:jm_ K a.c_Let "exp"
 cl_For:Cls K a.c_For
 mk_For:Mk K a.c_For a.f_z35
 no_For_name:jm_ K a.c_For "name"
 no_For_first:jm_ K a.c_For "first"
 no_For_last:jm_ K a.c_For "last"
 no_For_statements:jm_ K a.c_For "statements"
 cl_If:Cls K a.c_If
 mk_If:Mk K a.c_If a.f_z41
 no_If_condition:jm_ K a.c_If "condition"
 no_If_statements:jm_ K a.c_If "statements"
 no_If_else_statements:jm_ K a.c_If "else_statements"
 cl_Step:Cls K a.c_Step
 mk_Step:Mk K a.c_Step a.f_z25
 no_Step_side:jm_ K a.c_Step "side"
 no_Step_zone:jm_ K a.c_Step "zone"
 no_Step_quarter:jm_ K a.c_Step "quarter"
 no_Step_price:jm_ K a.c_Step "price"
 no_Step_to_price:jm_ K a.c_Step "to_price"
 no_Step_amount:jm_ K a.c_Step "amount"
 cl_Amounts:Cls K a.c_Amounts
 mk_Amounts:Mk K a.c_Amounts a.f_z4
 no_Amounts_name:jm_ K a.c_Amounts "name"
 no_Amounts_exp:jm_ K a.c_Amounts "exp"
 cl_Block:Cls K a.c_Block
 mk_Block:Mk K a.c_Block a.f_z15
 no_Block_name:jm_ K a.c_Block "name"
 no_Block_side:jm_ K a.c_Block "side"
 no_Block_zone:jm_ K a.c_Block "zone"
 no_Block_price:jm_ K a.c_Block "price"
 no_Block_amounts:jm_ K a.c_Block "amounts"
 no_Block_under:jm_ K a.c_Block "under"
 no_Block_group:jm_ K a.c_Block "group"
 cl_Const:Cls K a.c_Const
 mk_Const:Mk K a.c_Const a.f_z16
 no_Const_name:jm_ K a.c_Const "name"
 no_Const_exp:jm_ K a.c_Const "exp"
 cl_Fun:Cls K a.c_Fun
 mk_Fun:Mk K a.c_Fun a.f_z36
 no_Fun_name:jm_ K a.c_Fun "name"
 no_Fun_parameters:jm_ K a.c_Fun "parameters"
 no_Fun_exp:jm_ K a.c_Fun "exp"
 cl_Desk:Cls K a.c_Desk
 mk_Desk:Mk K a.c_Desk a.f_z26
 no_Desk_name:jm_ K a.c_Desk "name"
 no_Desk_statements:jm_ K a.c_Desk "statements"
 cl_Token:Cls K a.c_Token
 mk_Token:Mk K a.c_Token a.f_z18
 no_Token_kind:jm_ K a.c_Token "kind"
 no_Token_value:jm_ K a.c_Token "value"
 no_Token_line:jm_ K a.c_Token "line"
 no_Token_column:jm_ K a.c_Token "column"
 cl_Reader:Cls K a.c_Reader
 mk_Reader:Mk K a.c_Reader a.f_z10
 no_Reader_tokens:jm_ K a.c_Reader "tokens"
 no_Reader_at:jm_ K a.c_Reader "at"
 no_Reader_known:jm_ K a.c_Reader "known"
 no_Reader_functions:jm_ K a.c_Reader "functions"
 no_Reader_desks:jm_ K a.c_Reader "desks"
 no_Reader_blocks:jm_ K a.c_Reader "blocks"
 g_COMPARISON: ∃t,mg "COMPARISON"=some (.int 2 t)
 g_WORD: ∃t,mg "WORD"=some (.int 0 t)
 g_NUMBER: ∃t,mg "NUMBER"=some (.int 1 t)
 g_SIGN: ∃t,mg "SIGN"=some (.int 2 t)
 g_END: ∃t,mg "END"=some (.int 3 t)
 g_WRONG: ∃t,mg "WRONG"=some (.int 4 t)
 g_LONGEST_WORD: ∃t,mg "LONGEST_WORD"=some (.int 24 t)
 g_LONGEST_NUMBER: ∃t,mg "LONGEST_NUMBER"=some (.int 18 t)
 g_LINE_FEED: ∃t,mg "LINE_FEED"=some (.int 10 t)
 g_COMMENT: ∃t,mg "COMMENT"=some (.int 35 t)
 g_BLANKS:mg "BLANKS"=some (.ref a.k_BLANKS)
 g_SIGNS:mg "SIGNS"=some (.ref a.k_SIGNS)
 g_SPELLING: ∃t,mg "SPELLING"=some (.str "0123456789:;<=>?@ABCDEFGHIJKLMNOPQRSTUVWXYZ[\\]^_`abcdefghijklmnopqrstuvwxyz" t)
 g_WRONG_TOKEN: ∃t,mg "WRONG_TOKEN"=some (.int 1 t)
 g_NOT_HERE: ∃t,mg "NOT_HERE"=some (.int 2 t)
 g_NOT_KNOWN: ∃t,mg "NOT_KNOWN"=some (.int 3 t)
 g_NOT_FREE: ∃t,mg "NOT_FREE"=some (.int 4 t)
 g_ARGUMENTS: ∃t,mg "ARGUMENTS"=some (.int 5 t)
 g_TOO_DEEP: ∃t,mg "TOO_DEEP"=some (.int 6 t)
 g_TOO_MANY: ∃t,mg "TOO_MANY"=some (.int 7 t)
 g_KEY_WORDS:mg "KEY_WORDS"=some (.ref a.k_KEY_WORDS)
 g_FIRST_FUNCTIONS:mg "FIRST_FUNCTIONS"=some (.ref a.k_FIRST_FUNCTIONS)
 g_MOST_LEVELS: ∃t,mg "MOST_LEVELS"=some (.int 12 t)
 g_CHAIN_SIGNS:mg "CHAIN_SIGNS"=some (.ref a.k_CHAIN_SIGNS)
 g_MOST_BRACES: ∃t,mg "MOST_BRACES"=some (.int 6 t)
 g_MOST_FUNCTIONS: ∃t,mg "MOST_FUNCTIONS"=some (.int 6 t)
 g_MOST_PARAMETERS: ∃t,mg "MOST_PARAMETERS"=some (.int 6 t)
 g_LONGEST_TEXT: ∃t,mg "LONGEST_TEXT"=some (.int 3000 t)
 t_BLANKS:KTup K a.k_BLANKS [.int 9, .int 10, .int 13, .int 32]
 t_KEY_WORDS:KTup K a.k_KEY_WORDS [.str "const", .str "fun", .str "desk", .str "let", .str "for", .str "in", .str "if", .str "then", .str "else", .str "sell", .str "buy", .str "zone", .str "quarter", .str "price", .str "to", .str "amount", .str "block", .str "under", .str "group", .str "sum"]
 n_Exception:mg "Exception"=none
 n_all:mg "all"=none
 n_dict:mg "dict"=none
 n_isinstance:mg "isinstance"=none
 n_len:mg "len"=none
 n_tuple:mg "tuple"=none
end OS
namespace OS
open PySem PySem.Spec L2
open PyProof.Rows hiding St
open Vbemac (Bytes letter digit blank SIGNS Tok Pos Toks lex tokens valueOf)
abbrev nb (c:UInt8):Int:=(c.toNat:Int)
def bsV (bs:Bytes):List V:=bs.map fun c=>V.int (nb c)
theorem wy_ (bs:Bytes):(bsV bs).length=bs.length:=by unfold bsV;rw[List.length_map]
theorem j00_ {bs:Bytes} {i:Nat} {c:UInt8} (h:bs[i]?=some c):(bsV bs)[i]?=some (V.int (nb c)):=by unfold bsV;rw[List.getElem?_map,h];rfl
theorem all256 {p:UInt8->Prop} (h: ∀n:Nat,n<256->p (UInt8.ofNat n)) (c:UInt8):p c:=by
 have:=h c.toNat (UInt8.toNat_lt c)
 rwa [UInt8.ofNat_toNat] at this
theorem digit_nb (c:UInt8):digit c=(decide ((48:Int)<=nb c)&&decide (nb c<=57)):=all256 (p:=fun c=>digit c=(decide ((48:Int)<=nb c)&&decide (nb c<=57))) (by decide+kernel) c
theorem letter_nb (c:UInt8):letter c=((decide ((65:Int)<=nb c)&&decide (nb c<=90))||((decide ((97:Int)<=nb c)&&decide (nb c<=122))||decide (nb c=95))):=
 all256 (p:=fun c=>letter c=((decide ((65:Int)<=nb c)&&decide (nb c<=90))||((decide ((97:Int)<=nb c)&&decide (nb c<=122))||decide (nb c=95)))) (by decide+kernel) c
inductive spByte (p:UInt8->Bool) (vs:List V) (H:Hp) (Q:VK) (_E:XK):Prop
 |mk (c:UInt8) (_:vs=[.int (nb c)]) (_:Q (.bl (p c)) H):spByte p vs H Q _E
inductive spEnd (K:PySem.W.Frag) (p:UInt8->Bool) (vs:List V) (H:Hp) (Q:VK) (_E:XK):Prop
 |mk (l:Addr) (bs:Bytes) (i:Nat) (_:vs=[.ref l, .int i]) (_:SqL K H l (bsV bs)) (_:i<=bs.length) (_:Q (.int (yi_ p bs i:Nat)) H):spEnd K p vs H Q _E
theorem stays_nb (c:UInt8):j05_ c=!decide (V.int (nb c)=V.int 10):=all256 (p:=fun c=>j05_ c=!decide (V.int (nb c)=V.int 10)) (by decide+kernel) c
theorem rd_between {i:Nat} {lo hi n:Int} {σ:St} {H:Hp} {Q:VK} (hv:σ[i]?=some (some (.int n))) (q:Q (.bl (decide (lo<=n)&&decide (n<=hi))) H):
  tChain (rI0 fun i j=> .bl (decide (i<=j))) (rI0 fun i j=> .bl (decide (i<=j))) (tC (.int lo)) (tVar i) (tC (.int hi)) σ H Q:=by
 refine⟨_,hv,_,_,rfl,rfl,_,rfl,?_⟩
 by_cases h1:lo<=n
 ·rw[if_pos (decide_eq_true h1)]
  rw[decide_eq_true h1,Bool.true_and] at q
  exact⟨_,_,rfl,rfl,q⟩
 ·rw[if_neg (by rw[decide_eq_false h1];exact Bool.false_ne_true)]
  rw[decide_eq_false h1,Bool.false_and] at q
  exact q
theorem uc_ {i j:Int} :decide (V.int i=V.int j)=decide (i=j):=decide_eq_decide.mpr ⟨fun y=>V.int.inj y,fun y=>by rw[y]⟩
theorem yt_ {b:Bool} {A B:Prop} (h1:b=true->A) (h2:b=false->B):if b=true then A else B:=by
 cases b with
 |true=>exact j0q_ (h1 rfl)
 |false=>exact ur_ (h2 rfl)
section
variable {P:Program} {w:World} {K:PySem.W.Frag} {mg:Str->Option Value} {base:Heap} {a:Adr}
theorem ok_z66 (T:Txt K mg a):ju_ P w K mg base CX0 1 a.f_z66 a.fd_z66 ["byte"] (spByte digit):=by
 refine T.F_z66.ok sc_z66 (fun vs H Q E h=>?_) (fun cdv A outer s H vs Q E hr h=>?_)
 ·obtain⟨c,rfl,_⟩:=h
  rfl
 ·obtain⟨c,rfl,q⟩:=h
  refine⟨_,(j7_ (jh_ (pe_chain op_le op_le jr_ (pv 0) jr_))),?_⟩
  rw[digit_nb] at q
  exact rd_between rfl q
theorem ok_z58 (T:Txt K mg a):ju_ P w K mg base CX0 1 a.f_z58 a.fd_z58 ["byte"] (spByte letter):=by
 refine T.F_z58.ok sc_z58 (fun vs H Q E h=>?_) (fun cdv A outer s H vs Q E hr h=>?_)
 ·obtain⟨c,rfl,_⟩:=h
  rfl
 ·obtain⟨c,rfl,q⟩:=h
  refine⟨_,(j7_ (jh_ (pe_or (pe_chain op_le op_le jr_ (pv 0) jr_) (pe_or (pe_chain op_le op_le jr_ (pv 0) jr_) (pe_one (ww_ uk_ (pv 0) jr_ (yk_ _))))))),?_⟩
  rw[letter_nb] at q
  refine rd_between rfl ⟨_,rfl,yt_ (fun e=>?_) fun e=>?_⟩
  ·rw[e,Bool.true_or] at q
   exact q
  ·rw[e,Bool.false_or] at q
   refine rd_between rfl ⟨_,rfl,yt_ (fun e=>?_) fun e=>?_⟩
   ·rw[e,Bool.true_or] at q
    exact q
   ·rw[e,Bool.false_or] at q
    refine⟨_,rfl,rfl,?_⟩
    rw[uc_]
    exact q
theorem ok_z42 (T:Txt K mg a):ju_ P w K mg base CX0 1 a.f_z42 a.fd_z42 ["text","at"] (spEnd K j05_):=by
 refine T.F_z42.ok sc_z42 (fun vs H Q E h=>?_) (fun cdv A outer s H vs Q E hr h=>?_)
 ·obtain⟨l,bs,i,rfl,_⟩:=h
  rfl
 ·obtain⟨l,bs,i,rfl,hS,hi,q⟩:=h
  refine⟨_,(j2_ (u6_ PassesOwn.never (pw_and (ya_ op_lt (pv 1) (yw_ jv_ (by rfl) T.n_len PySem.boot_len (j0_ (pv 0) j5_)) (yk_ _)) (pw_and1 (ya_ op_ne (wo_ qa_ (pv 0) (pv 1) (fun _ _=>rfl)) (vc_ (by rfl) T.g_LINE_FEED) (yk_ _)))).pt (j7_ (ps_aug (i:=1) sc_z42.nd rfl (Or.inl rfl) jr_ ip_add)))
    (j7_ (jh_ (pv 1)))),?_⟩
  refine⟨fun m σ H'=> ∃j:Nat,m=bs.length-j/\σ=[some (.ref l),some (.int (j:Nat))]/\H'=H/\j<=bs.length/\yi_ j05_ bs j=yi_ j05_ bs i,⟨_,i,rfl,rfl,rfl,hi,rfl⟩,?_⟩
  rintro m σ H' ⟨j,rfl,rfl,rfl,hj,ej⟩
  refine⟨_,rfl,_,rfl,_,_,rfl, .inl hS,_,_,rfl,rfl,_,rfl,?_⟩
  rw[wy_]
  refine yt_ (fun e=>?_) fun e=>?_
  ·have lt:j<bs.length:=by have:=of_decide_eq_true e;omega
   obtain⟨c,hc⟩: ∃c,bs[j]?=some c:=⟨_,List.getElem?_eq_getElem lt⟩
   refine⟨_,rfl,_,rfl,_,_,_,_,rfl,rfl,hS,qb_ (j00_ hc),rfl,_,rfl,?_⟩
   have st:j05_ c=!decide (V.int (nb c)=V.int 10):=stays_nb c
   refine yt_ (fun e2=>?_) fun e2=>?_
   ·refine⟨fun σ' H''=>σ'=[some (.ref l),some (.int ((j+1:Nat)))]/\H''=H',?_,_,rfl,_,_,rfl,rfl,rfl,rfl⟩
    rintro σ' H'' ⟨rfl,rfl⟩
    exact⟨_,by omega,j+1,rfl,rfl,rfl,lt,by rw[<-ej,endAt_go hc (st.trans e2)]⟩
   ·refine⟨_,rfl,?_⟩
    rw[<-ej,endAt_no hc (st.trans e2)] at q
    exact q
  ·have ge:bs.length<=j:=by have:=of_decide_eq_false e;omega
   refine ur_ ?_
   refine⟨_,rfl,?_⟩
   rw[<-ej,endAt_out ge] at q
   exact q
theorem ok_z67 (T:Txt K mg a):ju_ P w K mg base CX0 2 a.f_z67 a.fd_z67 ["text","at"] (spEnd K vv_):=by
 have G_z58:=ok_z58 (P:=P) (w:=w) (base:=base) T
 have G_z66:=ok_z66 (P:=P) (w:=w) (base:=base) T
 refine T.F_z67.ok sc_z67 (fun vs H Q E h=>?_) (fun cdv A outer s H vs Q E hr h=>?_)
 ·obtain⟨l,bs,i,rfl,_⟩:=h
  rfl
 ·obtain⟨l,bs,i,rfl,hS,hi,q⟩:=h
  refine⟨_,(j2_ (u6_ PassesOwn.never (pw_and (ya_ op_lt (pv 1) (yw_ jv_ (by rfl) T.n_len PySem.boot_len (j0_ (pv 0) j5_)) (yk_ _)) (pw_and1 (pw_or (yc_ (j9_ G_z58 hr (by rfl) T.m_z58 T.F_z58.kp T.b_z58 .nil yr_ (j0_ (wo_ qa_ (pv 0) (pv 1) (fun _ _=>rfl)) j5_))) (pw_or1 (yc_ (j9_ G_z66 hr (by rfl) T.m_z66 T.F_z66.kp T.b_z66 .nil yr_ (j0_ (wo_ qa_ (pv 0) (pv 1) (fun _ _=>rfl)) j5_))))).pt)).pt (j7_ (ps_aug (i:=1) sc_z67.nd rfl (Or.inl rfl) jr_ ip_add)))
    (j7_ (jh_ (pv 1)))),?_⟩
  refine⟨fun m σ H'=> ∃j:Nat,m=bs.length-j/\σ=[some (.ref l),some (.int (j:Nat))]/\H'=H/\j<=bs.length/\yi_ vv_ bs j=yi_ vv_ bs i,⟨_,i,rfl,rfl,rfl,hi,rfl⟩,?_⟩
  rintro m σ H' ⟨j,rfl,rfl,rfl,hj,ej⟩
  refine⟨_,rfl,_,rfl,_,_,rfl, .inl hS,_,_,rfl,rfl,_,rfl,?_⟩
  rw[wy_]
  refine yt_ (fun e=>?_) fun e=>?_
  ·have lt:j<bs.length:=by have:=of_decide_eq_true e;omega
   obtain⟨c,hc⟩: ∃c,bs[j]?=some c:=⟨_,List.getElem?_eq_getElem lt⟩
   have go:vv_ c=true-> ∃N:St->Hp->Prop,(∀σ' H'',N σ' H''-> ∃m',m'<bs.length-j/\ ∃j1:Nat,m'=bs.length-j1/\σ'=[some (.ref l),some (.int (j1:Nat))]/\H''=H'/\j1<=bs.length/\yi_ vv_ bs j1=yi_ vv_ bs i)/\
     N [some (.ref l),some (.int ((j+1:Nat)))] H':=fun y=>by
    refine⟨fun σ' H''=>σ'=[some (.ref l),some (.int ((j+1:Nat)))]/\H''=H',?_,rfl,rfl⟩
    rintro σ' H'' ⟨rfl,rfl⟩
    exact⟨_,by omega,j+1,rfl,rfl,rfl,lt,by rw[<-ej,endAt_go hc y]⟩
   refine⟨_,rfl,_,rfl,_,_,_,_,rfl,rfl,hS,qb_ (j00_ hc),c,rfl,_,rfl,yt_ (fun e2=>?_) fun e2=>?_⟩
   ·obtain⟨N,n1,n2⟩:=go (by unfold vv_;rw[e2];rfl)
    exact j0q_ ⟨N,n1,_,rfl,_,_,rfl,rfl,n2⟩
   ·refine⟨_,rfl,_,rfl,_,_,_,_,rfl,rfl,hS,qb_ (j00_ hc),c,rfl,_,rfl,yt_ (fun e3=>?_) fun e3=>?_⟩
    ·obtain⟨N,n1,n2⟩:=go (by unfold vv_;rw[e3,Bool.or_true])
     exact⟨N,n1,_,rfl,_,_,rfl,rfl,n2⟩
    ·refine⟨_,rfl,?_⟩
     rw[<-ej,endAt_no hc (by unfold vv_;rw[e2,e3];rfl)] at q
     exact q
  ·have ge:bs.length<=j:=by have:=of_decide_eq_false e;omega
   refine ur_ ?_
   refine⟨_,rfl,?_⟩
   rw[<-ej,endAt_out ge] at q
   exact q
theorem ok_z50 (T:Txt K mg a):ju_ P w K mg base CX0 2 a.f_z50 a.fd_z50 ["text","at"] (spEnd K digit):=by
 have G_z66:=ok_z66 (P:=P) (w:=w) (base:=base) T
 refine T.F_z50.ok sc_z50 (fun vs H Q E h=>?_) (fun cdv A outer s H vs Q E hr h=>?_)
 ·obtain⟨l,bs,i,rfl,_⟩:=h
  rfl
 ·obtain⟨l,bs,i,rfl,hS,hi,q⟩:=h
  refine⟨_,(j2_ (u6_ PassesOwn.never (pw_and (ya_ op_lt (pv 1) (yw_ jv_ (by rfl) T.n_len PySem.boot_len (j0_ (pv 0) j5_)) (yk_ _)) (pw_and1 (yc_ (j9_ G_z66 hr (by rfl) T.m_z66 T.F_z66.kp T.b_z66 .nil yr_ (j0_ (wo_ qa_ (pv 0) (pv 1) (fun _ _=>rfl)) j5_))))).pt (j7_ (ps_aug (i:=1) sc_z50.nd rfl (Or.inl rfl) jr_ ip_add)))
    (j7_ (jh_ (pv 1)))),?_⟩
  refine⟨fun m σ H'=> ∃j:Nat,m=bs.length-j/\σ=[some (.ref l),some (.int (j:Nat))]/\H'=H/\j<=bs.length/\yi_ digit bs j=yi_ digit bs i,⟨_,i,rfl,rfl,rfl,hi,rfl⟩,?_⟩
  rintro m σ H' ⟨j,rfl,rfl,rfl,hj,ej⟩
  refine⟨_,rfl,_,rfl,_,_,rfl, .inl hS,_,_,rfl,rfl,_,rfl,?_⟩
  rw[wy_]
  refine yt_ (fun e=>?_) fun e=>?_
  ·have lt:j<bs.length:=by have:=of_decide_eq_true e;omega
   obtain⟨c,hc⟩: ∃c,bs[j]?=some c:=⟨_,List.getElem?_eq_getElem lt⟩
   refine⟨_,rfl,_,rfl,_,_,_,_,rfl,rfl,hS,qb_ (j00_ hc),c,rfl,_,rfl,yt_ (fun e2=>?_) fun e2=>?_⟩
   ·refine⟨fun σ' H''=>σ'=[some (.ref l),some (.int ((j+1:Nat)))]/\H''=H',?_,_,rfl,_,_,rfl,rfl,rfl,rfl⟩
    rintro σ' H'' ⟨rfl,rfl⟩
    exact⟨_,by omega,j+1,rfl,rfl,rfl,lt,by rw[<-ej,endAt_go hc e2]⟩
   ·refine⟨_,rfl,?_⟩
    rw[<-ej,endAt_no hc e2] at q
    exact q
  ·have ge:bs.length<=j:=by have:=of_decide_eq_false e;omega
   refine ur_ ?_
   refine⟨_,rfl,?_⟩
   rw[<-ej,endAt_out ge] at q
   exact q
end
end OS
namespace OS
open PySem PySem.Spec L2
open PyProof.Rows hiding St
open Vbemac (Bytes letter digit blank SIGNS Tok Pos Toks lex tokens valueOf)
theorem pe_gr {X:Cx} {x:Str} {p:Addr} {pos:PySem.Pos} (hg:Gl X x) (hm:X.mg x=some (.ref p)) (hd:(x == ("__debug__":Str))=false:=by decide):PE X (.Name x pos) (tC (.ref p)):=pe_glob hg hm rfl hd
theorem cut_part {bs:Bytes} {i j:Nat} :cutV (bsV bs) (some (i:Int)) (some (j:Int))=bsV (ui_ bs i j):=by
 unfold cutV ui_
 rw[HT.sIx_nat,HT.sIx_nat,wy_]
 unfold bsV
 rw[<-List.map_drop,<-List.map_take]
 congr 1
 by_cases hi:i<=bs.length
 ·rw[Nat.min_eq_left hi]
  by_cases hj:j<=bs.length
  ·rw[Nat.min_eq_left hj]
  ·rw[Nat.min_eq_right (show bs.length<=j by omega),List.take_of_length_le (by rw[List.length_drop];omega),List.take_of_length_le (by rw[List.length_drop];omega)]
 ·rw[Nat.min_eq_right (show bs.length<=i by omega),List.drop_of_length_le (Nat.le_refl _),List.drop_of_length_le (show bs.length<=i by omega)]
  simp
def kb (c:UInt8):Key:=Sum.inl (nb c)
theorem kb_inj {x y:UInt8} (h:kb x=kb y):x=y:=UInt8.toNat_inj.mp (Int.ofNat.inj (Sum.inl.inj h))
theorem kbs_inj {x y:Bytes} (h:x.map kb=y.map kb):x=y:=(List.map_inj_right fun _ _ z=>kb_inj z).mp h
theorem kb_V (w:Bytes):(w.map kb).map kV=bsV w:=by unfold bsV;rw[List.map_map];rfl
def wl_:List (List Key×V):=SIGNS.map fun s=>(s.map kb,V.str (sgn s))
theorem sign_at (w:Bytes): ∀L:List Bytes,uo_ (L.map fun s=>(s.map kb,V.str (sgn s))) (w.map kb)=if w∈L then some (V.str (sgn w)) else none
 |[]=>by simp [uo_]
 |s::L=>by
  rw[List.map_cons]
  by_cases e:s=w
  ·subst e
   rw[vj_ rfl,if_pos List.mem_cons_self]
  ·rw[ve_ (fun z=>e (kbs_inj z)),sign_at w L]
   by_cases m:w∈L
   ·rw[if_pos m,if_pos (List.mem_cons_of_mem _ m)]
   ·rw[if_neg m,if_neg fun z=>(List.mem_cons.mp z).elim (fun y=>e y.symm) m]
theorem sign_val (w:Bytes):uo_ wl_ (w.map kb)=if w∈SIGNS then some (V.str (sgn w)) else none:=sign_at w SIGNS
theorem j19_ (w:Bytes):(uo_ wl_ (w.map kb)).isSome=decide (w∈SIGNS):=by
 rw[sign_val]
 by_cases m:w∈SIGNS
 ·rw[if_pos m,decide_eq_true m];rfl
 ·rw[if_neg m,decide_eq_false m];rfl
def wk_ (bs:Bytes) (i:Nat) (c:UInt8):Nat:=if letter c=true then yi_ vv_ bs i else if digit c=true then yi_ digit bs i else ye_ bs i
inductive spTokEnd (K:PySem.W.Frag) (vs:List V) (H:Hp) (Q:VK) (_E:XK):Prop
 |mk (l:Addr) (bs:Bytes) (i:Nat) (c:UInt8) (_:vs=[.ref l, .int i]) (_:SqL K H l (bsV bs)) (_:bs[i]?=some c) (_: ∀H',vq_ H H'->Q (.int (wk_ bs i c:Nat)) H'):spTokEnd K vs H Q _E
theorem yj_ {H:Hp} {p:Addr} {o:HO} (h:H p=Option.none):vq_ H (upd H p o):=fun b u e=>by rw[j3_ (jf_ e h)];exact e
section
variable {P:Program} {w:World} {K:PySem.W.Frag} {mg:Str->Option Value} {base:Heap} {a:Adr}
theorem ok_z59 (T:Txt K mg a) (kS:KdT P w K a.k_SIGNS wl_):ju_ P w K mg base CX0 3 a.f_z59 a.fd_z59 ["text","at"] (spTokEnd K):=by
 have G_z58:=ok_z58 (P:=P) (w:=w) (base:=base) T
 have G_z66:=ok_z66 (P:=P) (w:=w) (base:=base) T
 have G_z67:=ok_z67 (P:=P) (w:=w) (base:=base) T
 have G_z50:=ok_z50 (P:=P) (w:=w) (base:=base) T
 refine T.F_z59.ok sc_z59 (fun vs H Q E h=>?_) (fun cdv A outer s H vs Q E hr h=>?_)
 ·obtain⟨l,bs,i,c,rfl,_⟩:=h
  rfl
 ·obtain⟨l,bs,i,c,rfl,hS,hc,q⟩:=h
  have hi:i<=bs.length:=Nat.le_of_lt (List.getElem?_eq_some_iff.mp hc).1
  refine⟨_,(j2_ (yg_ (yc_ (j9_ G_z58 (hr.mono (by decide)) (by rfl) T.m_z58 T.F_z58.kp T.b_z58 .nil yr_ (j0_ (wo_ qa_ (pv 0) (pv 1) (fun _ _=>rfl)) j5_))) (j7_ (jh_ (j9_ G_z67 (hr.mono (by decide)) (by rfl) T.m_z67 T.F_z67.kp T.b_z67 .nil yr_ (j0_ (pv 0) (j0_ (pv 1) j5_))))) ji_)
    (j2_ (yg_ (yc_ (j9_ G_z66 (hr.mono (by decide)) (by rfl) T.m_z66 T.F_z66.kp T.b_z66 .nil yr_ (j0_ (wo_ qa_ (pv 0) (pv 1) (fun _ _=>rfl)) j5_))) (j7_ (jh_ (j9_ G_z50 (hr.mono (by decide)) (by rfl) T.m_z50 T.F_z50.kp T.b_z50 .nil yr_ (j0_ (pv 0) (j0_ (pv 1) j5_))))) ji_)
    (j2_ (jg_ (i:=2) sc_z59.nd rfl (Or.inl rfl) (j1e_ wn_ (by rfl) T.n_tuple PyProof.Rows.boot_tuple (j0_ (pe_slice sl_list (pv 0) (po_some (pv 1)) (po_some (uq_ uy_ (pv 1) jr_))) j5_)))
    (j7_ (jh_ (pe_ifExp (j17_ (pc_kdin (j16_ hr) (pv 2) (pe_gr (by rfl) T.g_SIGNS))) (uq_ uy_ (pv 1) (yw_ jv_ (by rfl) T.n_len PySem.boot_len (j0_ (pv 2) j5_))) (uq_ uy_ (pv 1) jr_))))))),?_⟩
  refine⟨_,rfl,_,rfl,_,_,_,_,rfl,rfl,hS,qb_ (j00_ hc),c,rfl,_,rfl,yt_ (fun e=>?_) fun e=>?_⟩
  ·refine⟨_,rfl,_,rfl,l,bs,i,rfl,hS,hi,?_⟩
   have z:=q H (vq_.refl H)
   unfold wk_ at z
   rw[if_pos e] at z
   exact z
  ·refine⟨_,rfl,_,rfl,_,_,_,_,rfl,rfl,hS,qb_ (j00_ hc),c,rfl,_,rfl,yt_ (fun e2=>?_) fun e2=>?_⟩
   ·refine⟨_,rfl,_,rfl,l,bs,i,rfl,hS,hi,?_⟩
    have z:=q H (vq_.refl H)
    unfold wk_ at z
    rw[if_neg (by rw[e];exact Bool.false_ne_true),if_pos e2] at z
    exact z
   ·refine⟨_,rfl,_,rfl,_,rfl,_,rfl,_,_,rfl,rfl,_,rfl,_,_,rfl,hS,fun p hp=>?_⟩
    refine⟨p,_,rfl, .inl ⟨SqL.of j4_,fun t ht=>?_⟩⟩
    have cut:cutV (bsV bs) (some (i:Int)) (some ((i:Int)+2))=bsV (ui_ bs i (i+2)):=cut_part (j:=i+2)
    rw[cut] at ht ⊢
    have sm:vq_ H (upd (upd H p (.lst (bsV (ui_ bs i (i+2))))) t (.tup (bsV (ui_ bs i (i+2))))):=(yj_ hp).trans (yj_ ht)
    have z:=q _ sm
    unfold wk_ at z
    rw[if_neg (by rw[e];exact Bool.false_ne_true),if_neg (by rw[e2];exact Bool.false_ne_true)] at z
    unfold ye_ at z
    refine⟨_,rfl,a.k_SIGNS,t,(ui_ bs i (i+2)).map kb,wl_,rfl,kS,rfl,by rw[j4_,kb_V],_,rfl,yt_ (fun e3=>?_) fun e3=>?_⟩
    ·rw[j19_] at e3
     rw[if_pos (of_decide_eq_true e3)] at z
     refine⟨_,rfl,_,rfl,_,_,rfl, .inr (SqT.of j4_),_,_,rfl,rfl,?_⟩
     rw[wy_]
     exact z
    ·rw[j19_] at e3
     rw[if_neg (of_decide_eq_false e3)] at z
     exact⟨_,rfl,_,_,rfl,rfl,z⟩
def tokKind (bs:Bytes) (i e:Nat) (c:UInt8):Int:=if letter c=true then(if e-i<=24 then 0 else 4) else if digit c=true then(if 18<e-i\/glued bs e=true then 4 else 1) else if ui_ bs i e∈SIGNS then 2 else 4
inductive spTokKind (K:PySem.W.Frag) (vs:List V) (H:Hp) (Q:VK) (_E:XK):Prop
 |mk (l:Addr) (bs:Bytes) (i e:Nat) (c:UInt8) (_:vs=[.ref l, .int i, .int e]) (_:SqL K H l (bsV bs)) (_:bs[i]?=some c) (_:i<=e) (_:e<=bs.length) (_: ∀H',vq_ H H'->Q (.int (tokKind bs i e c)) H'):spTokKind K vs H Q _E
theorem ok_z51 (T:Txt K mg a) (kS:KdT P w K a.k_SIGNS wl_):ju_ P w K mg base CX0 2 a.f_z51 a.fd_z51 ["text","at","end"] (spTokKind K):=by
 have G_z58:=ok_z58 (P:=P) (w:=w) (base:=base) T
 have G_z66:=ok_z66 (P:=P) (w:=w) (base:=base) T
 refine T.F_z51.ok sc_z51 (fun vs H Q E h=>?_) (fun cdv A outer s H vs Q E hr h=>?_)
 ·obtain⟨l,bs,i,e,c,rfl,_⟩:=h
  rfl
 ·obtain⟨l,bs,i,e,c,rfl,hS,hc,hie,he,q⟩:=h
  refine⟨_,(j2_ (yg_ (yc_ (j9_ G_z58 (hr.mono (by decide)) (by rfl) T.m_z58 T.F_z58.kp T.b_z58 .nil yr_ (j0_ (wo_ qa_ (pv 0) (pv 1) (fun _ _=>rfl)) j5_))) (j7_ (jh_ (pe_ifExp (ya_ op_le (uq_ op_sub (pv 2) (pv 1)) (vc_ (by rfl) T.g_LONGEST_WORD) (yk_ _)) (vc_ (by rfl) T.g_WORD) (vc_ (by rfl) T.g_WRONG)))) ji_)
    (j2_ (yg_ (yc_ (j9_ G_z66 (hr.mono (by decide)) (by rfl) T.m_z66 T.F_z66.kp T.b_z66 .nil yr_ (j0_ (wo_ qa_ (pv 0) (pv 1) (fun _ _=>rfl)) j5_))) (j2_ (jg_ (i:=3) sc_z51.nd rfl (Or.inl rfl) (pe_and (ww_ op_lt (pv 2) (yw_ jv_ (by rfl) T.n_len PySem.boot_len (j0_ (pv 0) j5_)) (yk_ _)) (pe_one (j9_ G_z58 (hr.mono (by decide)) (by rfl) T.m_z58 T.F_z58.kp T.b_z58 .nil yr_ (j0_ (wo_ qa_ (pv 0) (pv 2) (fun _ _=>rfl)) j5_)))))
    (j7_ (jh_ (pe_ifExp (pw_or (yc_ (pv 3)) (pw_or1 (ya_ op_gt (uq_ op_sub (pv 2) (pv 1)) (vc_ (by rfl) T.g_LONGEST_NUMBER) (yk_ _)))).pt (vc_ (by rfl) T.g_WRONG) (vc_ (by rfl) T.g_NUMBER))))) ji_)
    (j7_ (jh_ (pe_ifExp (j17_ (pc_kdin (j16_ hr) (j1e_ wn_ (by rfl) T.n_tuple PyProof.Rows.boot_tuple (j0_ (pe_slice sl_list (pv 0) (po_some (pv 1)) (po_some (pv 2))) j5_)) (pe_gr (by rfl) T.g_SIGNS))) (vc_ (by rfl) T.g_SIGN) (vc_ (by rfl) T.g_WRONG)))))),?_⟩
  refine⟨_,rfl,_,rfl,_,_,_,_,rfl,rfl,hS,qb_ (j00_ hc),c,rfl,_,rfl,yt_ (fun e1=>?_) fun e1=>?_⟩
  ·refine⟨_,rfl,_,rfl,_,_,rfl,rfl,_,_,rfl,rfl,_,rfl,?_⟩
   have z:=q H (vq_.refl H)
   unfold tokKind at z
   rw[if_pos e1] at z
   refine yt_ (fun e2=>?_) fun e2=>?_
   ·have:=of_decide_eq_true e2
    rw[if_pos (by omega)] at z
    exact z
   ·have:=of_decide_eq_false e2
    rw[if_neg (by omega)] at z
    exact z
  ·refine⟨_,rfl,_,rfl,_,_,_,_,rfl,rfl,hS,qb_ (j00_ hc),c,rfl,_,rfl,yt_ (fun e2=>?_) fun e2=>?_⟩
   ·have z:=q H (vq_.refl H)
    unfold tokKind at z
    rw[if_neg (by rw[e1];exact Bool.false_ne_true),if_pos e2] at z
    have rest: ∀b:Bool,glued bs e=b->tRet (tIf (tOr (tB (tVar 3)) (tTest (tOp (rI0 fun i j=> .bl (decide (j<i))) (tOp (rI0 fun i j=> .int (i-j)) (tVar 2) (tVar 1)) (tC (.int 18))))) (tC (.int 4)) (tC (.int 1))) { nx:=fun _ H'=>Q .non H',rt:=Q } [some (.ref l),some (.int i),some (.int e),some (.bl b)] H:=fun b hb=>by
     refine⟨_,rfl,_,rfl,yt_ (fun e3=>?_) fun e3=>?_⟩
     ·rw[if_pos (.inr (hb.trans e3))] at z
      exact j0q_ z
     ·refine⟨_,rfl,_,rfl,_,_,rfl,rfl,_,_,rfl,rfl,_,rfl,yt_ (fun e4=>?_) fun e4=>?_⟩
      ·have:=of_decide_eq_true e4
       rw[if_pos (.inl (by omega))] at z
       exact z
      ·have:=of_decide_eq_false e4
       rw[if_neg (fun y=>y.elim (fun y=>by omega) fun y=>by rw[hb,e3] at y;cases y)] at z
       exact z
    refine⟨_,rfl,_,rfl,_,_,rfl, .inl hS,_,_,rfl,rfl,_,rfl,?_⟩
    rw[wy_]
    refine yt_ (fun e3=>?_) fun e3=>?_
    ·have lt:e<bs.length:=by have:=of_decide_eq_true e3;omega
     obtain⟨g,hg⟩: ∃g,bs[e]?=some g:=⟨_,List.getElem?_eq_getElem lt⟩
     refine⟨_,rfl,_,rfl,_,_,_,_,rfl,rfl,hS,qb_ (j00_ hg),g,rfl,?_⟩
     exact rest (letter g) (by unfold glued;rw[hg];rfl)
    ·have ge:bs.length<=e:=by have:=of_decide_eq_false e3;omega
     exact rest false (by unfold glued;rw[List.getElem?_eq_none ge];rfl)
   ·refine⟨_,rfl,_,rfl,_,rfl,_,rfl,_,rfl,_,_,rfl,hS,fun p hp=>?_⟩
    refine⟨p,_,rfl, .inl ⟨SqL.of j4_,fun t ht=>?_⟩⟩
    rw[cut_part] at ht ⊢
    have sm:vq_ H (upd (upd H p (.lst (bsV (ui_ bs i e)))) t (.tup (bsV (ui_ bs i e)))):=(yj_ hp).trans (yj_ ht)
    have z:=q _ sm
    unfold tokKind at z
    rw[if_neg (by rw[e1];exact Bool.false_ne_true),if_neg (by rw[e2];exact Bool.false_ne_true)] at z
    refine⟨a.k_SIGNS,t,(ui_ bs i e).map kb,wl_,rfl,kS,rfl,by rw[j4_,kb_V],_,rfl,yt_ (fun e3=>?_) fun e3=>?_⟩
    ·rw[j19_] at e3
     rw[if_pos (of_decide_eq_true e3)] at z
     exact z
    ·rw[j19_] at e3
     rw[if_neg (of_decide_eq_false e3)] at z
     exact z
end
end OS
namespace OS
open PySem PySem.Spec L2
open PyProof.Rows hiding St
open Vbemac (Bytes letter digit blank SIGNS Tok Pos Toks lex tokens valueOf)
theorem valueOf_snoc (l:Bytes) (c:UInt8):valueOf (l++[c])=10*valueOf l+(c.toNat-48):=by unfold valueOf;rw[List.foldl_append];rfl
theorem digit_ge {c:UInt8} (h:digit c=true):48<=nb c:=by
 rw[digit_nb,Bool.and_eq_true] at h
 exact of_decide_eq_true h.1
inductive spWorth (K:PySem.W.Frag) (vs:List V) (H:Hp) (Q:VK) (_E:XK):Prop
 |mk (l:Addr) (u:Bytes) (_:vs=[.ref l]) (_:SqL K H l (bsV u)) (_:(∀c∈u,digit c=true)) (_:Q (.int (valueOf u:Nat)) H):spWorth K vs H Q _E
def one (c:UInt8):Str:=⟨#[c.toNat]⟩
theorem joinL_one: ∀w:Bytes,TL.joinL [] (w.map fun c=>[c.toNat])=w.map UInt8.toNat
 |[]=>rfl
 |[c]=>rfl
 |c::d::r=>by
  show [c.toNat]++([]++TL.joinL [] ((d::r).map fun c=>[c.toNat]))=_
  rw[joinL_one (d::r)]
  rfl
theorem join_one (w:Bytes):Txt.join ("":Str) (w.map one)=sb w:=by
 rw[TL.join_eq]
 refine TL.ext_tl ?_
 rw[TL.tl_join,List.map_map]
 exact joinL_one w
def SPELL:Str:="0123456789:;<=>?@ABCDEFGHIJKLMNOPQRSTUVWXYZ[\\]^_`abcdefghijklmnopqrstuvwxyz"
theorem spell_len:SPELL.length<=sizeLine:=by decide+kernel
theorem spell_at {c:UInt8} (h:vv_ c=true):atI SPELL.cps.toList (nb c-48)=some c.toNat:=by
 revert h
 exact all256 (p:=fun c=>vv_ c=true->atI SPELL.cps.toList (nb c-48)=some c.toNat) (by decide+kernel) c
inductive spVal (K:PySem.W.Frag) (vs:List V) (H:Hp) (Q:VK) (_E:XK):Prop
 |mk (k:Int) (l:Addr) (u:Bytes) (_:vs=[.int k, .ref l]) (_:SqL K H l (bsV u)) (_:u.length<=3000) (_:((k=0/\(∀c∈u,vv_ c=true)/\ ∀H',vq_ H H'->Q (.str (sb u)) H')\/(k=1/\(∀c∈u,digit c=true)/\ ∀H',vq_ H H'->Q (.int (valueOf u:Nat)) H')\/
   (k=2/\u∈SIGNS/\ ∀H',vq_ H H'->Q (.str (sgn u)) H')\/(k=4/\ ∀H',vq_ H H'->Q (.str (sb [])) H'))):spVal K vs H Q _E
section
variable {P:Program} {w:World} {K:PySem.W.Frag} {mg:Str->Option Value} {base:Heap} {a:Adr}
theorem ok_z27 (T:Txt K mg a):ju_ P w K mg base CX0 1 a.f_z27 a.fd_z27 ["part"] (spWorth K):=by
 refine T.F_z27.ok sc_z27 (fun vs H Q E h=>?_) (fun cdv A outer s H vs Q E hr h=>?_)
 ·obtain⟨l,u,rfl,_⟩:=h
  rfl
 ·obtain⟨l,u,rfl,hS,hd,q⟩:=h
  refine⟨_,(j2_ (jg_ (i:=1) sc_z27.nd rfl (Or.inl rfl) jr_)
    (j2_ (ps_for PassesOwn.never rfl (pi_list (pv 0)) (pg_name (i:=2) sc_z27.nd rfl (Or.inl rfl)) (j7_ (jg_ (i:=1) sc_z27.nd rfl (Or.inl rfl) (uq_ op_sub (uq_ uy_ (uq_ op_mul (pv 1) jr_) (pv 2)) jr_))))
    (j7_ (jh_ (pv 1))))),?_⟩
  refine⟨_,rfl,l,rfl,⟨_,hS⟩,for_list (K:=K) (a:=l) (xs:=bsV u) (fun i σ H'=> ∃v:Option V,σ=[some (.ref l),some (.int (valueOf (u.take i):Nat)),v]/\H'=H) ⟨none,rfl,rfl⟩ (fun i σ H' _ ⟨_,_,e⟩=>by rw[e];exact hS) ?_ ?_⟩
  ·rintro i y σ H' hi ⟨v,rfl,rfl⟩
   obtain⟨c,hc,rfl⟩: ∃c,u[i]?=some c/\y=V.int (nb c):=by
    unfold bsV at hi
    rw[List.getElem?_map] at hi
    cases e:u[i]? with
    |none=>rw[e] at hi;cases hi
    |some c=>rw[e] at hi;exact⟨c,rfl,(Option.some.inj hi).symm⟩
   refine⟨_,rfl,_,_,rfl,rfl, .inr ⟨by decide,by decide⟩,_,rfl,_,_,rfl,rfl,_,_,rfl,rfl,some (.int (nb c)),?_,rfl⟩
   have g:=digit_ge (hd c (List.mem_of_getElem? hc))
   have e:((valueOf (u.take (i+1)):Nat):Int)=(valueOf (u.take i):Nat)*10+nb c-48:=by
    rw[List.take_add_one,hc]
    show((valueOf (u.take i++[c]):Nat):Int)=_
    rw[valueOf_snoc]
    have g':48<=c.toNat:=Int.ofNat_le.mp g
    show((10*valueOf (u.take i)+(c.toNat-48):Nat):Int)=(valueOf (u.take i):Nat)*10+(c.toNat:Int)-48
    omega
   rw[e]
   rfl
  ·rintro σ H' ⟨v,rfl,rfl⟩
   rw[wy_,List.take_length]
   exact⟨_,rfl,q⟩
theorem ok_z43 (T:Txt K mg a) (kS:KdT P w K a.k_SIGNS wl_):ju_ P w K mg base CX0 2 a.f_z43 a.fd_z43 ["kind","part"] (spVal K):=by
 have G_z27:=ok_z27 (P:=P) (w:=w) (base:=base) T
 refine T.F_z43.ok sc_z43 (fun vs H Q E h=>?_) (fun cdv A outer s H vs Q E hr h=>?_)
 ·obtain⟨k,l,u,rfl,_⟩:=h
  rfl
 ·obtain⟨k,l,u,rfl,hS,hlen,h⟩:=h
  refine⟨_,(j2_ (yg_ (ya_ uk_ (pv 0) (vc_ (by rfl) T.g_WORD) (yk_ _)) (j7_ (jh_ (pe_join jk_ (pe_lc rfl sc_z43.nd (pi_list (pv 1)) (own:=[("byte",2)]) (blkOk_by (by show blkC ["kind","part","byte"] (j8_ s_z43) _ [("byte",2)]=true;decide+kernel)) (fun _ _ _ _ _=>pg_name (i:=2) sc_z43.nd rfl (Or.inl rfl)) (fun _ _ _ _ _=>pts_nil) (fun _ _ _ _ _=>(wo_ ix_str (pe_gs (by rfl) T.g_SPELLING) (uq_ op_sub (pv 2) jr_) (fun _ _=>rfl))))))) ji_)
    (j2_ (yg_ (ya_ uk_ (pv 0) (vc_ (by rfl) T.g_NUMBER) (yk_ _)) (j7_ (jh_ (j9_ G_z27 (hr.mono (by decide)) (by rfl) T.m_z27 T.F_z27.kp T.b_z27 .nil yr_ (j0_ (pv 1) j5_)))) ji_)
    (j2_ (yg_ (ya_ uk_ (pv 0) (vc_ (by rfl) T.g_SIGN) (yk_ _)) (j7_ (jh_ (pe_kdget (j16_ hr) (pe_gr (by rfl) T.g_SIGNS) (j1e_ wn_ (by rfl) T.n_tuple PyProof.Rows.boot_tuple (j0_ (pv 1) j5_)) (fun _ _=>rfl)))) ji_)
    (j7_ (jh_ jk_))))),?_⟩
  refine⟨_,rfl,rfl,_,rfl,?_⟩
  rw[uc_]
  rcases h with⟨rfl,hw,q⟩|⟨rfl,hd,q⟩|⟨rfl,hs,q⟩|⟨rfl,q⟩
  ·refine j0q_ ?_
   refine⟨⟨_,rfl⟩,_,rfl,l,rfl,⟨_,hS⟩,fun D hD=>?_⟩
   have sm:vq_ H (upd H D (.lst [])):=yj_ hD
   refine lc_list (K:=K) (a:=l) (xs:=bsV u) (fun i H'=>vq_ H H'/\H' D=some (.lst (((u.take i).map one).map V.str))) ⟨sm,j4_⟩ (fun i H' _ z=>z.1.seq hS) ?_ ?_
   ·rintro i y H' hi ⟨s1,hD'⟩
    obtain⟨c,hc,rfl⟩: ∃c,u[i]?=some c/\y=V.int (nb c):=by
     unfold bsV at hi
     rw[List.getElem?_map] at hi
     cases e:u[i]? with
     |none=>rw[e] at hi;cases hi
     |some c=>rw[e] at hi;exact⟨c,rfl,(Option.some.inj hi).symm⟩
    refine⟨rfl,?_⟩
    unfold tYes
    dsimp only
    rw[if_pos rfl]
    refine⟨_,rfl,_,_,rfl,rfl,_,_,_,rfl,rfl,spell_len,spell_at (hw c (List.mem_of_getElem? hc)),_,hD',?_,?_,?_⟩
    ·have z:=(List.length_take_le i u)
     rw[List.length_map,List.length_map]
     refine Nat.lt_of_le_of_lt (List.length_take_le' i u) ?_
     exact Nat.lt_of_le_of_lt hlen (by decide)
    ·exact fun b o e=>by rw[j3_ (jf_ e hD)];exact s1 b o e
    ·rw[j4_,List.take_add_one,hc]
     show some (HO.lst (((u.take i).map one).map V.str++[V.str ⟨#[c.toNat]⟩]))=some (HO.lst (((u.take i++[c]).map one).map V.str))
     rw[List.map_append,List.map_append]
     rfl
   ·rintro H' ⟨s1,hD'⟩
    rw[wy_,List.take_length] at hD'
    refine⟨_,D,u.map one,rfl,rfl, .inl (SqL.of hD'),?_,?_⟩
    ·have e:((u.map one).map (·.length)).sum=u.length:=by
      rw[List.map_map]
      clear hS hlen hw q hD' s1 sm
      induction u with
      |nil=>rfl
      |cons c r ih=>rw[List.map_cons,List.sum_cons,ih,List.length_cons];show 1+r.length=_;omega
     rw[e]
     show u.length+(u.map one).length*0<=16777216
     omega
    ·rw[join_one]
     exact q H' s1
  ·refine ur_ ⟨_,rfl,rfl,_,rfl,?_⟩
   rw[uc_]
   exact j0q_ ⟨_,rfl,l,u,rfl,hS,hd,q H (vq_.refl H)⟩
  ·refine ur_ ⟨_,rfl,rfl,_,rfl,?_⟩
   rw[uc_]
   refine ur_ ⟨_,rfl,rfl,_,rfl,?_⟩
   rw[uc_]
   refine j0q_ ⟨_,rfl,l,_,rfl, .inl ⟨hS,fun t ht=>?_⟩⟩
   refine⟨a.k_SIGNS,t,u.map kb,wl_,_,rfl,kS,rfl,by rw[j4_,kb_V],(by rw[sign_val,if_pos hs]),q _ (yj_ ht)⟩
  ·refine ur_ ⟨_,rfl,rfl,_,rfl,?_⟩
   rw[uc_]
   refine ur_ ⟨_,rfl,rfl,_,rfl,?_⟩
   rw[uc_]
   exact ur_ (q H (vq_.refl H))
end
end OS
namespace OS
open PySem PySem.Spec L2
open PyProof.Rows hiding St
open Vbemac (Bytes letter digit blank SIGNS Toks lex tokens valueOf advance)
def tokF (k v l c:V):List (Str×V):=putF "column" c (putF "line" l (putF "value" v (putF "kind" k [])))
def kindI:Vbemac.Tok->Int
 | .word _=>0
 | .num _=>1
 | .sign _=>2
 | .eof=>3
 | .bad=>4
def tokV:Vbemac.Tok->V
 | .word u=> .str (sb u)
 | .num n=> .int (n:Nat)
 | .sign u=> .str (sgn u)
 | .eof=> .str (sb [])
 | .bad=> .str (sb [])
def j1b_ (C:Addr) (H:Hp) (p:Addr) (x:Vbemac.Tok×Vbemac.Pos):Prop:= ∃dx,H p=some (.ins C dx (tokF (.int (kindI x.1)) (tokV x.1) (.int (x.2.1:Nat)) (.int (x.2.2:Nat))))
inductive spTok (C:Addr) (vs:List V) (H:Hp) (Q:VK) (_E:XK):Prop
 |mk (p dx:Addr) (k v l c:V) (_:vs=[.ref p,k,v,l,c]) (_:H p=some (.ins C dx [])) (_: ∀H':Hp,H' p=some (.ins C dx (tokF k v l c))->(∀b o,H b=some o->b≠p->H' b=some o)->Q .non H'):spTok C vs H Q _E
theorem blank_nb (c:UInt8):inV (.int (nb c)) [.int 9, .int 10, .int 13, .int 32]=blank c:=all256 (p:=fun c=>inV (.int (nb c)) [.int 9, .int 10, .int 13, .int 32]=blank c) (by decide+kernel) c
inductive spScan (K:PySem.W.Frag) (C:Addr) (vs:List V) (H:Hp) (Q:VK) (_E:XK):Prop
 |mk (l:Addr) (bs:Bytes) (_:vs=[.ref l]) (_:SqL K H l (bsV bs)) (_:bs.length<=3000) (_: ∀(H':Hp) (q:Addr) (as:List Addr),vq_ H H'->H q=Option.none->H' q=some (.lst (as.map V.ref))->Paired (j1b_ C H') as (tokens bs)->Q (.ref q) H'):spScan K C vs H Q _E
theorem j1b_.keep {C:Addr} {H H':Hp} {p:Addr} {x:Vbemac.Tok×Vbemac.Pos} (h:j1b_ C H p x) (k: ∀b o,H b=some o->(∀xs,o≠ .lst xs)->H' b=some o):j1b_ C H' p x:=by
 obtain⟨dx,e⟩:=h
 exact⟨dx,k _ _ e fun xs z=>nomatch z⟩
theorem qf_ {α β:Type} {F:α->β->Prop} : ∀ {l:List α} {m:List β} {x:α} {y:β},Paired F l m->F x y->Paired F (l++[x]) (m++[y])
 |_,_,_,_, .nil,h=> .cons h .nil
 |_,_,_,_, .cons r t,h=> .cons r (qf_ t h)
def ValOk (k:Int) (u:Bytes) (v:V):Prop:=(k=0/\(∀c∈u,vv_ c=true)/\v= .str (sb u))\/(k=1/\(∀c∈u,digit c=true)/\v= .int (valueOf u:Nat))\/(k=2/\u∈SIGNS/\v= .str (sgn u))\/(k=4/\v= .str (sb []))
theorem wordc_letter {c:UInt8} (h:letter c=true):vv_ c=true:=by unfold vv_;rw[h];rfl
theorem endAt_ge {p:UInt8->Bool} {bs:Bytes} {i:Nat} :i<=yi_ p bs i:=by unfold yi_;omega
theorem endAt_lt {p:UInt8->Bool} {bs:Bytes} {i:Nat} {c:UInt8} (h:bs[i]?=some c) (hp:p c=true):i<yi_ p bs i:=by
 rw[endAt_go h hp]
 exact endAt_ge
theorem part_all {p:UInt8->Bool} {bs:Bytes} {i:Nat} : ∀c∈ui_ bs i (yi_ p bs i),p c=true:=by
 rw[<-tw_part]
 exact tw_all _
theorem part_len_le {bs:Bytes} {i j:Nat} :(ui_ bs i j).length<=bs.length-i:=by
 unfold ui_
 rw[List.length_take,List.length_drop]
 omega
theorem signEnd_lt {bs:Bytes} {i:Nat} {c:UInt8} (h:bs[i]?=some c):i<ye_ bs i/\ye_ bs i<=bs.length:=by
 obtain⟨hi,_⟩:=List.getElem?_eq_some_iff.mp h
 have l1:0<(ui_ bs i (i+2)).length:=by unfold ui_;rw[Nat.add_sub_cancel_left,wd_ h];exact Nat.succ_pos _
 have l2:=part_len_le (bs:=bs) (i:=i) (j:=i+2)
 unfold ye_
 split<;>omega
theorem turn_tok {bs:Bytes} {i:Nat} {c:UInt8} (h:bs[i]?=some c) (hb:blank c=false) (h35: ¬c=35):i<wk_ bs i c/\wk_ bs i c<=bs.length/\ ∃y:Vbemac.Tok,tokKind bs i (wk_ bs i c) c=kindI y/\ValOk (kindI y) (ui_ bs i (wk_ bs i c)) (tokV y)/\
  ∀k q,lex (k+1) q (bs.drop i)=if kindI y=4 then [(y,q)] else(y,q)::lex k (q.1,q.2+(wk_ bs i c-i)) (bs.drop (wk_ bs i c)):=by
 obtain⟨hi,_⟩:=List.getElem?_eq_some_iff.mp h
 unfold wk_ tokKind
 cases hl:letter c with
 |true=>
  rw[if_pos rfl,if_pos rfl]
  refine⟨endAt_lt h (wordc_letter hl),endAt_le (Nat.le_of_lt hi),?_⟩
  by_cases g:yi_ vv_ bs i-i<=24
  ·refine⟨.word (ui_ bs i (yi_ vv_ bs i)),if_pos g, .inl ⟨rfl,part_all,rfl⟩,fun k q=>?_⟩
   rw[lex_word h hb h35 hl,if_neg (by omega)]
   exact(if_neg (by show¬(0:Int)=4;decide)).symm
  ·refine⟨.bad,if_neg g, .inr (.inr (.inr ⟨rfl,rfl⟩)),fun k q=>?_⟩
   rw[lex_word h hb h35 hl,if_pos (by omega)]
   exact(if_pos rfl).symm
 |false=>
  rw[if_neg Bool.false_ne_true,if_neg Bool.false_ne_true]
  cases hd:digit c with
  |true=>
   rw[if_pos rfl,if_pos rfl]
   refine⟨endAt_lt h hd,endAt_le (Nat.le_of_lt hi),?_⟩
   by_cases g:18<yi_ digit bs i-i\/glued bs (yi_ digit bs i)=true
   ·refine⟨.bad,if_pos g, .inr (.inr (.inr ⟨rfl,rfl⟩)),fun k q=>?_⟩
    rw[lex_num h hb h35 hl hd,if_pos g]
    exact(if_pos rfl).symm
   ·refine⟨.num (valueOf (ui_ bs i (yi_ digit bs i))),if_neg g, .inr (.inl ⟨rfl,part_all,rfl⟩),fun k q=>?_⟩
    rw[lex_num h hb h35 hl hd,if_neg g]
    exact(if_neg (by show¬(1:Int)=4;decide)).symm
  |false=>
   rw[if_neg Bool.false_ne_true,if_neg Bool.false_ne_true]
   refine⟨(signEnd_lt h).1,(signEnd_lt h).2,?_⟩
   by_cases g:ui_ bs i (ye_ bs i)∈SIGNS
   ·refine⟨.sign (ui_ bs i (ye_ bs i)),if_pos g, .inr (.inr (.inl ⟨rfl,g,rfl⟩)),fun k q=>?_⟩
    rw[lex_sign h hb h35 hl hd,if_pos g]
    exact(if_neg (by show¬(2:Int)=4;decide)).symm
   ·refine⟨.bad,if_neg g, .inr (.inr (.inr ⟨rfl,rfl⟩)),fun k q=>?_⟩
    rw[lex_sign h hb h35 hl hd,if_neg g]
    exact(if_pos rfl).symm
theorem nb_eq {c d:UInt8} (h:nb c=nb d):c=d:=UInt8.toNat_inj.mp (Int.ofNat.inj h)
theorem map_snoc {as:List Addr} {x:Addr} :(as++[x]).map V.ref=as.map V.ref++[V.ref x]:=by rw[List.map_append];rfl
theorem spVal_ok {K:PySem.W.Frag} {k:Int} {u:Bytes} {v:V} {l:Addr} {H:Hp} {Q:VK} {E:XK} (ok:ValOk k u v) (hS:SqL K H l (bsV u)) (hl:u.length<=3000) (q: ∀H',vq_ H H'->Q v H'):spVal K [.int k, .ref l] H Q E:=by
 refine⟨k,l,u,rfl,hS,hl,?_⟩
 rcases ok with⟨h,g,rfl⟩|⟨h,g,rfl⟩|⟨h,g,rfl⟩|⟨h,rfl⟩
 ·exact .inl ⟨h,g,q⟩
 ·exact .inr (.inl ⟨h,g,q⟩)
 ·exact .inr (.inr (.inl ⟨h,g,q⟩))
 ·exact .inr (.inr (.inr ⟨h,q⟩))
section
variable {P:Program} {w:World} {K:PySem.W.Frag} {mg:Str->Option Value} {base:Heap} {a:Adr}
theorem ok_Token_init (T:Txt K mg a):ju_ P w K mg base CX0 1 a.f_z18 a.fd_z18 ["self","kind","value","line","column"] (spTok a.c_Token):=by
 refine T.F_z18.ok sc_z18 (fun vs H Q E h=>?_) (fun cdv A outer s H vs Q E hr h=>?_)
 ·obtain⟨p,dx,k,v,l,c,rfl,_⟩:=h
  rfl
 ·obtain⟨p,dx,k,v,l,c,rfl,hp,q⟩:=h
  refine⟨_,(j2_ (jq_ (pv 0) (pv 1) rfl)
    (j2_ (jq_ (pv 0) (pv 2) rfl)
    (j2_ (jq_ (pv 0) (pv 3) rfl)
    (j7_ (jq_ (pv 0) (pv 4) rfl))))),?_⟩
  have l1:(putF "kind" k []).length<1000:=Nat.lt_of_le_of_lt (vz_ "kind" k []) (by decide)
  have l2:(putF "value" v (putF "kind" k [])).length<1000:=Nat.lt_of_le_of_lt (Nat.le_trans (vz_ "value" v _) (Nat.succ_le_succ (vz_ "kind" k []))) (by decide)
  have l3:(putF "line" l (putF "value" v (putF "kind" k []))).length<1000:=Nat.lt_of_le_of_lt (Nat.le_trans (vz_ "line" l _) (Nat.succ_le_succ (Nat.le_trans (vz_ "value" v _) (Nat.succ_le_succ (vz_ "kind" k []))))) (by decide)
  refine⟨_,rfl,_,rfl,p,_,dx,_,rfl,hp,T.cl_Token,T.no_Token_kind,(by show 0<1000;decide),?_⟩
  refine⟨_,rfl,_,rfl,p,_,dx,_,rfl,j4_,T.cl_Token,T.no_Token_value,l1,?_⟩
  refine⟨_,rfl,_,rfl,p,_,dx,_,rfl,j4_,T.cl_Token,T.no_Token_line,l2,?_⟩
  refine⟨_,rfl,_,rfl,p,_,dx,_,rfl,j4_,T.cl_Token,T.no_Token_column,l3,?_⟩
  refine q _ j4_ fun b o e hb=>?_
  rw[j3_ hb,j3_ hb,j3_ hb,j3_ hb]
  exact e
structure Mid4 (C:Addr) (bs:Bytes) (q:Addr) (H H':Hp) (i ln ls:Nat) (as:List Addr):Prop where
 sm:vq_ H H'
 lst:H' q=some (.lst (as.map V.ref))
 i_le:i<=bs.length
 ls_le:ls<=i
 rest: ∃(ts:Toks) (k:Nat),Paired (j1b_ C H') as ts/\bs.length<i+k/\tokens bs=ts++lex k (ln,i-ls+1) (bs.drop i)/\as.length<=i
theorem tok_new {C:Addr} {H5 H6:Hp} {q x dx:Addr} {as:List Addr} {ts:Toks} {y:Vbemac.Tok×Vbemac.Pos} (hx:H6 x=some (.ins C dx (tokF (.int (kindI y.1)) (tokV y.1) (.int (y.2.1:Nat)) (.int (y.2.2:Nat)))))
  (k: ∀b o,H5 b=some o->H6 b=some o) (p:Paired (j1b_ C H5) as ts) (nq:x≠q) (hq:H6 q=some (.lst (as.map V.ref))):
  Paired (j1b_ C (upd H6 q (.lst ((as++[x]).map V.ref)))) (as++[x]) (ts++[y]):=by
 refine qf_ (Paired.mapP p fun b z h=>?_) ⟨dx,by rw[j3_ nq];exact hx⟩
 refine j1b_.keep h fun b' o e no=>?_
 have ne:b'≠q:=fun z=>by
  have w1:=k _ _ e
  rw[z,hq] at w1
  exact no _ (Option.some.inj w1).symm
 rw[j3_ ne]
 exact k _ _ e
theorem ok_z60 (T:Txt K mg a) (kS:KdT P w K a.k_SIGNS wl_):ju_ P w K mg base CX0 4 a.f_z60 a.fd_z60 ["text"] (spScan K a.c_Token):=by
 have G_z42:=ok_z42 (P:=P) (w:=w) (base:=base) T
 have G_z59:=ok_z59 (P:=P) (w:=w) (base:=base) T kS
 have G_z51:=ok_z51 (P:=P) (w:=w) (base:=base) T kS
 have G_z43:=ok_z43 (P:=P) (w:=w) (base:=base) T kS
 have G_z18:=ok_Token_init (P:=P) (w:=w) (base:=base) T
 refine T.F_z60.ok j01_ (fun vs H Q E h=>?_) (fun cdv A outer s H vs Q E hr h=>?_)
 ·obtain⟨l,bs,rfl,_⟩:=h
  rfl
 ·obtain⟨l,bs,rfl,hS,hlen,hQ⟩:=h
  refine⟨_,(j2_ (jg_ (i:=1) j01_.nd rfl (Or.inl rfl) (uu_ j5_))
    (j2_ (jg_ (i:=2) j01_.nd rfl (Or.inl rfl) jr_)
    (j2_ (jg_ (i:=3) j01_.nd rfl (Or.inl rfl) jr_)
    (j2_ (jg_ (i:=4) j01_.nd rfl (Or.inl rfl) jr_)
    (j2_ (u6_ PassesOwn.never (ya_ op_lt (pv 4) (yw_ jv_ (by rfl) T.n_len PySem.boot_len (j0_ (pv 0) j5_)) (yk_ _)) (j7_ (yg_ (ya_ op_in_seq (wo_ qa_ (pv 0) (pv 4) (fun _ _=>rfl)) (pe_gr (by rfl) T.g_BLANKS) rfl) (j2_ (ps_aug (i:=4) j01_.nd rfl (Or.inl rfl) jr_ ip_add)
    (j7_ (yg_ (ya_ uk_ (wo_ qa_ (pv 0) (uq_ op_sub (pv 4) jr_) (fun _ _=>rfl)) (vc_ (by rfl) T.g_LINE_FEED) (yk_ _)) (j2_ (ps_aug (i:=2) j01_.nd rfl (Or.inl rfl) jr_ ip_add)
    (j7_ (jg_ (i:=3) j01_.nd rfl (Or.inl rfl) (pv 4)))) ji_))) (j7_ (yg_ (ya_ uk_ (wo_ qa_ (pv 0) (pv 4) (fun _ _=>rfl)) (vc_ (by rfl) T.g_COMMENT) (yk_ _)) (j7_ (jg_ (i:=4) j01_.nd rfl (Or.inl rfl) (j9_ G_z42 (hr.mono (by decide)) (by rfl) T.m_z42 T.F_z42.kp T.b_z42 .nil yr_ (j0_ (pv 0) (j0_ (pv 4) j5_))))) (j2_ (jg_ (i:=5) j01_.nd rfl (Or.inl rfl) (j9_ G_z59 (hr.mono (by decide)) (by rfl) T.m_z59 T.F_z59.kp T.b_z59 .nil yr_ (j0_ (pv 0) (j0_ (pv 4) j5_))))
    (j2_ (jg_ (i:=6) j01_.nd rfl (Or.inl rfl) (j9_ G_z51 (hr.mono (by decide)) (by rfl) T.m_z51 T.F_z51.kp T.b_z51 .nil yr_ (j0_ (pv 0) (j0_ (pv 4) (j0_ (pv 5) j5_)))))
    (j2_ (jd_ (pe_bm PySem.F.plainAttrs_list PySem.F.slot_list_append PySem.F.type_list_append qc_ (pv 1) (j0_ (vf_ T.mk_Token G_z18 (hr.mono (by decide)) (by rfl) T.mg_Token T.b_z18 .nil yr_ (j0_ (pv 6) (j0_ (j9_ G_z43 (hr.mono (by decide)) (by rfl) T.m_z43 T.F_z43.kp T.b_z43 .nil yr_ (j0_ (pv 6) (j0_ (pe_slice sl_list (pv 0) (po_some (pv 4)) (po_some (pv 5))) j5_))) (j0_ (pv 2) (j0_ (uq_ uy_ (uq_ op_sub (pv 4) (pv 3)) jr_) j5_))))) j5_)))
    (j2_ (yg_ (ya_ uk_ (pv 6) (vc_ (by rfl) T.g_WRONG) (yk_ _)) (j7_ (jh_ (pv 1))) ji_)
    (j7_ (jg_ (i:=4) j01_.nd rfl (Or.inl rfl) (pv 5))))))))))))
    (j2_ (jd_ (pe_bm PySem.F.plainAttrs_list PySem.F.slot_list_append PySem.F.type_list_append qc_ (pv 1) (j0_ (vf_ T.mk_Token G_z18 (hr.mono (by decide)) (by rfl) T.mg_Token T.b_z18 .nil yr_ (j0_ (vc_ (by rfl) T.g_END) (j0_ jk_ (j0_ (pv 2) (j0_ (uq_ uy_ (uq_ op_sub (pv 4) (pv 3)) jr_) j5_))))) j5_)))
    (j7_ (jh_ (pv 1))))))))),?_⟩
  refine⟨Nat.zero_le _,fun q hq=>⟨fun m σ H'=> ∃(i ln ls:Nat) (as:List Addr) (v5 v6:Option V),m=bs.length-i/\σ=[some (.ref l),some (.ref q),some (.int ln),some (.int ls),some (.int i),v5,v6]/\Mid4 a.c_Token bs q H H' i ln ls as,⟨_,0,1,0,[],none,none,rfl,rfl,⟨yj_ hq,j4_,Nat.zero_le _,Nat.le_refl _,[],bs.length+1, .nil,by omega,rfl,Nat.le_refl _⟩⟩,?_⟩⟩
  rintro m σ H1 ⟨i,ln,ls,as,v5,v6,rfl,rfl,M⟩
  have hS1:=M.sm.seq hS
  obtain⟨ts,k,pr,hk,tk,asl⟩:=M.rest
  have ile:=M.i_le
  have lsle:=M.ls_le
  obtain⟨k,rfl⟩: ∃k',k=k'+1:=⟨k-1,by omega⟩
  have ec:(i:Int)-(ls:Int)+1=((i-ls+1:Nat):Int):=by omega
  refine⟨_,rfl,_,rfl,_,_,rfl, .inl hS1,_,_,rfl,rfl,_,rfl,?_⟩
  rw[wy_]
  refine yt_ (fun e=>?_) fun e=>?_
  ·have lt:i<bs.length:=by have:=of_decide_eq_true e;omega
   obtain⟨c,hc⟩: ∃c,bs[i]?=some c:=⟨_,List.getElem?_eq_getElem lt⟩
   refine⟨fun σ' H''=> ∃(i' ln' ls':Nat) (as':List Addr) (v5' v6':Option V),i<i'/\σ'=[some (.ref l),some (.ref q),some (.int ln'),some (.int ls'),some (.int i'),v5',v6']/\Mid4 a.c_Token bs q H H'' i' ln' ls' as',?_,?_⟩
   ·rintro σ' H'' ⟨i',ln',ls',as',v5',v6',lt',rfl,M'⟩
    have:=M'.i_le
    exact⟨_,by omega,i',ln',ls',as',v5',v6',rfl,rfl,M'⟩
   refine⟨_,rfl,_,rfl,_,_,_,_,rfl,rfl,hS1,qb_ (j00_ hc),_,_,rfl, .inr T.t_BLANKS.sq,rfl,rfl,_,rfl,?_⟩
   show if inV (.int (nb c)) [.int 9, .int 10, .int 13, .int 32]=true then _ else _
   rw[blank_nb]
   refine yt_ (fun hb=>?_) fun hb=>?_
   ·refine⟨_,rfl,_,_,rfl,rfl,?_⟩
    refine⟨_,rfl,_,rfl,_,_,rfl,rfl,_,_,_,V.int (nb c),rfl,rfl,hS1,(by rw[Int.add_sub_cancel];exact qb_ (j00_ hc)),rfl,_,rfl,?_⟩
    rw[uc_]
    have lx:=lex_blank (k:=k) (q:=(ln,i-ls+1)) hc hb
    refine yt_ (fun h10=>?_) fun h10=>?_
    ·have c10:c=10:=nb_eq (of_decide_eq_true h10)
     refine⟨_,rfl,_,_,rfl,rfl,_,rfl,i+1,ln+1,i+1,as,v5,v6,Nat.lt_succ_self i,rfl,⟨M.sm,M.lst,lt,Nat.le_refl _,ts,k,pr,by omega,?_,by omega⟩⟩
     rw[tk,lx,c10,Nat.sub_self]
     rfl
    ·have c10: ¬c=10:=fun z=>absurd (by rw[z];rfl) (of_decide_eq_false h10)
     refine⟨i+1,ln,ls,as,v5,v6,Nat.lt_succ_self i,rfl,⟨M.sm,M.lst,lt,Nat.le_succ_of_le lsle,ts,k,pr,by omega,?_,by omega⟩⟩
     rw[tk,lx,show i+1-ls+1=i-ls+1+1 by omega]
     unfold advance
     rw[if_neg c10]
   ·refine⟨_,rfl,_,rfl,_,_,_,_,rfl,rfl,hS1,qb_ (j00_ hc),rfl,_,rfl,?_⟩
    rw[uc_]
    refine yt_ (fun h35=>?_) fun h35=>?_
    ·have c35:c=35:=nb_eq (of_decide_eq_true h35)
     have g:i<yi_ j05_ bs i:=endAt_lt hc (by rw[c35];rfl)
     have g2:yi_ j05_ bs i<=bs.length:=endAt_le ile
     refine⟨_,rfl,_,rfl,l,bs,i,rfl,hS1,ile,yi_ j05_ bs i,ln,ls,as,v5,v6,g,rfl,⟨M.sm,M.lst,g2,by omega,ts,k,pr,by omega,?_,by omega⟩⟩
     rw[tk,j0x_ hc hb c35]
     show ts++lex k (ln,i-ls+1+(yi_ j05_ bs i-i)) _=_
     rw[show i-ls+1+(yi_ j05_ bs i-i)=yi_ j05_ bs i-ls+1 by omega]
    ·have c35: ¬c=35:=fun z=>absurd (by rw[z];rfl) (of_decide_eq_false h35)
     obtain⟨g,g2,y,ky,vy,lx⟩:=turn_tok hc hb c35
     have lx:=lx k (ln,i-ls+1)
     refine⟨_,rfl,_,rfl,l,bs,i,c,rfl,hS1,hc,fun H2 s2=>?_⟩
     refine⟨_,rfl,_,rfl,_,rfl,l,bs,i,wk_ bs i c,c,rfl,s2.seq hS1,hc,Nat.le_of_lt g,g2,fun H3 s3=>?_⟩
     rw[ky]
     generalize wk_ bs i c=en at g g2 vy lx ky ⊢
     have s13:vq_ H1 H3:=s2.trans s3
     have hS3:=s13.seq hS1
     refine⟨_,rfl, .inl ⟨rfl,_,SqL.of (s13 _ _ M.lst)⟩,?_⟩
     refine⟨_,rfl,_,rfl,_,rfl,_,rfl,_,rfl,_,rfl,_,rfl,_,_,rfl,hS3,fun p hp=>?_⟩
     rw[cut_part]
     unfold j14_
     dsimp only[List.append_nil]
     refine spVal_ok vy (SqL.of j4_) ?_ fun H4 s4=>?_
     ·have:=part_len_le (bs:=bs) (i:=i) (j:=en)
      omega
     have s14:vq_ H1 H4:=s13.trans ((yj_ hp).trans s4)
     refine⟨_,rfl,_,rfl,_,rfl,_,_,rfl,rfl,_,_,rfl,rfl,fun x dx hx hdx ne=>⟨x,dx,_,_,_,_,rfl,j4_,fun H5 h5 k5=>⟨rfl,?_⟩⟩⟩
     have h5:H5 x=some (.ins a.c_Token dx (tokF (.int (kindI y)) (tokV y) (.int (ln:Nat)) (.int ((i-ls+1:Nat):Int)))):=by rw[<-ec];exact h5
     have s15:vq_ H1 H5:=fun b o e=>k5 b o (by rw[j3_ (jf_ (s14 b o e) hx),j3_ (jf_ (s14 b o e) hdx)];exact s14 b o e) (jf_ (s14 b o e) hx)
     have nq:x≠q:=(jf_ (s14 _ _ M.lst) hx).symm
     have q5:=s15 _ _ M.lst
     have pn:=tok_new (y:=(y,ln,i-ls+1)) h5 s15 pr nq q5
     have sm5:vq_ H (upd H5 q (.lst ((as++[x]).map V.ref))):=fun b o e=>by rw[j3_ (jf_ e hq)];exact s15 b o (M.sm b o e)
     refine⟨q,_,_,rfl,rfl,q5,by rw[List.length_map];exact Nat.lt_of_le_of_lt (Nat.le_trans asl (Nat.le_trans ile hlen)) (by decide),?_⟩
     rw[<-map_snoc]
     refine⟨_,rfl,rfl,_,rfl,?_⟩
     rw[uc_]
     refine yt_ (fun k4=>?_) fun k4=>?_
     ·rw[if_pos (of_decide_eq_true k4)] at lx
      refine⟨_,rfl,hQ _ q (as++[x]) sm5 hq j4_ ?_⟩
      rw[tk,lx]
      exact pn
     ·rw[if_neg (of_decide_eq_false k4)] at lx
      refine⟨_,rfl,en,ln,ls,as++[x],_,_,g,rfl,⟨sm5,j4_,g2,by omega,ts++[(y,ln,i-ls+1)],k,pn,by omega,?_,by rw[List.length_append,List.length_singleton];omega⟩⟩
      rw[tk,lx,List.append_assoc]
      show ts++(y,ln,i-ls+1)::lex k (ln,i-ls+1+(en-i)) _=_
      rw[show i-ls+1+(en-i)=en-ls+1 by omega]
      rfl
  ·have lx:=lex_end (k:=k) (q:=(ln,i-ls+1)) (bs:=bs) (i:=i) (by have:=of_decide_eq_false e;omega)
   refine⟨_,rfl, .inl ⟨rfl,_,SqL.of M.lst⟩,?_⟩
   refine⟨_,rfl,_,rfl,_,rfl,_,_,rfl,rfl,_,_,rfl,rfl,fun x dx hx hdx ne=>⟨x,dx,_,_,_,_,rfl,j4_,fun H5 h5 k5=>⟨rfl,?_⟩⟩⟩
   have h5:H5 x=some (.ins a.c_Token dx (tokF (.int (kindI .eof)) (tokV .eof) (.int (ln:Nat)) (.int ((i-ls+1:Nat):Int)))):=by rw[<-ec];exact h5
   have s15:vq_ H1 H5:=fun b o e=>k5 b o (by rw[j3_ (jf_ e hx),j3_ (jf_ e hdx)];exact e) (jf_ e hx)
   have nq:x≠q:=(jf_ M.lst hx).symm
   have q5:=s15 _ _ M.lst
   have pn:=tok_new (y:=(.eof,ln,i-ls+1)) h5 s15 pr nq q5
   have sm5:vq_ H (upd H5 q (.lst ((as++[x]).map V.ref))):=fun b o e=>by rw[j3_ (jf_ e hq)];exact s15 b o (M.sm b o e)
   refine⟨q,_,_,rfl,rfl,q5,by rw[List.length_map];exact Nat.lt_of_le_of_lt (Nat.le_trans asl (Nat.le_trans ile hlen)) (by decide),?_⟩
   rw[<-map_snoc]
   refine⟨_,rfl,hQ _ q (as++[x]) sm5 hq j4_ ?_⟩
   rw[tk,lx]
   exact pn
end
end OS
namespace OS
open PySem PySem.Spec L2
open PyProof.Rows hiding St
theorem exc_number:typeLookup (.type "Exception") "number"=pure none:=by rw[typeLookup_type,builtinLookup_eq_fast];kernel_rfl
theorem exc_kind:typeLookup (.type "Exception") "kind"=pure none:=by rw[typeLookup_type,builtinLookup_eq_fast];kernel_rfl
theorem exc_line:typeLookup (.type "Exception") "line"=pure none:=by rw[typeLookup_type,builtinLookup_eq_fast];kernel_rfl
theorem exc_column:typeLookup (.type "Exception") "column"=pure none:=by rw[typeLookup_type,builtinLookup_eq_fast];kernel_rfl
abbrev fault4 (n l c:Int):List (Str×V):=[("number", .int (-3)),("kind", .int n),("line", .int l),("column", .int c)]
abbrev num1 (n:Int):List (Str×V):=[("number", .int n)]
def gNum:List V->List (Str×V)->Prop:=fun us fs=> ∃n:Int,us=[.int n]/\fs=num1 n
def gFault:List V->List (Str×V)->Prop:=fun us fs=> ∃n l c:Int,us=[.int n, .int l, .int c]/\fs=fault4 n l c
structure XT (K:PySem.W.Frag) (a:Adr):Prop where
 fc:XCls K a.c_Refusal a.c_Fault a.f_z17
 rm:CMeth K a.c_Refusal "__init__" a.f_z5
section
variable {P:Program} {w:World} {K:PySem.W.Frag} {mg:Str->Option Value} {base:Heap} {a:Adr}
theorem ok_Refusal_init {C fI:Addr} (T:Txt K mg a) (XC:XCls K a.c_Refusal C fI):ju_ P w K mg base CX0 1 a.f_z5 a.fd_z5 ["self","number"] (spInit C gNum):=by
 refine T.F_z5.ok sc_z5 (fun vs H Q E h=>?_) (fun cdv A outer s H vs Q E hr h=>?_)
 ·obtain⟨p,us,fs,rfl,⟨n,rfl,rfl⟩,_⟩:=h
  rfl
 ·obtain⟨p,us,fs,rfl,⟨n,rfl,rfl⟩,hp,q⟩:=h
  refine⟨_,(j2_ (ps_excInit (C:=C) (fI:=fI) XC (by rfl) T.n_Exception (pv 0))
   (j7_ (ps_x0 XC PySem.F.store_Exception (by decide+kernel) exc_number (pv 0) (pv 1) rfl))),?_⟩
  exact⟨p,rfl,hp,_,rfl,_,rfl,p,rfl,hp,fun d hd=>q d hd⟩
theorem j1c_ (T:Txt K mg a) (XC:XT K a):ju_ P w K mg base CX0 2 a.f_z17 a.fd_z17 ["self","kind","line","column"] (spInit a.c_Fault gFault):=by
 have G:=ok_Refusal_init (P:=P) (w:=w) (base:=base) T XC.fc
 refine T.F_z17.ok sc_z17 (fun vs H Q E h=>?_) (fun cdv A outer s H vs Q E hr h=>?_)
 ·obtain⟨p,us,fs,rfl,⟨n,l,c,rfl,rfl⟩,_⟩:=h
  rfl
 ·obtain⟨p,us,fs,rfl,⟨n,l,c,rfl,rfl⟩,hp,q⟩:=h
  refine⟨_,(j2_ (jd_ (pe_cmeth (by rfl) T.mg_Refusal XC.rm G (hr.mono (by decide)) T.b_z5 .nil yr_ (j0_ (pv 0) (j0_ (pe_un un_neg jr_) j5_))))
   (j2_ (ps_x1 XC.fc PySem.F.store_Exception (by decide+kernel) exc_kind (pv 0) (pv 1) rfl)
   (j2_ (ps_x1 XC.fc PySem.F.store_Exception (by decide+kernel) exc_line (pv 0) (pv 2) rfl)
   (j7_ (ps_x1 XC.fc PySem.F.store_Exception (by decide+kernel) exc_column (pv 0) (pv 3) rfl))))),?_⟩
  refine⟨_,rfl,_,rfl,p,_,num1 (-3),rfl,⟨-3,rfl,rfl⟩,hp,fun d hd=>?_⟩
  have np:d≠p:=(jf_ hp hd).symm
  have z:=q d hd
  refine⟨_,rfl,_,rfl,p,d,_,rfl,j4_,by rw[j3_ np,j4_],by show 1<1000;decide,?_⟩
  refine⟨_,rfl,_,rfl,p,d,_,rfl,by rw[j3_ np.symm,j4_],j4_,by show 2<1000;decide,?_⟩
  refine⟨_,rfl,_,rfl,p,d,_,rfl,by rw[j3_ np.symm,j3_ np.symm,j4_],j4_,by show 3<1000;decide,?_⟩
  have eH: ∀f1 f2 f3 f4:List (Str×V),upd (upd (upd (upd (upd H d (qj_ d f1)) p (xnew a.c_Fault d p)) d (qj_ d f2)) d (qj_ d f3)) d (qj_ d f4)=upd (upd H d (qj_ d f4)) p (xnew a.c_Fault d p):=fun f1 f2 f3 f4=>by
   funext b
   by_cases hb:b=d
   ·rw[hb,j4_,j3_ np,j4_]
   ·rw[j3_ hb,j3_ hb,j3_ hb]
    by_cases hb2:b=p
    ·rw[hb2,j4_,j4_]
    ·rw[j3_ hb2,j3_ hb,j3_ hb2,j3_ hb]
  show Q .non _
  rw[eH]
  exact z
end
end OS
namespace OS
open PySem PySem.Spec L2
open PyProof.Rows hiding St
open Vbemac (Bytes Toks)
def rdF (q kd fn ds bl:Addr) (n:Nat):List (Str×V):=[("tokens", .ref q),("at", .int n),("known", .ref kd),("functions", .ref fn),("desks", .ref ds),("blocks", .ref bl)]
structure Rdr (a:Adr) (H:Hp) (r q kd fn ds bl:Addr) (n:Nat) (t:Toks):Prop where
 ins: ∃dr,H r=some (.ins a.c_Reader dr (rdF q kd fn ds bl n))
 toks: ∃(as:List Addr) (all:Toks),H q=some (.lst (as.map V.ref))/\Paired (j1b_ a.c_Token H) as all/\all.drop n=t
def Flt (C:Addr) (E:XK) (H:Hp) (n:Nat) (x:Vbemac.Pos):Prop:= ∀d,H d=none->E (.ref C) (some d) (upd H d (qj_ d (fault4 n x.1 x.2)))
theorem paired_at {α β:Type} {F:α->β->Prop} : ∀ {l:List α} {m:List β} {i:Nat} {y:β},Paired F l m->m[i]?=some y-> ∃x,l[i]?=some x/\F x y
 |_,_,_,_, .nil,h=>by cases h
 |_,_,0,_, .cons r t,h=>⟨_,rfl,by obtain rfl:=Option.some.inj h;exact r⟩
 |_,_,i+1,_, .cons r t,h=>paired_at (i:=i) t h
theorem drop_head {α:Type} {l t:List α} {x:α} {n:Nat} (h:l.drop n=x::t):l[n]?=some x:=by
 have:=congrArg (fun z:List α=>z[0]?) h
 simpa using this
theorem Rdr.cur {a:Adr} {H:Hp} {r q kd fn ds bl:Addr} {n:Nat} {x:Vbemac.Tok×Vbemac.Pos} {t:Toks} (R:Rdr a H r q kd fn ds bl n (x::t)):
  ∃(as:List Addr) (p:Addr),H q=some (.lst (as.map V.ref))/\(as.map V.ref)[n]?=some (.ref p)/\j1b_ a.c_Token H p x:=by
 obtain⟨as,all,h1,h2,h3⟩:=R.toks
 obtain⟨p,e,k⟩:=paired_at h2 (drop_head h3)
 exact⟨as,p,h1,by rw[List.getElem?_map,e];rfl,k⟩
inductive spCur (a:Adr) (vs:List V) (H:Hp) (Q:VK) (E:XK):Prop
 |mk (r q kd fn ds bl:Addr) (n:Nat) (x:Vbemac.Tok×Vbemac.Pos) (t:Toks) (_:vs=[.ref r]) (_:Rdr a H r q kd fn ds bl n (x::t)) (_:(x.1= .bad->Flt a.c_Fault E H 1 x.2)) (_:(x.1≠ .bad-> ∀p,j1b_ a.c_Token H p x->Q (.ref p) H)):spCur a vs H Q E
inductive spFail (a:Adr) (vs:List V) (H:Hp) (_Q:VK) (E:XK):Prop
 |mk (r q kd fn ds bl:Addr) (n:Nat) (x:Vbemac.Tok×Vbemac.Pos) (t:Toks) (m:Nat) (_:vs=[.ref r, .int m]) (_:Rdr a H r q kd fn ds bl n (x::t)) (_:Flt a.c_Fault E H (if x.1= .bad then 1 else m) x.2):spFail a vs H _Q E
theorem kindI_bad {x:Vbemac.Tok} :kindI x=4 ↔ x= .bad:=by cases x<;>simp [kindI]
section
variable {P:Program} {w:World} {K:PySem.W.Frag} {mg:Str->Option Value} {base:Heap} {a:Adr}
theorem v8_ (T:Txt K mg a) (XC:XT K a):ju_ P w K mg base (CXF P w) 4 a.f_z19 a.fd_z19 ["self"] (spCur a):=by
 have G:=j1c_ (P:=P) (w:=w) (base:=base) T XC
 refine okX T.F_z19 sc_z19 (fun vs H Q E h=>?_) (fun cdv A outer s H vs Q E hr h=>?_)
 ·obtain⟨r,q,kd,fn,ds,bl,n,x,t,rfl,_⟩:=h
  rfl
 ·obtain⟨r,q,kd,fn,ds,bl,n,x,t,rfl,R,hb,hg⟩:=h
  obtain⟨dr,er⟩:=R.ins
  obtain⟨as,p,eq,ep,tp⟩:=R.cur
  have tp':=tp
  obtain⟨dx,et⟩:=tp'
  refine⟨_,(j2_ (jg_ (i:=1) sc_z19.nd rfl (Or.inl rfl) (wo_ qa_ (yf_ (pv 0) rfl) (yf_ (pv 0) rfl) (fun _ _=>rfl)))
    (j2_ (yg_ (ya_ uk_ (yf_ (pv 1) rfl) (vc_ (by rfl) T.g_WRONG) (yk_ _)) (j7_ (ps_raise raise_up XC.fc G (hr.mono (by decide)) (by rfl) T.mg_Fault T.b_z17 (j0_ (vc_ (by rfl) T.g_WRONG_TOKEN) (j0_ (yf_ (pv 1) rfl) (j0_ (yf_ (pv 1) rfl) j5_))))) ji_)
    (j7_ (jh_ (pv 1))))),?_⟩
  refine⟨_,rfl,r,_,dr,_,_,rfl,er,T.cl_Reader,T.no_Reader_tokens,rfl,_,rfl,r,_,dr,_,_,rfl,er,T.cl_Reader,T.no_Reader_at,rfl,q,_,n, .ref p,rfl,rfl,SqL.of eq,qb_ ep,?_⟩
  refine⟨_,rfl,p,_,dx,_,_,rfl,et,T.cl_Token,T.no_Token_kind,rfl,rfl,_,rfl,?_⟩
  rw[uc_]
  refine yt_ (fun e=>?_) fun e=>?_
  ·have xb:=kindI_bad.mp (of_decide_eq_true e)
   exact⟨_,rfl,p,_,dx,_,_,rfl,et,T.cl_Token,T.no_Token_line,rfl,_,rfl,p,_,dx,_,_,rfl,et,T.cl_Token,T.no_Token_column,rfl,(by show 3<=9;decide),_,⟨_,_,_,rfl,rfl⟩,hb xb⟩
  ·have xb:x.1≠ .bad:=fun z=>of_decide_eq_false e (kindI_bad.mpr z)
   exact⟨_,rfl,hg xb p tp⟩
end
end OS
namespace OS
open PySem PySem.Spec L2
open PyProof.Rows hiding St
open Vbemac (Bytes Toks KEYS)
inductive spAsk (a:Adr) (b:Vbemac.Tok->Bool) (vs:List V) (H:Hp) (Q:VK) (E:XK):Prop
 |mk (r q kd fn ds bl:Addr) (n:Nat) (x:Vbemac.Tok×Vbemac.Pos) (t:Toks) (_:vs=[.ref r]) (_:Rdr a H r q kd fn ds bl n (x::t)) (_:(x.1= .bad->Flt a.c_Fault E H 1 x.2)) (_:(x.1≠ .bad->Q (.bl (b x.1)) H)):spAsk a b vs H Q E
def isV (v:Str) (k:Vbemac.Tok):Bool:=decide (tokV k= .str v)
inductive spSees (a:Adr) (vs:List V) (H:Hp) (Q:VK) (E:XK):Prop
 |mk (r q kd fn ds bl:Addr) (n:Nat) (x:Vbemac.Tok×Vbemac.Pos) (t:Toks) (v:Str) (_:vs=[.ref r, .str v]) (_:Rdr a H r q kd fn ds bl n (x::t)) (_:(x.1= .bad->Flt a.c_Fault E H 1 x.2)) (_:(x.1≠ .bad->Q (.bl (isV v x.1)) H)):spSees a vs H Q E
def past (a:Adr) (H:Hp) (r q kd fn ds bl:Addr) (n:Nat) (H':Hp):Prop:= ∃dr,H r=some (.ins a.c_Reader dr (rdF q kd fn ds bl n))/\H'=upd H r (.ins a.c_Reader dr (rdF q kd fn ds bl (n+1)))
inductive spTake (a:Adr) (vs:List V) (H:Hp) (Q:VK) (E:XK):Prop
 |mk (r q kd fn ds bl:Addr) (n:Nat) (x:Vbemac.Tok×Vbemac.Pos) (t:Toks) (_:vs=[.ref r]) (_:Rdr a H r q kd fn ds bl n (x::t)) (_:(x.1= .bad->Flt a.c_Fault E H 1 x.2)) (_:(x.1≠ .bad-> ∀H',past a H r q kd fn ds bl n H'->Q (tokV x.1) H')):spTake a vs H Q E
inductive uw_ (a:Adr) (vs:List V) (H:Hp) (Q:VK) (E:XK):Prop
 |mk (r q kd fn ds bl:Addr) (n:Nat) (x:Vbemac.Tok×Vbemac.Pos) (t:Toks) (v:Str) (_:vs=[.ref r, .str v]) (_:Rdr a H r q kd fn ds bl n (x::t)) (_:(x.1= .bad->Flt a.c_Fault E H 1 x.2)) (_:(x.1≠ .bad->isV v x.1=false->Flt a.c_Fault E H 2 x.2)) (_:(x.1≠ .bad->isV v x.1=true-> ∀H',past a H r q kd fn ds bl n H'->Q .non H')):uw_ a vs H Q E
inductive spSkips (a:Adr) (vs:List V) (H:Hp) (Q:VK) (E:XK):Prop
 |mk (r q kd fn ds bl:Addr) (n:Nat) (x:Vbemac.Tok×Vbemac.Pos) (t:Toks) (v:Str) (_:vs=[.ref r, .str v]) (_:Rdr a H r q kd fn ds bl n (x::t)) (_:(x.1= .bad->Flt a.c_Fault E H 1 x.2)) (_:(x.1≠ .bad->isV v x.1=false->Q (.bl false) H)) (_:(x.1≠ .bad->isV v x.1=true-> ∀H',past a H r q kd fn ds bl n H'->Q (.bl true) H')):spSkips a vs H Q E
theorem Rdr.step {a:Adr} {H H':Hp} {r q kd fn ds bl:Addr} {n:Nat} {x:Vbemac.Tok×Vbemac.Pos} {t:Toks} (R:Rdr a H r q kd fn ds bl n (x::t)) (h:past a H r q kd fn ds bl n H'):Rdr a H' r q kd fn ds bl (n+1) t:=by
 obtain⟨dr,e,rfl⟩:=h
 obtain⟨as,all,h1,h2,h3⟩:=R.toks
 refine⟨⟨dr,j4_⟩,as,all,?_,Paired.mapP h2 fun b z k=>?_,?_⟩
 ·have ne:q≠r:=fun z=>by rw[z,e] at h1;cases h1
  rw[j3_ ne]
  exact h1
 ·obtain⟨dx,ez⟩:=k
  have ne:b≠r:=fun z=>by
   rw[z,e] at ez
   have:=congrArg List.length (HO.ins.inj (Option.some.inj ez)).2.2
   cases this
  exact⟨dx,by rw[j3_ ne];exact ez⟩
 ·have:=congrArg (List.drop 1) h3
  rw[List.drop_drop] at this
  exact this
theorem scal_tok {x:Vbemac.Tok} {v:Str} :scal (tokV x) (.str v)=true:=by cases x<;>rfl
def isNum:Vbemac.Tok->Bool
 | .num _=>true
 |_=>false
def isEnd:Vbemac.Tok->Bool
 | .eof=>true
 |_=>false
section
variable {P:Program} {w:World} {K:PySem.W.Frag} {mg:Str->Option Value} {base:Heap} {a:Adr}
theorem qp_ (T:Txt K mg a) (XC:XT K a):ju_ P w K mg base (CXF P w) 5 a.f_z44 a.fd_z44 ["self","kind"] (spFail a):=by
 have G:=j1c_ (P:=P) (w:=w) (base:=base) T XC
 have G_z19:=v8_ (P:=P) (w:=w) (base:=base) T XC
 refine okX T.F_z44 sc_z44 (fun vs H Q E h=>?_) (fun cdv A outer s H vs Q E hr h=>?_)
 ·obtain⟨r,q,kd,fn,ds,bl,n,x,t,m,rfl,_⟩:=h
  rfl
 ·obtain⟨r,q,kd,fn,ds,bl,n,x,t,m,rfl,R,hf⟩:=h
  obtain⟨dr,er⟩:=R.ins
  refine⟨_,(j2_ (jg_ (i:=2) sc_z44.nd rfl (Or.inl rfl) (jn_ (pv 0) T.cl_Reader T.me_z19 G_z19 (hr.mono (by decide)) T.b_z19 .nil j6_))
    (j7_ (ps_raise raise_up XC.fc G (hr.mono (by decide)) (by rfl) T.mg_Fault T.b_z17 (j0_ (pv 1) (j0_ (yf_ (pv 2) rfl) (j0_ (yf_ (pv 2) rfl) j5_)))))),?_⟩
  refine⟨_,rfl,r,dr,_,rfl,er,rfl,r,q,kd,fn,ds,bl,n,x,t,rfl,R,fun b=>by rw[if_pos b] at hf;exact hf,fun nb p tp=>?_⟩
  rw[if_neg nb] at hf
  obtain⟨dx,et⟩:=tp
  exact⟨_,rfl,_,rfl,p,_,dx,_,_,rfl,et,T.cl_Token,T.no_Token_line,rfl,_,rfl,p,_,dx,_,_,rfl,et,T.cl_Token,T.no_Token_column,rfl,(by show 3<=9;decide),_,⟨_,_,_,rfl,rfl⟩,hf⟩
theorem qt_ (T:Txt K mg a) (XC:XT K a):ju_ P w K mg base (CXF P w) 5 a.f_z45 a.fd_z45 ["self","value"] (spSees a):=by
 have G_z19:=v8_ (P:=P) (w:=w) (base:=base) T XC
 refine okX T.F_z45 sc_z45 (fun vs H Q E h=>?_) (fun cdv A outer s H vs Q E hr h=>?_)
 ·obtain⟨r,q,kd,fn,ds,bl,n,x,t,v,rfl,_⟩:=h
  rfl
 ·obtain⟨r,q,kd,fn,ds,bl,n,x,t,v,rfl,R,hb,hg⟩:=h
  obtain⟨dr,er⟩:=R.ins
  refine⟨_,(j7_ (jh_ (ww_ uk_ (yf_ (jn_ (pv 0) T.cl_Reader T.me_z19 G_z19 (hr.mono (by decide)) T.b_z19 .nil j6_) rfl) (pv 1) (yk_ _)))),?_⟩
  refine⟨_,rfl,r,dr,_,rfl,er,rfl,r,q,kd,fn,ds,bl,n,x,t,rfl,R,hb,fun nb p tp=>?_⟩
  obtain⟨dx,et⟩:=tp
  exact⟨p,_,dx,_,_,rfl,et,T.cl_Token,T.no_Token_value,rfl,_,rfl,scal_tok,hg nb⟩
theorem ok_at_end (T:Txt K mg a) (XC:XT K a):ju_ P w K mg base (CXF P w) 5 a.f_z28 a.fd_z28 ["self"] (spAsk a isEnd):=by
 have G_z19:=v8_ (P:=P) (w:=w) (base:=base) T XC
 refine okX T.F_z28 sc_z28 (fun vs H Q E h=>?_) (fun cdv A outer s H vs Q E hr h=>?_)
 ·obtain⟨r,q,kd,fn,ds,bl,n,x,t,rfl,_⟩:=h
  rfl
 ·obtain⟨r,q,kd,fn,ds,bl,n,x,t,rfl,R,hb,hg⟩:=h
  obtain⟨dr,er⟩:=R.ins
  refine⟨_,(j7_ (jh_ (ww_ uk_ (yf_ (jn_ (pv 0) T.cl_Reader T.me_z19 G_z19 (hr.mono (by decide)) T.b_z19 .nil j6_) rfl) (vc_ (by rfl) T.g_END) (yk_ _)))),?_⟩
  refine⟨_,rfl,r,dr,_,rfl,er,rfl,r,q,kd,fn,ds,bl,n,x,t,rfl,R,hb,fun nb p tp=>?_⟩
  obtain⟨dx,et⟩:=tp
  refine⟨p,_,dx,_,_,rfl,et,T.cl_Token,T.no_Token_kind,rfl,rfl,?_⟩
  have z:=hg nb
  rw[uc_]
  have e:decide (kindI x.1=3)=isEnd x.1:=by cases x.1<;>rfl
  rw[e]
  exact z
theorem ok_at_number (T:Txt K mg a) (XC:XT K a):ju_ P w K mg base (CXF P w) 5 a.f_z6 a.fd_z6 ["self"] (spAsk a isNum):=by
 have G_z19:=v8_ (P:=P) (w:=w) (base:=base) T XC
 refine okX T.F_z6 sc_z6 (fun vs H Q E h=>?_) (fun cdv A outer s H vs Q E hr h=>?_)
 ·obtain⟨r,q,kd,fn,ds,bl,n,x,t,rfl,_⟩:=h
  rfl
 ·obtain⟨r,q,kd,fn,ds,bl,n,x,t,rfl,R,hb,hg⟩:=h
  obtain⟨dr,er⟩:=R.ins
  refine⟨_,(j7_ (jh_ (ww_ uk_ (yf_ (jn_ (pv 0) T.cl_Reader T.me_z19 G_z19 (hr.mono (by decide)) T.b_z19 .nil j6_) rfl) (vc_ (by rfl) T.g_NUMBER) (yk_ _)))),?_⟩
  refine⟨_,rfl,r,dr,_,rfl,er,rfl,r,q,kd,fn,ds,bl,n,x,t,rfl,R,hb,fun nb p tp=>?_⟩
  obtain⟨dx,et⟩:=tp
  refine⟨p,_,dx,_,_,rfl,et,T.cl_Token,T.no_Token_kind,rfl,rfl,?_⟩
  have z:=hg nb
  rw[uc_]
  have e:decide (kindI x.1=1)=isNum x.1:=by cases x.1<;>rfl
  rw[e]
  exact z
theorem wr_ (T:Txt K mg a) (XC:XT K a):ju_ P w K mg base (CXF P w) 5 a.f_z46 a.fd_z46 ["self"] (spTake a):=by
 have G_z19:=v8_ (P:=P) (w:=w) (base:=base) T XC
 refine okX T.F_z46 sc_z46 (fun vs H Q E h=>?_) (fun cdv A outer s H vs Q E hr h=>?_)
 ·obtain⟨r,q,kd,fn,ds,bl,n,x,t,rfl,_⟩:=h
  rfl
 ·obtain⟨r,q,kd,fn,ds,bl,n,x,t,rfl,R,hb,hg⟩:=h
  obtain⟨dr,er⟩:=R.ins
  refine⟨_,(j2_ (jg_ (i:=1) sc_z46.nd rfl (Or.inl rfl) (jn_ (pv 0) T.cl_Reader T.me_z19 G_z19 (hr.mono (by decide)) T.b_z19 .nil j6_))
    (j2_ (ps_fldaug (pv 0) jr_ in_add)
    (j7_ (jh_ (yf_ (pv 1) rfl))))),?_⟩
  refine⟨_,rfl,r,dr,_,rfl,er,rfl,r,q,kd,fn,ds,bl,n,x,t,rfl,R,hb,fun nb p tp=>?_⟩
  obtain⟨dx,et⟩:=tp
  have ne:p≠r:=fun z=>by
   rw[z,er] at et
   have:=congrArg List.length (HO.ins.inj (Option.some.inj et)).2.2
   cases this
  refine⟨_,rfl,r,_,dr,_,_,rfl,er,T.cl_Reader,T.no_Reader_at,rfl,_,_,rfl,rfl,dr,_,er,(by show 6<1000;decide),?_⟩
  exact⟨_,rfl,p,_,dx,_,_,rfl,(by rw[j3_ ne];exact et),T.cl_Token,T.no_Token_value,rfl,hg nb _ ⟨dr,er,rfl⟩⟩
end
end OS
namespace OS
open PySem PySem.Spec L2
open PyProof.Rows hiding St
open Vbemac (Bytes Toks KEYS)
def keyV:List V:=[.str "const", .str "fun", .str "desk", .str "let", .str "for", .str "in", .str "if", .str "then", .str "else", .str "sell", .str "buy", .str "zone", .str "quarter", .str "price", .str "to", .str "amount", .str "block", .str "under", .str "group", .str "sum"]
def qo_:Vbemac.Tok->Bool
 | .word u=>!inV (.str (sb u)) keyV
 |_=>false
inductive spNeed (a:Adr) (vs:List V) (H:Hp) (Q:VK) (E:XK):Prop
 |mk (r q kd fn ds bl:Addr) (n:Nat) (x:Vbemac.Tok×Vbemac.Pos) (t:Toks) (_:vs=[.ref r]) (_:Rdr a H r q kd fn ds bl n (x::t)) (_:(x.1= .bad->Flt a.c_Fault E H 1 x.2)) (_:(x.1≠ .bad->qo_ x.1=false->Flt a.c_Fault E H 2 x.2)) (_:(x.1≠ .bad->qo_ x.1=true->Q .non H)):spNeed a vs H Q E
inductive spAhead (a:Adr) (vs:List V) (H:Hp) (Q:VK) (E:XK):Prop
 |mk (r q kd fn ds bl:Addr) (n:Nat) (x y:Vbemac.Tok×Vbemac.Pos) (t:Toks) (_:vs=[.ref r]) (_:Rdr a H r q kd fn ds bl n (x::y::t)) (_:Q (.bl (isNum y.1)) H):spAhead a vs H Q E
section
variable {P:Program} {w:World} {K:PySem.W.Frag} {mg:Str->Option Value} {base:Heap} {a:Adr}
theorem yq_ (T:Txt K mg a) (XC:XT K a):ju_ P w K mg base (CXF P w) 6 a.f_z29 a.fd_z29 ["self","value"] (uw_ a):=by
 have G_z45:=qt_ (P:=P) (w:=w) (base:=base) T XC
 have G_z44:=qp_ (P:=P) (w:=w) (base:=base) T XC
 refine okX T.F_z29 sc_z29 (fun vs H Q E h=>?_) (fun cdv A outer s H vs Q E hr h=>?_)
 ·obtain⟨r,q,kd,fn,ds,bl,n,x,t,v,rfl,_⟩:=h
  rfl
 ·obtain⟨r,q,kd,fn,ds,bl,n,x,t,v,rfl,R,hb,hf,hg⟩:=h
  obtain⟨dr,er⟩:=R.ins
  refine⟨_,(j2_ (yg_ (wj_ (yc_ (jb_ (pv 0) T.cl_Reader T.me_z45 G_z45 (hr.mono (by decide)) T.b_z45 .nil j6_ (j0_ (pv 1) j5_)))) (j7_ (jd_ (jb_ (pv 0) T.cl_Reader T.me_z44 G_z44 (hr.mono (by decide)) T.b_z44 .nil j6_ (j0_ (vc_ (by rfl) T.g_NOT_HERE) j5_)))) ji_)
    (j7_ (ps_fldaug (pv 0) jr_ in_add))),?_⟩
  refine⟨_,rfl,r,dr,_,rfl,er,rfl,_,rfl,r,q,kd,fn,ds,bl,n,x,t,v,rfl,R,hb,fun nb=>⟨_,rfl,?_⟩⟩
  cases e:isV v x.1 with
  |false=>
   refine j0q_ ?_
   exact⟨_,rfl,r,dr,_,rfl,er,rfl,r,q,kd,fn,ds,bl,n,x,t,2,rfl,R,by rw[if_neg nb];exact hf nb e⟩
  |true=>
   refine ur_ ?_
   exact⟨_,rfl,r,_,dr,_,_,rfl,er,T.cl_Reader,T.no_Reader_at,rfl,_,_,rfl,rfl,dr,_,er,(by show 6<1000;decide),hg nb e _ ⟨dr,er,rfl⟩⟩
theorem ok_at_name (T:Txt K mg a) (XC:XT K a):ju_ P w K mg base (CXF P w) 5 a.f_z20 a.fd_z20 ["self"] (spAsk a qo_):=by
 have G_z19:=v8_ (P:=P) (w:=w) (base:=base) T XC
 refine okX T.F_z20 sc_z20 (fun vs H Q E h=>?_) (fun cdv A outer s H vs Q E hr h=>?_)
 ·obtain⟨r,q,kd,fn,ds,bl,n,x,t,rfl,_⟩:=h
  rfl
 ·obtain⟨r,q,kd,fn,ds,bl,n,x,t,rfl,R,hb,hg⟩:=h
  obtain⟨dr,er⟩:=R.ins
  refine⟨_,(j2_ (jg_ (i:=1) sc_z20.nd rfl (Or.inl rfl) (jn_ (pv 0) T.cl_Reader T.me_z19 G_z19 (hr.mono (by decide)) T.b_z19 .nil j6_))
    (j7_ (jh_ (pe_and (ww_ uk_ (yf_ (pv 1) rfl) (vc_ (by rfl) T.g_WORD) (yk_ _)) (pe_one (ww_ op_notIn_seq (yf_ (pv 1) rfl) (pe_gr (by rfl) T.g_KEY_WORDS) rfl)))))),?_⟩
  refine⟨_,rfl,r,dr,_,rfl,er,rfl,r,q,kd,fn,ds,bl,n,x,t,rfl,R,hb,fun nb p tp=>?_⟩
  obtain⟨dx,et⟩:=tp
  have z:=hg nb
  refine⟨_,rfl,p,_,dx,_,_,rfl,et,T.cl_Token,T.no_Token_kind,rfl,rfl,_,rfl,?_⟩
  rw[uc_]
  cases e:x.1 with
  |word u=>
   rw[e] at z et
   refine j0q_ ?_
   refine⟨_,rfl,p,_,dx,_,_,rfl,et,T.cl_Token,T.no_Token_value,rfl,_,_,rfl, .inr T.t_KEY_WORDS.sq,rfl,rfl,z⟩
  |num m=>rw[e] at z;exact ur_ z
  |sign u=>rw[e] at z;exact ur_ z
  |eof=>rw[e] at z;exact ur_ z
  |bad=>exact absurd e nb
theorem ut_ (T:Txt K mg a) (XC:XT K a):ju_ P w K mg base (CXF P w) 6 a.f_z7 a.fd_z7 ["self"] (spNeed a):=by
 have G_z20:=ok_at_name (P:=P) (w:=w) (base:=base) T XC
 have G_z44:=qp_ (P:=P) (w:=w) (base:=base) T XC
 refine okX T.F_z7 sc_z7 (fun vs H Q E h=>?_) (fun cdv A outer s H vs Q E hr h=>?_)
 ·obtain⟨r,q,kd,fn,ds,bl,n,x,t,rfl,_⟩:=h
  rfl
 ·obtain⟨r,q,kd,fn,ds,bl,n,x,t,rfl,R,hb,hf,hg⟩:=h
  obtain⟨dr,er⟩:=R.ins
  refine⟨_,(j7_ (yg_ (wj_ (yc_ (jn_ (pv 0) T.cl_Reader T.me_z20 G_z20 (hr.mono (by decide)) T.b_z20 .nil j6_))) (j7_ (jd_ (jb_ (pv 0) T.cl_Reader T.me_z44 G_z44 (hr.mono (by decide)) T.b_z44 .nil j6_ (j0_ (vc_ (by rfl) T.g_NOT_HERE) j5_)))) ji_)),?_⟩
  refine⟨_,rfl,r,dr,_,rfl,er,rfl,r,q,kd,fn,ds,bl,n,x,t,rfl,R,hb,fun nb=>⟨_,rfl,?_⟩⟩
  cases e:qo_ x.1 with
  |false=>
   refine j0q_ ?_
   exact⟨_,rfl,r,dr,_,rfl,er,rfl,r,q,kd,fn,ds,bl,n,x,t,2,rfl,R,by rw[if_neg nb];exact hf nb e⟩
  |true=>exact ur_ (hg nb e)
theorem ok_number_follows (T:Txt K mg a):ju_ P w K mg base CX0 1 a.f_z1 a.fd_z1 ["self"] (spAhead a):=by
 refine T.F_z1.ok sc_z1 (fun vs H Q E h=>?_) (fun cdv A outer s H vs Q E hr h=>?_)
 ·obtain⟨r,q,kd,fn,ds,bl,n,x,y,t,rfl,_⟩:=h
  rfl
 ·obtain⟨r,q,kd,fn,ds,bl,n,x,y,t,rfl,R,z⟩:=h
  obtain⟨dr,er⟩:=R.ins
  obtain⟨as,all,h1,h2,h3⟩:=R.toks
  have h4:all[n+1]?=some y:=by
   have:=congrArg (fun z:Toks=>z[1]?) h3
   simpa [Nat.add_comm] using this
  obtain⟨p,e,dx,et⟩:=paired_at h2 h4
  have ep:(as.map V.ref)[n+1]?=some (.ref p):=by rw[List.getElem?_map,e];rfl
  refine⟨_,(j7_ (jh_ (ww_ uk_ (yf_ (wo_ qa_ (yf_ (pv 0) rfl) (uq_ uy_ (yf_ (pv 0) rfl) jr_) (fun _ _=>rfl)) rfl) (vc_ (by rfl) T.g_NUMBER) (yk_ _)))),?_⟩
  refine⟨_,rfl,r,_,dr,_,_,rfl,er,T.cl_Reader,T.no_Reader_tokens,rfl,_,rfl,r,_,dr,_,_,rfl,er,T.cl_Reader,T.no_Reader_at,rfl,_,_,rfl,rfl,q,_,((n+1:Nat):Int), .ref p,rfl,rfl,SqL.of h1,qb_ ep,p,_,dx,_,_,rfl,et,T.cl_Token,T.no_Token_kind,rfl,rfl,?_⟩
  rw[uc_]
  have e:decide (kindI y.1=1)=isNum y.1:=by cases y.1<;>rfl
  rw[e]
  exact z
end
end OS
namespace OS
open PySem PySem.Spec L2
open PyProof.Rows hiding St
open Vbemac (Bytes Toks KEYS)
abbrev nk (u:Bytes):Key:=Sum.inr (sb u)
def has (kvs:List (Key×V)) (u:Bytes):Bool:=(uo_ kvs (nk u)).isSome
inductive spFree (a:Adr) (vs:List V) (H:Hp) (Q:VK) (E:XK):Prop
 |mk (r q kd fn ds bl:Addr) (n:Nat) (x:Vbemac.Tok×Vbemac.Pos) (t:Toks) (kk ff:List (Key×V)) (_:vs=[.ref r]) (_:Rdr a H r q kd fn ds bl n (x::t)) (_:H kd=some (.dK kk)) (_:H fn=some (.dK ff)) (_:(x.1= .bad->Flt a.c_Fault E H 1 x.2)) (_:(x.1≠ .bad->qo_ x.1=false->Flt a.c_Fault E H 2 x.2)) (_:(∀u,x.1= .word u->qo_ x.1=true->(has kk u||has ff u)=true->Flt a.c_Fault E H 4 x.2)) (_:(∀u,x.1= .word u->qo_ x.1=true->(has kk u||has ff u)=false-> ∀H',past a H r q kd fn ds bl n H'->Q (.str (sb u)) H')):spFree a vs H Q E
inductive spOther (a:Adr) (vs:List V) (H:Hp) (Q:VK) (E:XK):Prop
 |mk (r q kd fn ds bl g:Addr) (n:Nat) (x:Vbemac.Tok×Vbemac.Pos) (t:Toks) (gg:List (Key×V)) (_:vs=[.ref r, .ref g]) (_:Rdr a H r q kd fn ds bl n (x::t)) (_:H g=some (.dK gg)) (_:(x.1= .bad->Flt a.c_Fault E H 1 x.2)) (_:(x.1≠ .bad->qo_ x.1=false->Flt a.c_Fault E H 2 x.2)) (_:(∀u,x.1= .word u->qo_ x.1=true->has gg u=true->Flt a.c_Fault E H 4 x.2)) (_:(∀u,x.1= .word u->qo_ x.1=true->has gg u=false-> ∀H',past a H r q kd fn ds bl n H'->Q (.str (sb u)) H')):spOther a vs H Q E
inductive spLearn (a:Adr) (vs:List V) (H:Hp) (Q:VK) (_E:XK):Prop
 |mk (r dr q kd fn ds bl:Addr) (n:Nat) (u:Bytes) (kk:List (Key×V)) (_:vs=[.ref r, .str (sb u)]) (_:H r=some (.ins a.c_Reader dr (rdF q kd fn ds bl n))) (_:H kd=some (.dK kk)) (_:kk.length<sizeLine) (_:Q .non (upd H kd (.dK (j0l_ kk (nk u) (.bl true))))):spLearn a vs H Q _E
inductive spForget (a:Adr) (vs:List V) (H:Hp) (Q:VK) (_E:XK):Prop
 |mk (r dr q kd fn ds bl:Addr) (n:Nat) (u:Bytes) (kk:List (Key×V)) (_:vs=[.ref r, .str (sb u)]) (_:H r=some (.ins a.c_Reader dr (rdF q kd fn ds bl n))) (_:H kd=some (.dK kk)) (_:has kk u=true) (_:Q .non (upd H kd (.dK (wt_ kk (nk u))))):spForget a vs H Q _E
section
variable {P:Program} {w:World} {K:PySem.W.Frag} {mg:Str->Option Value} {base:Heap} {a:Adr}
theorem j0j_ (T:Txt K mg a):ju_ P w K mg base CX0 1 a.f_z38 a.fd_z38 ["self","name"] (spLearn a):=by
 refine T.F_z38.ok sc_z38 (fun vs H Q E h=>?_) (fun cdv A outer s H vs Q E hr h=>?_)
 ·obtain⟨r,dr,q,kd,fn,ds,bl,n,u,kk,rfl,_⟩:=h
  rfl
 ·obtain⟨r,dr,q,kd,fn,ds,bl,n,u,kk,rfl,er,ek,lk,hq⟩:=h
  refine⟨_,(j7_ (ps_dput (j16_ hr) (yf_ (pv 0) rfl) (pv 1) pe_bl rfl)),?_⟩
  exact⟨_,rfl,r,_,dr,_,_,rfl,er,T.cl_Reader,T.no_Reader_known,rfl,_,rfl,kd,_,rfl,DPut.k (k:=nk u) ek lk,hq⟩
theorem j09_ (T:Txt K mg a):ju_ P w K mg base CX0 1 a.f_z30 a.fd_z30 ["self","name"] (spForget a):=by
 refine T.F_z30.ok sc_z30 (fun vs H Q E h=>?_) (fun cdv A outer s H vs Q E hr h=>?_)
 ·obtain⟨r,dr,q,kd,fn,ds,bl,n,u,kk,rfl,_⟩:=h
  rfl
 ·obtain⟨r,dr,q,kd,fn,ds,bl,n,u,kk,rfl,er,ek,hk,hq⟩:=h
  obtain⟨v,ev⟩:=Option.isSome_iff_exists.mp hk
  refine⟨_,(j7_ (jd_ (pe_dpop1 (yf_ (pv 0) rfl) (pv 1) ⟨rfl,rfl,rfl,rfl⟩))),?_⟩
  exact⟨_,rfl,r,_,dr,_,_,rfl,er,T.cl_Reader,T.no_Reader_known,rfl,kd,rfl, .inl ⟨kk, .inl ek⟩,_,rfl,kk,nk u,v,ek,rfl,ev,hq⟩
theorem yh_ (T:Txt K mg a) (XC:XT K a):ju_ P w K mg base (CXF P w) 7 a.f_z2 a.fd_z2 ["self"] (spFree a):=by
 have G_z7:=ut_ (P:=P) (w:=w) (base:=base) T XC
 have G_z19:=v8_ (P:=P) (w:=w) (base:=base) T XC
 have G_z44:=qp_ (P:=P) (w:=w) (base:=base) T XC
 have G_z46:=wr_ (P:=P) (w:=w) (base:=base) T XC
 refine okX T.F_z2 sc_z2 (fun vs H Q E h=>?_) (fun cdv A outer s H vs Q E hr h=>?_)
 ·obtain⟨r,q,kd,fn,ds,bl,n,x,t,kk,ff,rfl,_⟩:=h
  rfl
 ·obtain⟨r,q,kd,fn,ds,bl,n,⟨x,xp⟩,t,kk,ff,rfl,R,ek,ef,hb,hn,h4,hg⟩:=h
  obtain⟨dr,er⟩:=R.ins
  refine⟨_,(j2_ (jd_ (jn_ (pv 0) T.cl_Reader T.me_z7 G_z7 (hr.mono (by decide)) T.b_z7 .nil j6_))
    (j2_ (jg_ (i:=1) sc_z2.nd rfl (Or.inl rfl) (yf_ (jn_ (pv 0) T.cl_Reader T.me_z19 G_z19 (hr.mono (by decide)) T.b_z19 .nil j6_) rfl))
    (j2_ (yg_ (pw_or (j17_ (pc_din (j16_ hr) (pv 1) (yf_ (pv 0) rfl))) (pw_or1 (j17_ (pc_din (j16_ hr) (pv 1) (yf_ (pv 0) rfl))))).pt (j7_ (jd_ (jb_ (pv 0) T.cl_Reader T.me_z44 G_z44 (hr.mono (by decide)) T.b_z44 .nil j6_ (j0_ (vc_ (by rfl) T.g_NOT_FREE) j5_)))) ji_)
    (j7_ (jh_ (jn_ (pv 0) T.cl_Reader T.me_z46 G_z46 (hr.mono (by decide)) T.b_z46 .nil j6_)))))),?_⟩
  refine⟨_,rfl,r,dr,_,rfl,er,rfl,r,q,kd,fn,ds,bl,n,(x,xp),t,rfl,R,hb,hn,fun nb e=>?_⟩
  cases x with
  |word u=>
   refine⟨_,rfl,r,dr,_,rfl,er,rfl,r,q,kd,fn,ds,bl,n,(.word u,xp),t,rfl,R,hb,fun _ p ⟨dx,et⟩=>⟨p,_,dx,_,_,rfl,et,T.cl_Token,T.no_Token_value,rfl,?_⟩⟩
   have bad4:(has kk u||has ff u)=true->Flt a.c_Fault E H 4 xp:=h4 u rfl e
   have good:(has kk u||has ff u)=false-> ∀H',past a H r q kd fn ds bl n H'->Q (.str (sb u)) H':=hg u rfl e
   refine⟨_,rfl,_,rfl,r,_,dr,_,_,rfl,er,T.cl_Reader,T.no_Reader_known,rfl,kd,_,rfl,DGet.k (k:=nk u) ek,_,rfl,yt_ (fun e1=>?_) fun e1=>?_⟩
   ·refine j0q_ ?_
    refine⟨_,rfl,r,dr,_,rfl,er,rfl,r,q,kd,fn,ds,bl,n,(.word u,xp),t,4,rfl,R,?_⟩
    rw[if_neg nb]
    exact bad4 (by unfold has;rw[e1];rfl)
   ·refine⟨_,rfl,_,rfl,r,_,dr,_,_,rfl,er,T.cl_Reader,T.no_Reader_functions,rfl,fn,_,rfl,DGet.k (k:=nk u) ef,_,rfl,yt_ (fun e2=>?_) fun e2=>?_⟩
    ·refine⟨_,rfl,r,dr,_,rfl,er,rfl,r,q,kd,fn,ds,bl,n,(.word u,xp),t,4,rfl,R,?_⟩
     rw[if_neg nb]
     exact bad4 (by unfold has;rw[e1,e2];rfl)
    ·exact⟨_,rfl,r,dr,_,rfl,er,rfl,r,q,kd,fn,ds,bl,n,(.word u,xp),t,rfl,R,hb,fun _=>good (by unfold has;rw[e1,e2];rfl)⟩
  |num m=>cases e
  |sign u=>cases e
  |eof=>cases e
  |bad=>exact absurd rfl nb
end
end OS
namespace OS
open PySem PySem.Spec L2
open PyProof.Rows hiding St
open Vbemac (Bytes Toks)
section
variable {P:Program} {w:World} {K:PySem.W.Frag} {mg:Str->Option Value} {base:Heap} {a:Adr}
theorem ok_skips (T:Txt K mg a) (XC:XT K a):ju_ P w K mg base (CXF P w) 6 a.f_z37 a.fd_z37 ["self","value"] (spSkips a):=by
 have G_z45:=qt_ (P:=P) (w:=w) (base:=base) T XC
 refine okX T.F_z37 sc_z37 (fun vs H Q E h=>?_) (fun cdv A outer s H vs Q E hr h=>?_)
 ·obtain⟨r,q,kd,fn,ds,bl,n,x,t,v,rfl,_⟩:=h
  rfl
 ·obtain⟨r,q,kd,fn,ds,bl,n,x,t,v,rfl,R,hb,hf,hg⟩:=h
  obtain⟨dr,er⟩:=R.ins
  refine⟨_,(j2_ (yg_ (wj_ (yc_ (jb_ (pv 0) T.cl_Reader T.me_z45 G_z45 (hr.mono (by decide)) T.b_z45 .nil j6_ (j0_ (pv 1) j5_)))) (j7_ (jh_ pe_bl)) ji_)
    (j2_ (ps_fldaug (pv 0) jr_ in_add)
    (j7_ (jh_ pe_bl)))),?_⟩
  refine⟨_,rfl,r,dr,_,rfl,er,rfl,_,rfl,r,q,kd,fn,ds,bl,n,x,t,v,rfl,R,hb,fun nb=>⟨_,rfl,?_⟩⟩
  cases e:isV v x.1 with
  |false=>exact j0q_ (hf nb e)
  |true=>
   refine ur_ ?_
   exact⟨_,rfl,r,_,dr,_,_,rfl,er,T.cl_Reader,T.no_Reader_at,rfl,_,_,rfl,rfl,dr,_,er,(by show 6<1000;decide),hg nb e _ ⟨dr,er,rfl⟩⟩
theorem um_ (T:Txt K mg a) (XC:XT K a):ju_ P w K mg base (CXF P w) 7 a.f_z0 a.fd_z0 ["self","given"] (spOther a):=by
 have G_z7:=ut_ (P:=P) (w:=w) (base:=base) T XC
 have G_z19:=v8_ (P:=P) (w:=w) (base:=base) T XC
 have G_z44:=qp_ (P:=P) (w:=w) (base:=base) T XC
 have G_z46:=wr_ (P:=P) (w:=w) (base:=base) T XC
 refine okX T.F_z0 sc_z0 (fun vs H Q E h=>?_) (fun cdv A outer s H vs Q E hr h=>?_)
 ·obtain⟨r,q,kd,fn,ds,bl,g,n,x,t,gg,rfl,_⟩:=h
  rfl
 ·obtain⟨r,q,kd,fn,ds,bl,g,n,⟨x,xp⟩,t,gg,rfl,R,eg,hb,hn,h4,hg⟩:=h
  obtain⟨dr,er⟩:=R.ins
  refine⟨_,(j2_ (jd_ (jn_ (pv 0) T.cl_Reader T.me_z7 G_z7 (hr.mono (by decide)) T.b_z7 .nil j6_))
    (j2_ (yg_ (j17_ (pc_din (j16_ hr) (yf_ (jn_ (pv 0) T.cl_Reader T.me_z19 G_z19 (hr.mono (by decide)) T.b_z19 .nil j6_) rfl) (pv 1))) (j7_ (jd_ (jb_ (pv 0) T.cl_Reader T.me_z44 G_z44 (hr.mono (by decide)) T.b_z44 .nil j6_ (j0_ (vc_ (by rfl) T.g_NOT_FREE) j5_)))) ji_)
    (j7_ (jh_ (jn_ (pv 0) T.cl_Reader T.me_z46 G_z46 (hr.mono (by decide)) T.b_z46 .nil j6_))))),?_⟩
  refine⟨_,rfl,r,dr,_,rfl,er,rfl,r,q,kd,fn,ds,bl,n,(x,xp),t,rfl,R,hb,hn,fun nb e=>?_⟩
  cases x with
  |word u=>
   refine⟨_,rfl,r,dr,_,rfl,er,rfl,r,q,kd,fn,ds,bl,n,(.word u,xp),t,rfl,R,hb,fun _ p ⟨dx,et⟩=>⟨p,_,dx,_,_,rfl,et,T.cl_Token,T.no_Token_value,rfl,?_⟩⟩
   refine⟨_,rfl,g,_,rfl,DGet.k (k:=nk u) eg,_,rfl,yt_ (fun e1=>?_) fun e1=>?_⟩
   ·refine⟨_,rfl,r,dr,_,rfl,er,rfl,r,q,kd,fn,ds,bl,n,(.word u,xp),t,4,rfl,R,?_⟩
    rw[if_neg nb]
    exact h4 u rfl e e1
   ·exact⟨_,rfl,r,dr,_,rfl,er,rfl,r,q,kd,fn,ds,bl,n,(.word u,xp),t,rfl,R,hb,fun _=>hg u rfl e e1⟩
  |num m=>cases e
  |sign u=>cases e
  |eof=>cases e
  |bad=>exact absurd rfl nb
end
end OS
namespace OS
open PySem PySem.Spec L2
open PyProof.Rows hiding St
open Vbemac (Bytes Toks KEYS)
structure KdK (P:Program) (w:World) (K:PySem.W.Frag) (a:Addr) (kvs:List (Key×V)):Prop where
 at_: ∃vs:List (Key×Value),(∀h:Heap,K.In h->h.DictOf (ym_ P w) a vs)/\KV kvs vs
 len:kvs.length<=sizeLine
 no:(a == sysModules)=false
theorem call_kdict {X:Cx} :CallR X (.type "dict") (fun xs H Q=> ∃a kvs,xs=[.ref a]/\KdK X.prog X.w X.K a kvs/\ ∀p,H p=none->Q (.ref p) (upd H p (.dK kvs))):=by
 intro pins s σ H xs us Q I rv h
 obtain⟨a,kvs,rfl,kd,q⟩:=h
 obtain⟨u,rfl,ru⟩:=rv.one
 obtain rfl:u=Value.ref a:=ru
 obtain⟨vs,dd,rel⟩:=kd.at_
 refine kt_call_dict kd.no (dd _ I.kIn) (by rw[<-rel.length];exact kd.len) fun h' dd' hs=>?_
 refine⟨.ref s.heap.objs.size,_,I.laid (a:=s.heap.objs.size) (o:= .dK kvs) (t':=s.toks) (fun b q hq=>?_) (Nat.le_refl _) (dk_new kd.len (beq_eq_false_iff_ne.mpr (Ne.symm (Nat.ne_of_lt I.big))) rel dd'),rfl,q _ (I.hok.fresh (Nat.le_refl _))⟩
 exact(hs.2 b (Nat.ne_of_lt (Heap.lt_size hq))).trans (Heap.get?_push_of_some _ hq)
def ub_:List (Key×V):=[(.inr "min", .int 2),(.inr "max", .int 2),(.inr "abs", .int 1)]
structure NewR (a:Adr) (H H':Hp) (r dr q kd fn ds bl:Addr):Prop where
 ins:H' r=some (.ins a.c_Reader dr (rdF q kd fn ds bl 0))
 kd0:H kd=none
 fn0:H fn=none
 ds0:H ds=none
 bl0:H bl=none
 kd1:H' kd=some (.dK [])
 fn1:H' fn=some (.dK ub_)
 ds1:H' ds=some (.dK [])
 bl1:H' bl=some (.dK [])
 dif:kd≠fn/\kd≠ds/\kd≠bl/\fn≠ds/\fn≠bl/\ds≠bl
 kept: ∀b o,H b=some o->b≠r->H' b=some o
inductive spReader (a:Adr) (vs:List V) (H:Hp) (Q:VK) (_E:XK):Prop
 |mk (r dr q:Addr) (_:vs=[.ref r, .ref q]) (_:H r=some (.ins a.c_Reader dr [])) (_: ∀(H':Hp) (kd fn ds bl:Addr),NewR a H H' r dr q kd fn ds bl->Q .non H'):spReader a vs H Q _E
theorem yo_ {H:Hp} {a p:Addr} {o:HO} (h:upd H a o p=none):p≠a/\H p=none:=by
 by_cases e:p=a
 ·rw[e,j4_] at h;cases h
 ·rw[j3_ e] at h;exact⟨e,h⟩
section
variable {P:Program} {w:World} {K:PySem.W.Frag} {mg:Str->Option Value} {base:Heap} {a:Adr}
theorem ok_Reader_init (T:Txt K mg a) (kF:KdK P w K a.k_FIRST_FUNCTIONS ub_):ju_ P w K mg base CX0 1 a.f_z10 a.fd_z10 ["self","tokens"] (spReader a):=by
 refine T.F_z10.ok sc_z10 (fun vs H Q E h=>?_) (fun cdv A outer s H vs Q E hr h=>?_)
 ·obtain⟨r,dr,q,rfl,_⟩:=h
  rfl
 ·obtain⟨r,dr,q,rfl,er,hq⟩:=h
  refine⟨_,(j2_ (jq_ (pv 0) (pv 1) rfl)
    (j2_ (jq_ (pv 0) jr_ rfl)
    (j2_ (jq_ (pv 0) pe_dnewK rfl)
    (j2_ (jq_ (pv 0) (j1e_ call_kdict (by rfl) T.n_dict boot_dict (j0_ (pe_gr (by rfl) T.g_FIRST_FUNCTIONS) j5_)) rfl)
    (j2_ (jq_ (pv 0) pe_dnewK rfl)
    (j7_ (jq_ (pv 0) pe_dnewK rfl))))))),?_⟩
  refine⟨_,rfl,_,rfl,r,_,dr,_,rfl,er,T.cl_Reader,T.no_Reader_tokens,(by show 0<1000;decide),?_⟩
  refine⟨_,rfl,r,_,dr,_,rfl,j4_,T.cl_Reader,T.no_Reader_at,(by show 1<1000;decide),?_⟩
  intro kd hkd
  obtain⟨n1,hkd⟩:=yo_ hkd
  obtain⟨_,hkd⟩:=yo_ hkd
  refine⟨_,rfl,r,_,dr,_,rfl,(by rw[j3_ n1.symm,j4_]),T.cl_Reader,T.no_Reader_known,(by show 2<1000;decide),?_⟩
  refine⟨a.k_FIRST_FUNCTIONS,ub_,rfl,kF,fun fn hfn=>?_⟩
  obtain⟨n2,hfn⟩:=yo_ hfn
  obtain⟨n2k,hfn⟩:=yo_ hfn
  obtain⟨_,hfn⟩:=yo_ hfn
  obtain⟨_,hfn⟩:=yo_ hfn
  refine⟨_,rfl,r,_,dr,_,rfl,(by rw[j3_ n2.symm,j4_]),T.cl_Reader,T.no_Reader_functions,(by show 3<1000;decide),?_⟩
  intro ds hds
  obtain⟨n3,hds⟩:=yo_ hds
  obtain⟨n3f,hds⟩:=yo_ hds
  obtain⟨_,hds⟩:=yo_ hds
  obtain⟨n3k,hds⟩:=yo_ hds
  obtain⟨_,hds⟩:=yo_ hds
  obtain⟨_,hds⟩:=yo_ hds
  refine⟨_,rfl,r,_,dr,_,rfl,(by rw[j3_ n3.symm,j4_]),T.cl_Reader,T.no_Reader_desks,(by show 4<1000;decide),?_⟩
  intro bl hbl
  obtain⟨n4,hbl⟩:=yo_ hbl
  obtain⟨n4d,hbl⟩:=yo_ hbl
  obtain⟨_,hbl⟩:=yo_ hbl
  obtain⟨n4f,hbl⟩:=yo_ hbl
  obtain⟨_,hbl⟩:=yo_ hbl
  obtain⟨n4k,hbl⟩:=yo_ hbl
  obtain⟨_,hbl⟩:=yo_ hbl
  obtain⟨_,hbl⟩:=yo_ hbl
  refine⟨_,rfl,r,_,dr,_,rfl,(by rw[j3_ n4.symm,j4_]),T.cl_Reader,T.no_Reader_blocks,(by show 5<1000;decide),?_⟩
  refine hq _ kd fn ds bl ⟨j4_,hkd,hfn,hds,hbl,?_,?_,?_,?_,⟨n2k.symm,n3k.symm,n4k.symm,n3f.symm,n4f.symm,n4d.symm⟩,fun b o e nb=>?_⟩
  ·rw[j3_ n1,j3_ n4k.symm,j3_ n1,j3_ n3k.symm,j3_ n1,j3_ n2k.symm,j3_ n1,j4_]
  ·rw[j3_ n2,j3_ n4f.symm,j3_ n2,j3_ n3f.symm,j3_ n2,j4_]
  ·rw[j3_ n3,j3_ n4d.symm,j3_ n3,j4_]
  ·rw[j3_ n4,j4_]
  ·rw[j3_ nb,j3_ (jf_ e hbl),j3_ nb,j3_ (jf_ e hds),j3_ nb,j3_ (jf_ e hfn),j3_ nb,j3_ (jf_ e hkd),j3_ nb,j3_ nb]
   exact e
end
end OS
namespace OS
open PySem PySem.Spec L2
open PyProof.Rows hiding St
inductive spNew1 (C:Addr) (f0:Str) (vs:List V) (H:Hp) (Q:VK) (_E:XK):Prop
 |mk (p dx:Addr) (v0:V) (_:vs=[.ref p,v0]) (_:H p=some (.ins C dx [])) (_: ∀H':Hp,H' p=some (.ins C dx [(f0,v0)])->(∀b o,H b=some o->b≠p->H' b=some o)->Q .non H'):spNew1 C f0 vs H Q _E
inductive spNew2 (C:Addr) (f0 f1:Str) (vs:List V) (H:Hp) (Q:VK) (_E:XK):Prop
 |mk (p dx:Addr) (v0 v1:V) (_:vs=[.ref p,v0,v1]) (_:H p=some (.ins C dx [])) (_: ∀H':Hp,H' p=some (.ins C dx [(f0,v0),(f1,v1)])->(∀b o,H b=some o->b≠p->H' b=some o)->Q .non H'):spNew2 C f0 f1 vs H Q _E
inductive spNew3 (C:Addr) (f0 f1 f2:Str) (vs:List V) (H:Hp) (Q:VK) (_E:XK):Prop
 |mk (p dx:Addr) (v0 v1 v2:V) (_:vs=[.ref p,v0,v1,v2]) (_:H p=some (.ins C dx [])) (_: ∀H':Hp,H' p=some (.ins C dx [(f0,v0),(f1,v1),(f2,v2)])->(∀b o,H b=some o->b≠p->H' b=some o)->Q .non H'):spNew3 C f0 f1 f2 vs H Q _E
inductive spNew4 (C:Addr) (f0 f1 f2 f3:Str) (vs:List V) (H:Hp) (Q:VK) (_E:XK):Prop
 |mk (p dx:Addr) (v0 v1 v2 v3:V) (_:vs=[.ref p,v0,v1,v2,v3]) (_:H p=some (.ins C dx [])) (_: ∀H':Hp,H' p=some (.ins C dx [(f0,v0),(f1,v1),(f2,v2),(f3,v3)])->(∀b o,H b=some o->b≠p->H' b=some o)->Q .non H'):spNew4 C f0 f1 f2 f3 vs H Q _E
inductive spNew6 (C:Addr) (f0 f1 f2 f3 f4 f5:Str) (vs:List V) (H:Hp) (Q:VK) (_E:XK):Prop
 |mk (p dx:Addr) (v0 v1 v2 v3 v4 v5:V) (_:vs=[.ref p,v0,v1,v2,v3,v4,v5]) (_:H p=some (.ins C dx [])) (_: ∀H':Hp,H' p=some (.ins C dx [(f0,v0),(f1,v1),(f2,v2),(f3,v3),(f4,v4),(f5,v5)])->(∀b o,H b=some o->b≠p->H' b=some o)->Q .non H'):spNew6 C f0 f1 f2 f3 f4 f5 vs H Q _E
inductive spNew7 (C:Addr) (f0 f1 f2 f3 f4 f5 f6:Str) (vs:List V) (H:Hp) (Q:VK) (_E:XK):Prop
 |mk (p dx:Addr) (v0 v1 v2 v3 v4 v5 v6:V) (_:vs=[.ref p,v0,v1,v2,v3,v4,v5,v6]) (_:H p=some (.ins C dx [])) (_: ∀H':Hp,H' p=some (.ins C dx [(f0,v0),(f1,v1),(f2,v2),(f3,v3),(f4,v4),(f5,v5),(f6,v6)])->(∀b o,H b=some o->b≠p->H' b=some o)->Q .non H'):spNew7 C f0 f1 f2 f3 f4 f5 f6 vs H Q _E
section
variable {P:Program} {w:World} {K:PySem.W.Frag} {mg:Str->Option Value} {base:Heap} {a:Adr}
theorem ok_Number_init (T:Txt K mg a):ju_ P w K mg base CX0 1 a.f_z8 a.fd_z8 ["self","worth"] (spNew1 a.c_Number "worth"):=by
 refine T.F_z8.ok sc_z8 (fun vs H Q E h=>?_) (fun cdv A outer s H vs Q E hr h=>?_)
 ·obtain⟨p,dx,v0,rfl,_⟩:=h
  rfl
 ·obtain⟨p,dx,v0,rfl,hp,q⟩:=h
  refine⟨_,(j7_ (jq_ (pv 0) (pv 1) rfl)),?_⟩
  refine⟨_,rfl,_,rfl,p,_,dx,_,rfl,hp,T.cl_Number,T.no_Number_worth,(by show 0<1000;decide),?_⟩
  refine q _ j4_ fun b o e hb=>?_
  rw[j3_ hb]
  exact e
theorem ok_Name_init (T:Txt K mg a):ju_ P w K mg base CX0 1 a.f_z23 a.fd_z23 ["self","name"] (spNew1 a.c_Name "name"):=by
 refine T.F_z23.ok sc_z23 (fun vs H Q E h=>?_) (fun cdv A outer s H vs Q E hr h=>?_)
 ·obtain⟨p,dx,v0,rfl,_⟩:=h
  rfl
 ·obtain⟨p,dx,v0,rfl,hp,q⟩:=h
  refine⟨_,(j7_ (jq_ (pv 0) (pv 1) rfl)),?_⟩
  refine⟨_,rfl,_,rfl,p,_,dx,_,rfl,hp,T.cl_Name,T.no_Name_name,(by show 0<1000;decide),?_⟩
  refine q _ j4_ fun b o e hb=>?_
  rw[j3_ hb]
  exact e
theorem ok_Call_init (T:Txt K mg a):ju_ P w K mg base CX0 1 a.f_z24 a.fd_z24 ["self","name","arguments"] (spNew2 a.c_Call "name" "arguments"):=by
 refine T.F_z24.ok sc_z24 (fun vs H Q E h=>?_) (fun cdv A outer s H vs Q E hr h=>?_)
 ·obtain⟨p,dx,v0,v1,rfl,_⟩:=h
  rfl
 ·obtain⟨p,dx,v0,v1,rfl,hp,q⟩:=h
  refine⟨_,(j2_ (jq_ (pv 0) (pv 1) rfl) (j7_ (jq_ (pv 0) (pv 2) rfl))),?_⟩
  refine⟨_,rfl,_,rfl,p,_,dx,_,rfl,hp,T.cl_Call,T.no_Call_name,(by show 0<1000;decide),?_⟩
  refine⟨_,rfl,_,rfl,p,_,dx,_,rfl,j4_,T.cl_Call,T.no_Call_arguments,(by show 1<1000;decide),?_⟩
  refine q _ j4_ fun b o e hb=>?_
  rw[j3_ hb,j3_ hb]
  exact e
theorem ok_Unary_init (T:Txt K mg a):ju_ P w K mg base CX0 1 a.f_z13 a.fd_z13 ["self","sign","operand"] (spNew2 a.c_Unary "sign" "operand"):=by
 refine T.F_z13.ok sc_z13 (fun vs H Q E h=>?_) (fun cdv A outer s H vs Q E hr h=>?_)
 ·obtain⟨p,dx,v0,v1,rfl,_⟩:=h
  rfl
 ·obtain⟨p,dx,v0,v1,rfl,hp,q⟩:=h
  refine⟨_,(j2_ (jq_ (pv 0) (pv 1) rfl) (j7_ (jq_ (pv 0) (pv 2) rfl))),?_⟩
  refine⟨_,rfl,_,rfl,p,_,dx,_,rfl,hp,T.cl_Unary,T.no_Unary_sign,(by show 0<1000;decide),?_⟩
  refine⟨_,rfl,_,rfl,p,_,dx,_,rfl,j4_,T.cl_Unary,T.no_Unary_operand,(by show 1<1000;decide),?_⟩
  refine q _ j4_ fun b o e hb=>?_
  rw[j3_ hb,j3_ hb]
  exact e
theorem j1a_ (T:Txt K mg a):ju_ P w K mg base CX0 1 a.f_z14 a.fd_z14 ["self","strength","operands","signs"] (spNew3 a.c_Chain "strength" "operands" "signs"):=by
 refine T.F_z14.ok sc_z14 (fun vs H Q E h=>?_) (fun cdv A outer s H vs Q E hr h=>?_)
 ·obtain⟨p,dx,v0,v1,v2,rfl,_⟩:=h
  rfl
 ·obtain⟨p,dx,v0,v1,v2,rfl,hp,q⟩:=h
  refine⟨_,(j2_ (jq_ (pv 0) (pv 1) rfl) (j2_ (jq_ (pv 0) (pv 2) rfl) (j7_ (jq_ (pv 0) (pv 3) rfl)))),?_⟩
  refine⟨_,rfl,_,rfl,p,_,dx,_,rfl,hp,T.cl_Chain,T.no_Chain_strength,(by show 0<1000;decide),?_⟩
  refine⟨_,rfl,_,rfl,p,_,dx,_,rfl,j4_,T.cl_Chain,T.no_Chain_operands,(by show 1<1000;decide),?_⟩
  refine⟨_,rfl,_,rfl,p,_,dx,_,rfl,j4_,T.cl_Chain,T.no_Chain_signs,(by show 2<1000;decide),?_⟩
  refine q _ j4_ fun b o e hb=>?_
  rw[j3_ hb,j3_ hb,j3_ hb]
  exact e
theorem ok_Choice_init (T:Txt K mg a):ju_ P w K mg base CX0 1 a.f_z9 a.fd_z9 ["self","condition","chosen","otherwise"] (spNew3 a.c_Choice "condition" "chosen" "otherwise"):=by
 refine T.F_z9.ok sc_z9 (fun vs H Q E h=>?_) (fun cdv A outer s H vs Q E hr h=>?_)
 ·obtain⟨p,dx,v0,v1,v2,rfl,_⟩:=h
  rfl
 ·obtain⟨p,dx,v0,v1,v2,rfl,hp,q⟩:=h
  refine⟨_,(j2_ (jq_ (pv 0) (pv 1) rfl) (j2_ (jq_ (pv 0) (pv 2) rfl) (j7_ (jq_ (pv 0) (pv 3) rfl)))),?_⟩
  refine⟨_,rfl,_,rfl,p,_,dx,_,rfl,hp,T.cl_Choice,T.no_Choice_condition,(by show 0<1000;decide),?_⟩
  refine⟨_,rfl,_,rfl,p,_,dx,_,rfl,j4_,T.cl_Choice,T.no_Choice_chosen,(by show 1<1000;decide),?_⟩
  refine⟨_,rfl,_,rfl,p,_,dx,_,rfl,j4_,T.cl_Choice,T.no_Choice_otherwise,(by show 2<1000;decide),?_⟩
  refine q _ j4_ fun b o e hb=>?_
  rw[j3_ hb,j3_ hb,j3_ hb]
  exact e
theorem ok_Sum_init (T:Txt K mg a):ju_ P w K mg base CX0 1 a.f_z33 a.fd_z33 ["self","name","first","last","body"] (spNew4 a.c_Sum "name" "first" "last" "body"):=by
 refine T.F_z33.ok sc_z33 (fun vs H Q E h=>?_) (fun cdv A outer s H vs Q E hr h=>?_)
 ·obtain⟨p,dx,v0,v1,v2,v3,rfl,_⟩:=h
  rfl
 ·obtain⟨p,dx,v0,v1,v2,v3,rfl,hp,q⟩:=h
  refine⟨_,(j2_ (jq_ (pv 0) (pv 1) rfl) (j2_ (jq_ (pv 0) (pv 2) rfl) (j2_ (jq_ (pv 0) (pv 3) rfl) (j7_ (jq_ (pv 0) (pv 4) rfl))))),?_⟩
  refine⟨_,rfl,_,rfl,p,_,dx,_,rfl,hp,T.cl_Sum,T.no_Sum_name,(by show 0<1000;decide),?_⟩
  refine⟨_,rfl,_,rfl,p,_,dx,_,rfl,j4_,T.cl_Sum,T.no_Sum_first,(by show 1<1000;decide),?_⟩
  refine⟨_,rfl,_,rfl,p,_,dx,_,rfl,j4_,T.cl_Sum,T.no_Sum_last,(by show 2<1000;decide),?_⟩
  refine⟨_,rfl,_,rfl,p,_,dx,_,rfl,j4_,T.cl_Sum,T.no_Sum_body,(by show 3<1000;decide),?_⟩
  refine q _ j4_ fun b o e hb=>?_
  rw[j3_ hb,j3_ hb,j3_ hb,j3_ hb]
  exact e
theorem ok_Let_init (T:Txt K mg a):ju_ P w K mg base CX0 1 a.f_z34 a.fd_z34 ["self","name","exp"] (spNew2 a.c_Let "name" "exp"):=by
 refine T.F_z34.ok sc_z34 (fun vs H Q E h=>?_) (fun cdv A outer s H vs Q E hr h=>?_)
 ·obtain⟨p,dx,v0,v1,rfl,_⟩:=h
  rfl
 ·obtain⟨p,dx,v0,v1,rfl,hp,q⟩:=h
  refine⟨_,(j2_ (jq_ (pv 0) (pv 1) rfl) (j7_ (jq_ (pv 0) (pv 2) rfl))),?_⟩
  refine⟨_,rfl,_,rfl,p,_,dx,_,rfl,hp,T.cl_Let,T.no_Let_name,(by show 0<1000;decide),?_⟩
  refine⟨_,rfl,_,rfl,p,_,dx,_,rfl,j4_,T.cl_Let,T.no_Let_exp,(by show 1<1000;decide),?_⟩
  refine q _ j4_ fun b o e hb=>?_
  rw[j3_ hb,j3_ hb]
  exact e
theorem ok_For_init (T:Txt K mg a):ju_ P w K mg base CX0 1 a.f_z35 a.fd_z35 ["self","name","first","last","statements"] (spNew4 a.c_For "name" "first" "last" "statements"):=by
 refine T.F_z35.ok sc_z35 (fun vs H Q E h=>?_) (fun cdv A outer s H vs Q E hr h=>?_)
 ·obtain⟨p,dx,v0,v1,v2,v3,rfl,_⟩:=h
  rfl
 ·obtain⟨p,dx,v0,v1,v2,v3,rfl,hp,q⟩:=h
  refine⟨_,(j2_ (jq_ (pv 0) (pv 1) rfl) (j2_ (jq_ (pv 0) (pv 2) rfl) (j2_ (jq_ (pv 0) (pv 3) rfl) (j7_ (jq_ (pv 0) (pv 4) rfl))))),?_⟩
  refine⟨_,rfl,_,rfl,p,_,dx,_,rfl,hp,T.cl_For,T.no_For_name,(by show 0<1000;decide),?_⟩
  refine⟨_,rfl,_,rfl,p,_,dx,_,rfl,j4_,T.cl_For,T.no_For_first,(by show 1<1000;decide),?_⟩
  refine⟨_,rfl,_,rfl,p,_,dx,_,rfl,j4_,T.cl_For,T.no_For_last,(by show 2<1000;decide),?_⟩
  refine⟨_,rfl,_,rfl,p,_,dx,_,rfl,j4_,T.cl_For,T.no_For_statements,(by show 3<1000;decide),?_⟩
  refine q _ j4_ fun b o e hb=>?_
  rw[j3_ hb,j3_ hb,j3_ hb,j3_ hb]
  exact e
theorem ok_If_init (T:Txt K mg a):ju_ P w K mg base CX0 1 a.f_z41 a.fd_z41 ["self","condition","statements","else_statements"] (spNew3 a.c_If "condition" "statements" "else_statements"):=by
 refine T.F_z41.ok sc_z41 (fun vs H Q E h=>?_) (fun cdv A outer s H vs Q E hr h=>?_)
 ·obtain⟨p,dx,v0,v1,v2,rfl,_⟩:=h
  rfl
 ·obtain⟨p,dx,v0,v1,v2,rfl,hp,q⟩:=h
  refine⟨_,(j2_ (jq_ (pv 0) (pv 1) rfl) (j2_ (jq_ (pv 0) (pv 2) rfl) (j7_ (jq_ (pv 0) (pv 3) rfl)))),?_⟩
  refine⟨_,rfl,_,rfl,p,_,dx,_,rfl,hp,T.cl_If,T.no_If_condition,(by show 0<1000;decide),?_⟩
  refine⟨_,rfl,_,rfl,p,_,dx,_,rfl,j4_,T.cl_If,T.no_If_statements,(by show 1<1000;decide),?_⟩
  refine⟨_,rfl,_,rfl,p,_,dx,_,rfl,j4_,T.cl_If,T.no_If_else_statements,(by show 2<1000;decide),?_⟩
  refine q _ j4_ fun b o e hb=>?_
  rw[j3_ hb,j3_ hb,j3_ hb]
  exact e
theorem ok_Step_init (T:Txt K mg a):ju_ P w K mg base CX0 1 a.f_z25 a.fd_z25 ["self","side","zone","quarter","price","to_price","amount"] (spNew6 a.c_Step "side" "zone" "quarter" "price" "to_price" "amount"):=by
 refine T.F_z25.ok sc_z25 (fun vs H Q E h=>?_) (fun cdv A outer s H vs Q E hr h=>?_)
 ·obtain⟨p,dx,v0,v1,v2,v3,v4,v5,rfl,_⟩:=h
  rfl
 ·obtain⟨p,dx,v0,v1,v2,v3,v4,v5,rfl,hp,q⟩:=h
  refine⟨_,(j2_ (jq_ (pv 0) (pv 1) rfl) (j2_ (jq_ (pv 0) (pv 2) rfl) (j2_ (jq_ (pv 0) (pv 3) rfl) (j2_ (jq_ (pv 0) (pv 4) rfl) (j2_ (jq_ (pv 0) (pv 5) rfl) (j7_ (jq_ (pv 0) (pv 6) rfl))))))),?_⟩
  refine⟨_,rfl,_,rfl,p,_,dx,_,rfl,hp,T.cl_Step,T.no_Step_side,(by show 0<1000;decide),?_⟩
  refine⟨_,rfl,_,rfl,p,_,dx,_,rfl,j4_,T.cl_Step,T.no_Step_zone,(by show 1<1000;decide),?_⟩
  refine⟨_,rfl,_,rfl,p,_,dx,_,rfl,j4_,T.cl_Step,T.no_Step_quarter,(by show 2<1000;decide),?_⟩
  refine⟨_,rfl,_,rfl,p,_,dx,_,rfl,j4_,T.cl_Step,T.no_Step_price,(by show 3<1000;decide),?_⟩
  refine⟨_,rfl,_,rfl,p,_,dx,_,rfl,j4_,T.cl_Step,T.no_Step_to_price,(by show 4<1000;decide),?_⟩
  refine⟨_,rfl,_,rfl,p,_,dx,_,rfl,j4_,T.cl_Step,T.no_Step_amount,(by show 5<1000;decide),?_⟩
  refine q _ j4_ fun b o e hb=>?_
  rw[j3_ hb,j3_ hb,j3_ hb,j3_ hb,j3_ hb,j3_ hb]
  exact e
theorem ok_Amounts_init (T:Txt K mg a):ju_ P w K mg base CX0 1 a.f_z4 a.fd_z4 ["self","name","exp"] (spNew2 a.c_Amounts "name" "exp"):=by
 refine T.F_z4.ok sc_z4 (fun vs H Q E h=>?_) (fun cdv A outer s H vs Q E hr h=>?_)
 ·obtain⟨p,dx,v0,v1,rfl,_⟩:=h
  rfl
 ·obtain⟨p,dx,v0,v1,rfl,hp,q⟩:=h
  refine⟨_,(j2_ (jq_ (pv 0) (pv 1) rfl) (j7_ (jq_ (pv 0) (pv 2) rfl))),?_⟩
  refine⟨_,rfl,_,rfl,p,_,dx,_,rfl,hp,T.cl_Amounts,T.no_Amounts_name,(by show 0<1000;decide),?_⟩
  refine⟨_,rfl,_,rfl,p,_,dx,_,rfl,j4_,T.cl_Amounts,T.no_Amounts_exp,(by show 1<1000;decide),?_⟩
  refine q _ j4_ fun b o e hb=>?_
  rw[j3_ hb,j3_ hb]
  exact e
theorem ok_Block_init (T:Txt K mg a):ju_ P w K mg base CX0 1 a.f_z15 a.fd_z15 ["self","name","side","zone","price","amounts","under","group"] (spNew7 a.c_Block "name" "side" "zone" "price" "amounts" "under" "group"):=by
 refine T.F_z15.ok sc_z15 (fun vs H Q E h=>?_) (fun cdv A outer s H vs Q E hr h=>?_)
 ·obtain⟨p,dx,v0,v1,v2,v3,v4,v5,v6,rfl,_⟩:=h
  rfl
 ·obtain⟨p,dx,v0,v1,v2,v3,v4,v5,v6,rfl,hp,q⟩:=h
  refine⟨_,(j2_ (jq_ (pv 0) (pv 1) rfl) (j2_ (jq_ (pv 0) (pv 2) rfl) (j2_ (jq_ (pv 0) (pv 3) rfl) (j2_ (jq_ (pv 0) (pv 4) rfl) (j2_ (jq_ (pv 0) (pv 5) rfl) (j2_ (jq_ (pv 0) (pv 6) rfl) (j7_ (jq_ (pv 0) (pv 7) rfl)))))))),?_⟩
  refine⟨_,rfl,_,rfl,p,_,dx,_,rfl,hp,T.cl_Block,T.no_Block_name,(by show 0<1000;decide),?_⟩
  refine⟨_,rfl,_,rfl,p,_,dx,_,rfl,j4_,T.cl_Block,T.no_Block_side,(by show 1<1000;decide),?_⟩
  refine⟨_,rfl,_,rfl,p,_,dx,_,rfl,j4_,T.cl_Block,T.no_Block_zone,(by show 2<1000;decide),?_⟩
  refine⟨_,rfl,_,rfl,p,_,dx,_,rfl,j4_,T.cl_Block,T.no_Block_price,(by show 3<1000;decide),?_⟩
  refine⟨_,rfl,_,rfl,p,_,dx,_,rfl,j4_,T.cl_Block,T.no_Block_amounts,(by show 4<1000;decide),?_⟩
  refine⟨_,rfl,_,rfl,p,_,dx,_,rfl,j4_,T.cl_Block,T.no_Block_under,(by show 5<1000;decide),?_⟩
  refine⟨_,rfl,_,rfl,p,_,dx,_,rfl,j4_,T.cl_Block,T.no_Block_group,(by show 6<1000;decide),?_⟩
  refine q _ j4_ fun b o e hb=>?_
  rw[j3_ hb,j3_ hb,j3_ hb,j3_ hb,j3_ hb,j3_ hb,j3_ hb]
  exact e
theorem ok_Const_init (T:Txt K mg a):ju_ P w K mg base CX0 1 a.f_z16 a.fd_z16 ["self","name","exp"] (spNew2 a.c_Const "name" "exp"):=by
 refine T.F_z16.ok sc_z16 (fun vs H Q E h=>?_) (fun cdv A outer s H vs Q E hr h=>?_)
 ·obtain⟨p,dx,v0,v1,rfl,_⟩:=h
  rfl
 ·obtain⟨p,dx,v0,v1,rfl,hp,q⟩:=h
  refine⟨_,(j2_ (jq_ (pv 0) (pv 1) rfl) (j7_ (jq_ (pv 0) (pv 2) rfl))),?_⟩
  refine⟨_,rfl,_,rfl,p,_,dx,_,rfl,hp,T.cl_Const,T.no_Const_name,(by show 0<1000;decide),?_⟩
  refine⟨_,rfl,_,rfl,p,_,dx,_,rfl,j4_,T.cl_Const,T.no_Const_exp,(by show 1<1000;decide),?_⟩
  refine q _ j4_ fun b o e hb=>?_
  rw[j3_ hb,j3_ hb]
  exact e
theorem ok_Fun_init (T:Txt K mg a):ju_ P w K mg base CX0 1 a.f_z36 a.fd_z36 ["self","name","parameters","exp"] (spNew3 a.c_Fun "name" "parameters" "exp"):=by
 refine T.F_z36.ok sc_z36 (fun vs H Q E h=>?_) (fun cdv A outer s H vs Q E hr h=>?_)
 ·obtain⟨p,dx,v0,v1,v2,rfl,_⟩:=h
  rfl
 ·obtain⟨p,dx,v0,v1,v2,rfl,hp,q⟩:=h
  refine⟨_,(j2_ (jq_ (pv 0) (pv 1) rfl) (j2_ (jq_ (pv 0) (pv 2) rfl) (j7_ (jq_ (pv 0) (pv 3) rfl)))),?_⟩
  refine⟨_,rfl,_,rfl,p,_,dx,_,rfl,hp,T.cl_Fun,T.no_Fun_name,(by show 0<1000;decide),?_⟩
  refine⟨_,rfl,_,rfl,p,_,dx,_,rfl,j4_,T.cl_Fun,T.no_Fun_parameters,(by show 1<1000;decide),?_⟩
  refine⟨_,rfl,_,rfl,p,_,dx,_,rfl,j4_,T.cl_Fun,T.no_Fun_exp,(by show 2<1000;decide),?_⟩
  refine q _ j4_ fun b o e hb=>?_
  rw[j3_ hb,j3_ hb,j3_ hb]
  exact e
theorem ok_Desk_init (T:Txt K mg a):ju_ P w K mg base CX0 1 a.f_z26 a.fd_z26 ["self","name","statements"] (spNew2 a.c_Desk "name" "statements"):=by
 refine T.F_z26.ok sc_z26 (fun vs H Q E h=>?_) (fun cdv A outer s H vs Q E hr h=>?_)
 ·obtain⟨p,dx,v0,v1,rfl,_⟩:=h
  rfl
 ·obtain⟨p,dx,v0,v1,rfl,hp,q⟩:=h
  refine⟨_,(j2_ (jq_ (pv 0) (pv 1) rfl) (j7_ (jq_ (pv 0) (pv 2) rfl))),?_⟩
  refine⟨_,rfl,_,rfl,p,_,dx,_,rfl,hp,T.cl_Desk,T.no_Desk_name,(by show 0<1000;decide),?_⟩
  refine⟨_,rfl,_,rfl,p,_,dx,_,rfl,j4_,T.cl_Desk,T.no_Desk_statements,(by show 1<1000;decide),?_⟩
  refine q _ j4_ fun b o e hb=>?_
  rw[j3_ hb,j3_ hb]
  exact e
end
end OS
namespace OS
open PySem PySem.Spec L2
open PyProof.Rows hiding St
open Vbemac (Bytes Toks)
def qv_ (M:Addr->Prop) (H:Hp) (C:Addr) (fs:List (Str×V)) (v:V):Prop:= ∃p dx,v= .ref p/\ ¬M p/\H p=some (.ins C dx fs)
def ql_ (M:Addr->Prop) (H:Hp) (xs:List V) (v:V):Prop:= ∃p,v= .ref p/\ ¬M p/\H p=some (.lst xs)
def je_ (M:Addr->Prop) (H H':Hp):Prop:= ∀b o,H b=some o-> ¬M b->H' b=some o
def qk_ (M M':Addr->Prop) (H H':Hp):Prop:= ∀b o,H b=some o-> ¬M b-> ¬M' b/\H' b=some o
theorem je_.two {M:Addr->Prop} {H H':Hp} (k:je_ M H H'):qk_ M M H H':=fun b o e m=>⟨m,k b o e m⟩
def Nd (o:HO):Prop:=(∃xs,o= .lst xs)\/ ∃C d fs,o= .ins C d fs/\fs.length≠5
def Keeps3 (M M':Addr->Prop) (H H':Hp):Prop:= ∀b o,H b=some o-> ¬M b->Nd o-> ¬M' b/\H' b=some o
theorem qk_.three {M M':Addr->Prop} {H H':Hp} (k:qk_ M M' H H'):Keeps3 M M' H H':=fun b o e m _=>k b o e m
theorem qv_.keep3 {M M':Addr->Prop} {H H':Hp} {C:Addr} {fs:List (Str×V)} {v:V} (k:Keeps3 M M' H H') (h:qv_ M H C fs v) (hl:fs.length≠5:=by intro z;cases z):qv_ M' H' C fs v:=by
 obtain⟨p,dx,e,m,z⟩:=h
 have:=k _ _ z m (.inr ⟨_,_,_,rfl,hl⟩)
 exact⟨p,dx,e,this.1,this.2⟩
theorem ql_.keep3 {M M':Addr->Prop} {H H':Hp} {xs:List V} {v:V} (k:Keeps3 M M' H H') (h:ql_ M H xs v):ql_ M' H' xs v:=by
 obtain⟨p,e,m,z⟩:=h
 have:=k _ _ z m (.inl ⟨_,rfl⟩)
 exact⟨p,e,this.1,this.2⟩
theorem qv_.keep {M M':Addr->Prop} {H H':Hp} {C:Addr} {fs:List (Str×V)} {v:V} (k:qk_ M M' H H') (h:qv_ M H C fs v):qv_ M' H' C fs v:=by
 obtain⟨p,dx,e,m,z⟩:=h
 exact⟨p,dx,e,(k _ _ z m).1,(k _ _ z m).2⟩
theorem ql_.keep {M M':Addr->Prop} {H H':Hp} {xs:List V} {v:V} (k:qk_ M M' H H') (h:ql_ M H xs v):ql_ M' H' xs v:=by
 obtain⟨p,e,m,z⟩:=h
 exact⟨p,e,(k _ _ z m).1,(k _ _ z m).2⟩
mutual
def ja_ (a:Adr) (M:Addr->Prop) (H:Hp):Vbemac.Exp->V->Prop
 | .num n,v=>qv_ M H a.c_Number [("worth", .int (n:Nat))] v
 | .name x,v=>qv_ M H a.c_Name [("name", .str (sb x))] v
 | .call f l,v=> ∃q us,qv_ M H a.c_Call [("name", .str (sb f)),("arguments",q)] v/\ql_ M H us q/\qi_ a M H l us
 | .neg e,v=> ∃u,qv_ M H a.c_Unary [("sign", .str "-"),("operand",u)] v/\ja_ a M H e u
 | .not e,v=> ∃u,qv_ M H a.c_Unary [("sign", .str "!"),("operand",u)] v/\ja_ a M H e u
 | .sums e r,v=> ∃q g u us ss,qv_ M H a.c_Chain [("strength", .int 3),("operands",q),("signs",g)] v/\ql_ M H (u::us) q/\ql_ M H ss g/\ja_ a M H e u/\ux_ a M H r us ss
 | .prods e r,v=> ∃q g u us ss,qv_ M H a.c_Chain [("strength", .int 4),("operands",q),("signs",g)] v/\ql_ M H (u::us) q/\ql_ M H ss g/\ja_ a M H e u/\ux_ a M H r us ss
 | .cmp op x y,v=> ∃q g u1 u2,qv_ M H a.c_Chain [("strength", .int 2),("operands",q),("signs",g)] v/\ql_ M H [u1,u2] q/\ql_ M H [.str (sgn op)] g/\ja_ a M H x u1/\ja_ a M H y u2
 | .both e l,v=> ∃q g u us,qv_ M H a.c_Chain [("strength", .int 1),("operands",q),("signs",g)] v/\ql_ M H (u::us) q/\ql_ M H (us.map fun _=> .str "&&") g/\ja_ a M H e u/\qi_ a M H l us
 | .either e l,v=> ∃q g u us,qv_ M H a.c_Chain [("strength", .int 0),("operands",q),("signs",g)] v/\ql_ M H (u::us) q/\ql_ M H (us.map fun _=> .str "||") g/\ja_ a M H e u/\qi_ a M H l us
 | .pick c x y,v=> ∃u1 u2 u3,qv_ M H a.c_Choice [("condition",u1),("chosen",u2),("otherwise",u3)] v/\ja_ a M H c u1/\ja_ a M H x u2/\ja_ a M H y u3
 | .sum x lo hi e,v=> ∃u1 u2 u3,qv_ M H a.c_Sum [("name", .str (sb x)),("first",u1),("last",u2),("body",u3)] v/\ja_ a M H lo u1/\ja_ a M H hi u2/\ja_ a M H e u3
def qi_ (a:Adr) (M:Addr->Prop) (H:Hp):Vbemac.Exps->List V->Prop
 | .nil,us=>us=[]
 | .cons e l,us=> ∃u vs,us=u::vs/\ja_ a M H e u/\qi_ a M H l vs
def ux_ (a:Adr) (M:Addr->Prop) (H:Hp):Vbemac.Rest->List V->List V->Prop
 | .nil,us,ss=>us=[]/\ss=[]
 | .cons op e r,us,ss=> ∃u vs ts,us=u::vs/\ss= .str (sgn op)::ts/\ja_ a M H e u/\ux_ a M H r vs ts
end
section
variable {a:Adr} {M M':Addr->Prop} {H H':Hp}
mutual
theorem ja_.keep3 (k:Keeps3 M M' H H'): ∀(e:Vbemac.Exp) {v:V},ja_ a M H e v->ja_ a M' H' e v
 | .num n,v,h=>by unfold ja_ at h ⊢; exact h.keep3 k
 | .name x,v,h=>by unfold ja_ at h ⊢; exact h.keep3 k
 | .call f l,v,h=>by
  unfold ja_ at h ⊢
  obtain⟨q,us,h1,h2,h3⟩:=h
  exact⟨q,us,h1.keep3 k,h2.keep3 k,qi_.keep3 k l h3⟩
 | .neg e,v,h=>by
  unfold ja_ at h ⊢
  obtain⟨u,h1,h2⟩:=h
  exact⟨u,h1.keep3 k,ja_.keep3 k e h2⟩
 | .not e,v,h=>by
  unfold ja_ at h ⊢
  obtain⟨u,h1,h2⟩:=h
  exact⟨u,h1.keep3 k,ja_.keep3 k e h2⟩
 | .sums e r,v,h=>by
  unfold ja_ at h ⊢
  obtain⟨q,g,u,us,ss,h1,h2,h3,h4,h5⟩:=h
  exact⟨q,g,u,us,ss,h1.keep3 k,h2.keep3 k,h3.keep3 k,ja_.keep3 k e h4,ux_.keep3 k r h5⟩
 | .prods e r,v,h=>by
  unfold ja_ at h ⊢
  obtain⟨q,g,u,us,ss,h1,h2,h3,h4,h5⟩:=h
  exact⟨q,g,u,us,ss,h1.keep3 k,h2.keep3 k,h3.keep3 k,ja_.keep3 k e h4,ux_.keep3 k r h5⟩
 | .cmp op x y,v,h=>by
  unfold ja_ at h ⊢
  obtain⟨q,g,u1,u2,h1,h2,h3,h4,h5⟩:=h
  exact⟨q,g,u1,u2,h1.keep3 k,h2.keep3 k,h3.keep3 k,ja_.keep3 k x h4,ja_.keep3 k y h5⟩
 | .both e l,v,h=>by
  unfold ja_ at h ⊢
  obtain⟨q,g,u,us,h1,h2,h3,h4,h5⟩:=h
  exact⟨q,g,u,us,h1.keep3 k,h2.keep3 k,h3.keep3 k,ja_.keep3 k e h4,qi_.keep3 k l h5⟩
 | .either e l,v,h=>by
  unfold ja_ at h ⊢
  obtain⟨q,g,u,us,h1,h2,h3,h4,h5⟩:=h
  exact⟨q,g,u,us,h1.keep3 k,h2.keep3 k,h3.keep3 k,ja_.keep3 k e h4,qi_.keep3 k l h5⟩
 | .pick c x y,v,h=>by
  unfold ja_ at h ⊢
  obtain⟨u1,u2,u3,h1,h2,h3,h4⟩:=h
  exact⟨u1,u2,u3,h1.keep3 k,ja_.keep3 k c h2,ja_.keep3 k x h3,ja_.keep3 k y h4⟩
 | .sum x lo hi e,v,h=>by
  unfold ja_ at h ⊢
  obtain⟨u1,u2,u3,h1,h2,h3,h4⟩:=h
  exact⟨u1,u2,u3,h1.keep3 k,ja_.keep3 k lo h2,ja_.keep3 k hi h3,ja_.keep3 k e h4⟩
theorem qi_.keep3 (k:Keeps3 M M' H H'): ∀(l:Vbemac.Exps) {us:List V},qi_ a M H l us->qi_ a M' H' l us
 | .nil,us,h=>by unfold qi_ at h ⊢; exact h
 | .cons e l,us,h=>by
  unfold qi_ at h ⊢
  obtain⟨u,vs,h1,h2,h3⟩:=h
  exact⟨u,vs,h1,ja_.keep3 k e h2,qi_.keep3 k l h3⟩
theorem ux_.keep3 (k:Keeps3 M M' H H'): ∀(r:Vbemac.Rest) {us ss:List V},ux_ a M H r us ss->ux_ a M' H' r us ss
 | .nil,us,ss,h=>by unfold ux_ at h ⊢; exact h
 | .cons op e r,us,ss,h=>by
  unfold ux_ at h ⊢
  obtain⟨u,vs,ts,h1,h2,h3,h4⟩:=h
  exact⟨u,vs,ts,h1,h2,ja_.keep3 k e h3,ux_.keep3 k r h4⟩
end
theorem ja_.keep2 (k:qk_ M M' H H') (e:Vbemac.Exp) {v:V} (h:ja_ a M H e v):ja_ a M' H' e v:=ja_.keep3 k.three e h
theorem ja_.keep (k:je_ M H H') (e:Vbemac.Exp) {v:V} (h:ja_ a M H e v):ja_ a M H' e v:=ja_.keep2 k.two e h
end
inductive spDeeper (a:Adr) (vs:List V) (H:Hp) (Q:VK) (E:XK):Prop
 |mk (r q kd fn ds bl:Addr) (n:Nat) (x:Vbemac.Tok×Vbemac.Pos) (t:Toks) (d:Nat) (_:vs=[.ref r, .int d]) (_:Rdr a H r q kd fn ds bl n (x::t)) (_:(d=12->Flt a.c_Fault E H (if x.1= .bad then 1 else 6) x.2)) (_:(d≠12->Q (.int ((d+1:Nat):Int)) H)):spDeeper a vs H Q E
inductive spRefuse (a:Adr) (vs:List V) (H:Hp) (Q:VK) (E:XK):Prop
 |mk (r q kd fn ds bl:Addr) (n:Nat) (x:Vbemac.Tok×Vbemac.Pos) (t:Toks) (v:Str) (_:vs=[.ref r, .str v]) (_:Rdr a H r q kd fn ds bl n (x::t)) (_:(x.1= .bad->Flt a.c_Fault E H 1 x.2)) (_:(x.1≠ .bad->isV v x.1=true->Flt a.c_Fault E H 5 x.2)) (_:(x.1≠ .bad->isV v x.1=false->Q .non H)):spRefuse a vs H Q E
section
variable {P:Program} {w:World} {K:PySem.W.Frag} {mg:Str->Option Value} {base:Heap} {a:Adr}
theorem ok_z76 (T:Txt K mg a) (XC:XT K a):ju_ P w K mg base (CXF P w) 6 a.f_z76 a.fd_z76 ["reader","depth"] (spDeeper a):=by
 have G_z44:=qp_ (P:=P) (w:=w) (base:=base) T XC
 refine okX T.F_z76 sc_z76 (fun vs H Q E h=>?_) (fun cdv A outer s H vs Q E hr h=>?_)
 ·obtain⟨r,q,kd,fn,ds,bl,n,x,t,d,rfl,_⟩:=h
  rfl
 ·obtain⟨r,q,kd,fn,ds,bl,n,x,t,d,rfl,R,hf,hg⟩:=h
  obtain⟨dr,er⟩:=R.ins
  refine⟨_,(j2_ (yg_ (ya_ uk_ (pv 1) (vc_ (by rfl) T.g_MOST_LEVELS) (yk_ _)) (j7_ (jd_ (jb_ (pv 0) T.cl_Reader T.me_z44 G_z44 (hr.mono (by decide)) T.b_z44 .nil j6_ (j0_ (vc_ (by rfl) T.g_TOO_DEEP) j5_)))) ji_)
    (j7_ (jh_ (uq_ uy_ (pv 1) jr_)))),?_⟩
  refine⟨_,rfl,rfl,_,rfl,?_⟩
  rw[uc_]
  refine yt_ (fun e=>?_) fun e=>?_
  ·have:=of_decide_eq_true e
   exact⟨_,rfl,r,dr,_,rfl,er,rfl,r,q,kd,fn,ds,bl,n,x,t,6,rfl,R,hf (by omega)⟩
  ·have:=of_decide_eq_false e
   exact⟨_,rfl,_,_,rfl,rfl,hg (by omega)⟩
theorem ok_z48 (T:Txt K mg a) (XC:XT K a):ju_ P w K mg base (CXF P w) 6 a.f_z48 a.fd_z48 ["reader","sign"] (spRefuse a):=by
 have G_z45:=qt_ (P:=P) (w:=w) (base:=base) T XC
 have G_z44:=qp_ (P:=P) (w:=w) (base:=base) T XC
 refine okX T.F_z48 sc_z48 (fun vs H Q E h=>?_) (fun cdv A outer s H vs Q E hr h=>?_)
 ·obtain⟨r,q,kd,fn,ds,bl,n,x,t,v,rfl,_⟩:=h
  rfl
 ·obtain⟨r,q,kd,fn,ds,bl,n,x,t,v,rfl,R,hb,hf,hg⟩:=h
  obtain⟨dr,er⟩:=R.ins
  refine⟨_,(j7_ (yg_ (yc_ (jb_ (pv 0) T.cl_Reader T.me_z45 G_z45 (hr.mono (by decide)) T.b_z45 .nil j6_ (j0_ (pv 1) j5_))) (j7_ (jd_ (jb_ (pv 0) T.cl_Reader T.me_z44 G_z44 (hr.mono (by decide)) T.b_z44 .nil j6_ (j0_ (vc_ (by rfl) T.g_ARGUMENTS) j5_)))) ji_)),?_⟩
  refine⟨_,rfl,r,dr,_,rfl,er,rfl,_,rfl,r,q,kd,fn,ds,bl,n,x,t,v,rfl,R,hb,fun nb=>⟨_,rfl,yt_ (fun e=>?_) fun e=>?_⟩⟩
  ·exact⟨_,rfl,r,dr,_,rfl,er,rfl,r,q,kd,fn,ds,bl,n,x,t,5,rfl,R,by rw[if_neg nb];exact hf nb e⟩
  ·exact hg nb e
end
end OS
namespace OS
open PySem PySem.Spec L2
open PyProof.Rows hiding St
open Vbemac (Bytes Toks SIGNS peek place)
structure Box where
 p:Addr
 c:List (Key×V)
 x:Addr->List V->Prop
instance:Coe Box Addr:=⟨Box.p⟩
def Mut (r kd fn:Addr) (ds bl:Box) (b:Addr):Prop:=b=r\/b=kd\/b=fn\/b=ds.p\/b=bl.p\/ ∃xs,bl.x b xs
structure KnAt (H:Hp) (kd fn:Addr) (Kn:Vbemac.Known) (room:Nat):Prop where
 vals: ∃kk,H kd=some (.dK kk)/\kk.length<=Kn.values.length/\ ∀u,has kk u=Kn.values.contains u
 funs: ∃ff,H fn=some (.dK ff)/\ ∀u,uo_ ff (nk u)=(Kn.funs.find? fun f=>f.1 == u).map fun f=>V.int (f.2:Nat)
 len:Kn.values.length+room<=4000
 flen: ∃ff,H fn=some (.dK ff)/\ff.length=Kn.funs.length
theorem KnAt.fl {H:Hp} {kd fn:Addr} {Kn:Vbemac.Known} {room:Nat} (h:KnAt H kd fn Kn room) {ff:List (Key×V)} (e:H fn=some (.dK ff)):ff.length=Kn.funs.length:=by
 obtain⟨gg,g1,g2⟩:=h.flen
 rw[e] at g1
 cases g1
 exact g2
structure PSt (a:Adr) (H:Hp) (r q kd fn:Addr) (ds bl:Box) (n:Nat) (t:Toks) (Kn:Vbemac.Known):Prop where
 rd:Rdr a H r q kd fn ds.p bl.p n t
 wh:j11_ t
 kn:KnAt H kd fn Kn t.length
 ds_:H ds.p=some (.dK ds.c)
 bl_:H bl.p=some (.dK bl.c)
 dif:kd≠fn/\kd≠ds.p/\kd≠bl.p/\fn≠ds.p/\fn≠bl.p/\ds.p≠bl.p
 fr: ∀b xs,bl.x b xs->H b=some (.lst xs)
abbrev WP:=Vbemac.P Vbemac.Exp->Toks->(Vbemac.Exp->Toks->Prop)->(Nat->Vbemac.Pos->Prop)->Prop
inductive yy_ (a:Adr) (wp:WP) (p:Nat->Nat->Vbemac.Known->Vbemac.P Vbemac.Exp) (c:Nat) (ok:Nat->Vbemac.Known->Toks->Prop) (vs:List V) (H:Hp) (Q:VK) (E:XK):Prop
 |mk (r q kd fn:Addr) (ds bl:Box) (n:Nat) (t:Toks) (Kn:Vbemac.Known) (d:Nat) (fuel:Nat) (_:vs=[.ref r, .int d]) (_:d<=12) (_:ok d Kn t) (_:PSt a H r q kd fn ds bl n t Kn) (_:16*t.length+c<=fuel) (_:wp (p fuel (12-d) Kn) t (fun e t'=> ∀H' v n',t'.length<t.length->PSt a H' r q kd fn ds bl n' t' Kn->je_ (Mut r kd fn ds bl) H H'->ja_ a (Mut r kd fn ds bl) H' e v->Q v H')
  (fun k x=> ∀H',je_ (Mut r kd fn ds bl) H H'->Flt a.c_Fault E H' k x)):yy_ a wp p c ok vs H Q E
theorem has_put (kk:List (Key×V)) (u v:Bytes) (y:V):has (j0l_ kk (nk u) y) v=(decide (v=u)||has kk v):=by
 unfold has
 rw[valV_put]
 by_cases e:v=u
 ·rw[if_pos (by rw[e]),decide_eq_true e];rfl
 ·rw[if_neg (fun z=>e (sb_inj (Sum.inr.inj z))),decide_eq_false e];rfl
theorem valV_dropK (kk:List (Key×V)) (k j:Key):uo_ (wt_ kk k) j=if j=k then none else uo_ kk j:=by
 induction kk with
 |nil=>unfold wt_ uo_;split<;>rfl
 |cons p r ih=>
  unfold wt_ at ih ⊢
  rw[List.filter_cons]
  by_cases e:p.1=k
  ·rw[if_neg (by simp [e]),ih]
   by_cases j1:j=k
   ·rw[if_pos j1,if_pos j1]
   ·rw[if_neg j1,if_neg j1,ve_ fun z=>j1 (z.symm.trans e)]
  ·rw[if_pos (by simp [e])]
   by_cases j1:p.1=j
   ·rw[vj_ j1,vj_ j1,if_neg fun z=>e (j1.trans z)]
   ·rw[ve_ j1,ve_ j1,ih]
theorem has_drop (kk:List (Key×V)) (u v:Bytes):has (wt_ kk (nk u)) v=(!decide (v=u)&&has kk v):=by
 unfold has
 rw[valV_dropK]
 by_cases e:v=u
 ·rw[if_pos (by rw[e]),decide_eq_true e];rfl
 ·rw[if_neg (fun z=>e (sb_inj (Sum.inr.inj z))),decide_eq_false e];rfl
theorem isV_tokStr {k:Vbemac.Tok} {v:Str} :isV v k=decide (tokStr k=some v):=by
 unfold isV
 cases k with
 |word u=>exact decide_eq_decide.mpr ⟨fun z=>congrArg some (V.str.inj z),fun z=>congrArg V.str (Option.some.inj z)⟩
 |num n=>exact decide_eq_decide.mpr ⟨(fun z=>nomatch z),(fun z=>nomatch z)⟩
 |sign u=>exact decide_eq_decide.mpr ⟨fun z=>congrArg some (V.str.inj z),fun z=>congrArg V.str (Option.some.inj z)⟩
 |eof=>exact decide_eq_decide.mpr ⟨fun z=>congrArg some (V.str.inj z),fun z=>congrArg V.str (Option.some.inj z)⟩
 |bad=>exact decide_eq_decide.mpr ⟨fun z=>congrArg some (V.str.inj z),fun z=>congrArg V.str (Option.some.inj z)⟩
theorem vd_ {k:Vbemac.Tok} (ok:TokOk k) {x:Str} {u:Bytes} (h:j0o_ x u):isV x k=(k == .word u):=by
 rw[isV_tokStr,Bool.eq_iff_iff,decide_eq_true_iff,beq_iff_eq]
 exact tok_word ok h
theorem v9_ {k:Vbemac.Tok} (ok:TokOk k) {x:Str} {u:Bytes} (h:LitS x u):isV x k=(k == .sign u):=by
 rw[isV_tokStr,Bool.eq_iff_iff,decide_eq_true_iff,beq_iff_eq]
 exact tok_sign ok h
theorem j11_.first {t:Toks} (w:j11_ t): ∃x r,t=x::r/\TokOk x.1/\peek t=x.1/\place t=x.2/\(¬FinT x->j11_ r):=by
 cases t with
 |nil=>exact absurd rfl w.ne
 |cons x r=>
  refine⟨x,r,rfl,?_,rfl,rfl,fun h=>(w.tail h).2⟩
  by_cases h:FinT x
  ·rcases h with h|h
   ·rw[h];exact True.intro
   ·rw[h];exact True.intro
  ·exact(w.tail h).1.2.2
end OS
namespace OS
open PySem PySem.Spec L2
open PyProof.Rows hiding St
open Vbemac (Bytes Toks SIGNS KEYS peek place)
section
variable {a:Adr} {H H' H2:Hp} {r q kd fn:Addr} {ds bl:Box} {n:Nat} {t:Toks} {Kn:Vbemac.Known} {M:Addr->Prop}
theorem vq_.keeps (s:vq_ H H'):je_ M H H':=fun b o e _=>s b o e
theorem je_.trans (k:je_ M H H') (l:je_ M H' H2):je_ M H H2:=fun b o e m=>l b o (k b o e m) m
theorem je_.refl:je_ M H H:=fun _ _ e _=>e
theorem Rdr.same {ds bl:Addr} (R:Rdr a H r q kd fn ds bl n t) (s:vq_ H H'):Rdr a H' r q kd fn ds bl n t:=by
 obtain⟨dr,e⟩:=R.ins
 obtain⟨as,all,h1,h2,h3⟩:=R.toks
 exact⟨⟨dr,s _ _ e⟩,as,all,s _ _ h1,Paired.mapP h2 fun b z k=>k.keep fun b' o e _=>s b' o e,h3⟩
theorem PSt.same (S:PSt a H r q kd fn ds bl n t Kn) (s:vq_ H H'):PSt a H' r q kd fn ds bl n t Kn:=by
 obtain⟨kk,k1,k2,k3⟩:=S.kn.vals
 obtain⟨ff,f1,f2⟩:=S.kn.funs
 exact⟨S.rd.same s,S.wh,⟨⟨kk,s _ _ k1,k2,k3⟩,⟨ff,s _ _ f1,f2⟩,S.kn.len,⟨ff,s _ _ f1,S.kn.fl f1⟩⟩,s _ _ S.ds_,s _ _ S.bl_,S.dif,fun b xs h=>s _ _ (S.fr b xs h)⟩
theorem jt_ (h:past a H r q kd fn ds bl n H'):je_ (Mut r kd fn ds bl) H H':=fun b o e m=>by
 obtain⟨dr,e1,rfl⟩:=h
 rw[j3_ fun z=>m (.inl z)]
 exact e
theorem PSt.past {x:Vbemac.Tok×Vbemac.Pos} (S:PSt a H r q kd fn ds bl n (x::t) Kn) (hx: ¬FinT x) (h:OS.past a H r q kd fn ds bl n H'):PSt a H' r q kd fn ds bl (n+1) t Kn:=by
 have R:=S.rd.step h
 obtain⟨dr,e1,rfl⟩:=h
 obtain⟨kk,k1,k2,k3⟩:=S.kn.vals
 obtain⟨ff,f1,f2⟩:=S.kn.funs
 have hy:=S.ds_
 have hz:=S.bl_
 have nk:kd≠r:=fun w=>by rw[w,e1] at k1;cases k1
 have nf:fn≠r:=fun w=>by rw[w,e1] at f1;cases f1
 have nd:ds.p≠r:=fun w=>by rw[w,e1] at hy;cases hy
 have nb:bl.p≠r:=fun w=>by rw[w,e1] at hz;cases hz
 refine⟨R,(S.wh.tail hx).2,⟨⟨kk,by rw[j3_ nk];exact k1,k2,k3⟩,⟨ff,by rw[j3_ nf];exact f1,f2⟩,?_,⟨ff,by rw[j3_ nf];exact f1,S.kn.fl f1⟩⟩,(by rw[j3_ nd];exact hy),(by rw[j3_ nb];exact hz),S.dif,fun b xs h=>by
  have e2:=S.fr b xs h
  rw[j3_ fun w=>by rw[w,e1] at e2;cases e2]
  exact e2⟩
 have:=S.kn.len
 rw[List.length_cons] at this
 omega
theorem PSt.learn {u:Bytes} (S:PSt a H r q kd fn ds bl n t Kn) (free:Kn.values.contains u=false) (room:Kn.values.length+1+t.length<=4000) {kk:List (Key×V)} (e:H kd=some (.dK kk)):
  PSt a (upd H kd (.dK (j0l_ kk (nk u) (.bl true)))) r q kd fn ds bl n t (Kn.with u):=by
 obtain⟨dr,er⟩:=S.rd.ins
 obtain⟨as,all,h1,h2,h3⟩:=S.rd.toks
 obtain⟨kk',k1,k2,k3⟩:=S.kn.vals
 obtain⟨ff,f1,f2⟩:=S.kn.funs
 have hy:=S.ds_
 have hz:=S.bl_
 obtain rfl:kk'=kk:=by rw[e] at k1;cases k1;rfl
 obtain⟨d1,d2,d3,d4,d5,d6⟩:=S.dif
 have nr:r≠kd:=fun w=>by rw[w,e] at er;cases er
 have nq:q≠kd:=fun w=>by rw[w,e] at h1;cases h1
 refine⟨⟨⟨dr,by rw[j3_ nr];exact er⟩,as,all,by rw[j3_ nq];exact h1,Paired.mapP h2 fun b x ⟨dx,ex⟩=>⟨dx,?_⟩,h3⟩,S.wh,⟨⟨_,j4_,?_,fun v=>?_⟩,⟨ff,by rw[j3_ d1.symm];exact f1,f2⟩,by show Kn.values.length+1+t.length<=4000;exact room,⟨ff,by rw[j3_ d1.symm];exact f1,S.kn.fl f1⟩⟩,(by rw[j3_ d2.symm];exact hy),(by rw[j3_ d3.symm];exact hz),S.dif,fun b xs h=>by
  have e2:=S.fr b xs h
  rw[j3_ fun w=>by rw[w,e] at e2;cases e2]
  exact e2⟩
 ·rw[j3_ fun w=>by rw[w,e] at ex;cases ex]
  exact ex
 ·have:=ug_ kk' (nk u) (.bl true)
  show _<=Kn.values.length+1
  omega
 ·rw[has_put,k3]
  show _=(u::Kn.values).contains v
  rw[List.contains_cons]
  congr 1
  rw[Bool.eq_iff_iff,decide_eq_true_iff,beq_iff_eq]
theorem PSt.forget {u:Bytes} (S:PSt a H r q kd fn ds bl n t (Kn.with u)) (free:Kn.values.contains u=false) {kk:List (Key×V)} (e:H kd=some (.dK kk)):
  has kk u=true/\PSt a (upd H kd (.dK (wt_ kk (nk u)))) r q kd fn ds bl n t Kn:=by
 obtain⟨dr,er⟩:=S.rd.ins
 obtain⟨as,all,h1,h2,h3⟩:=S.rd.toks
 obtain⟨kk',k1,k2,k3⟩:=S.kn.vals
 obtain⟨ff,f1,f2⟩:=S.kn.funs
 have hy:=S.ds_
 have hz:=S.bl_
 obtain rfl:kk'=kk:=by rw[e] at k1;cases k1;rfl
 obtain⟨d1,d2,d3,d4,d5,d6⟩:=S.dif
 have nr:r≠kd:=fun w=>by rw[w,e] at er;cases er
 have nq:q≠kd:=fun w=>by rw[w,e] at h1;cases h1
 have hu:has kk' u=true:=by
  rw[k3]
  show(u::Kn.values).contains u=true
  rw[List.contains_cons,beq_self_eq_true]
  rfl
 have len:Kn.values.length+1+t.length<=4000:=S.kn.len
 have k2:kk'.length<=Kn.values.length+1:=k2
 refine⟨hu,⟨⟨dr,by rw[j3_ nr];exact er⟩,as,all,by rw[j3_ nq];exact h1,Paired.mapP h2 fun b x ⟨dx,ex⟩=>⟨dx,?_⟩,h3⟩,S.wh,⟨⟨_,j4_,?_,fun v=>?_⟩,⟨ff,by rw[j3_ d1.symm];exact f1,f2⟩,by omega,⟨ff,by rw[j3_ d1.symm];exact f1,S.kn.fl f1⟩⟩,(by rw[j3_ d2.symm];exact hy),(by rw[j3_ d3.symm];exact hz),S.dif,fun b xs h=>by
  have e2:=S.fr b xs h
  rw[j3_ fun w=>by rw[w,e] at e2;cases e2]
  exact e2⟩
 ·rw[j3_ fun w=>by rw[w,e] at ex;cases ex]
  exact ex
 ·have:(wt_ kk' (nk u)).length<kk'.length:=by
   unfold wt_
   refine Nat.lt_of_le_of_ne (List.length_filter_le _ _) fun w=>?_
   rw[List.length_filter_eq_length_iff] at w
   unfold has uo_ at hu
   rw[Option.isSome_map,List.find?_isSome] at hu
   obtain⟨p,hp,e1⟩:=hu
   have:=w p hp
   simp only[decide_eq_true_eq] at this e1
   exact this e1
  omega
 ·rw[has_drop,k3]
  show(!decide (v=u)&&(u::Kn.values).contains v)=_
  rw[List.contains_cons]
  by_cases w:v=u
  ·rw[w,decide_eq_true rfl,free];rfl
  ·rw[decide_eq_false w,show(v == u)=false from beq_eq_false_iff_ne.mpr w];rfl
theorem PSt.fresh (S:PSt a H r q kd fn ds bl n t Kn) {b:Addr} (h:H b=none): ¬Mut r kd fn ds bl b:=by
 obtain⟨dr,e1⟩:=S.rd.ins
 obtain⟨kk,k1,_⟩:=S.kn.vals
 obtain⟨ff,f1,_⟩:=S.kn.funs
 have hy:=S.ds_
 have hz:=S.bl_
 rintro(rfl|rfl|rfl|rfl|rfl|⟨xs,hx⟩)
 ·rw[e1] at h;cases h
 ·rw[k1] at h;cases h
 ·rw[f1] at h;cases h
 ·rw[hy] at h;cases h
 ·rw[hz] at h;cases h
 ·rw[S.fr _ _ hx] at h;cases h
end
section
variable {a:Adr} {H H' H0:Hp} {r q kd fn:Addr} {ds bl:Box} {n:Nat} {t:Toks} {Kn:Vbemac.Known} {M M':Addr->Prop}
def Box.more (bl:Box) (l:Addr) (xs:List V):Box:=⟨bl.p,bl.c,fun b ys=>bl.x b ys\/(b=l/\ys=xs)⟩
theorem PSt.more {l:Addr} {xs:List V} (S:PSt a H r q kd fn ds bl n t Kn) (h:H l=some (.lst xs)):PSt a H r q kd fn ds (bl.more l xs) n t Kn:=
 ⟨S.rd,S.wh,S.kn,S.ds_,S.bl_,S.dif,fun b ys z=>z.elim (S.fr b ys) fun⟨e1,e2⟩=>by rw[e1,e2];exact h⟩
theorem PSt.less {l:Addr} {xs:List V} (S:PSt a H r q kd fn ds (bl.more l xs) n t Kn):PSt a H r q kd fn ds bl n t Kn:=
 ⟨S.rd,S.wh,S.kn,S.ds_,S.bl_,S.dif,fun b ys z=>S.fr b ys (.inl z)⟩
theorem PSt.the {l:Addr} {xs:List V} (S:PSt a H r q kd fn ds (bl.more l xs) n t Kn):H l=some (.lst xs):=S.fr l xs (.inr ⟨rfl,rfl⟩)
theorem yu_ {l:Addr} {xs:List V} {b:Addr} (m:Mut r kd fn ds bl b):Mut r kd fn ds (bl.more l xs) b:=by
 rcases m with h|h|h|h|h|⟨ys,h⟩
 ·exact .inl h
 ·exact .inr (.inl h)
 ·exact .inr (.inr (.inl h))
 ·exact .inr (.inr (.inr (.inl h)))
 ·exact .inr (.inr (.inr (.inr (.inl h))))
 ·exact .inr (.inr (.inr (.inr (.inr ⟨ys, .inl h⟩))))
theorem qd_ {l:Addr} {xs:List V} {b:Addr} (m:Mut r kd fn ds (bl.more l xs) b):b=l\/Mut r kd fn ds bl b:=by
 rcases m with h|h|h|h|h|⟨ys,h|⟨h,_⟩⟩
 ·exact .inr (.inl h)
 ·exact .inr (.inr (.inl h))
 ·exact .inr (.inr (.inr (.inl h)))
 ·exact .inr (.inr (.inr (.inr (.inl h))))
 ·exact .inr (.inr (.inr (.inr (.inr (.inl h)))))
 ·exact .inr (.inr (.inr (.inr (.inr (.inr ⟨ys,h⟩)))))
 ·exact .inl h
theorem qe_ {l:Addr} {xs:List V} :Mut r kd fn ds (bl.more l xs) l:= .inr (.inr (.inr (.inr (.inr ⟨xs, .inr ⟨rfl,rfl⟩⟩))))
theorem je_.cut {l:Addr} {xs:List V} (k:je_ (Mut r kd fn ds bl) H0 H) (k':je_ (Mut r kd fn ds (bl.more l xs)) H H') (new:H0 l=none):je_ (Mut r kd fn ds bl) H0 H':=fun b o e m=>
 k' b o (k b o e m) fun z=>(qd_ z).elim (fun w=>by rw[w,new] at e;cases e) m
theorem j0d_ {l:Addr} {o:HO} (h:M l):je_ M H (upd H l o):=fun b o' e m=>by
 rw[j3_ fun z=>m (by rw[z];exact h)]
 exact e
theorem PSt.write {l:Addr} {xs ys:List V} (S:PSt a H r q kd fn ds (bl.more l xs) n t Kn) (apart: ∀zs,¬bl.x l zs) (hq:l≠q):PSt a (upd H l (.lst ys)) r q kd fn ds (bl.more l ys) n t Kn:=by
 have hl:=S.the
 obtain⟨dr,er⟩:=S.rd.ins
 obtain⟨as,all,h1,h2,h3⟩:=S.rd.toks
 obtain⟨kk,k1,k2,k3⟩:=S.kn.vals
 obtain⟨ff,f1,f2⟩:=S.kn.funs
 have hy:=S.ds_
 have hz:H bl.p=some (.dK bl.c):=S.bl_
 have ne: ∀ {b:Addr} {o:HO},H b=some o->(∀zs,o≠ .lst zs)->b≠l:=fun e no w=>by
  rw[w,hl] at e
  exact no _ (Option.some.inj e).symm
 refine⟨⟨⟨dr,by rw[j3_ (ne er fun _ z=>nomatch z)];exact er⟩,as,all,by rw[j3_ hq.symm];exact h1,Paired.mapP h2 fun b x ⟨dx,ex⟩=>⟨dx,by rw[j3_ (ne ex fun _ z=>nomatch z)];exact ex⟩,h3⟩,S.wh,
  ⟨⟨kk,by rw[j3_ (ne k1 fun _ z=>nomatch z)];exact k1,k2,k3⟩,⟨ff,by rw[j3_ (ne f1 fun _ z=>nomatch z)];exact f1,f2⟩,S.kn.len,⟨ff,by rw[j3_ (ne f1 fun _ z=>nomatch z)];exact f1,S.kn.fl f1⟩⟩,(by rw[j3_ (ne hy fun _ z=>nomatch z)];exact hy),(by show upd H l (.lst ys) bl.p=some (.dK bl.c);rw[j3_ (ne hz fun _ z=>nomatch z)];exact hz),S.dif,fun b zs z=>?_⟩
 rcases z with z|⟨e1,e2⟩
 ·rw[j3_ fun w=>apart zs (by rw[<-w];exact z)]
  exact S.fr b zs (.inl z)
 ·rw[e1,e2]
  exact j4_
theorem ja_.less {l:Addr} {xs:List V} {e:Vbemac.Exp} {v:V} (h:ja_ a (Mut r kd fn ds (bl.more l xs)) H e v):ja_ a (Mut r kd fn ds bl) H e v:=ja_.keep2 (fun b o e m=>⟨fun z=>m (yu_ z),e⟩) _ h
end
theorem keyV_keys:keyV=KEYS.map fun u=>V.str (sb u):=by decide+kernel
theorem jz_ {u:Bytes} :qo_ (.word u)=!KEYS.contains u:=by
 show(!inV (.str (sb u)) keyV)=_
 congr 1
 rw[keyV_keys]
 unfold inV
 rw[List.any_map,List.contains_eq_any_beq]
 congr 1
 funext z
 show(sb z == sb u)=(u == z)
 rw[Bool.eq_iff_iff,beq_iff_eq,beq_iff_eq]
 exact⟨fun e=>(sb_inj e).symm,fun e=>by rw[e]⟩
end OS
namespace OS
open PySem PySem.Spec L2
open PyProof.Rows hiding St
open Vbemac (Bytes Toks SIGNS KEYS peek place text isSign isKey tokens known0 FUNS BUILT)
theorem first_funs (u:Bytes):uo_ ub_ (nk u)=(known0.funs.find? fun f=>f.1 == u).map fun f=>V.int (f.2:Nat):=by
 have h1:(Sum.inr "min":Key)=nk (text "min"):=by show(Sum.inr "min":Key)=Sum.inr (sb (text "min"));congr 1
 have h2:(Sum.inr "max":Key)=nk (text "max"):=by show(Sum.inr "max":Key)=Sum.inr (sb (text "max"));congr 1
 have h3:(Sum.inr "abs":Key)=nk (text "abs"):=by show(Sum.inr "abs":Key)=Sum.inr (sb (text "abs"));congr 1
 unfold ub_ known0 BUILT
 rw[h1,h2,h3]
 have ne: ∀ {v:Bytes},¬v=u-> ¬nk v=nk u:=fun h z=>h (sb_inj (Sum.inr.inj z))
 have st: ∀(v:Bytes) (x:V) (r:List (Key×V)),uo_ ((nk v,x)::r) (nk u)=if v=u then some x else uo_ r (nk u):=fun v x r=>by
  by_cases e:v=u
  ·rw[if_pos e];exact vj_ (by rw[e])
  ·rw[if_neg e];exact ve_ (ne e)
 rw[st,st,st,List.find?_cons,List.find?_cons,List.find?_cons]
 dsimp only
 by_cases e1:text "min"=u
 ·rw[if_pos e1,show(text "min" == u)=true from beq_iff_eq.mpr e1];rfl
 ·rw[if_neg e1,show(text "min" == u)=false from beq_eq_false_iff_ne.mpr e1]
  dsimp only
  by_cases e2:text "max"=u
  ·rw[if_pos e2,show(text "max" == u)=true from beq_iff_eq.mpr e2];rfl
  ·rw[if_neg e2,show(text "max" == u)=false from beq_eq_false_iff_ne.mpr e2]
   dsimp only
   by_cases e3:text "abs"=u
   ·rw[if_pos e3,show(text "abs" == u)=true from beq_iff_eq.mpr e3];rfl
   ·rw[if_neg e3,show(text "abs" == u)=false from beq_eq_false_iff_ne.mpr e3];rfl
abbrev F0:Addr->List V->Prop:=fun _ _=>False
theorem NewR.st {a:Adr} {H H':Hp} {r dr q kd fn ds bl:Addr} (N:NewR a H H' r dr q kd fn ds bl) {as:List Addr} {bs:Bytes} (hq:H q=some (.lst (as.map V.ref))) (nq:q≠r) (tk:Paired (j1b_ a.c_Token H) as (tokens bs)) (nt: ∀b∈as,b≠r) (hl:bs.length<=3000):
  PSt a H' r q kd fn ⟨ds,[],F0⟩ ⟨bl,[],F0⟩ 0 (tokens bs) known0:=by
 have len:(tokens bs).length<=4000:=by
  have:=qx_ (bs.length+1) (1,1) bs
  unfold tokens
  omega
 refine⟨⟨⟨dr,N.ins⟩,as,tokens bs,N.kept _ _ hq nq,?_,rfl⟩,wf_ _ _ _,⟨⟨[],N.kd1,Nat.le_refl _,fun u=>rfl⟩,⟨ub_,N.fn1,first_funs⟩,by show 0+(tokens bs).length<=4000;omega,⟨ub_,N.fn1,rfl⟩⟩,N.ds1,N.bl1,N.dif,fun _ _ z=>z.elim⟩
 clear len hq
 revert nt
 generalize tokens bs=ts at tk ⊢
 induction tk with
 |nil=>exact fun _=> .nil
 |cons h t ih=>exact fun nt=> .cons (by obtain⟨dx,e⟩:=h;exact⟨dx,N.kept _ _ e (nt _ (List.mem_cons_self ..))⟩) (ih fun b hb=>nt b (List.mem_cons_of_mem _ hb))
end OS
namespace OS
open PySem PySem.Spec L2
open PyProof.Rows hiding St
open Vbemac (Bytes Toks SIGNS KEYS peek place primary text isSign isKey)
theorem yz_ {H H':Hp} {p dx C:Addr} (hp:H p=none) (hd:H dx=none) (k: ∀b o,upd (upd H dx (.own p)) p (.ins C dx []) b=some o->b≠p->H' b=some o):vq_ H H':=fun b o e=>
 k b o (by rw[j3_ (jf_ e hp),j3_ (jf_ e hd)];exact e) (jf_ e hp)
def Lv (j:Nat):Nat->Vbemac.Known->Toks->Prop:=fun d _ _=>13<=d+j
def LvS (j:Nat) (s:Bytes):Nat->Vbemac.Known->Toks->Prop:=fun d _ t=>13<=d+j/\peek t= .sign s
def LvW (j:Nat) (s:Bytes):Nat->Vbemac.Known->Toks->Prop:=fun d _ t=>13<=d+j/\peek t= .word s
def LvC (j:Nat):Nat->Vbemac.Known->Toks->Prop:=fun d K t=>13<=d+j/\ ∃u f,peek t= .word u/\u≠text "sum"/\KEYS.contains u=false/\K.funs.find? (fun f=>f.1 == u)=some f
theorem yl_ {α:Type} {p:Vbemac.P α} {n:Nat} {t:Toks} {Qo:α->Toks->Prop} {Qe:Nat->Vbemac.Pos->Prop} (e:p t=Vbemac.fail n t) (nb:peek t≠ .bad) (h:W p t Qo Qe):Qe n (place t):=by
 have e:p t= .error (n,place t):=by rw[e];unfold Vbemac.fail;rw[if_neg nb]
 rw[W_error e] at h
 exact h
theorem litO:LitS "(" (text "("):=⟨by decide+kernel,by decide+kernel⟩
theorem litSum:j0o_ "sum" (text "sum"):=⟨by decide+kernel,by decide+kernel,by decide+kernel⟩
section
variable {P:Program} {w:World} {K:PySem.W.Frag} {mg:Str->Option Value} {base:Heap} {a:Adr} {k j:Nat}
theorem ok_z39 (T:Txt K mg a) (XC:XT K a) (hk:7<=k)
  (G_z31:ju_ P w K mg base (CXF P w) k a.f_z31 a.fd_z31 ["reader","depth"] (yy_ a W primary 6 (LvS j (text "("))))
  (G_z69:ju_ P w K mg base (CXF P w) k a.f_z69 a.fd_z69 ["reader","depth"] (yy_ a W primary 6 (LvW j (text "sum"))))
  (G_z61:ju_ P w K mg base (CXF P w) k a.f_z61 a.fd_z61 ["reader","depth"] (yy_ a W primary 6 (LvC j))):
  ju_ P w K mg base (CXF P w) (k+1) a.f_z39 a.fd_z39 ["reader","depth"] (yy_ a W primary 6 (Lv j)):=by
 have G_z6:=ok_at_number (P:=P) (w:=w) (base:=base) T XC
 have G_z45:=qt_ (P:=P) (w:=w) (base:=base) T XC
 have G_z7:=ut_ (P:=P) (w:=w) (base:=base) T XC
 have G_z19:=v8_ (P:=P) (w:=w) (base:=base) T XC
 have G_z44:=qp_ (P:=P) (w:=w) (base:=base) T XC
 have G_z46:=wr_ (P:=P) (w:=w) (base:=base) T XC
 have G_z8:=ok_Number_init (P:=P) (w:=w) (base:=base) T
 have G_z23:=ok_Name_init (P:=P) (w:=w) (base:=base) T
 refine okX T.F_z39 sc_z39 (fun vs H Q E h=>?_) (fun cdv A outer s H vs Q E hr h=>?_)
 ·obtain⟨r,q,kd,fn,ds,bl,n,t,Kn,d,fuel,rfl,_⟩:=h
  rfl
 ·obtain⟨r,q,kd,fn,ds,bl,n,t,Kn,d,fuel,rfl,hd,hl,S,hf,hW⟩:=h
  obtain⟨dr,er⟩:=S.rd.ins
  obtain⟨⟨x,xp⟩,t',rfl,tok,hpk,hpl,_⟩:=S.wh.first
  have hb:x= .bad->Flt a.c_Fault E H 1 xp:=fun e=>(j0p_ _ _ _).at_bad (hpk.trans e) hW H je_.refl
  refine⟨_,(j2_ (yg_ (yc_ (jn_ (pv 0) T.cl_Reader T.me_z6 G_z6 (hr.mono (by omega)) T.b_z6 .nil j6_)) (j7_ (jh_ (vf_ T.mk_Number G_z8 (hr.mono (by omega)) (by rfl) T.mg_Number T.b_z8 .nil yr_ (j0_ (jn_ (pv 0) T.cl_Reader T.me_z46 G_z46 (hr.mono (by omega)) T.b_z46 .nil j6_) j5_)))) ji_)
    (j2_ (yg_ (yc_ (jb_ (pv 0) T.cl_Reader T.me_z45 G_z45 (hr.mono (by omega)) T.b_z45 .nil j6_ (j0_ jk_ j5_))) (j7_ (jh_ (j9_ G_z31 (hr.mono (by omega)) (by rfl) T.m_z31 T.F_z31.kp T.b_z31 .nil j6_ (j0_ (pv 0) (j0_ (pv 1) j5_))))) ji_)
    (j2_ (yg_ (yc_ (jb_ (pv 0) T.cl_Reader T.me_z45 G_z45 (hr.mono (by omega)) T.b_z45 .nil j6_ (j0_ jk_ j5_))) (j7_ (jh_ (j9_ G_z69 (hr.mono (by omega)) (by rfl) T.m_z69 T.F_z69.kp T.b_z69 .nil j6_ (j0_ (pv 0) (j0_ (pv 1) j5_))))) ji_)
    (j2_ (jd_ (jn_ (pv 0) T.cl_Reader T.me_z7 G_z7 (hr.mono (by omega)) T.b_z7 .nil j6_))
    (j2_ (jg_ (i:=2) sc_z39.nd rfl (Or.inl rfl) (yf_ (jn_ (pv 0) T.cl_Reader T.me_z19 G_z19 (hr.mono (by omega)) T.b_z19 .nil j6_) rfl))
    (j2_ (yg_ (j17_ (pc_din (j16_ hr) (pv 2) (yf_ (pv 0) rfl))) (j7_ (jh_ (j9_ G_z61 (hr.mono (by omega)) (by rfl) T.m_z61 T.F_z61.kp T.b_z61 .nil j6_ (j0_ (pv 0) (j0_ (pv 1) j5_))))) ji_)
    (j2_ (yg_ (j17_ (pc_dnotin (j16_ hr) (pv 2) (yf_ (pv 0) rfl))) (j7_ (jd_ (jb_ (pv 0) T.cl_Reader T.me_z44 G_z44 (hr.mono (by omega)) T.b_z44 .nil j6_ (j0_ (vc_ (by rfl) T.g_NOT_KNOWN) j5_)))) ji_)
    (j7_ (jh_ (vf_ T.mk_Name G_z23 (hr.mono (by omega)) (by rfl) T.mg_Name T.b_z23 .nil yr_ (j0_ (jn_ (pv 0) T.cl_Reader T.me_z46 G_z46 (hr.mono (by omega)) T.b_z46 .nil j6_) j5_))))))))))),?_⟩
  obtain⟨f,rfl⟩: ∃f,fuel=f+1:=⟨fuel-1,by omega⟩
  refine⟨_,rfl,r,dr,_,rfl,er,rfl,r,q,kd,fn,ds,bl,n,(x,xp),t',rfl,S.rd,hb,fun nb=>⟨_,rfl,?_⟩⟩
  have nbp:peek ((x,xp)::t')≠ .bad:=nb
  cases x with
  |num m=>
   refine j0q_ ?_
   have e:primary (f+1) (12-d) Kn ((.num m,xp)::t')= .ok (.num m,t'):=by rw[primary];rfl
   rw[j0n_ e] at hW
   refine⟨_,rfl,r,dr,_,rfl,er,rfl,r,q,kd,fn,ds,bl,n,(.num m,xp),t',rfl,S.rd,hb,fun nb H1 hp1=>?_⟩
   intro p dx hp hdx ne
   refine⟨p,dx,_,rfl,j4_,fun H2 h2 k2=>⟨rfl,?_⟩⟩
   have S1:=S.past (fun z=>z.elim (fun z=>nomatch z) fun z=>nomatch z) hp1
   have s12:=yz_ hp hdx k2
   refine hW H2 (.ref p) (n+1) (Nat.lt_succ_self _) (S1.same s12) ((jt_ hp1).trans (OS.vq_.keeps s12)) ?_
   unfold ja_
   exact⟨p,dx,rfl,S1.fresh hp,h2⟩
  |sign u=>
   refine ur_ ?_
   refine⟨_,rfl,r,dr,_,rfl,er,rfl,r,q,kd,fn,ds,bl,n,(.sign u,xp),t',"(",rfl,S.rd,hb,fun nb=>⟨_,rfl,yt_ (fun e=>?_) fun e=>?_⟩⟩
   ·rw[v9_ (x:="(") tok litO] at e
    have e:u=text "(":=by have:=beq_iff_eq.mp e;cases this;rfl
    subst e
    exact⟨_,rfl,_,rfl,r,q,kd,fn,ds,bl,n,_,Kn,d,f+1,rfl,hd,⟨hl,rfl⟩,S,hf,hW⟩
   ·rw[v9_ (x:="(") tok litO] at e
    have e2:isV "sum" (.sign u)=false:=by rw[vd_ (x:="sum") tok litSum];rfl
    refine⟨_,rfl,r,dr,_,rfl,er,rfl,r,q,kd,fn,ds,bl,n,(.sign u,xp),t',"sum",rfl,S.rd,hb,fun nb=>⟨_,rfl,?_⟩⟩
    rw[e2]
    refine ur_ ?_
    refine⟨_,rfl,r,dr,_,rfl,er,rfl,r,q,kd,fn,ds,bl,n,(.sign u,xp),t',rfl,S.rd,hb,fun nb _=>?_,fun _ z=>nomatch z⟩
    have ep:primary (f+1) (12-d) Kn ((.sign u,xp)::t')=Vbemac.fail 2 ((.sign u,xp)::t'):=by
     rw[primary]
     show(if isSign ((.sign u,xp)::t') "("=true then _ else Vbemac.fail 2 ((.sign u,xp)::t'))=_
     rw[if_neg (by unfold isSign;rw[hpk,e];exact Bool.false_ne_true)]
    exact(yl_ ep nbp hW) H je_.refl
  |word u=>
   refine ur_ ?_
   have e1:isV "(" (.word u)=false:=by rw[v9_ (x:="(") tok litO];rfl
   refine⟨_,rfl,r,dr,_,rfl,er,rfl,r,q,kd,fn,ds,bl,n,(.word u,xp),t',"(",rfl,S.rd,hb,fun nb=>⟨_,rfl,?_⟩⟩
   rw[e1]
   refine ur_ ?_
   refine⟨_,rfl,r,dr,_,rfl,er,rfl,r,q,kd,fn,ds,bl,n,(.word u,xp),t',"sum",rfl,S.rd,hb,fun nb=>⟨_,rfl,yt_ (fun e=>?_) fun e=>?_⟩⟩
   ·rw[vd_ (x:="sum") tok litSum] at e
    have e:u=text "sum":=by have:=beq_iff_eq.mp e;cases this;rfl
    subst e
    exact⟨_,rfl,_,rfl,r,q,kd,fn,ds,bl,n,_,Kn,d,f+1,rfl,hd,⟨hl,rfl⟩,S,hf,hW⟩
   ·rw[vd_ (x:="sum") tok litSum] at e
    have ns:u≠text "sum":=fun z=>by rw[z] at e;exact absurd (show(Vbemac.Tok.word (text "sum") == .word (text "sum"))=false from e) (by decide+kernel)
    have ep:primary (f+1) (12-d) Kn ((.word u,xp)::t')=(if KEYS.contains u=true then Vbemac.fail 2 else(match Kn.funs.find? (fun f=>f.1 == u) with
      |some _=>primary (f+1) (12-d) Kn
      |none=>(fun t=>if Kn.values.contains u=true then .ok (.name u,t.drop 1) else Vbemac.fail 3 t)):Vbemac.P Vbemac.Exp) ((.word u,xp)::t'):=by
     by_cases hkw:KEYS.contains u=true
     ·rw[if_pos hkw,primary]
      show(if u=text "sum" then _ else if KEYS.contains u=true then _ else _)=_
      rw[if_neg ns,if_pos hkw]
     ·rw[if_neg hkw]
      cases hfd:Kn.funs.find? (fun f=>f.1 == u) with
      |some g=>rfl
      |none=>
       rw[primary]
       show(if u=text "sum" then _ else if KEYS.contains u=true then _ else _)=_
       rw[if_neg ns,if_neg hkw,hfd]
    refine⟨_,rfl,r,dr,_,rfl,er,rfl,r,q,kd,fn,ds,bl,n,(.word u,xp),t',rfl,S.rd,hb,fun nb en=>?_,fun nb en=>?_⟩
    ·rw[jz_] at en
     have hkw:KEYS.contains u=true:=by cases h:KEYS.contains u;rw[h] at en;cases en;rfl
     rw[if_pos hkw] at ep
     exact(yl_ ep nbp hW) H je_.refl
    ·rw[jz_] at en
     have hkw:KEYS.contains u=false:=by cases h:KEYS.contains u;rfl;rw[h] at en;cases en
     rw[if_neg (by rw[hkw];exact Bool.false_ne_true)] at ep
     obtain⟨kk,k1,k2,k3⟩:=S.kn.vals
     obtain⟨ff,f1,f2⟩:=S.kn.funs
     refine⟨_,rfl,r,dr,_,rfl,er,rfl,r,q,kd,fn,ds,bl,n,(.word u,xp),t',rfl,S.rd,hb,fun _ p ⟨dx,et⟩=>⟨p,_,dx,_,_,rfl,et,T.cl_Token,T.no_Token_value,rfl,?_⟩⟩
     refine⟨_,rfl,_,rfl,r,_,dr,_,_,rfl,er,T.cl_Reader,T.no_Reader_functions,rfl,fn,_,rfl,DGet.k (k:=nk u) f1,_,rfl,?_⟩
     rw[f2]
     cases hfd:Kn.funs.find? (fun f=>f.1 == u) with
     |some g=>
      refine j0q_ ?_
      exact⟨_,rfl,_,rfl,r,q,kd,fn,ds,bl,n,_,Kn,d,f+1,rfl,hd,⟨hl,u,g,rfl,ns,hkw,hfd⟩,S,hf,hW⟩
     |none=>
      refine ur_ ?_
      rw[hfd] at ep
      refine⟨_,rfl,_,rfl,r,_,dr,_,_,rfl,er,T.cl_Reader,T.no_Reader_known,rfl,kd,_,rfl,DGet.k (k:=nk u) k1,_,rfl,?_⟩
      have k3u:(uo_ kk (nk u)).isSome=Kn.values.contains u:=k3 u
      rw[k3u]
      cases hv:Kn.values.contains u with
      |false=>
       refine j0q_ ?_
       have ep2:primary (f+1) (12-d) Kn ((.word u,xp)::t')=Vbemac.fail 3 ((.word u,xp)::t'):=by rw[ep,hv];rfl
       refine⟨_,rfl,r,dr,_,rfl,er,rfl,r,q,kd,fn,ds,bl,n,(.word u,xp),t',3,rfl,S.rd,?_⟩
       rw[if_neg nb]
       exact(yl_ ep2 nbp hW) H je_.refl
      |true=>
       refine ur_ ?_
       have ep2:primary (f+1) (12-d) Kn ((.word u,xp)::t')= .ok (.name u,t'):=by rw[ep,hv];rfl
       rw[j0n_ ep2] at hW
       refine⟨_,rfl,r,dr,_,rfl,er,rfl,r,q,kd,fn,ds,bl,n,(.word u,xp),t',rfl,S.rd,hb,fun nb H1 hp1=>?_⟩
       intro p' dx' hp hdx ne
       refine⟨p',dx',_,rfl,j4_,fun H2 h2 k2=>⟨rfl,?_⟩⟩
       have S1:=S.past (fun z=>z.elim (fun z=>nomatch z) fun z=>nomatch z) hp1
       have s12:=yz_ hp hdx k2
       refine hW H2 (.ref p') (n+1) (Nat.lt_succ_self _) (S1.same s12) ((jt_ hp1).trans (OS.vq_.keeps s12)) ?_
       unfold ja_
       exact⟨p',dx',rfl,S1.fresh hp,h2⟩
  |eof=>
   refine ur_ ?_
   have e1:isV "(" .eof=false:=by rw[v9_ (x:="(") tok litO];rfl
   have e2:isV "sum" .eof=false:=by rw[vd_ (x:="sum") tok litSum];rfl
   refine⟨_,rfl,r,dr,_,rfl,er,rfl,r,q,kd,fn,ds,bl,n,(.eof,xp),t',"(",rfl,S.rd,hb,fun nb=>⟨_,rfl,?_⟩⟩
   rw[e1]
   refine ur_ ?_
   refine⟨_,rfl,r,dr,_,rfl,er,rfl,r,q,kd,fn,ds,bl,n,(.eof,xp),t',"sum",rfl,S.rd,hb,fun nb=>⟨_,rfl,?_⟩⟩
   rw[e2]
   refine ur_ ?_
   refine⟨_,rfl,r,dr,_,rfl,er,rfl,r,q,kd,fn,ds,bl,n,(.eof,xp),t',rfl,S.rd,hb,fun nb _=>?_,fun _ z=>nomatch z⟩
   have ep:primary (f+1) (12-d) Kn ((.eof,xp)::t')=Vbemac.fail 2 ((.eof,xp)::t'):=by rw[primary];rfl
   exact(yl_ ep nbp hW) H je_.refl
  |bad=>exact absurd rfl nb
end
end OS
namespace OS
open PySem PySem.Spec L2
open PyProof.Rows hiding St
open Vbemac (Bytes Toks SIGNS KEYS peek place primary text isSign isKey expr)
section
variable {a:Adr} {H0 H:Hp} {r q kd fn:Addr} {ds bl:Box} {n:Nat} {t:Toks} {Kn:Vbemac.Known} {β:Type} {E:XK} {Q:VK}
abbrev QE (a:Adr) (r kd fn:Addr) (ds bl:Box) (H0:Hp) (E:XK):Nat->Vbemac.Pos->Prop:=fun k x=> ∀H',je_ (Mut r kd fn ds bl) H0 H'->Flt a.c_Fault E H' k x
theorem j0c_ {v:Str} {s:String} {g:Unit->Vbemac.P β} {Ro:β->Toks->Prop} (lit:LitS v (text s)) (S:PSt a H r q kd fn ds bl n t Kn) (kp:je_ (Mut r kd fn ds bl) H0 H) (hW:W (Vbemac.sign s>>=g) t Ro (QE a r kd fn ds bl H0 E))
  (cont: ∀H' t',t'.length+1=t.length->PSt a H' r q kd fn ds bl (n+1) t' Kn->je_ (Mut r kd fn ds bl) H H'->W (g ()) t' Ro (QE a r kd fn ds bl H0 E)->Q .non H'):uw_ a [.ref r, .str v] H Q E:=by
 obtain⟨⟨x,xp⟩,t',rfl,tok,hpk,hpl,_⟩:=S.wh.first
 rw[jj_] at hW
 refine⟨r,q,kd,fn,ds,bl,n,(x,xp),t',v,rfl,S.rd,fun b=>(jy_ s).at_bad (hpk.trans b) hW H kp,fun nb e=>?_,fun nb e H' hp=>?_⟩
 ·rw[v9_ (x:=v) tok lit] at e
  exact yl_ (p:=Vbemac.sign s) (n:=2) (t:=(x,xp)::t') (by unfold Vbemac.sign isSign;rw[hpk,e];rfl) nb hW H kp
 ·rw[v9_ (x:=v) tok lit] at e
  have es:Vbemac.sign s ((x,xp)::t')= .ok ((),t'):=by unfold Vbemac.sign isSign;rw[hpk,e];rfl
  rw[j0n_ es] at hW
  have ex:x= .sign (text s):=beq_iff_eq.mp e
  exact cont H' t' rfl (S.past (fun z=>z.elim (fun z=>by rw[ex] at z;cases z) fun z=>nb z) hp) (jt_ hp) hW
theorem step_key {v:Str} {s:String} {g:Unit->Vbemac.P β} {Ro:β->Toks->Prop} (lit:j0o_ v (text s)) (S:PSt a H r q kd fn ds bl n t Kn) (kp:je_ (Mut r kd fn ds bl) H0 H) (hW:W (Vbemac.key s>>=g) t Ro (QE a r kd fn ds bl H0 E))
  (cont: ∀H' t',t'.length+1=t.length->PSt a H' r q kd fn ds bl (n+1) t' Kn->je_ (Mut r kd fn ds bl) H H'->W (g ()) t' Ro (QE a r kd fn ds bl H0 E)->Q .non H'):uw_ a [.ref r, .str v] H Q E:=by
 obtain⟨⟨x,xp⟩,t',rfl,tok,hpk,hpl,_⟩:=S.wh.first
 rw[jj_] at hW
 refine⟨r,q,kd,fn,ds,bl,n,(x,xp),t',v,rfl,S.rd,fun b=>(vp_ s).at_bad (hpk.trans b) hW H kp,fun nb e=>?_,fun nb e H' hp=>?_⟩
 ·rw[vd_ (x:=v) tok lit] at e
  exact yl_ (p:=Vbemac.key s) (n:=2) (t:=(x,xp)::t') (by unfold Vbemac.key isKey;rw[hpk,e];rfl) nb hW H kp
 ·rw[vd_ (x:=v) tok lit] at e
  have es:Vbemac.key s ((x,xp)::t')= .ok ((),t'):=by unfold Vbemac.key isKey;rw[hpk,e];rfl
  rw[j0n_ es] at hW
  have ex:x= .word (text s):=beq_iff_eq.mp e
  exact cont H' t' rfl (S.past (fun z=>z.elim (fun z=>by rw[ex] at z;cases z) fun z=>nb z) hp) (jt_ hp) hW
theorem j0k_ {d:Nat} {g:Nat->Vbemac.P β} {Ro:β->Toks->Prop} (hd:d<=12) (S:PSt a H r q kd fn ds bl n t Kn) (nb:peek t≠ .bad) (kp:je_ (Mut r kd fn ds bl) H0 H) (hW:W (Vbemac.deeper (12-d)>>=g) t Ro (QE a r kd fn ds bl H0 E))
  (cont:d<12->W (g (12-(d+1))) t Ro (QE a r kd fn ds bl H0 E)->Q (.int ((d+1:Nat):Int)) H):spDeeper a [.ref r, .int d] H Q E:=by
 obtain⟨⟨x,xp⟩,t',rfl,tok,hpk,hpl,_⟩:=S.wh.first
 rw[jj_] at hW
 have nx:x≠ .bad:=nb
 refine⟨r,q,kd,fn,ds,bl,n,(x,xp),t',d,rfl,S.rd,fun e=>?_,fun e=>?_⟩
 ·rw[if_neg nx]
  exact yl_ (p:=Vbemac.deeper (12-d)) (n:=6) (by unfold Vbemac.deeper;rw[if_pos (by omega)]) nb hW H kp
 ·have ed:Vbemac.deeper (12-d) ((x,xp)::t')= .ok (12-(d+1),(x,xp)::t'):=by unfold Vbemac.deeper;rw[if_neg (by omega),show 12-d-1=12-(d+1) by omega]
  rw[j0n_ ed] at hW
  exact cont (by omega) hW
end
theorem litC:LitS ")" (text ")"):=⟨by decide+kernel,by decide+kernel⟩
section
variable {P:Program} {w:World} {K:PySem.W.Frag} {mg:Str->Option Value} {base:Heap} {a:Adr} {k j:Nat}
theorem primary_br {f d:Nat} {Kn:Vbemac.Known} {xp:Vbemac.Pos} {t:Toks} :primary (f+1) d Kn ((.sign (text "("),xp)::t)=
  (Vbemac.deeper d>>=fun e=>Vbemac.next>>=fun _=>expr f e Kn>>=fun x=>Vbemac.sign ")">>=fun _=>pure x:Vbemac.P Vbemac.Exp) ((.sign (text "("),xp)::t):=by
 rw[primary]
 show(if isSign ((.sign (text "("),xp)::t) "("=true then _ else _)=_
 rw[if_pos (by unfold isSign;exact beq_self_eq_true _)]
theorem W_as {α:Type} {p p':Vbemac.P α} {t:Toks} {Qo:α->Toks->Prop} {Qe:Nat->Vbemac.Pos->Prop} (e:p t=p' t) (h:W p t Qo Qe):W p' t Qo Qe:=by
 unfold W at h ⊢
 rw[<-e]
 exact h
theorem W_nx {α:Type} {g:Unit->Vbemac.P α} {x:Vbemac.Tok×Vbemac.Pos} {t:Toks} {Qo:α->Toks->Prop} {Qe:Nat->Vbemac.Pos->Prop} (h:W (Vbemac.next>>=g) (x::t) Qo Qe):W (g ()) t Qo Qe:=by
 rw[jj_] at h
 exact h
theorem ok_z31 (T:Txt K mg a) (XC:XT K a) (hk:7<=k)
  (G_z68:ju_ P w K mg base (CXF P w) k a.f_z68 a.fd_z68 ["reader","depth"] (yy_ a W2 expr 12 (Lv j))):
  ju_ P w K mg base (CXF P w) (k+1) a.f_z31 a.fd_z31 ["reader","depth"] (yy_ a W primary 6 (LvS (j+1) (text "("))):=by
 have G_z76:=ok_z76 (P:=P) (w:=w) (base:=base) T XC
 have G_z29:=yq_ (P:=P) (w:=w) (base:=base) T XC
 refine okX T.F_z31 sc_z31 (fun vs H Q E h=>?_) (fun cdv A outer s H vs Q E hr h=>?_)
 ·obtain⟨r,q,kd,fn,ds,bl,n,t,Kn,d,fuel,rfl,_⟩:=h
  rfl
 ·obtain⟨r,q,kd,fn,ds,bl,n,t,Kn,d,fuel,rfl,hd,⟨hl,hpk0⟩,S,hf,hW⟩:=h
  obtain⟨⟨x,xp⟩,t',rfl,tok,hpk,hpl,_⟩:=S.wh.first
  obtain rfl:x= .sign (text "("):=hpk.symm.trans hpk0
  have nb:peek ((.sign (text "("),xp)::t')≠ .bad:=fun z=>nomatch z
  refine⟨_,(j2_ (jg_ (i:=2) sc_z31.nd rfl (Or.inl rfl) (j9_ G_z76 (hr.mono (by omega)) (by rfl) T.m_z76 T.F_z76.kp T.b_z76 .nil j6_ (j0_ (pv 0) (j0_ (pv 1) j5_))))
    (j2_ (jd_ (jb_ (pv 0) T.cl_Reader T.me_z29 G_z29 (hr.mono (by omega)) T.b_z29 .nil j6_ (j0_ jk_ j5_)))
    (j2_ (jg_ (i:=3) sc_z31.nd rfl (Or.inl rfl) (j9_ G_z68 (hr.mono (by omega)) (by rfl) T.m_z68 T.F_z68.kp T.b_z68 .nil j6_ (j0_ (pv 0) (j0_ (pv 2) j5_))))
    (j2_ (jd_ (jb_ (pv 0) T.cl_Reader T.me_z29 G_z29 (hr.mono (by omega)) T.b_z29 .nil j6_ (j0_ jk_ j5_)))
    (j7_ (jh_ (pv 3))))))),?_⟩
  rw[List.length_cons] at hf
  obtain⟨f,rfl⟩: ∃f,fuel=f+1:=⟨fuel-1,by omega⟩
  refine⟨_,rfl,_,rfl,?_⟩
  unfold j14_
  dsimp only[List.append_nil]
  refine j0k_ hd S nb je_.refl (W_as primary_br hW) fun lt hW=>?_
  have hW:=W_nx hW
  obtain⟨dr,er⟩:=S.rd.ins
  refine⟨_,rfl,r,dr,_,rfl,er,rfl,?_⟩
  refine⟨r,q,kd,fn,ds,bl,n,(.sign (text "("),xp),t',"(",rfl,S.rd,(fun z=>nomatch z),fun _ e=>?_,fun _ _ H1 hp1=>?_⟩
  ·rw[v9_ (x:="(") tok litO] at e
   exact absurd (show(Vbemac.Tok.sign (text "(") == .sign (text "("))=false from e) (by decide+kernel)
  have S1:=S.past (fun z=>z.elim (fun z=>nomatch z) fun z=>nomatch z) hp1
  have k1:=jt_ hp1
  have h2:=W2.of (fun x=>(jy_ ")").bind) hW
  refine⟨_,rfl,_,rfl,r,q,kd,fn,ds,bl,n+1,t',Kn,d+1,f,rfl,lt,(by show 13<=d+1+j;have:13<=d+(j+1):=hl;omega),S1,by omega,h2.mono (fun e t2 nb2 hW2 H2 v n2 l2 S2 k2 ev=>?_) fun _ _ z H' k'=>z H' (k1.trans k')⟩
  obtain⟨dr2,er2⟩:=S2.rd.ins
  refine⟨_,rfl,r,dr2,_,rfl,er2,rfl,?_⟩
  unfold ua_ tC
  dsimp only[List.append_nil]
  refine j0c_ litC S2 (k1.trans k2) hW2 fun H3 t3 l3 S3 k3 hW3=>?_
  exact⟨_,rfl,hW3 H3 v _ (by rw[List.length_cons];omega) S3 ((k1.trans k2).trans k3) (ja_.keep k3 _ ev)⟩
end
end OS
namespace OS
open PySem PySem.Spec L2
open PyProof.Rows hiding St
open Vbemac (Bytes Toks SIGNS KEYS peek place primary text isSign isKey expr)
theorem litIf:j0o_ "if" (text "if"):=⟨by decide+kernel,by decide+kernel,by decide+kernel⟩
theorem litThen:j0o_ "then" (text "then"):=⟨by decide+kernel,by decide+kernel,by decide+kernel⟩
theorem litElse:j0o_ "else" (text "else"):=⟨by decide+kernel,by decide+kernel,by decide+kernel⟩
theorem expr_if {f d:Nat} {Kn:Vbemac.Known} {xp:Vbemac.Pos} {t:Toks} :expr (f+1) d Kn ((.word (text "if"),xp)::t)=
  (Vbemac.deeper d>>=fun e=>Vbemac.next>>=fun _=>expr f e Kn>>=fun c=>Vbemac.key "then">>=fun _=>expr f e Kn>>=fun x=>Vbemac.key "else">>=fun _=>expr f e Kn>>=fun y=>pure (.pick c x y):Vbemac.P Vbemac.Exp) ((.word (text "if"),xp)::t):=by
 rw[expr]
 show(if isKey ((.word (text "if"),xp)::t) "if"=true then _ else _)=_
 rw[if_pos (by unfold isKey;exact beq_self_eq_true _)]
section
variable {P:Program} {w:World} {K:PySem.W.Frag} {mg:Str->Option Value} {base:Heap} {a:Adr} {k j:Nat}
theorem ok_z47 (T:Txt K mg a) (XC:XT K a) (hk:7<=k)
  (G_z68:ju_ P w K mg base (CXF P w) k a.f_z68 a.fd_z68 ["reader","depth"] (yy_ a W2 expr 12 (Lv j))):
  ju_ P w K mg base (CXF P w) (k+1) a.f_z47 a.fd_z47 ["reader","depth"] (yy_ a W2 expr 12 (LvW (j+1) (text "if"))):=by
 have G_z76:=ok_z76 (P:=P) (w:=w) (base:=base) T XC
 have G_z29:=yq_ (P:=P) (w:=w) (base:=base) T XC
 have G_z9:=ok_Choice_init (P:=P) (w:=w) (base:=base) T
 refine okX T.F_z47 sc_z47 (fun vs H Q E h=>?_) (fun cdv A outer s H vs Q E hr h=>?_)
 ·obtain⟨r,q,kd,fn,ds,bl,n,t,Kn,d,fuel,rfl,_⟩:=h
  rfl
 ·obtain⟨r,q,kd,fn,ds,bl,n,t,Kn,d,fuel,rfl,hd,⟨hl,hpk0⟩,S,hf,hW⟩:=h
  obtain⟨⟨x,xp⟩,t',rfl,tok,hpk,hpl,_⟩:=S.wh.first
  obtain rfl:x= .word (text "if"):=hpk.symm.trans hpk0
  have nb:peek ((.word (text "if"),xp)::t')≠ .bad:=fun z=>nomatch z
  refine⟨_,(j2_ (jg_ (i:=2) sc_z47.nd rfl (Or.inl rfl) (j9_ G_z76 (hr.mono (by omega)) (by rfl) T.m_z76 T.F_z76.kp T.b_z76 .nil j6_ (j0_ (pv 0) (j0_ (pv 1) j5_))))
    (j2_ (jd_ (jb_ (pv 0) T.cl_Reader T.me_z29 G_z29 (hr.mono (by omega)) T.b_z29 .nil j6_ (j0_ jk_ j5_)))
    (j2_ (jg_ (i:=3) sc_z47.nd rfl (Or.inl rfl) (j9_ G_z68 (hr.mono (by omega)) (by rfl) T.m_z68 T.F_z68.kp T.b_z68 .nil j6_ (j0_ (pv 0) (j0_ (pv 2) j5_))))
    (j2_ (jd_ (jb_ (pv 0) T.cl_Reader T.me_z29 G_z29 (hr.mono (by omega)) T.b_z29 .nil j6_ (j0_ jk_ j5_)))
    (j2_ (jg_ (i:=4) sc_z47.nd rfl (Or.inl rfl) (j9_ G_z68 (hr.mono (by omega)) (by rfl) T.m_z68 T.F_z68.kp T.b_z68 .nil j6_ (j0_ (pv 0) (j0_ (pv 2) j5_))))
    (j2_ (jd_ (jb_ (pv 0) T.cl_Reader T.me_z29 G_z29 (hr.mono (by omega)) T.b_z29 .nil j6_ (j0_ jk_ j5_)))
    (j7_ (jh_ (vf_ T.mk_Choice G_z9 (hr.mono (by omega)) (by rfl) T.mg_Choice T.b_z9 .nil yr_ (j0_ (pv 3) (j0_ (pv 4) (j0_ (j9_ G_z68 (hr.mono (by omega)) (by rfl) T.m_z68 T.F_z68.kp T.b_z68 .nil j6_ (j0_ (pv 0) (j0_ (pv 2) j5_))) j5_)))))))))))),?_⟩
  rw[List.length_cons] at hf
  have hl:13<=d+(j+1):=hl
  obtain⟨f,rfl⟩: ∃f,fuel=f+1:=⟨fuel-1,by omega⟩
  unfold W2 at hW
  refine⟨_,rfl,_,rfl,?_⟩
  unfold j14_
  dsimp only[List.append_nil]
  refine j0k_ hd S nb je_.refl (W_as expr_if hW) fun lt hW=>?_
  have hW:=W_nx hW
  obtain⟨dr,er⟩:=S.rd.ins
  refine⟨_,rfl,r,dr,_,rfl,er,rfl,?_⟩
  refine⟨r,q,kd,fn,ds,bl,n,(.word (text "if"),xp),t',"if",rfl,S.rd,(fun z=>nomatch z),fun _ e=>?_,fun _ _ H1 hp1=>?_⟩
  ·rw[vd_ (x:="if") tok litIf] at e
   exact absurd (show(Vbemac.Tok.word (text "if") == .word (text "if"))=false from e) (by decide+kernel)
  have S1:=S.past (fun z=>z.elim (fun z=>nomatch z) fun z=>nomatch z) hp1
  have k1:=jt_ hp1
  have h2:=W2.of (fun x=>(vp_ "then").bind) hW
  refine⟨_,rfl,_,rfl,r,q,kd,fn,ds,bl,n+1,t',Kn,d+1,f,rfl,lt,(by show 13<=d+1+j;omega),S1,by omega,h2.mono (fun e1 t2 nb2 hW2 H2 v1 n2 l2 S2 k2 ev1=>?_) fun _ _ z H' k'=>z H' (k1.trans k')⟩
  obtain⟨dr2,er2⟩:=S2.rd.ins
  refine⟨_,rfl,r,dr2,_,rfl,er2,rfl,?_⟩
  unfold ua_ tC
  dsimp only[List.append_nil]
  refine step_key litThen S2 (k1.trans k2) hW2 fun H3 t3 l3 S3 k3 hW3=>?_
  have k13:=(k1.trans k2).trans k3
  have h4:=W2.of (fun x=>(vp_ "else").bind) hW3
  refine⟨_,rfl,_,rfl,r,q,kd,fn,ds,bl,n2+1,t3,Kn,d+1,f,rfl,lt,(by show 13<=d+1+j;omega),S3,by omega,h4.mono (fun e2 t4 nb4 hW4 H4 v2 n4 l4 S4 k4 ev2=>?_) fun _ _ z H' k'=>z H' (k13.trans k')⟩
  obtain⟨dr4,er4⟩:=S4.rd.ins
  refine⟨_,rfl,r,dr4,_,rfl,er4,rfl,?_⟩
  refine step_key litElse S4 (k13.trans k4) hW4 fun H5 t5 l5 S5 k5 hW5=>?_
  have k15:=(k13.trans k4).trans k5
  have k35:=k3.trans (k4.trans k5)
  have k45:=k5
  rw[jj_] at hW5
  have h6:W2 (expr f (12-(d+1)) Kn) t5 (fun y u=> ∀H' v n',u.length<((Vbemac.Tok.word (text "if"),xp)::t').length->PSt a H' r q kd fn ds bl n' u Kn->je_ (Mut r kd fn ds bl) H H'->ja_ a (Mut r kd fn ds bl) H' (.pick e1 e2 y) v->Q v H') (QE a r kd fn ds bl H E):=hW5
  refine⟨_,rfl,_,rfl,_,rfl,_,rfl,r,q,kd,fn,ds,bl,n4+1,t5,Kn,d+1,f,rfl,lt,(by show 13<=d+1+j;omega),S5,by omega,h6.mono (fun e3 t6 nb6 hW6 H6 v3 n6 l6 S6 k6 ev3=>?_) fun _ _ z H' k'=>z H' (k15.trans k')⟩
  intro p dx hp hdx ne
  refine⟨p,dx,_,_,_,rfl,j4_,fun H7 h7 k7=>⟨rfl,?_⟩⟩
  have s67:=yz_ hp hdx k7
  have k67:je_ (Mut r kd fn ds bl) H6 H7:=OS.vq_.keeps s67
  refine hW6 H7 (.ref p) n6 (by rw[List.length_cons];omega) (S6.same s67) ((k15.trans k6).trans k67) ?_
  unfold ja_
  exact⟨v1,v2,v3,⟨p,dx,rfl,S6.fresh hp,h7⟩,ja_.keep (k35.trans (k6.trans k67)) _ ev1,ja_.keep (k45.trans (k6.trans k67)) _ ev2,ja_.keep k67 _ ev3⟩
end
end OS
namespace OS
open PySem PySem.Spec L2
open PyProof.Rows hiding St
open Vbemac (Bytes Toks SIGNS KEYS peek place primary unary text isSign isKey expr)
theorem litM:LitS "-" (text "-"):=⟨by decide+kernel,by decide+kernel⟩
theorem litN:LitS "!" (text "!"):=⟨by decide+kernel,by decide+kernel⟩
theorem qw_ {x:Vbemac.Tok×Vbemac.Pos} {t:Toks} {s:String} :isSign (x::t) s=(x.1 == .sign (text s)):=rfl
theorem unary_not {f d:Nat} {Kn:Vbemac.Known} {xp:Vbemac.Pos} {t:Toks} :unary (f+1) d Kn ((.sign (text "!"),xp)::t)=
  (Vbemac.deeper d>>=fun e=>Vbemac.next>>=fun _=>unary f e Kn>>=fun x=>pure (.not x):Vbemac.P Vbemac.Exp) ((.sign (text "!"),xp)::t):=by
 rw[unary]
 show(if isSign ((.sign (text "!"),xp)::t) "-"=true then _ else if isSign ((.sign (text "!"),xp)::t) "!"=true then _ else _)=_
 rw[if_neg (by rw[qw_];show¬(Vbemac.Tok.sign (text "!") == .sign (text "-"))=true;decide+kernel),if_pos (by rw[qw_];exact beq_self_eq_true _)]
theorem unary_neg {f d:Nat} {Kn:Vbemac.Known} {xp:Vbemac.Pos} {t:Toks} (h: ∀m,peek t≠ .num m):unary (f+1) d Kn ((.sign (text "-"),xp)::t)=
  (Vbemac.deeper d>>=fun e=>Vbemac.next>>=fun _=>unary f e Kn>>=fun x=>pure (.neg x):Vbemac.P Vbemac.Exp) ((.sign (text "-"),xp)::t):=by
 rw[unary]
 show(if isSign ((.sign (text "-"),xp)::t) "-"=true then(match peek t with
   | .num n=>_
   |_=>_) else _)=_
 rw[if_pos (by rw[qw_];exact beq_self_eq_true _)]
 cases e:peek t with
 |num m=>exact absurd e (h m)
 |_=>rfl
theorem unary_num {f d m:Nat} {Kn:Vbemac.Known} {xp:Vbemac.Pos} {t:Toks} (h:peek t= .num m):unary (f+1) d Kn ((.sign (text "-"),xp)::t)= .ok (.neg (.num m),t.drop 1):=by
 rw[unary]
 show(if isSign ((.sign (text "-"),xp)::t) "-"=true then(match peek t with
   | .num n=>_
   |_=>_) else _)=_
 rw[if_pos (by rw[qw_];exact beq_self_eq_true _),h]
 rfl
theorem unary_else {f d:Nat} {Kn:Vbemac.Known} {x:Vbemac.Tok×Vbemac.Pos} {t:Toks} (h1:(x.1 == .sign (text "-"))=false) (h2:(x.1 == .sign (text "!"))=false):unary (f+1) d Kn (x::t)=primary f d Kn (x::t):=by
 rw[unary]
 show(if isSign (x::t) "-"=true then _ else if isSign (x::t) "!"=true then _ else _)=_
 rw[if_neg (by rw[qw_,h1];exact Bool.false_ne_true),if_neg (by rw[qw_,h2];exact Bool.false_ne_true)]
theorem unary_n {f d m:Nat} {Kn:Vbemac.Known} {xp:Vbemac.Pos} {t:Toks} :unary (f+2) d Kn ((.num m,xp)::t)= .ok (.num m,t):=by
 rw[unary_else rfl rfl,primary]
 rfl
section
variable {P:Program} {w:World} {K:PySem.W.Frag} {mg:Str->Option Value} {base:Heap} {a:Adr} {k j:Nat}
theorem j03_ (okT okC:Nat->Vbemac.Known->Toks->Prop) (T:Txt K mg a) (XC:XT K a) (hk:7<=k)
  (h0: ∀d Kn t,okT d Kn t->13<=d+j) (h1: ∀d Kn s xp t,okT d Kn ((.sign s,xp)::t)->d<12->okC (d+1) Kn t) (h2: ∀d Kn s xp t m,okT d Kn ((.sign s,xp)::t)->peek t= .num m->okC d Kn t)
  (G_z39:ju_ P w K mg base (CXF P w) k a.f_z39 a.fd_z39 ["reader","depth"] (yy_ a W primary 6 (Lv j)))
  (G_z53:ju_ P w K mg base (CXF P w) k a.f_z53 a.fd_z53 ["reader","depth"] (yy_ a W unary 7 okC)):
  ju_ P w K mg base (CXF P w) (k+1) a.f_z53 a.fd_z53 ["reader","depth"] (yy_ a W unary 7 okT):=by
 have G_z45:=qt_ (P:=P) (w:=w) (base:=base) T XC
 have G_z76:=ok_z76 (P:=P) (w:=w) (base:=base) T XC
 have G_z46:=wr_ (P:=P) (w:=w) (base:=base) T XC
 have G_z1:=ok_number_follows (P:=P) (w:=w) (base:=base) T
 have G_z13:=ok_Unary_init (P:=P) (w:=w) (base:=base) T
 refine okX T.F_z53 sc_z53 (fun vs H Q E h=>?_) (fun cdv A outer s H vs Q E hr h=>?_)
 ·obtain⟨r,q,kd,fn,ds,bl,n,t,Kn,d,fuel,rfl,_⟩:=h
  rfl
 ·obtain⟨r,q,kd,fn,ds,bl,n,t,Kn,d,fuel,rfl,hd,hl,S,hf,hW⟩:=h
  obtain⟨⟨x,xp⟩,t',rfl,tok,hpk,hpl,_⟩:=S.wh.first
  obtain⟨dr,er⟩:=S.rd.ins
  have hb:x= .bad->Flt a.c_Fault E H 1 xp:=fun e=>(unary_strict _ _ _).at_bad (hpk.trans e) hW H je_.refl
  refine⟨_,(j2_ (yg_ (pw_and (wj_ (yc_ (jb_ (pv 0) T.cl_Reader T.me_z45 G_z45 (hr.mono (by omega)) T.b_z45 .nil j6_ (j0_ jk_ j5_)))) (pw_and1 (wj_ (yc_ (jb_ (pv 0) T.cl_Reader T.me_z45 G_z45 (hr.mono (by omega)) T.b_z45 .nil j6_ (j0_ jk_ j5_)))))).pt (j7_ (jh_ (j9_ G_z39 (hr.mono (by omega)) (by rfl) T.m_z39 T.F_z39.kp T.b_z39 .nil j6_ (j0_ (pv 0) (j0_ (pv 1) j5_))))) ji_)
    (j2_ (jg_ (i:=2) sc_z53.nd rfl (Or.inl rfl) (pv 1))
    (j2_ (yg_ (pw_or (yc_ (jb_ (pv 0) T.cl_Reader T.me_z45 G_z45 (hr.mono (by omega)) T.b_z45 .nil j6_ (j0_ jk_ j5_))) (pw_or1 (wj_ (yc_ (jn_ (pv 0) T.cl_Reader T.me_z1 G_z1 (hr.mono (by omega)) T.b_z1 .nil yr_))))).pt (j7_ (jg_ (i:=2) sc_z53.nd rfl (Or.inl rfl) (j9_ G_z76 (hr.mono (by omega)) (by rfl) T.m_z76 T.F_z76.kp T.b_z76 .nil j6_ (j0_ (pv 0) (j0_ (pv 1) j5_))))) ji_)
    (j2_ (jg_ (i:=3) sc_z53.nd rfl (Or.inl rfl) (jn_ (pv 0) T.cl_Reader T.me_z46 G_z46 (hr.mono (by omega)) T.b_z46 .nil j6_))
    (j7_ (jh_ (vf_ T.mk_Unary G_z13 (hr.mono (by omega)) (by rfl) T.mg_Unary T.b_z13 .nil yr_ (j0_ (pv 3) (j0_ (j9_ G_z53 (hr.mono (by omega)) (by rfl) T.m_z53 T.F_z53.kp T.b_z53 .nil j6_ (j0_ (pv 0) (j0_ (pv 2) j5_))) j5_))))))))),?_⟩
  rw[List.length_cons] at hf
  obtain⟨f,rfl⟩: ∃f,fuel=f+1:=⟨fuel-1,by omega⟩
  have vm:isV "-" x=(x == .sign (text "-")):=v9_ tok litM
  have vn:isV "!" x=(x == .sign (text "!")):=v9_ tok litN
  refine⟨_,rfl,r,dr,_,rfl,er,rfl,r,q,kd,fn,ds,bl,n,(x,xp),t',"-",rfl,S.rd,hb,fun nb=>⟨_,rfl,?_⟩⟩
  have sgnc: ∀c:Bytes,x= .sign c-> ¬FinT (x,xp):=fun c e z=>by rw[e] at z;exact z.elim (fun z=>nomatch z) fun z=>nomatch z
  have tail: ∀(c:Bytes) (d2:Nat) (mk:Vbemac.Exp->Vbemac.Exp),x= .sign c->(c=text "-"/\mk=Vbemac.Exp.neg\/c=text "!"/\mk=Vbemac.Exp.not)->d2<=12->okC d2 Kn t'->
    W (unary f (12-d2) Kn>>=fun y=>pure (mk y)) t' (fun e u=> ∀H' v n',u.length<t'.length+1->PSt a H' r q kd fn ds bl n' u Kn->je_ (Mut r kd fn ds bl) H H'->ja_ a (Mut r kd fn ds bl) H' e v->Q v H') (QE a r kd fn ds bl H E)->
    tSeq (tAsg (tMeth a.c_Reader "take" (spTake a) [] E (tVar 0) j14_) (gName 3)) (tRet (tMake a.c_Unary (spNew2 a.c_Unary "sign" "operand") [] E0 (ua_ (tVar 3) (ua_ (tCall (yy_ a W unary 7 okC) [] E (ua_ (tVar 0) (ua_ (tVar 2) j14_))) j14_))))
     { nx:=fun _ H'=>Q .non H',rt:=Q } [some (.ref r),some (.int d),some (.int d2),none] H:=by
   intro c d2 mk ex hc hd2 hC hW
   refine⟨_,rfl,r,dr,_,rfl,er,rfl,r,q,kd,fn,ds,bl,n,(x,xp),t',rfl,S.rd,hb,fun nb H1 hp1=>?_⟩
   have S1:=S.past (sgnc c ex) hp1
   have k1:=jt_ hp1
   rw[jj_] at hW
   refine⟨_,rfl,_,rfl,_,rfl,r,q,kd,fn,ds,bl,n+1,t',Kn,d2,f,rfl,hd2,hC,S1,by omega,hW.mono (fun e3 t6 hW6 H6 v3 n6 l6 S6 k6 ev3=>?_) fun _ _ z H' k'=>z H' (k1.trans k')⟩
   intro p dx hp hdx ne
   refine⟨p,dx,_,_,rfl,j4_,fun H7 h7 k7=>⟨rfl,?_⟩⟩
   have s67:=yz_ hp hdx k7
   have k67:je_ (Mut r kd fn ds bl) H6 H7:=OS.vq_.keeps s67
   refine hW6 H7 (.ref p) n6 (by omega) (S6.same s67) ((k1.trans k6).trans k67) ?_
   rcases hc with⟨rfl,rfl⟩|⟨rfl,rfl⟩
   ·unfold ja_
    subst ex
    exact⟨v3,⟨p,dx,rfl,S6.fresh hp,h7⟩,ja_.keep k67 _ ev3⟩
   ·unfold ja_
    subst ex
    exact⟨v3,⟨p,dx,rfl,S6.fresh hp,h7⟩,ja_.keep k67 _ ev3⟩
  cases em:(x == Vbemac.Tok.sign (text "-")) with
  |true=>
   have ex:x= .sign (text "-"):=beq_iff_eq.mp em
   rw[vm,em]
   refine ur_ ?_
   refine ur_ ?_
   refine⟨_,rfl,?_⟩
   refine⟨_,rfl,r,dr,_,rfl,er,rfl,r,q,kd,fn,ds,bl,n,(x,xp),t',"!",rfl,S.rd,hb,fun nb=>⟨_,rfl,?_⟩⟩
   have en:(x == Vbemac.Tok.sign (text "!"))=false:=by rw[ex];decide+kernel
   rw[vn,en]
   refine ur_ ?_
   obtain⟨y,t2,rfl,_,hy,_,_⟩:=(S.wh.tail (sgnc _ ex)).2.first
   refine⟨_,rfl,r,dr,_,rfl,er,rfl,r,q,kd,fn,ds,bl,n,(x,xp),y,t2,rfl,S.rd,_,rfl,?_⟩
   subst ex
   cases ey:isNum y.1 with
   |true=>
    obtain⟨m,eym⟩: ∃m,y.1= .num m:=by
     cases h:y.1 with
     |num m=>exact⟨m,rfl⟩
     |_=>rw[h] at ey;cases ey
    refine ur_ ?_
    refine tail _ d _ rfl (.inl ⟨rfl,rfl⟩) hd (h2 _ _ _ _ _ m hl (hy.trans eym)) ?_
    rw[j0n_ (unary_num (hy.trans eym))] at hW
    obtain⟨g,rfl⟩: ∃g,f=g+2:=⟨f-2,by omega⟩
    rw[jj_,j0n_ (show unary (g+2) (12-d) Kn (y::t2)= .ok (.num m,t2) by obtain⟨y1,y2⟩:=y;cases eym;exact unary_n)]
    exact hW
   |false=>
    have nn: ∀m,peek (y::t2)≠ .num m:=fun m z=>by rw[hy] at z;rw[z] at ey;cases ey
    refine j0q_ ?_
    refine⟨_,rfl,_,rfl,?_⟩
    unfold j14_
    dsimp only[List.append_nil]
    refine j0k_ hd S (fun z=>nomatch z) je_.refl (W_as (unary_neg nn) hW) fun lt hW=>?_
    exact tail _ (d+1) _ rfl (.inl ⟨rfl,rfl⟩) lt (h1 _ _ _ _ _ hl lt) (W_nx hW)
  |false=>
   rw[vm,em]
   refine j0q_ ?_
   refine⟨_,rfl,r,dr,_,rfl,er,rfl,r,q,kd,fn,ds,bl,n,(x,xp),t',"!",rfl,S.rd,hb,fun nb=>⟨_,rfl,?_⟩⟩
   rw[vn]
   cases en:(x == Vbemac.Tok.sign (text "!")) with
   |true=>
    have ex:x= .sign (text "!"):=beq_iff_eq.mp en
    refine ur_ ?_
    refine⟨_,rfl,?_⟩
    refine⟨_,rfl,r,dr,_,rfl,er,rfl,r,q,kd,fn,ds,bl,n,(x,xp),t',"!",rfl,S.rd,hb,fun nb=>⟨_,rfl,?_⟩⟩
    rw[vn,en]
    refine j0q_ ?_
    refine j0q_ ?_
    subst ex
    refine⟨_,rfl,_,rfl,?_⟩
    unfold j14_
    dsimp only[List.append_nil]
    refine j0k_ hd S (fun z=>nomatch z) je_.refl (W_as unary_not hW) fun lt hW=>?_
    exact tail _ (d+1) _ rfl (.inr ⟨rfl,rfl⟩) lt (h1 _ _ _ _ _ hl lt) (W_nx hW)
   |false=>
    refine j0q_ ?_
    exact⟨_,rfl,_,rfl,r,q,kd,fn,ds,bl,n,_,Kn,d,f,rfl,hd,h0 _ _ _ hl,S,(by rw[List.length_cons];omega),W_as (unary_else em en) hW⟩
end
end OS
namespace OS
open PySem PySem.Spec L2
open PyProof.Rows hiding St
open Vbemac (Bytes Toks SIGNS KEYS peek place primary unary text isSign isKey expr ands moreOr)
def spChain (a:Adr) (s:Nat) (p:Nat->Nat->Vbemac.Known->Vbemac.P Vbemac.Exp) (c:Nat) (ok:Nat->Vbemac.Known->Toks->Prop):Sp:=fun vs H Q E=> ∃u v:V,vs=[u,v, .int s]/\yy_ a W2 p c ok [u,v] H Q E
theorem expr_else {f d:Nat} {Kn:Vbemac.Known} {t:Toks} (h:isKey t "if"=false):expr (f+1) d Kn t=ors f d Kn t:=by
 rw[expr]
 show(if isKey t "if"=true then _ else _)=_
 rw[if_neg (by rw[h];exact Bool.false_ne_true)]
 rfl
section
variable {P:Program} {w:World} {K:PySem.W.Frag} {mg:Str->Option Value} {base:Heap} {a:Adr} {k j:Nat}
theorem ok_z68 (T:Txt K mg a) (XC:XT K a) (hk:7<=k)
  (G_z47:ju_ P w K mg base (CXF P w) k a.f_z47 a.fd_z47 ["reader","depth"] (yy_ a W2 expr 12 (LvW j (text "if"))))
  (G_z52:ju_ P w K mg base (CXF P w) k a.f_z52 a.fd_z52 ["reader","depth","strength"] (spChain a 0 ors 11 (Lv j))):
  ju_ P w K mg base (CXF P w) (k+1) a.f_z68 a.fd_z68 ["reader","depth"] (yy_ a W2 expr 12 (Lv j)):=by
 have G_z45:=qt_ (P:=P) (w:=w) (base:=base) T XC
 refine okX T.F_z68 sc_z68 (fun vs H Q E h=>?_) (fun cdv A outer s H vs Q E hr h=>?_)
 ·obtain⟨r,q,kd,fn,ds,bl,n,t,Kn,d,fuel,rfl,_⟩:=h
  rfl
 ·obtain⟨r,q,kd,fn,ds,bl,n,t,Kn,d,fuel,rfl,hd,hl,S,hf,hW⟩:=h
  obtain⟨⟨x,xp⟩,t',rfl,tok,hpk,hpl,_⟩:=S.wh.first
  obtain⟨dr,er⟩:=S.rd.ins
  have hb:x= .bad->Flt a.c_Fault E H 1 xp:=fun e=>(expr_strict _ _ _).at_bad (hpk.trans e) hW H je_.refl
  refine⟨_,(j2_ (yg_ (yc_ (jb_ (pv 0) T.cl_Reader T.me_z45 G_z45 (hr.mono (by omega)) T.b_z45 .nil j6_ (j0_ jk_ j5_))) (j7_ (jh_ (j9_ G_z47 (hr.mono (by omega)) (by rfl) T.m_z47 T.F_z47.kp T.b_z47 .nil j6_ (j0_ (pv 0) (j0_ (pv 1) j5_))))) ji_)
    (j7_ (jh_ (j9_ G_z52 (hr.mono (by omega)) (by rfl) T.m_z52 T.F_z52.kp T.b_z52 .nil j6_ (j0_ (pv 0) (j0_ (pv 1) (j0_ jr_ j5_))))))),?_⟩
  have vi:isV "if" x=(x == .word (text "if")):=vd_ tok litIf
  have hf0:=hf
  rw[List.length_cons] at hf
  obtain⟨f,rfl⟩: ∃f,fuel=f+1:=⟨fuel-1,by omega⟩
  refine⟨_,rfl,r,dr,_,rfl,er,rfl,r,q,kd,fn,ds,bl,n,(x,xp),t',"if",rfl,S.rd,hb,fun nb=>⟨_,rfl,?_⟩⟩
  rw[vi]
  cases ei:(x == Vbemac.Tok.word (text "if")) with
  |true=>
   refine j0q_ ?_
   exact⟨_,rfl,_,rfl,r,q,kd,fn,ds,bl,n,_,Kn,d,f+1,rfl,hd,⟨hl,hpk.trans (beq_iff_eq.mp ei)⟩,S,hf0,hW⟩
  |false=>
   refine ur_ ?_
   refine⟨_,rfl,_,rfl,_,_,rfl,r,q,kd,fn,ds,bl,n,_,Kn,d,f,rfl,hd,hl,S,(by rw[List.length_cons];omega),?_⟩
   unfold W2 at hW ⊢
   exact W_as (expr_else ei) hW
end
end OS
namespace OS
open PySem PySem.Spec L2
open PyProof.Rows hiding St
open Vbemac (Bytes Toks SIGNS KEYS peek place primary unary text isSign isKey expr newName anyName)
theorem va_ {u:Bytes} {xp:Vbemac.Pos} {t:Toks} :anyName ((.word u,xp)::t)=if KEYS.contains u=true then Vbemac.fail 2 ((.word u,xp)::t) else .ok (u,t):=rfl
theorem uf_ {Kn:Vbemac.Known} {u:Bytes} {xp:Vbemac.Pos} {t:Toks} (h:KEYS.contains u=true):newName Kn ((.word u,xp)::t)=Vbemac.fail 2 ((.word u,xp)::t):=by
 unfold newName
 rw[va_,if_pos h]
 rfl
theorem vh_ {Kn:Vbemac.Known} {u:Bytes} {xp:Vbemac.Pos} {t:Toks} (h:KEYS.contains u=false):newName Kn ((.word u,xp)::t)=if Kn.taken u=true then Vbemac.fail 4 ((.word u,xp)::t) else .ok (u,t):=by
 unfold newName
 rw[va_,if_neg (by rw[h];exact Bool.false_ne_true)]
section
variable {a:Adr} {H0 H:Hp} {r q kd fn:Addr} {ds bl:Box} {n:Nat} {t:Toks} {Kn:Vbemac.Known} {β:Type} {E:XK} {Q:VK}
theorem step_name {g:Bytes->Vbemac.P β} {Ro:β->Toks->Prop} (S:PSt a H r q kd fn ds bl n t Kn) (kp:je_ (Mut r kd fn ds bl) H0 H) (hW:W (newName Kn>>=g) t Ro (QE a r kd fn ds bl H0 E))
  (cont: ∀u H' t',t'.length+1=t.length->Kn.taken u=false->PSt a H' r q kd fn ds bl (n+1) t' Kn->je_ (Mut r kd fn ds bl) H H'->W (g u) t' Ro (QE a r kd fn ds bl H0 E)->Q (.str (sb u)) H'):spFree a [.ref r] H Q E:=by
 obtain⟨⟨x,xp⟩,t',rfl,tok,hpk,hpl,_⟩:=S.wh.first
 obtain⟨kk,k1,k2,k3⟩:=S.kn.vals
 obtain⟨ff,f1,f2⟩:=S.kn.funs
 rw[jj_] at hW
 have tk: ∀u,(has kk u||has ff u)=Kn.taken u:=fun u=>by
  unfold Vbemac.Known.taken
  rw[k3]
  congr 1
  unfold has
  rw[f2,Option.isSome_map,Bool.eq_iff_iff,List.find?_isSome,List.any_eq_true]
 refine⟨r,q,kd,fn,ds,bl,n,(x,xp),t',kk,ff,rfl,S.rd,k1,f1,fun b=>(u9_ Kn).at_bad (hpk.trans b) hW H kp,fun nb e=>?_,fun u ex e e4=>?_,fun u ex e e4 H' hp=>?_⟩
 ·refine yl_ (p:=newName Kn) (n:=2) (t:=(x,xp)::t') ?_ nb hW H kp
  have nb':peek ((x,xp)::t')≠ .bad:=nb
  cases x with
  |word u=>
   rw[jz_] at e
   have hkw:KEYS.contains u=true:=by cases h:KEYS.contains u;rw[h] at e;cases e;rfl
   exact uf_ hkw
  |num m=>rfl
  |sign s=>rfl
  |eof=>rfl
  |bad=>exact absurd rfl nb
 ·obtain rfl:x= .word u:=ex
  rw[jz_] at e
  have hkw:KEYS.contains u=false:=by cases h:KEYS.contains u;rfl;rw[h] at e;cases e
  refine yl_ (p:=newName Kn) (n:=4) (t:=(.word u,xp)::t') ?_ (fun z=>nomatch z) hW H kp
  rw[vh_ hkw,if_pos (by rw[<-tk];exact e4)]
 ·obtain rfl:x= .word u:=ex
  rw[jz_] at e
  have hkw:KEYS.contains u=false:=by cases h:KEYS.contains u;rfl;rw[h] at e;cases e
  have ft:Kn.taken u=false:=by rw[<-tk];exact e4
  have en:newName Kn ((.word u,xp)::t')= .ok (u,t'):=by
   rw[vh_ hkw,if_neg (by rw[ft];exact Bool.false_ne_true)]
  rw[j0n_ en] at hW
  exact cont u H' t' rfl ft (S.past (fun z=>z.elim (fun z=>nomatch z) fun z=>nomatch z) hp) (jt_ hp) hW
end
theorem litIn:j0o_ "in" (text "in"):=⟨by decide+kernel,by decide+kernel,by decide+kernel⟩
theorem litDD:LitS ".." (text ".."):=⟨by decide+kernel,by decide+kernel⟩
theorem litCo:LitS ":" (text ":"):=⟨by decide+kernel,by decide+kernel⟩
theorem primary_sum {f d:Nat} {Kn:Vbemac.Known} {xp:Vbemac.Pos} {t:Toks} :primary (f+1) d Kn ((.word (text "sum"),xp)::t)=
  (Vbemac.deeper d>>=fun e=>Vbemac.next>>=fun _=>Vbemac.sign "(">>=fun _=>newName Kn>>=fun x=>Vbemac.key "in">>=fun _=>expr f e Kn>>=fun lo=>Vbemac.sign "..">>=fun _=>expr f e Kn>>=fun hi=>Vbemac.sign ":">>=fun _=>
   expr f e (Kn.with x)>>=fun y=>Vbemac.sign ")">>=fun _=>pure (.sum x lo hi y):Vbemac.P Vbemac.Exp) ((.word (text "sum"),xp)::t):=by
 rw[primary]
 show(if text "sum"=text "sum" then _ else _)=_
 rw[if_pos rfl]
section
variable {P:Program} {w:World} {K:PySem.W.Frag} {mg:Str->Option Value} {base:Heap} {a:Adr} {k j:Nat}
theorem ok_z69 (T:Txt K mg a) (XC:XT K a) (hk:7<=k)
  (G_z68:ju_ P w K mg base (CXF P w) k a.f_z68 a.fd_z68 ["reader","depth"] (yy_ a W2 expr 12 (Lv j))):
  ju_ P w K mg base (CXF P w) (k+1) a.f_z69 a.fd_z69 ["reader","depth"] (yy_ a W primary 6 (LvW (j+1) (text "sum"))):=by
 have G_z76:=ok_z76 (P:=P) (w:=w) (base:=base) T XC
 have G_z29:=yq_ (P:=P) (w:=w) (base:=base) T XC
 have G_z2:=yh_ (P:=P) (w:=w) (base:=base) T XC
 have G_z38:=j0j_ (P:=P) (w:=w) (base:=base) T
 have G_z30:=j09_ (P:=P) (w:=w) (base:=base) T
 have G_z33:=ok_Sum_init (P:=P) (w:=w) (base:=base) T
 refine okX T.F_z69 sc_z69 (fun vs H Q E h=>?_) (fun cdv A outer s H vs Q E hr h=>?_)
 ·obtain⟨r,q,kd,fn,ds,bl,n,t,Kn,d,fuel,rfl,_⟩:=h
  rfl
 ·obtain⟨r,q,kd,fn,ds,bl,n,t,Kn,d,fuel,rfl,hd,⟨hl,hpk0⟩,S,hf,hW⟩:=h
  obtain⟨⟨x,xp⟩,t',rfl,tok,hpk,hpl,_⟩:=S.wh.first
  obtain rfl:x= .word (text "sum"):=hpk.symm.trans hpk0
  have nb:peek ((.word (text "sum"),xp)::t')≠ .bad:=fun z=>nomatch z
  refine⟨_,(j2_ (jg_ (i:=2) sc_z69.nd rfl (Or.inl rfl) (j9_ G_z76 (hr.mono (by omega)) (by rfl) T.m_z76 T.F_z76.kp T.b_z76 .nil j6_ (j0_ (pv 0) (j0_ (pv 1) j5_))))
    (j2_ (jd_ (jb_ (pv 0) T.cl_Reader T.me_z29 G_z29 (hr.mono (by omega)) T.b_z29 .nil j6_ (j0_ jk_ j5_)))
    (j2_ (jd_ (jb_ (pv 0) T.cl_Reader T.me_z29 G_z29 (hr.mono (by omega)) T.b_z29 .nil j6_ (j0_ jk_ j5_)))
    (j2_ (jg_ (i:=3) sc_z69.nd rfl (Or.inl rfl) (jn_ (pv 0) T.cl_Reader T.me_z2 G_z2 (hr.mono (by omega)) T.b_z2 .nil j6_))
    (j2_ (jd_ (jb_ (pv 0) T.cl_Reader T.me_z29 G_z29 (hr.mono (by omega)) T.b_z29 .nil j6_ (j0_ jk_ j5_)))
    (j2_ (jg_ (i:=4) sc_z69.nd rfl (Or.inl rfl) (j9_ G_z68 (hr.mono (by omega)) (by rfl) T.m_z68 T.F_z68.kp T.b_z68 .nil j6_ (j0_ (pv 0) (j0_ (pv 2) j5_))))
    (j2_ (jd_ (jb_ (pv 0) T.cl_Reader T.me_z29 G_z29 (hr.mono (by omega)) T.b_z29 .nil j6_ (j0_ jk_ j5_)))
    (j2_ (jg_ (i:=5) sc_z69.nd rfl (Or.inl rfl) (j9_ G_z68 (hr.mono (by omega)) (by rfl) T.m_z68 T.F_z68.kp T.b_z68 .nil j6_ (j0_ (pv 0) (j0_ (pv 2) j5_))))
    (j2_ (jd_ (jb_ (pv 0) T.cl_Reader T.me_z29 G_z29 (hr.mono (by omega)) T.b_z29 .nil j6_ (j0_ jk_ j5_)))
    (j2_ (jd_ (jb_ (pv 0) T.cl_Reader T.me_z38 G_z38 (hr.mono (by omega)) T.b_z38 .nil yr_ (j0_ (pv 3) j5_)))
    (j2_ (jg_ (i:=6) sc_z69.nd rfl (Or.inl rfl) (j9_ G_z68 (hr.mono (by omega)) (by rfl) T.m_z68 T.F_z68.kp T.b_z68 .nil j6_ (j0_ (pv 0) (j0_ (pv 2) j5_))))
    (j2_ (jd_ (jb_ (pv 0) T.cl_Reader T.me_z30 G_z30 (hr.mono (by omega)) T.b_z30 .nil yr_ (j0_ (pv 3) j5_)))
    (j2_ (jd_ (jb_ (pv 0) T.cl_Reader T.me_z29 G_z29 (hr.mono (by omega)) T.b_z29 .nil j6_ (j0_ jk_ j5_)))
    (j7_ (jh_ (vf_ T.mk_Sum G_z33 (hr.mono (by omega)) (by rfl) T.mg_Sum T.b_z33 .nil yr_ (j0_ (pv 3) (j0_ (pv 4) (j0_ (pv 5) (j0_ (pv 6) j5_)))))))))))))))))))),?_⟩
  have room:=S.kn.len
  rw[List.length_cons] at hf room
  have hl:13<=d+(j+1):=hl
  obtain⟨f,rfl⟩: ∃f,fuel=f+1:=⟨fuel-1,by omega⟩
  refine⟨_,rfl,_,rfl,?_⟩
  unfold j14_ ua_ tC
  dsimp only[List.append_nil]
  refine j0k_ hd S nb je_.refl (W_as primary_sum hW) fun lt hW=>?_
  have hW:=W_nx hW
  obtain⟨dr,er⟩:=S.rd.ins
  refine⟨_,rfl,r,dr,_,rfl,er,rfl,?_⟩
  refine⟨r,q,kd,fn,ds,bl,n,(.word (text "sum"),xp),t',"sum",rfl,S.rd,(fun z=>nomatch z),fun _ e=>?_,fun _ _ H1 hp1=>?_⟩
  ·rw[vd_ (x:="sum") tok litSum] at e
   exact absurd (show(Vbemac.Tok.word (text "sum") == .word (text "sum"))=false from e) (by decide+kernel)
  have S1:=S.past (fun z=>z.elim (fun z=>nomatch z) fun z=>nomatch z) hp1
  have k1:=jt_ hp1
  obtain⟨dr1,er1⟩:=S1.rd.ins
  refine⟨_,rfl,r,dr1,_,rfl,er1,rfl,?_⟩
  refine j0c_ litO S1 k1 hW fun H2 t2 l2 S2 k2 hW2=>?_
  have k02:=k1.trans k2
  obtain⟨dr2,er2⟩:=S2.rd.ins
  refine⟨_,rfl,r,dr2,_,rfl,er2,rfl,?_⟩
  refine step_name S2 k02 hW2 fun u H3 t3 l3 ft S3 k3 hW3=>?_
  have k03:=k02.trans k3
  obtain⟨dr3,er3⟩:=S3.rd.ins
  refine⟨_,rfl,r,dr3,_,rfl,er3,rfl,?_⟩
  refine step_key litIn S3 k03 hW3 fun H4 t4 l4 S4 k4 hW4=>?_
  have k04:=k03.trans k4
  have h4:=W2.of (fun x=>(jy_ "..").bind) hW4
  refine⟨_,rfl,_,rfl,r,q,kd,fn,ds,bl,_,t4,Kn,d+1,f,rfl,lt,(by show 13<=d+1+j;omega),S4,by omega,h4.mono (fun e1 t5 nb5 hW5 H5 v1 n5 l5 S5 k5 ev1=>?_) fun _ _ z H' k'=>z H' (k04.trans k')⟩
  have k05:=k04.trans k5
  obtain⟨dr5,er5⟩:=S5.rd.ins
  refine⟨_,rfl,r,dr5,_,rfl,er5,rfl,?_⟩
  refine j0c_ litDD S5 k05 hW5 fun H6 t6 l6 S6 k6 hW6=>?_
  have k06:=k05.trans k6
  have h6:=W2.of (fun x=>(jy_ ":").bind) hW6
  refine⟨_,rfl,_,rfl,r,q,kd,fn,ds,bl,_,t6,Kn,d+1,f,rfl,lt,(by show 13<=d+1+j;omega),S6,by omega,h6.mono (fun e2 t7 nb7 hW7 H7 v2 n7 l7 S7 k7 ev2=>?_) fun _ _ z H' k'=>z H' (k06.trans k')⟩
  have k07:=k06.trans k7
  obtain⟨dr7,er7⟩:=S7.rd.ins
  refine⟨_,rfl,r,dr7,_,rfl,er7,rfl,?_⟩
  refine j0c_ litCo S7 k07 hW7 fun H8 t8 l8 S8 k8 hW8=>?_
  have k08:=k07.trans k8
  have fv:Kn.values.contains u=false:=by
   unfold Vbemac.Known.taken at ft
   cases h:Kn.values.contains u with
   |false=>rfl
   |true=>rw[h] at ft;cases ft
  obtain⟨dr8,er8⟩:=S8.rd.ins
  obtain⟨kk,kk1,kk2,kk3⟩:=S8.kn.vals
  have S9:=S8.learn (u:=u) fv (by omega) kk1
  have k89:je_ (Mut r kd fn ds bl) H8 (upd H8 kd (.dK (j0l_ kk (nk u) (.bl true)))):=fun b o e m=>by rw[j3_ fun z=>m (.inr (.inl z))];exact e
  refine⟨_,rfl,r,dr8,_,rfl,er8,rfl,_,rfl,r,dr8,q,kd,fn,ds,bl,_,u,kk,rfl,er8,kk1,Nat.lt_of_le_of_lt (show kk.length<=4000 by omega) (by decide),?_⟩
  have k09:=k08.trans k89
  have h9:=W2.of (fun x=>(jy_ ")").bind) hW8
  refine⟨_,rfl,_,rfl,r,q,kd,fn,ds,bl,_,t8,Kn.with u,d+1,f,rfl,lt,(by show 13<=d+1+j;omega),S9,by omega,h9.mono (fun e3 ta nba hWa Ha v3 na la Sa ka ev3=>?_) fun _ _ z H' k'=>z H' (k09.trans k')⟩
  have k0a:=k09.trans ka
  obtain⟨dra,era⟩:=Sa.rd.ins
  obtain⟨kb,kb1,_,_⟩:=Sa.kn.vals
  obtain⟨hu,Sb⟩:=Sa.forget (u:=u) fv kb1
  have kab:je_ (Mut r kd fn ds bl) Ha (upd Ha kd (.dK (wt_ kb (nk u)))):=fun b o e m=>by rw[j3_ fun z=>m (.inr (.inl z))];exact e
  refine⟨_,rfl,r,dra,_,rfl,era,rfl,_,rfl,r,dra,q,kd,fn,ds,bl,_,u,kb,rfl,era,kb1,hu,?_⟩
  have k0b:=k0a.trans kab
  obtain⟨drb,erb⟩:=Sb.rd.ins
  refine⟨_,rfl,r,drb,_,rfl,erb,rfl,?_⟩
  refine j0c_ litC Sb k0b hWa fun Hc tc lc Sc kc hWc=>?_
  have k0c:=k0b.trans kc
  refine⟨_,rfl,_,rfl,_,rfl,_,rfl,?_⟩
  intro p dx hp hdx ne
  refine⟨p,dx,_,_,_,_,rfl,j4_,fun Hd hd' kd'=>⟨rfl,?_⟩⟩
  have scd:=yz_ hp hdx kd'
  have kcd:je_ (Mut r kd fn ds bl) Hc Hd:=OS.vq_.keeps scd
  have kbd:=kc.trans kcd
  have kad:=kab.trans kbd
  refine hWc Hd (.ref p) _ (by rw[List.length_cons];omega) (Sc.same scd) (k0c.trans kcd) ?_
  unfold ja_
  exact⟨v1,v2,v3,⟨p,dx,rfl,Sc.fresh hp,hd'⟩,ja_.keep (k6.trans (k7.trans (k8.trans (k89.trans (ka.trans kad))))) _ ev1,ja_.keep (k8.trans (k89.trans (ka.trans kad))) _ ev2,ja_.keep kad _ ev3⟩
end
end OS
namespace OS
open PySem PySem.Spec L2
open PyProof.Rows hiding St
open Vbemac (Bytes Toks SIGNS KEYS peek place primary text isSign isKey expr newName anyName)
section
variable {a:Adr} {H0 H:Hp} {r q kd fn:Addr} {ds bl:Box} {n:Nat} {t:Toks} {Kn:Vbemac.Known} {β:Type} {E:XK} {Q:VK} {Qe:Nat->Vbemac.Pos->Prop}
theorem qy_ {v:Str} {s:String} {g:Unit->Vbemac.P β} {Ro:β->Toks->Prop} (lit:LitS v (text s)) (S:PSt a H r q kd fn ds bl n t Kn) (hq: ∀k x,Qe k x->Flt a.c_Fault E H k x) (hW:W (Vbemac.sign s>>=g) t Ro Qe)
  (cont: ∀H' t',t'.length+1=t.length->PSt a H' r q kd fn ds bl (n+1) t' Kn->je_ (Mut r kd fn ds bl) H H'->W (g ()) t' Ro Qe->Q .non H'):uw_ a [.ref r, .str v] H Q E:=by
 obtain⟨⟨x,xp⟩,t',rfl,tok,hpk,hpl,_⟩:=S.wh.first
 rw[jj_] at hW
 refine⟨r,q,kd,fn,ds,bl,n,(x,xp),t',v,rfl,S.rd,fun b=>hq _ _ ((jy_ s).at_bad (hpk.trans b) hW),fun nb e=>?_,fun nb e H' hp=>?_⟩
 ·rw[v9_ (x:=v) tok lit] at e
  exact hq _ _ (yl_ (p:=Vbemac.sign s) (n:=2) (t:=(x,xp)::t') (by unfold Vbemac.sign isSign;rw[hpk,e];rfl) nb hW)
 ·rw[v9_ (x:=v) tok lit] at e
  have es:Vbemac.sign s ((x,xp)::t')= .ok ((),t'):=by unfold Vbemac.sign isSign;rw[hpk,e];rfl
  rw[j0n_ es] at hW
  have ex:x= .sign (text s):=beq_iff_eq.mp e
  exact cont H' t' rfl (S.past (fun z=>z.elim (fun z=>by rw[ex] at z;cases z) fun z=>nb z) hp) (jt_ hp) hW
theorem ky_step {v:Str} {s:String} {g:Unit->Vbemac.P β} {Ro:β->Toks->Prop} (lit:j0o_ v (text s)) (S:PSt a H r q kd fn ds bl n t Kn) (hq: ∀k x,Qe k x->Flt a.c_Fault E H k x) (hW:W (Vbemac.key s>>=g) t Ro Qe)
  (cont: ∀H' t',t'.length+1=t.length->PSt a H' r q kd fn ds bl (n+1) t' Kn->je_ (Mut r kd fn ds bl) H H'->W (g ()) t' Ro Qe->Q .non H'):uw_ a [.ref r, .str v] H Q E:=by
 obtain⟨⟨x,xp⟩,t',rfl,tok,hpk,hpl,_⟩:=S.wh.first
 rw[jj_] at hW
 refine⟨r,q,kd,fn,ds,bl,n,(x,xp),t',v,rfl,S.rd,fun b=>hq _ _ ((vp_ s).at_bad (hpk.trans b) hW),fun nb e=>?_,fun nb e H' hp=>?_⟩
 ·rw[vd_ (x:=v) tok lit] at e
  exact hq _ _ (yl_ (p:=Vbemac.key s) (n:=2) (t:=(x,xp)::t') (by unfold Vbemac.key isKey;rw[hpk,e];rfl) nb hW)
 ·rw[vd_ (x:=v) tok lit] at e
  have es:Vbemac.key s ((x,xp)::t')= .ok ((),t'):=by unfold Vbemac.key isKey;rw[hpk,e];rfl
  rw[j0n_ es] at hW
  have ex:x= .word (text s):=beq_iff_eq.mp e
  exact cont H' t' rfl (S.past (fun z=>z.elim (fun z=>by rw[ex] at z;cases z) fun z=>nb z) hp) (jt_ hp) hW
theorem at_step {v:Str} {s:String} (lit:j0o_ v (text s)) {xp:Vbemac.Pos} {t':Toks} (S:PSt a H r q kd fn ds bl n ((.word (text s),xp)::t') Kn)
  (cont: ∀H',PSt a H' r q kd fn ds bl (n+1) t' Kn->je_ (Mut r kd fn ds bl) H H'->Q .non H'):uw_ a [.ref r, .str v] H Q E:=by
 have tok:TokOk (.word (text s)):=by rw[show text s=text s from rfl];exact⟨lit.2.1,lit.2.2⟩
 refine⟨r,q,kd,fn,ds,bl,n,_,t',v,rfl,S.rd,(fun z=>nomatch z),fun nb e=>?_,fun nb e H' hp=>?_⟩
 ·rw[vd_ (x:=v) tok lit] at e
  rw[beq_self_eq_true] at e
  cases e
 ·exact cont H' (S.past (fun z=>z.elim (fun z=>nomatch z) fun z=>nomatch z) hp) (jt_ hp)
theorem at_sign {v:Str} {s:String} (lit:LitS v (text s)) {xp:Vbemac.Pos} {t':Toks} (S:PSt a H r q kd fn ds bl n ((.sign (text s),xp)::t') Kn)
  (cont: ∀H',PSt a H' r q kd fn ds bl (n+1) t' Kn->je_ (Mut r kd fn ds bl) H H'->Q .non H'):uw_ a [.ref r, .str v] H Q E:=by
 have tok:TokOk (.sign (text s)):=lit.2
 refine⟨r,q,kd,fn,ds,bl,n,_,t',v,rfl,S.rd,(fun z=>nomatch z),fun nb e=>?_,fun nb e H' hp=>?_⟩
 ·rw[v9_ (x:=v) tok lit] at e
  rw[beq_self_eq_true] at e
  cases e
 ·exact cont H' (S.past (fun z=>z.elim (fun z=>nomatch z) fun z=>nomatch z) hp) (jt_ hp)
theorem see_sign {v:Str} {s:String} (lit:LitS v (text s)) (S:PSt a H r q kd fn ds bl n t Kn) (hb:peek t= .bad->Flt a.c_Fault E H 1 (place t)) (cont:peek t≠ .bad->Q (.bl (isSign t s)) H):spSees a [.ref r, .str v] H Q E:=by
 obtain⟨⟨x,xp⟩,t',rfl,tok,hpk,hpl,_⟩:=S.wh.first
 refine⟨r,q,kd,fn,ds,bl,n,(x,xp),t',v,rfl,S.rd,hb,fun nb=>?_⟩
 rw[v9_ (x:=v) tok lit]
 exact cont nb
theorem wx_ {v:Str} {s:String} (lit:j0o_ v (text s)) (S:PSt a H r q kd fn ds bl n t Kn) (hb:peek t= .bad->Flt a.c_Fault E H 1 (place t)) (cont:peek t≠ .bad->Q (.bl (isKey t s)) H):spSees a [.ref r, .str v] H Q E:=by
 obtain⟨⟨x,xp⟩,t',rfl,tok,hpk,hpl,_⟩:=S.wh.first
 refine⟨r,q,kd,fn,ds,bl,n,(x,xp),t',v,rfl,S.rd,hb,fun nb=>?_⟩
 rw[vd_ (x:=v) tok lit]
 exact cont nb
theorem wu_ {v:Str} {s:String} (lit:LitS v (text s)) (S:PSt a H r q kd fn ds bl n t Kn) (hb:peek t= .bad->Flt a.c_Fault E H 1 (place t)) (hf:peek t≠ .bad->isSign t s=true->Flt a.c_Fault E H 5 (place t))
  (cont:peek t≠ .bad->isSign t s=false->Q .non H):spRefuse a [.ref r, .str v] H Q E:=by
 obtain⟨⟨x,xp⟩,t',rfl,tok,hpk,hpl,_⟩:=S.wh.first
 refine⟨r,q,kd,fn,ds,bl,n,(x,xp),t',v,rfl,S.rd,hb,fun nb e=>?_,fun nb e=>?_⟩
 ·rw[v9_ (x:=v) tok lit] at e
  exact hf nb e
 ·rw[v9_ (x:=v) tok lit] at e
  exact cont nb e
theorem nm_step {g:Bytes->Vbemac.P β} {Ro:β->Toks->Prop} (S:PSt a H r q kd fn ds bl n t Kn) (hq: ∀k x,Qe k x->Flt a.c_Fault E H k x) (hW:W (newName Kn>>=g) t Ro Qe)
  (cont: ∀u H' t',t'.length+1=t.length->Kn.taken u=false->PSt a H' r q kd fn ds bl (n+1) t' Kn->je_ (Mut r kd fn ds bl) H H'->W (g u) t' Ro Qe->Q (.str (sb u)) H'):spFree a [.ref r] H Q E:=by
 obtain⟨⟨x,xp⟩,t',rfl,tok,hpk,hpl,_⟩:=S.wh.first
 obtain⟨kk,k1,k2,k3⟩:=S.kn.vals
 obtain⟨ff,f1,f2⟩:=S.kn.funs
 rw[jj_] at hW
 have tk: ∀u,(has kk u||has ff u)=Kn.taken u:=fun u=>by
  unfold Vbemac.Known.taken
  rw[k3]
  congr 1
  unfold has
  rw[f2,Option.isSome_map,Bool.eq_iff_iff,List.find?_isSome,List.any_eq_true]
 refine⟨r,q,kd,fn,ds,bl,n,(x,xp),t',kk,ff,rfl,S.rd,k1,f1,fun b=>hq _ _ ((u9_ Kn).at_bad (hpk.trans b) hW),fun nb e=>?_,fun u ex e e4=>?_,fun u ex e e4 H' hp=>?_⟩
 ·refine hq _ _ (yl_ (p:=newName Kn) (n:=2) (t:=(x,xp)::t') ?_ nb hW)
  cases x with
  |word u=>
   rw[jz_] at e
   have hkw:KEYS.contains u=true:=by cases h:KEYS.contains u;rw[h] at e;cases e;rfl
   exact uf_ hkw
  |num m=>rfl
  |sign s=>rfl
  |eof=>rfl
  |bad=>exact absurd rfl nb
 ·obtain rfl:x= .word u:=ex
  rw[jz_] at e
  have hkw:KEYS.contains u=false:=by cases h:KEYS.contains u;rfl;rw[h] at e;cases e
  refine hq _ _ (yl_ (p:=newName Kn) (n:=4) (t:=(.word u,xp)::t') ?_ (fun z=>nomatch z) hW)
  rw[vh_ hkw,if_pos (by rw[<-tk];exact e4)]
 ·obtain rfl:x= .word u:=ex
  rw[jz_] at e
  have hkw:KEYS.contains u=false:=by cases h:KEYS.contains u;rfl;rw[h] at e;cases e
  have ft:Kn.taken u=false:=by rw[<-tk];exact e4
  have en:newName Kn ((.word u,xp)::t')= .ok (u,t'):=by
   rw[vh_ hkw,if_neg (by rw[ft];exact Bool.false_ne_true)]
  rw[j0n_ en] at hW
  exact cont u H' t' rfl ft (S.past (fun z=>z.elim (fun z=>nomatch z) fun z=>nomatch z) hp) (jt_ hp) hW
end
theorem iteT' {b:Bool} {A B:Prop} (e:b=true) (h:A):if b=true then A else B:=by rw[if_pos e];exact h
theorem iteF' {b:Bool} {A B:Prop} (e:b=false) (h:B):if b=true then A else B:=by rw[if_neg (by rw[e];exact Bool.false_ne_true)];exact h
section
variable {α β:Type} {p:Vbemac.P α} {f:α->Vbemac.P β} {t:Toks} {Ro:α->β->Toks->Prop} {Qe:Nat->Vbemac.Pos->Prop}
theorem W2.ofS (hs: ∀x,yb_ (f x)) (h:W p t (fun x r=>W (f x) r (Ro x) Qe) Qe):W2 p t (fun x r=>W (f x) r (Ro x) Qe) Qe:=by
 refine h.mono (fun x r w=>?_) fun _ _ z=>z
 by_cases e:peek r= .bad
 ·rw[if_pos e]
  exact(hs x).at_bad e w
 ·rw[if_neg e]
  exact w
end
section
variable {a:Adr} {H H':Hp} {r q kd fn:Addr} {ds bl:Box} {l:Addr} {us vs:List V}
theorem PSt.updl {n:Nat} {t:Toks} {Kn:Vbemac.Known} {ys:List V} (S:PSt a H r q kd fn ds bl n t Kn) (hl: ∃xs,H l=some (.lst xs)) (hq:l≠q) (F:Addr->List V->Prop) (hF: ∀b zs,F b zs->upd H l (.lst ys) b=some (.lst zs)):
  PSt a (upd H l (.lst ys)) r q kd fn ds ⟨bl.p,bl.c,F⟩ n t Kn:=by
 obtain⟨xs,hl⟩:=hl
 obtain⟨dr,er⟩:=S.rd.ins
 obtain⟨as,all,h1,h2,h3⟩:=S.rd.toks
 obtain⟨kk,k1,k2,k3⟩:=S.kn.vals
 obtain⟨ff,f1,f2⟩:=S.kn.funs
 have hy:=S.ds_
 have hz:=S.bl_
 have ne: ∀ {b:Addr} {o:HO},H b=some o->(∀zs,o≠ .lst zs)->b≠l:=fun e no w=>by
  rw[w,hl] at e
  exact no _ (Option.some.inj e).symm
 exact⟨⟨⟨dr,by rw[j3_ (ne er fun _ z=>nomatch z)];exact er⟩,as,all,by rw[j3_ hq.symm];exact h1,Paired.mapP h2 fun b x ⟨dx,ex⟩=>⟨dx,by rw[j3_ (ne ex fun _ z=>nomatch z)];exact ex⟩,h3⟩,S.wh,
  ⟨⟨kk,by rw[j3_ (ne k1 fun _ z=>nomatch z)];exact k1,k2,k3⟩,⟨ff,by rw[j3_ (ne f1 fun _ z=>nomatch z)];exact f1,f2⟩,S.kn.len,⟨ff,by rw[j3_ (ne f1 fun _ z=>nomatch z)];exact f1,S.kn.fl f1⟩⟩,(by rw[j3_ (ne hy fun _ z=>nomatch z)];exact hy),(by rw[j3_ (ne hz fun _ z=>nomatch z)];exact hz),S.dif,hF⟩
theorem mut_other {b:Addr} (m:Mut r kd fn ds (bl.more l us) b):Mut r kd fn ds (bl.more l vs) b:=(qd_ m).elim (fun e=>by rw[e];exact qe_) yu_
theorem ja_.other {e:Vbemac.Exp} {v:V} (h:ja_ a (Mut r kd fn ds (bl.more l us)) H e v):ja_ a (Mut r kd fn ds (bl.more l vs)) H e v:=ja_.keep2 (fun b o e m=>⟨fun z=>m (mut_other z),e⟩) _ h
abbrev ExpL (a:Adr) (M:Addr->Prop) (H:Hp) (es:List Vbemac.Exp) (us:List V):Prop:=Paired (fun e v=>ja_ a M H e v) es us
theorem expL_exps {M:Addr->Prop} : ∀ {es:List Vbemac.Exp} {us:List V},ExpL a M H es us->qi_ a M H (ofL es .nil) us
 |_,_, .nil=>by unfold ofL qi_;rfl
 |_,_, .cons h t=>by unfold ofL qi_;exact⟨_,_,rfl,h,expL_exps t⟩
end
end OS
namespace OS
open PySem PySem.Spec L2
open PyProof.Rows hiding St
open Vbemac (Bytes Toks SIGNS KEYS peek place primary unary text isSign isKey expr newName anyName arguments)
theorem litCm:LitS "," (text ","):=⟨by decide+kernel,by decide+kernel⟩
def CallW (f e:Nat) (Kn:Vbemac.Known) (u:Bytes) (wanted:Nat) (es:List Vbemac.Exp) (t:Toks) (Ro:Vbemac.Exp->Toks->Prop) (Qe:Nat->Vbemac.Pos->Prop):Prop:=
 match es with
 |[]=>if wanted=0 then W (Vbemac.sign ")">>=fun _=>pure (.call u .nil):Vbemac.P Vbemac.Exp) t Ro Qe else 16*t.length+13<=f/\W (arguments f e Kn wanted) t (fun l t2=>Ro (.call u l) t2) Qe
 |e1::r=>16*t.length+12<=f/\W (vw_ f e Kn (wanted-(e1::r).length)) t (fun l t2=>Ro (.call u (ofL (e1::r) l)) t2) Qe
theorem CallW.next {f e:Nat} {Kn:Vbemac.Known} {u:Bytes} {wanted:Nat} {es:List Vbemac.Exp} {t:Toks} {Ro:Vbemac.Exp->Toks->Prop} {Qe:Nat->Vbemac.Pos->Prop}
  (lt:es.length<wanted) (hf:16*t.length+13<=f) (hc:isSign t ")"=false) (h:W (arguments f e Kn (wanted-es.length)) t (fun l t2=>Ro (.call u (ofL es l)) t2) Qe):
  ∃f',16*t.length+12<=f'/\W2 (expr f' e Kn) t (fun x t'=>t'.length<=t.length->CallW f' e Kn u wanted (es++[x]) t' Ro Qe) Qe:=by
 obtain⟨f,rfl⟩: ∃f',f=f'+1:=⟨f-1,by omega⟩
 have h:=W2.ofS (fun x=>uh_ _ _ _ _) (arguments_on (by omega) hc h)
 refine⟨f,by omega,h.mono (fun x t' nb w l=>?_) fun _ _ z=>z⟩
 have e: ∀l,Ro (.call u (ofL es (.cons x l)))=Ro (.call u (ofL (es++[x]) l)):=fun l=>by rw[ofL_snoc]
 have n:wanted-es.length-1=wanted-(es++[x]).length:=by rw[List.length_append,List.length_singleton];omega
 rw[n] at w
 simp only[e] at w
 cases es with
 |nil=>exact⟨by omega,w⟩
 |cons y r=>exact⟨by omega,w⟩
section
variable {P:Program} {w:World} {K:PySem.W.Frag} {mg:Str->Option Value} {base:Heap} {a:Adr} {k j:Nat}
theorem ok_z61 (T:Txt K mg a) (XC:XT K a) (hk:7<=k)
  (G_z68:ju_ P w K mg base (CXF P w) k a.f_z68 a.fd_z68 ["reader","depth"] (yy_ a W2 expr 12 (Lv j))):
  ju_ P w K mg base (CXF P w) (k+1) a.f_z61 a.fd_z61 ["reader","depth"] (yy_ a W primary 6 (LvC (j+1))):=by
 have G_z76:=ok_z76 (P:=P) (w:=w) (base:=base) T XC
 have G_z29:=yq_ (P:=P) (w:=w) (base:=base) T XC
 have G_z46:=wr_ (P:=P) (w:=w) (base:=base) T XC
 have G_z48:=ok_z48 (P:=P) (w:=w) (base:=base) T XC
 have G_z24:=ok_Call_init (P:=P) (w:=w) (base:=base) T
 refine okX T.F_z61 sc_z61 (fun vs H Q E h=>?_) (fun cdv A outer s H vs Q E hr h=>?_)
 ·obtain⟨r,q,kd,fn,ds,bl,n,t,Kn,d,fuel,rfl,_⟩:=h
  rfl
 ·obtain⟨r,q,kd,fn,ds,bl,n,t,Kn,d,fuel,rfl,hd,⟨hl,u,g,hpk0,hsum,hkey,hfind⟩,S,hf,hW⟩:=h
  obtain⟨⟨x,xp⟩,t',rfl,tok,hpk,hpl,_⟩:=S.wh.first
  obtain rfl:x= .word u:=hpk.symm.trans hpk0
  have nb:peek ((.word u,xp)::t')≠ .bad:=fun z=>nomatch z
  refine⟨_,(j2_ (jg_ (i:=2) sc_z61.nd rfl (Or.inl rfl) (j9_ G_z76 (hr.mono (by omega)) (by rfl) T.m_z76 T.F_z76.kp T.b_z76 .nil j6_ (j0_ (pv 0) (j0_ (pv 1) j5_))))
    (j2_ (jg_ (i:=3) sc_z61.nd rfl (Or.inl rfl) (jn_ (pv 0) T.cl_Reader T.me_z46 G_z46 (hr.mono (by omega)) T.b_z46 .nil j6_))
    (j2_ (jd_ (jb_ (pv 0) T.cl_Reader T.me_z29 G_z29 (hr.mono (by omega)) T.b_z29 .nil j6_ (j0_ jk_ j5_)))
    (j2_ (jg_ (i:=4) sc_z61.nd rfl (Or.inl rfl) (pe_dget (j16_ hr) (yf_ (pv 0) rfl) (pv 3) (fun _ _=>rfl)))
    (j2_ (jg_ (i:=5) sc_z61.nd rfl (Or.inl rfl) (uu_ j5_))
    (j2_ (u6_ PassesOwn.leaving (ya_ op_lt (yw_ jv_ (by rfl) T.n_len PySem.boot_len (j0_ (pv 5) j5_)) (pv 4) (yk_ _)) (j2_ (yg_ (ya_ op_gt (yw_ jv_ (by rfl) T.n_len PySem.boot_len (j0_ (pv 5) j5_)) jr_ (yk_ _)) (j2_ (jd_ (j9_ G_z48 (hr.mono (by omega)) (by rfl) T.m_z48 T.F_z48.kp T.b_z48 .nil j6_ (j0_ (pv 0) (j0_ jk_ j5_))))
    (j7_ (jd_ (jb_ (pv 0) T.cl_Reader T.me_z29 G_z29 (hr.mono (by omega)) T.b_z29 .nil j6_ (j0_ jk_ j5_))))) ji_)
    (j2_ (jd_ (j9_ G_z48 (hr.mono (by omega)) (by rfl) T.m_z48 T.F_z48.kp T.b_z48 .nil j6_ (j0_ (pv 0) (j0_ jk_ j5_))))
    (j7_ (jd_ (pe_bm PySem.F.plainAttrs_list PySem.F.slot_list_append PySem.F.type_list_append qc_ (pv 5) (j0_ (j9_ G_z68 (hr.mono (by omega)) (by rfl) T.m_z68 T.F_z68.kp T.b_z68 .nil j6_ (j0_ (pv 0) (j0_ (pv 2) j5_))) j5_)))))))
    (j2_ (yg_ (ya_ op_gt (pv 4) jr_ (yk_ _)) (j7_ (jd_ (j9_ G_z48 (hr.mono (by omega)) (by rfl) T.m_z48 T.F_z48.kp T.b_z48 .nil j6_ (j0_ (pv 0) (j0_ jk_ j5_))))) ji_)
    (j2_ (jd_ (jb_ (pv 0) T.cl_Reader T.me_z29 G_z29 (hr.mono (by omega)) T.b_z29 .nil j6_ (j0_ jk_ j5_)))
    (j7_ (jh_ (vf_ T.mk_Call G_z24 (hr.mono (by omega)) (by rfl) T.mg_Call T.b_z24 .nil yr_ (j0_ (pv 3) (j0_ (pv 5) j5_))))))))))))),?_⟩
  have room:=S.kn.len
  rw[List.length_cons] at hf room
  have hl:13<=d+(j+1):=hl
  obtain⟨f,rfl⟩: ∃f,fuel=f+1:=⟨fuel-1,by omega⟩
  refine⟨_,rfl,_,rfl,?_⟩
  unfold j14_ ua_ tC
  dsimp only[List.append_nil]
  refine j0k_ hd S nb je_.refl (W_as (primary_call hsum hkey hfind) hW) fun lt hW=>?_
  have hW:=W_nx hW
  obtain⟨dr,er⟩:=S.rd.ins
  refine⟨_,rfl,r,dr,_,rfl,er,rfl,?_⟩
  refine⟨r,q,kd,fn,ds,bl,n,(.word u,xp),t',rfl,S.rd,(fun z=>nomatch z),fun _ H1 hp1=>?_⟩
  have S1:=S.past (fun z=>z.elim (fun z=>nomatch z) fun z=>nomatch z) hp1
  have k1:=jt_ hp1
  obtain⟨dr1,er1⟩:=S1.rd.ins
  refine⟨_,rfl,r,dr1,_,rfl,er1,rfl,?_⟩
  refine qy_ litO S1 (fun k x z=>z H1 k1) hW fun H2 t2 l2 S2 k2 hW2=>?_
  have k02:=k1.trans k2
  obtain⟨dr2,er2⟩:=S2.rd.ins
  obtain⟨ff,f1,f2⟩:=S2.kn.funs
  have f2u:=f2 u
  rw[hfind] at f2u
  refine⟨_,rfl,r,_,dr2,_,_,rfl,er2,T.cl_Reader,T.no_Reader_functions,rfl,_,rfl,fn,_,rfl, .inl ⟨ff,nk u, .inl f1,rfl,f2u.symm⟩,?_⟩
  refine⟨Nat.zero_le _,fun L hL=>?_⟩
  have nL: ¬Mut r kd fn ds bl L:=S2.fresh hL
  have nq:L≠q:=fun z=>by obtain⟨as,all,h1,_⟩:=S2.rd.toks;rw[z,h1] at hL;cases hL
  have H0L:H L=none:=by
   cases e:H L with
   |none=>rfl
   |some o=>rw[k02 L o e nL] at hL;cases hL
  have ap: ∀zs,¬bl.x L zs:=fun zs z=>by rw[S2.fr L zs z] at hL;cases hL
  have S3:PSt a (upd H2 L (.lst [])) r q kd fn ds (bl.more L []) (n+1+1) t2 Kn:=(S2.same (yj_ hL)).more j4_
  have k03:je_ (Mut r kd fn ds bl) H (upd H2 L (.lst [])):=k02.trans (OS.vq_.keeps (yj_ hL))
  have en:g.2=0\/0<g.2:=by omega
  have C0:CallW f (12-(d+1)) Kn u g.2 [] t2 (fun e t3=> ∀H' v n',t3.length<t'.length+1->PSt a H' r q kd fn ds bl n' t3 Kn->je_ (Mut r kd fn ds bl) H H'->ja_ a (Mut r kd fn ds bl) H' e v->Q v H') (QE a r kd fn ds bl H E):=by
   unfold CallW
   by_cases z:g.2=0
   ·rw[if_pos z]
    rw[if_pos z] at hW2
    exact hW2
   ·rw[if_neg z]
    rw[if_neg z,jj_] at hW2
    exact⟨by omega,hW2⟩
  refine⟨fun m σ H'=> ∃(es:List Vbemac.Exp) (us:List V) (n1:Nat) (t1:Toks) (f1:Nat),m=g.2-us.length/\σ=[some (.ref r),some (.int d),some (.int ((d+1:Nat):Int)),some (.str (sb u)),some (.int (g.2:Nat)),some (.ref L)]/\us.length<=g.2/\us.length+t1.length<=t'.length/\es.length=us.length/\
   PSt a H' r q kd fn ds (bl.more L us) n1 t1 Kn/\je_ (Mut r kd fn ds bl) H H'/\ExpL a (Mut r kd fn ds (bl.more L us)) H' es us/\CallW f1 (12-(d+1)) Kn u g.2 es t1 (fun e t3=> ∀H' v n',t3.length<t'.length+1->PSt a H' r q kd fn ds bl n' t3 Kn->je_ (Mut r kd fn ds bl) H H'->ja_ a (Mut r kd fn ds bl) H' e v->Q v H') (QE a r kd fn ds bl H E),
   ⟨_,[],[],_,t2,f,rfl,rfl,Nat.zero_le _,by show 0+t2.length<=_;omega,rfl,S3,k03, .nil,C0⟩,?_⟩
  rintro m σ H4 ⟨es,us,n1,t1,f1,rfl,rfl,ule,utl,esl,S4,k04,ev,CW⟩
  have hL4:=S4.the
  refine⟨_,rfl,_,_,rfl, .inl (SqL.of hL4),_,rfl,_,_,rfl,rfl,_,rfl,?_⟩
  refine yt_ (fun e=>?_) fun e=>?_
  ·have lt':us.length<g.2:=by have:=of_decide_eq_true e;omega
   refine⟨fun σ' H'=> ∃(es':List Vbemac.Exp) (us':List V) (n1:Nat) (t1:Toks) (f1:Nat),us.length<us'.length/\σ'=[some (.ref r),some (.int d),some (.int ((d+1:Nat):Int)),some (.str (sb u)),some (.int (g.2:Nat)),some (.ref L)]/\us'.length<=g.2/\us'.length+t1.length<=t'.length/\es'.length=us'.length/\
   PSt a H' r q kd fn ds (bl.more L us') n1 t1 Kn/\je_ (Mut r kd fn ds bl) H H'/\ExpL a (Mut r kd fn ds (bl.more L us')) H' es' us'/\CallW f1 (12-(d+1)) Kn u g.2 es' t1 (fun e t3=> ∀H' v n',t3.length<t'.length+1->PSt a H' r q kd fn ds bl n' t3 Kn->je_ (Mut r kd fn ds bl) H H'->ja_ a (Mut r kd fn ds bl) H' e v->Q v H') (QE a r kd fn ds bl H E),?_,?_⟩
   ·rintro σ' H' ⟨es',us',n1',t1',f1',l1,rfl,l2,l3,l4,S',k',ev',C'⟩
    exact⟨_,by omega,es',us',n1',t1',f1',rfl,rfl,l2,l3,l4,S',k',ev',C'⟩
   cases es with
   |nil=>
    have u0:us=[]:=List.length_eq_zero_iff.mp esl.symm
    subst u0
    refine⟨_,rfl,_,_,rfl, .inl (SqL.of hL4),_,_,rfl,rfl,_,rfl,?_⟩
    refine ur_ ?_
    unfold CallW at CW
    have g0: ¬g.2=0:=by have:0<g.2:=lt';omega
    dsimp only at CW
    rw[if_neg g0] at CW
    obtain⟨hf5,hA⟩:=CW
    have S5:=S4
    have k05:=k04
    have k45:je_ (Mut r kd fn ds (bl.more L [])) H4 H4:=je_.refl
    have hA:W (arguments f1 (12-(d+1)) Kn (g.2-([]:List Vbemac.Exp).length)) t1 (fun l t3=> ∀H' v n',t3.length<t'.length+1->PSt a H' r q kd fn ds bl n' t3 Kn->je_ (Mut r kd fn ds bl) H H'->ja_ a (Mut r kd fn ds bl) H' (.call u (ofL [] l)) v->Q v H') (QE a r kd fn ds bl H E):=hA
    have lt':([]:List Vbemac.Exp).length<g.2:=lt'
    have utl':t1.length<=t'.length:=by have:0+t1.length<=t'.length:=utl;omega
    refine⟨_,rfl,?_⟩
    refine wu_ litC S5 (fun b=>((j02_ _ _ _ _).at_bad b hA) H4 k05) (fun nb c=>?_) fun nb c=>?_
    ·obtain⟨f5',rfl⟩: ∃f',f1=f'+1:=⟨f1-1,by omega⟩
     exact yl_ (p:=arguments (f5'+1) (12-(d+1)) Kn (g.2-([]:List Vbemac.Exp).length)) (n:=5) (by rw[arguments];show(if isSign t1 ")"=true then _ else _)=_;rw[if_pos c]) nb hA H4 k05
    obtain⟨f6,hf6,h6⟩:=CallW.next (es:=([]:List Vbemac.Exp)) (Ro:=fun e t3=> ∀H' v n',t3.length<t'.length+1->PSt a H' r q kd fn ds bl n' t3 Kn->je_ (Mut r kd fn ds bl) H H'->ja_ a (Mut r kd fn ds bl) H' e v->Q v H') (by omega) hf5 c hA
    refine⟨_,rfl, .inl ⟨rfl,_,SqL.of S5.the⟩,?_⟩
    refine⟨_,rfl,_,rfl,r,q,kd,fn,ds,bl.more L ([]:List V),n1,t1,Kn,d+1,f6,rfl,lt,(by show 13<=d+1+j;omega),S5,hf6,h6.mono (fun e1 t6 nb6 w6 H6 v n6 l6 S6 k6 ev6=>?_) fun _ _ z H' k'=>z H' (k05.cut k' H0L)⟩
    have k46:=k45.trans k6
    have k06:=k05.cut k6 H0L
    refine⟨L,_,_,rfl,rfl,S6.the,Nat.lt_of_le_of_lt (show(([]:List V):List V).length<=4000 by omega) (by decide),?_⟩
    refine⟨([]:List Vbemac.Exp)++[e1],([]:List V)++[v],n6,t6,f6,by rw[List.length_append,List.length_singleton];omega,rfl,by rw[List.length_append,List.length_singleton];omega,by rw[List.length_append,List.length_singleton];omega,by rw[List.length_append,List.length_append,esl];rfl,S6.write ap nq,fun b o e m=>?_,?_,w6 (by omega)⟩
    ·rw[j3_ fun z=>by rw[z,H0L] at e;cases e]
     exact k06 b o e m
    ·exact qf_ (Paired.mapP ev fun e v h=>ja_.other (ja_.keep (k46.trans (j0d_ qe_)) _ h)) (ja_.other (ja_.keep (j0d_ qe_) _ ev6))
   |cons e0 er=>
    obtain⟨v0,vr,rfl⟩: ∃v0 vr,us=v0::vr:=by cases us with|nil=>cases esl|cons v0 vr=>exact⟨v0,vr,rfl⟩
    refine⟨_,rfl,_,_,rfl, .inl (SqL.of hL4),_,_,rfl,rfl,_,rfl,?_⟩
    refine iteT' (decide_eq_true (by show(0:Int)<(((v0::vr).length:Nat):Int);rw[List.length_cons];omega)) ?_
    obtain⟨hf4,hT⟩:=CW
    have m0: ¬g.2-(e0::er).length=0:=by omega
    refine⟨_,rfl,?_⟩
    refine wu_ litC S4 (fun b=>((uh_ _ _ _ _).at_bad b hT) H4 k04) (fun nb c=>?_) fun nb c=>?_
    ·exact yl_ (p:=vw_ f1 (12-(d+1)) Kn (g.2-(e0::er).length)) (n:=5) (by unfold vw_;rw[if_neg m0,if_pos c]) nb hT H4 k04
    have hT:=j04_ (p':=(Vbemac.sign ",">>=fun _=>arguments f1 (12-(d+1)) Kn (g.2-(e0::er).length):Vbemac.P Vbemac.Exps)) (t':=t1) (by unfold vw_;rw[if_neg m0,if_neg (by rw[c];exact Bool.false_ne_true)]) hT
    obtain⟨dr4,er4⟩:=S4.rd.ins
    refine⟨_,rfl,r,dr4,_,rfl,er4,rfl,?_⟩
    refine qy_ litCm S4 (fun k x z=>z H4 k04) hT fun H5 t5 l5 S5 k45 hA=>?_
    have k05:=k04.cut k45 H0L
    have hf5:16*t5.length+13<=f1:=by omega
    refine⟨_,rfl,?_⟩
    refine wu_ litC S5 (fun b=>((j02_ _ _ _ _).at_bad b hA) H5 k05) (fun nb c=>?_) fun nb c=>?_
    ·obtain⟨f5',rfl⟩: ∃f',f1=f'+1:=⟨f1-1,by omega⟩
     exact yl_ (p:=arguments (f5'+1) (12-(d+1)) Kn (g.2-(e0::er).length)) (n:=5) (by rw[arguments];show(if isSign t5 ")"=true then _ else _)=_;rw[if_pos c]) nb hA H5 k05
    obtain⟨f6,hf6,h6⟩:=CallW.next (es:=(e0::er)) (Ro:=fun e t3=> ∀H' v n',t3.length<t'.length+1->PSt a H' r q kd fn ds bl n' t3 Kn->je_ (Mut r kd fn ds bl) H H'->ja_ a (Mut r kd fn ds bl) H' e v->Q v H') (by omega) hf5 c hA
    refine⟨_,rfl, .inl ⟨rfl,_,SqL.of S5.the⟩,?_⟩
    refine⟨_,rfl,_,rfl,r,q,kd,fn,ds,bl.more L (v0::vr),(n1+1),t5,Kn,d+1,f6,rfl,lt,(by show 13<=d+1+j;omega),S5,hf6,h6.mono (fun e1 t6 nb6 w6 H6 v n6 l6 S6 k6 ev6=>?_) fun _ _ z H' k'=>z H' (k05.cut k' H0L)⟩
    have k46:=k45.trans k6
    have k06:=k05.cut k6 H0L
    refine⟨L,_,_,rfl,rfl,S6.the,Nat.lt_of_le_of_lt (show((v0::vr):List V).length<=4000 by omega) (by decide),?_⟩
    refine⟨(e0::er)++[e1],(v0::vr)++[v],n6,t6,f6,by rw[List.length_append,List.length_singleton];omega,rfl,by rw[List.length_append,List.length_singleton];omega,by rw[List.length_append,List.length_singleton];omega,by rw[List.length_append,List.length_append,esl];rfl,S6.write ap nq,fun b o e m=>?_,?_,w6 (by omega)⟩
    ·rw[j3_ fun z=>by rw[z,H0L] at e;cases e]
     exact k06 b o e m
    ·exact qf_ (Paired.mapP ev fun e v h=>ja_.other (ja_.keep (k46.trans (j0d_ qe_)) _ h)) (ja_.other (ja_.keep (j0d_ qe_) _ ev6))
  ·have ueq:us.length=g.2:=by have:=of_decide_eq_false e;omega
   cases es with
   |nil=>
    have u0:us=[]:=List.length_eq_zero_iff.mp esl.symm
    have g0:g.2=0:=by rw[<-ueq,u0];rfl
    refine⟨_,rfl,_,_,rfl,rfl,_,rfl,?_⟩
    refine iteF' (decide_eq_false (by omega)) ?_
    unfold CallW at CW
    rw[if_pos g0] at CW
    obtain⟨dr4,er4⟩:=S4.rd.ins
    refine⟨_,rfl,r,dr4,_,rfl,er4,rfl,?_⟩
    refine qy_ litC S4 (fun k x z=>z H4 k04) CW fun H6 t6 l6 S6 k46 hR=>?_
    have k06:=k04.cut k46 H0L
    have hR: ∀H' v n',t6.length<t'.length+1->PSt a H' r q kd fn ds bl n' t6 Kn->je_ (Mut r kd fn ds bl) H H'->ja_ a (Mut r kd fn ds bl) H' (.call u (ofL [] .nil)) v->Q v H':=hR
    refine⟨_,rfl,_,rfl,?_⟩
    intro p dx hp hdx ne
    refine⟨p,dx,_,_,rfl,j4_,fun Hd hd' kd'=>⟨rfl,?_⟩⟩
    have scd:=yz_ hp hdx kd'
    refine hR Hd (.ref p) _ (by omega) (S6.less.same scd) (k06.trans (OS.vq_.keeps scd)) ?_
    unfold ja_
    exact⟨.ref L,us,⟨p,dx,rfl,S6.less.fresh hp,hd'⟩,⟨L,rfl,nL,scd _ _ S6.the⟩,expL_exps (Paired.mapP ev fun e v h=>ja_.keep2 (fun b o e m=>⟨fun z=>m (yu_ z),(k46.trans (OS.vq_.keeps scd)) b o e m⟩) _ h)⟩
   |cons e0 er=>
    have g0:0<g.2:=by rw[<-ueq,<-esl];exact Nat.succ_pos _
    refine⟨_,rfl,_,_,rfl,rfl,_,rfl,?_⟩
    refine iteT' (decide_eq_true (by show((g.2:Nat):Int)>0;omega)) ?_
    obtain⟨hf4,hT⟩:=CW
    have m0:g.2-(e0::er).length=0:=by omega
    refine⟨_,rfl,?_⟩
    refine wu_ litCm S4 (fun b=>((uh_ _ _ _ _).at_bad b hT) H4 k04) (fun nb c=>?_) fun nb c=>?_
    ·exact yl_ (p:=vw_ f1 (12-(d+1)) Kn (g.2-(e0::er).length)) (n:=5) (by unfold vw_;rw[if_pos m0,if_pos c]) nb hT H4 k04
    have hT:=j04_ (p':=(Vbemac.sign ")">>=fun _=>pure .nil:Vbemac.P Vbemac.Exps)) (t':=t1) (by unfold vw_;rw[if_pos m0,if_neg (by rw[c];exact Bool.false_ne_true)]) hT
    obtain⟨dr4,er4⟩:=S4.rd.ins
    refine⟨_,rfl,r,dr4,_,rfl,er4,rfl,?_⟩
    refine qy_ litC S4 (fun k x z=>z H4 k04) hT fun H6 t6 l6 S6 k46 hR=>?_
    have k06:=k04.cut k46 H0L
    have hR: ∀H' v n',t6.length<t'.length+1->PSt a H' r q kd fn ds bl n' t6 Kn->je_ (Mut r kd fn ds bl) H H'->ja_ a (Mut r kd fn ds bl) H' (.call u (ofL (e0::er) .nil)) v->Q v H':=hR
    refine⟨_,rfl,_,rfl,?_⟩
    intro p dx hp hdx ne
    refine⟨p,dx,_,_,rfl,j4_,fun Hd hd' kd'=>⟨rfl,?_⟩⟩
    have scd:=yz_ hp hdx kd'
    refine hR Hd (.ref p) _ (by omega) (S6.less.same scd) (k06.trans (OS.vq_.keeps scd)) ?_
    unfold ja_
    exact⟨.ref L,us,⟨p,dx,rfl,S6.less.fresh hp,hd'⟩,⟨L,rfl,nL,scd _ _ S6.the⟩,expL_exps (Paired.mapP ev fun e v h=>ja_.keep2 (fun b o e m=>⟨fun z=>m (yu_ z),(k46.trans (OS.vq_.keeps scd)) b o e m⟩) _ h)⟩
end
end OS
namespace OS
open PySem PySem.Spec L2
open PyProof.Rows hiding St
open Vbemac (Bytes Toks SIGNS KEYS peek place primary unary text isSign isKey expr ands compared added times)
def KTT (K:PySem.W.Frag) (ad:Addr) (rows:List (List V)):Prop:= ∃qs:List Addr,KTup K ad (qs.map V.ref)/\Paired (fun q xs=>KTup K q xs) qs rows
def we_:List (List V):=[[.str "||"],[.str "&&"],[.str "==", .str "!=", .str "<=", .str ">=", .str "<", .str ">"],[.str "+", .str "-"],[.str "*", .str "/", .str "/rest"]]
theorem j10_ {α β:Type} {F:α->β->Prop} : ∀ {l:List α} {m:List β} {i:Nat} {y:β},Paired F l m->m[i]?=some y-> ∃x,l[i]?=some x/\F x y
 |_,_,_,_, .nil,h=>by cases h
 |_,_,0,_, .cons r t,h=>⟨_,rfl,by obtain rfl:=Option.some.inj h;exact r⟩
 |_,_,i+1,_, .cons r t,h=>j10_ (i:=i) t h
theorem KTT.row {K:PySem.W.Frag} {ad:Addr} {i:Nat} {xs:List V} {H:Hp} (h:KTT K ad we_) (e:we_[i]?=some xs): ∃qs:List Addr,qs.length=5/\SqT K H ad (qs.map V.ref)/\ ∃q,atI (qs.map V.ref) (i:Nat)=some (.ref q)/\SqT K H q xs:=by
 obtain⟨qs,h1,h2⟩:=h
 obtain⟨q,hq,hk⟩:=j10_ h2 e
 refine⟨qs,j0m_ h2,h1.sq,q,?_,hk.sq⟩
 refine qb_ ?_
 rw[List.getElem?_map,hq]
 rfl
theorem in_signs {x:Vbemac.Tok} (tok:TokOk x) {sg:List Bytes} (hs: ∀o∈sg,o∈SIGNS) (h:inV (tokV x) (sg.map fun o=>V.str (sgn o))=true): ∃op∈sg,x= .sign op:=by
 unfold inV at h
 rw[List.any_map,List.any_eq_true] at h
 obtain⟨o,ho,e⟩:=h
 refine⟨o,ho,(tok_sign tok (x:=sgn o) ⟨rfl,hs o ho⟩).mp ?_⟩
 have e:eqV (V.str (sgn o)) (tokV x)=true:=e
 cases x with
 |word u=>exact congrArg some (beq_iff_eq.mp (show(sgn o == sb u)=true from e)).symm
 |num n=>cases (show false=true from e)
 |sign u=>exact congrArg some (beq_iff_eq.mp (show(sgn o == sgn u)=true from e)).symm
 |eof=>exact congrArg some (beq_iff_eq.mp (show(sgn o == sb [])=true from e)).symm
 |bad=>exact congrArg some (beq_iff_eq.mp (show(sgn o == sb [])=true from e)).symm
theorem signs_in {op:Bytes} {sg:List Bytes} (h:op∈sg):inV (tokV (.sign op)) (sg.map fun o=>V.str (sgn o))=true:=by
 unfold inV
 rw[List.any_map,List.any_eq_true]
 exact⟨op,h,show(sgn op == sgn op)=true from beq_self_eq_true _⟩
theorem flat_tokV (x:Vbemac.Tok):flatV (tokV x)=true:=by cases x<;>rfl
theorem flat_signs (sg:List Bytes):(sg.map fun o=>V.str (sgn o)).all flatV=true:=by
 rw[List.all_map,List.all_eq_true]
 exact fun _ _=>rfl
def spCh (a:Adr) (wp:WP) (s:Nat) (p:Nat->Nat->Vbemac.Known->Vbemac.P Vbemac.Exp) (c:Nat) (ok:Nat->Vbemac.Known->Toks->Prop):Sp:=fun vs H Q E=> ∃u v:V,vs=[u,v, .int (s:Nat)]/\yy_ a wp p c ok [u,v] H Q E
structure WpOk (wp:WP) (nbf:Bool):Prop where
 mono: ∀ {p:Vbemac.P Vbemac.Exp} {t:Toks} {Qo Qo':Vbemac.Exp->Toks->Prop} {Qe Qe':Nat->Vbemac.Pos->Prop},wp p t Qo Qe->(∀x r,Qo x r->Qo' x r)->(∀n q,Qe n q->Qe' n q)->wp p t Qo' Qe'
 of2: ∀ {p:Vbemac.P Vbemac.Exp} {t:Toks} {Qo:Vbemac.Exp->Toks->Prop} {Qe:Nat->Vbemac.Pos->Prop},W2 p t Qo Qe->wp p t (fun x r=>(if peek r= .bad then Qe 1 (place r) else Qo x r)/\(nbf=true->peek r≠ .bad)) Qe
theorem wpW:WpOk W false:=⟨fun h ho he=>h.mono ho he,fun h=>W.mono h (fun x r w=>⟨w,fun z=>nomatch z⟩) fun _ _ z=>z⟩
theorem wpW2:WpOk W2 true:=⟨fun h ho he=>h.mono (fun x r _=>ho x r) he,fun h=>h.mono (fun x r nb w=>⟨by rw[if_neg nb];exact w,fun _=>nb⟩) fun _ _ z=>z⟩
structure NodeL (s:Nat) (sg:List Bytes) (once:Bool) (res:Vbemac.Exp->Pairs->Vbemac.Exp):Prop where
 res0: ∀e,res e []=e
 at_: ∀ {a:Adr} {M:Addr->Prop} {H:Hp} {e:Vbemac.Exp} {es:Pairs} {v:V} {us:List V} {p dx:Addr} {q g:V},es≠[]->(∀x∈es,x.1∈sg)->(once=true->es.length<=1)-> ¬M p->H p=some (.ins a.c_Chain dx [("strength", .int (s:Nat)),("operands",q),("signs",g)])->
  ql_ M H (v::us) q->ql_ M H (es.map fun x=>V.str (sgn x.1)) g->ja_ a M H e v->Paired (fun(x:Bytes×Vbemac.Exp) u=>ja_ a M H x.2 u) es us->ja_ a M H (res e es) (.ref p)
section
variable {a:Adr} {M:Addr->Prop} {H:Hp}
theorem exL_at: ∀ {es:Pairs} {us:List V},Paired (fun(x:Bytes×Vbemac.Exp) u=>ja_ a M H x.2 u) es us->qi_ a M H (exL es .nil) us
 |_,_, .nil=>by unfold exL qi_;rfl
 |_,_, .cons h t=>by unfold exL qi_;exact⟨_,_,rfl,h,exL_at t⟩
theorem exR_at: ∀ {es:Pairs} {us:List V},Paired (fun(x:Bytes×Vbemac.Exp) u=>ja_ a M H x.2 u) es us->ux_ a M H (exR es .nil) us (es.map fun x=>V.str (sgn x.1))
 |_,_, .nil=>by unfold exR ux_;exact⟨rfl,rfl⟩
 |_,_, .cons h t=>by unfold exR ux_;exact⟨_,_,_,rfl,rfl,h,exR_at t⟩
theorem all_one {F:Bytes×Vbemac.Exp->V->Prop} {o:Bytes} : ∀ {es:Pairs} {us:List V},Paired F es us->(∀x∈es,x.1∈[o])->(es.map fun x=>V.str (sgn x.1))=us.map fun _=>V.str (sgn o)
 |_,_, .nil,_=>rfl
 |_,_, .cons h t,hx=>by
  rw[List.map_cons,List.map_cons,List.mem_singleton.mp (hx _ (List.mem_cons_self ..)),all_one t fun y hy=>hx y (List.mem_cons_of_mem _ hy)]
end
theorem sgnOr:sgn (text "||")="||":=by decide+kernel
theorem sgnAnd:sgn (text "&&")="&&":=by decide+kernel
theorem nodeOr:NodeL 0 S0 false (fun e es=>eith e (exL es .nil)) where
 res0 e:=rfl
 at_ {a M H e es v us p dx q g} h0 hs _ hp hH hq hg he hes:=by
  have hes0:=hes
  cases hes with
  |nil=>exact absurd rfl h0
  |cons h t=>
   have hes:=hes0
   rw[all_one hes hs,sgnOr] at hg
   show ja_ a M H (.either e (exL (_::_) .nil)) (.ref p)
   unfold ja_
   exact⟨q,g,v,_,⟨p,dx,rfl,hp,hH⟩,hq,hg,he,exL_at hes⟩
theorem nodeAnd:NodeL 1 S1 false (fun e es=>bth e (exL es .nil)) where
 res0 e:=rfl
 at_ {a M H e es v us p dx q g} h0 hs _ hp hH hq hg he hes:=by
  have hes0:=hes
  cases hes with
  |nil=>exact absurd rfl h0
  |cons h t=>
   have hes:=hes0
   rw[all_one hes hs,sgnAnd] at hg
   show ja_ a M H (.both e (exL (_::_) .nil)) (.ref p)
   unfold ja_
   exact⟨q,g,v,_,⟨p,dx,rfl,hp,hH⟩,hq,hg,he,exL_at hes⟩
theorem nodeAdd:NodeL 3 S3 false (fun e es=>sms e (exR es .nil)) where
 res0 e:=rfl
 at_ {a M H e es v us p dx q g} h0 hs _ hp hH hq hg he hes:=by
  have hes0:=hes
  cases hes with
  |nil=>exact absurd rfl h0
  |cons h t=>
   have hes:=hes0
   show ja_ a M H (.sums e (exR (_::_) .nil)) (.ref p)
   unfold ja_
   exact⟨q,g,v,_,_,⟨p,dx,rfl,hp,hH⟩,hq,hg,he,exR_at hes⟩
theorem nodeMul:NodeL 4 S4 false (fun e es=>prs e (exR es .nil)) where
 res0 e:=rfl
 at_ {a M H e es v us p dx q g} h0 hs _ hp hH hq hg he hes:=by
  have hes0:=hes
  cases hes with
  |nil=>exact absurd rfl h0
  |cons h t=>
   have hes:=hes0
   show ja_ a M H (.prods e (exR (_::_) .nil)) (.ref p)
   unfold ja_
   exact⟨q,g,v,_,_,⟨p,dx,rfl,hp,hH⟩,hq,hg,he,exR_at hes⟩
theorem nodeCmp:NodeL 2 S2 true cmpR where
 res0 e:=rfl
 at_ {a M H e es v us p dx q g} h0 hs h1 hp hH hq hg he hes:=by
  cases hes with
  |nil=>exact absurd rfl h0
  |cons h t=>
   cases t with
   |nil=>
    show ja_ a M H (.cmp _ e _) (.ref p)
    unfold ja_
    exact⟨q,g,v,_,⟨p,dx,rfl,hp,hH⟩,hq,hg,he,h⟩
   |cons h2 t2=>
    have:=h1 rfl
    rw[List.length_cons,List.length_cons] at this
    omega
section
variable {P:Program} {w:World} {K:PySem.W.Frag} {mg:Str->Option Value} {base:Heap} {a:Adr} {k j:Nat}
theorem ok_chain5 (T:Txt K mg a) (XC:XT K a) (KT:KTT K a.k_CHAIN_SIGNS we_) (hk:7<=k)
  (G_z53:ju_ P w K mg base (CXF P w) k a.f_z53 a.fd_z53 ["reader","depth"] (yy_ a W unary 7 (Lv j))):
  ju_ P w K mg base (CXF P w) (k+1) a.f_z52 a.fd_z52 ["reader","depth","strength"] (spCh a W 5 unary 7 (Lv j)):=by
 have G_z52:ju_ P w K mg base (CXF P w) (0+1) a.f_z52 a.fd_z52 ["reader","depth","strength"] (fun _ _ _ _=>False):=okX T.F_z52 sc_z52 (fun _ _ _ _ h=>h.elim) (fun _ _ _ _ _ _ _ _ _ h=>h.elim)
 have G_z19:=v8_ (P:=P) (w:=w) (base:=base) T XC
 have G_z46:=wr_ (P:=P) (w:=w) (base:=base) T XC
 have G_z14:=j1a_ (P:=P) (w:=w) (base:=base) T
 refine okX T.F_z52 sc_z52 (fun vs H Q E h=>?_) (fun cdv A outer s0 H vs Q E hr h=>?_)
 ·obtain⟨_,_,rfl,r,q,kd,fn,ds,bl,n,t,Kn,d,fuel,h0,_⟩:=h
  rfl
 ·obtain⟨_,_,rfl,r,q,kd,fn,ds,bl,n,t,Kn,d,fuel,h0,hd,hl,S,hf,hW⟩:=h
  obtain⟨rfl,h1⟩:=List.cons.inj h0
  obtain⟨rfl,_⟩:=List.cons.inj h1
  refine⟨_,(j2_ (yg_ (ya_ uk_ (pv 2) (yw_ jv_ (by rfl) T.n_len PySem.boot_len (j0_ (pe_gr (by rfl) T.g_CHAIN_SIGNS) j5_)) (yk_ _)) (j7_ (jh_ (j9_ G_z53 (hr.mono (by omega)) (by rfl) T.m_z53 T.F_z53.kp T.b_z53 .nil j6_ (j0_ (pv 0) (j0_ (pv 1) j5_))))) ji_)
    (j2_ (jg_ (i:=3) sc_z52.nd rfl (Or.inl rfl) (uu_ (j0_ (j9_ G_z52 (hr.mono (by omega)) (by rfl) T.m_z52 T.F_z52.kp T.b_z52 .nil j6_ (j0_ (pv 0) (j0_ (pv 1) (j0_ (uq_ uy_ (pv 2) jr_) j5_)))) j5_)))
    (j2_ (jg_ (i:=4) sc_z52.nd rfl (Or.inl rfl) (uu_ j5_))
    (j2_ (u6_ PassesOwn.leaving (ya_ op_in_seq (yf_ (jn_ (pv 0) T.cl_Reader T.me_z19 G_z19 (hr.mono (by omega)) T.b_z19 .nil j6_) rfl) (wo_ ix_tup (pe_gr (by rfl) T.g_CHAIN_SIGNS) (pv 2) (fun _ _=>rfl)) rfl) (j2_ (jd_ (pe_bm PySem.F.plainAttrs_list PySem.F.slot_list_append PySem.F.type_list_append qc_ (pv 4) (j0_ (jn_ (pv 0) T.cl_Reader T.me_z46 G_z46 (hr.mono (by omega)) T.b_z46 .nil j6_) j5_)))
    (j2_ (jd_ (pe_bm PySem.F.plainAttrs_list PySem.F.slot_list_append PySem.F.type_list_append qc_ (pv 3) (j0_ (j9_ G_z52 (hr.mono (by omega)) (by rfl) T.m_z52 T.F_z52.kp T.b_z52 .nil j6_ (j0_ (pv 0) (j0_ (pv 1) (j0_ (uq_ uy_ (pv 2) jr_) j5_)))) j5_)))
    (j7_ (yg_ (ya_ uk_ (pv 2) (vc_ (by rfl) T.g_COMPARISON) (yk_ _)) (j7_ ps_break) ji_)))))
    (j2_ (yg_ (ya_ uk_ (yw_ jv_ (by rfl) T.n_len PySem.boot_len (j0_ (pv 4) j5_)) jr_ (yk_ _)) (j7_ (jh_ (wo_ qa_ (pv 3) jr_ (fun _ _=>rfl)))) ji_)
    (j7_ (jh_ (vf_ T.mk_Chain G_z14 (hr.mono (by omega)) (by rfl) T.mg_Chain T.b_z14 .nil yr_ (j0_ (pv 2) (j0_ (pv 3) (j0_ (pv 4) j5_))))))))))),?_⟩
  obtain⟨qs,qs5,sqA,rq,atq,sqr⟩:=KT.row (H:=H) (i:=0) rfl
  refine⟨_,rfl,_,_,rfl, .inr sqA,rfl,_,rfl,?_⟩
  rw[uc_,List.length_map,qs5]
  refine iteT' rfl ?_
  exact⟨_,rfl,_,rfl,r,q,kd,fn,ds,bl,n,t,Kn,d,fuel,rfl,hd,hl,S,hf,hW⟩
theorem ud_ (T:Txt K mg a) (XC:XT K a) (KT:KTT K a.k_CHAIN_SIGNS we_) (hk:7<=k) {s:Nat} (hs:s<5) {wp:WP} {nbf:Bool} (wpo:WpOk wp nbf) (h2:s=2->nbf=true) {p sub:Nat->Nat->Vbemac.Known->Vbemac.P Vbemac.Exp} {c c':Nat} {sg:List Bytes} {once:Bool} {res:Vbemac.Exp->Pairs->Vbemac.Exp}
  (L:ChL p sub c c' sg once res) (N:NodeL s sg once res) (row:we_[s]?=some (sg.map fun o=>V.str (sgn o))) (sgS: ∀o∈sg,o∈SIGNS) (onceE:once=decide (s=2))
  (G_z52:ju_ P w K mg base (CXF P w) k a.f_z52 a.fd_z52 ["reader","depth","strength"] (spCh a wp (s+1) sub c' (Lv j)))
  (G_z53:ju_ P w K mg base (CXF P w) k a.f_z53 a.fd_z53 ["reader","depth"] (yy_ a W unary 7 (Lv j))):
  ju_ P w K mg base (CXF P w) (k+1) a.f_z52 a.fd_z52 ["reader","depth","strength"] (spCh a W2 s p c (Lv j)):=by
 have G_z19:=v8_ (P:=P) (w:=w) (base:=base) T XC
 have G_z46:=wr_ (P:=P) (w:=w) (base:=base) T XC
 have G_z14:=j1a_ (P:=P) (w:=w) (base:=base) T
 refine okX T.F_z52 sc_z52 (fun vs H Q E h=>?_) (fun cdv A outer s0 H vs Q E hr h=>?_)
 ·obtain⟨_,_,rfl,r,q,kd,fn,ds,bl,n,t,Kn,d,fuel,h0,_⟩:=h
  rfl
 ·obtain⟨_,_,rfl,r,q,kd,fn,ds,bl,n,t,Kn,d,fuel,h0,hd,hl,S,hf,hW⟩:=h
  obtain⟨rfl,h1⟩:=List.cons.inj h0
  obtain⟨rfl,_⟩:=List.cons.inj h1
  refine⟨_,(j2_ (yg_ (ya_ uk_ (pv 2) (yw_ jv_ (by rfl) T.n_len PySem.boot_len (j0_ (pe_gr (by rfl) T.g_CHAIN_SIGNS) j5_)) (yk_ _)) (j7_ (jh_ (j9_ G_z53 (hr.mono (by omega)) (by rfl) T.m_z53 T.F_z53.kp T.b_z53 .nil j6_ (j0_ (pv 0) (j0_ (pv 1) j5_))))) ji_)
    (j2_ (jg_ (i:=3) sc_z52.nd rfl (Or.inl rfl) (uu_ (j0_ (j9_ G_z52 (hr.mono (by omega)) (by rfl) T.m_z52 T.F_z52.kp T.b_z52 .nil j6_ (j0_ (pv 0) (j0_ (pv 1) (j0_ (uq_ uy_ (pv 2) jr_) j5_)))) j5_)))
    (j2_ (jg_ (i:=4) sc_z52.nd rfl (Or.inl rfl) (uu_ j5_))
    (j2_ (u6_ PassesOwn.leaving (ya_ op_in_seq (yf_ (jn_ (pv 0) T.cl_Reader T.me_z19 G_z19 (hr.mono (by omega)) T.b_z19 .nil j6_) rfl) (wo_ ix_tup (pe_gr (by rfl) T.g_CHAIN_SIGNS) (pv 2) (fun _ _=>rfl)) rfl) (j2_ (jd_ (pe_bm PySem.F.plainAttrs_list PySem.F.slot_list_append PySem.F.type_list_append qc_ (pv 4) (j0_ (jn_ (pv 0) T.cl_Reader T.me_z46 G_z46 (hr.mono (by omega)) T.b_z46 .nil j6_) j5_)))
    (j2_ (jd_ (pe_bm PySem.F.plainAttrs_list PySem.F.slot_list_append PySem.F.type_list_append qc_ (pv 3) (j0_ (j9_ G_z52 (hr.mono (by omega)) (by rfl) T.m_z52 T.F_z52.kp T.b_z52 .nil j6_ (j0_ (pv 0) (j0_ (pv 1) (j0_ (uq_ uy_ (pv 2) jr_) j5_)))) j5_)))
    (j7_ (yg_ (ya_ uk_ (pv 2) (vc_ (by rfl) T.g_COMPARISON) (yk_ _)) (j7_ ps_break) ji_)))))
    (j2_ (yg_ (ya_ uk_ (yw_ jv_ (by rfl) T.n_len PySem.boot_len (j0_ (pv 4) j5_)) jr_ (yk_ _)) (j7_ (jh_ (wo_ qa_ (pv 3) jr_ (fun _ _=>rfl)))) ji_)
    (j7_ (jh_ (vf_ T.mk_Chain G_z14 (hr.mono (by omega)) (by rfl) T.mg_Chain T.b_z14 .nil yr_ (j0_ (pv 2) (j0_ (pv 3) (j0_ (pv 4) j5_))))))))))),?_⟩
  have room:=S.kn.len
  obtain⟨qs,qs5,sqA,rq,atq,sqr⟩:=KT.row (H:=H) row
  refine⟨_,rfl,_,_,rfl, .inr sqA,rfl,_,rfl,?_⟩
  rw[uc_,List.length_map,qs5]
  refine iteF' (decide_eq_false (by omega)) ?_
  obtain⟨f,hf1,h1⟩:=L.start hf hW
  unfold j14_ ua_ tC
  dsimp only[List.append_nil]
  refine⟨_,rfl,_,rfl,_,rfl,_,_,rfl,rfl,?_⟩
  refine⟨_,_,rfl,r,q,kd,fn,ds,bl,n,t,Kn,d,f,rfl,hd,hl,S,hf1,wpo.mono (wpo.of2 h1) (fun e t1 w1 H1 v n1 l1 S1 k1 ev1=>?_) fun _ _ z=>z⟩
  refine⟨by show 1<=sizeLine;decide,fun A1 hA1=>?_⟩
  refine⟨Nat.zero_le _,fun A2 hA2=>?_⟩
  have ne12:A2≠A1:=fun z=>by rw[z,j4_] at hA2;cases hA2
  have hA2':H1 A2=none:=by rw[j3_ ne12] at hA2;exact hA2
  have nA1: ¬Mut r kd fn ds bl A1:=S1.fresh hA1
  have nA2: ¬Mut r kd fn ds bl A2:=S1.fresh hA2'
  have old: ∀ {b:Addr},H1 b=none-> ¬Mut r kd fn ds bl b->H b=none:=fun {b} e m=>by
   cases z:H b with
   |none=>rfl
   |some o=>rw[k1 b o z m] at e;cases e
  have o1:=old hA1 nA1
  have o2:=old hA2' nA2
  have q1:A1≠q:=fun z=>by obtain⟨as,all,h1,_⟩:=S1.rd.toks;rw[z,h1] at hA1;cases hA1
  have q2:A2≠q:=fun z=>by obtain⟨as,all,h1,_⟩:=S1.rd.toks;rw[z,h1] at hA2';cases hA2'
  have ap1: ∀zs,¬bl.x A1 zs:=fun zs z=>by rw[S1.fr A1 zs z] at hA1;cases hA1
  have ap2: ∀zs,¬bl.x A2 zs:=fun zs z=>by rw[S1.fr A2 zs z] at hA2';cases hA2'
  have s1a:=yj_ hA1 (o:= .lst [v])
  have s1b:=yj_ hA2 (o:= .lst [])
  have k1b:je_ (Mut r kd fn ds bl) H (upd (upd H1 A1 (.lst [v])) A2 (.lst [])):=k1.trans ((OS.vq_.keeps s1a).trans (OS.vq_.keeps s1b))
  have S2:PSt a (upd (upd H1 A1 (.lst [v])) A2 (.lst [])) r q kd fn ds ((bl.more A1 [v]).more A2 []) n1 t1 Kn:=(((S1.same s1a).same s1b).more (s1b _ _ j4_)).more j4_
  have ev2:ja_ a (Mut r kd fn ds ((bl.more A1 [v]).more A2 [])) (upd (upd H1 A1 (.lst [v])) A2 (.lst [])) e v:=ja_.keep2 (fun b o e m=>⟨fun z=>(qd_ z).elim (fun w=>by rw[w,hA2'] at e;cases e) fun z=>(qd_ z).elim (fun w=>by rw[w,hA1] at e;cases e) m,s1b _ _ (s1a _ _ e)⟩) _ ev1
  let Ro:Vbemac.Exp->Toks->Prop:=fun e t3=> ∀H' v n',t3.length<t.length->PSt a H' r q kd fn ds bl n' t3 Kn->je_ (Mut r kd fn ds bl) H H'->ja_ a (Mut r kd fn ds bl) H' e v->Q v H'
  let Inv':Pairs->List V->Nat->Toks->Hp->Prop:=fun es us n1 t1 H'=>us.length+t1.length<t.length/\(∀x∈es,x.1∈sg)/\PSt a H' r q kd fn ds ((bl.more A1 (v::us)).more A2 (es.map fun x=>V.str (sgn x.1))) n1 t1 Kn/\je_ (Mut r kd fn ds bl) H H'/\
   ja_ a (Mut r kd fn ds ((bl.more A1 (v::us)).more A2 (es.map fun x=>V.str (sgn x.1)))) H' e v/\Paired (fun(x:Bytes×Vbemac.Exp) u=>ja_ a (Mut r kd fn ds ((bl.more A1 (v::us)).more A2 (es.map fun x=>V.str (sgn x.1)))) H' x.2 u) es us/\
   (peek t1= .bad->QE a r kd fn ds bl H E 1 (place t1))/\(peek t1≠ .bad->L.G (12-d) Kn e es t1 Ro (QE a r kd fn ds bl H E))
  refine⟨fun m σ H'=> ∃(es:Pairs) (us:List V) (n1:Nat) (t1:Toks),m=t1.length/\σ=[some (.ref r),some (.int d),some (.int (s:Nat)),some (.ref A1),some (.ref A2)]/\(once=true->es=[])/\Inv' es us n1 t1 H',
   ⟨_,[],[],n1,t1,rfl,rfl,fun _=>rfl,by show 0+t1.length<_;omega,(fun _ z=>nomatch z),S2,k1b,ev2, .nil,fun b=>by have z:=w1.1;rw[if_pos b] at z;exact z,fun b=>by have z:=w1.1;rw[if_neg b] at z;exact z (Nat.le_of_lt l1)⟩,?_⟩
  rintro m σ H4 ⟨es,us,n4,t4,rfl,rfl,on0,ul,sg4,S4,k04,ev4,evs4,wb,wg⟩
  obtain⟨⟨x,xp⟩,t5,rfl,tok,hpk,hpl,_⟩:=S4.wh.first
  obtain⟨dr4,er4⟩:=S4.rd.ins
  refine⟨_,rfl,r,dr4,_,rfl,er4,rfl,r,q,kd,fn,ds,_,n4,(x,xp),t5,rfl,S4.rd,(fun b=>wb b H4 k04),fun nb p ⟨dx,et⟩=>⟨p,_,dx,_,_,rfl,et,T.cl_Token,T.no_Token_value,rfl,?_⟩⟩
  obtain⟨qs',_,sqA',rq',atq',sqr'⟩:=KT.row (H:=H4) row
  refine⟨_,rfl,_,_,_,_,rfl,rfl,sqA',atq',_,_,rfl, .inr sqr',flat_tokV x,flat_signs sg,_,rfl,?_⟩
  have G4:=wg nb
  have hA2:=S4.the
  have hA1:=S4.less.the
  refine yt_ (fun ein=>?_) fun ein=>?_
  ·obtain⟨op,hop,rfl⟩:=in_signs tok sgS ein
   obtain⟨f6,hf6,h6⟩:=L.go G4 on0 rfl hop
   refine⟨fun σ' H'=> ∃(es:Pairs) (us:List V) (n1:Nat) (t1:Toks),t1.length<t5.length+1/\σ'=[some (.ref r),some (.int d),some (.int (s:Nat)),some (.ref A1),some (.ref A2)]/\(once=true->es=[])/\Inv' es us n1 t1 H',?_,?_⟩
   ·rintro σ' H' ⟨es',us',n1',t1',l1,rfl,o1',I'⟩
    exact⟨_,l1,es',us',n1',t1',rfl,rfl,o1',I'⟩
   refine⟨_,rfl, .inl ⟨rfl,_,SqL.of hA2⟩,?_⟩
   refine⟨_,rfl,r,dr4,_,rfl,er4,rfl,r,q,kd,fn,ds,_,n4,(.sign op,xp),t5,rfl,S4.rd,(fun z=>nomatch z),fun _ H5 hp5=>?_⟩
   have S5:=S4.past (fun z=>z.elim (fun z=>nomatch z) fun z=>nomatch z) hp5
   have k45:=jt_ (bl:=(bl.more A1 (v::us)).more A2 (es.map fun x=>V.str (sgn x.1))) hp5
   refine⟨A2,_,_,rfl,rfl,S5.the,Nat.lt_of_le_of_lt (show(es.map fun x=>V.str (sgn x.1)).length<=4000 by rw[List.length_map,j0m_ evs4];rw[List.length_cons] at ul;omega) (by decide),?_⟩
   have S6:PSt a (upd H5 A2 (.lst ((es.map fun x=>V.str (sgn x.1))++[V.str (sgn op)]))) r q kd fn ds ((bl.more A1 (v::us)).more A2 ((es.map fun x=>V.str (sgn x.1))++[V.str (sgn op)])) (n4+1) t5 Kn:=S5.updl (ys:=(es.map fun x=>V.str (sgn x.1))++[V.str (sgn op)]) ⟨_,S5.the⟩ q2 ((bl.more A1 (v::us)).more A2 ((es.map fun x=>V.str (sgn x.1))++[V.str (sgn op)])).x (fun b zs z=>by
    rcases z with(z|⟨e1,e2⟩)|⟨e1,e2⟩
    ·rw[j3_ fun w=>ap2 zs (by rw[<-w];exact z)]
     exact S5.fr b zs (.inl (.inl z))
    ·rw[e1,j3_ ne12.symm,e2]
     exact S5.less.the
    ·rw[e1,e2]
     exact j4_)
   refine⟨_,rfl, .inl ⟨rfl,_,SqL.of S6.less.the⟩,?_⟩
   refine⟨_,rfl,_,rfl,_,rfl,_,_,rfl,rfl,?_⟩
   have kk6:je_ (Mut r kd fn ds ((bl.more A1 (v::us)).more A2 (es.map fun x=>V.str (sgn x.1)))) H4 (upd H5 A2 (.lst ((es.map fun x=>V.str (sgn x.1))++[V.str (sgn op)]))):=k45.trans (j0d_ qe_)
   have k06:je_ (Mut r kd fn ds bl) H (upd H5 A2 (.lst ((es.map fun x=>V.str (sgn x.1))++[V.str (sgn op)]))):=fun b o e m=>kk6 b o (k04 b o e m) fun z=>(qd_ z).elim (fun w=>by rw[w,o2] at e;cases e) fun z=>(qd_ z).elim (fun w=>by rw[w,o1] at e;cases e) m
   have ext: ∀ {H':Hp},je_ (Mut r kd fn ds ((bl.more A1 (v::us)).more A2 ((es.map fun x=>V.str (sgn x.1))++[V.str (sgn op)]))) (upd H5 A2 (.lst ((es.map fun x=>V.str (sgn x.1))++[V.str (sgn op)]))) H'->je_ (Mut r kd fn ds bl) H H':=fun k' b o e m=>k' b o (k06 b o e m) fun z=>(qd_ z).elim (fun w=>by rw[w,o2] at e;cases e) fun z=>(qd_ z).elim (fun w=>by rw[w,o1] at e;cases e) m
   refine⟨_,_,rfl,r,q,kd,fn,ds,(bl.more A1 (v::us)).more A2 ((es.map fun x=>V.str (sgn x.1))++[V.str (sgn op)]),_,t5,Kn,d,f6,rfl,hd,hl,S6,hf6,wpo.mono (wpo.of2 h6) (fun e2 t7 w7 H7 v2 n7 l7 S7 k7 ev7=>?_) fun _ _ z H' k'=>z H' (ext k')⟩
   refine⟨A1,_,_,rfl,rfl,S7.less.the,Nat.lt_of_le_of_lt (show(v::us).length<=4000 by rw[List.length_cons] at ul ⊢; omega) (by decide),?_⟩
   have mo: ∀ {b:Addr} {xs ys xs' ys':List V},Mut r kd fn ds ((bl.more A1 xs).more A2 ys) b->Mut r kd fn ds ((bl.more A1 xs').more A2 ys') b:=fun z=>(qd_ z).elim (fun w=>by rw[w];exact qe_) fun z=>(qd_ z).elim (fun w=>by rw[w];exact yu_ qe_) fun z=>yu_ (yu_ z)
   have S8:PSt a (upd H7 A1 (.lst (v::(us++[v2])))) r q kd fn ds ((bl.more A1 (v::(us++[v2]))).more A2 ((es++[(op,e2)]).map fun x=>V.str (sgn x.1))) n7 t7 Kn:=by
    rw[List.map_append]
    exact S7.updl ⟨_,S7.less.the⟩ q1 ((bl.more A1 (v::(us++[v2]))).more A2 ((es.map fun x=>V.str (sgn x.1))++[V.str (sgn op)])).x (fun b zs z=>by
     rcases z with(z|⟨e1,e2⟩)|⟨e1,e2⟩
     ·rw[j3_ fun w=>ap1 zs (by rw[<-w];exact z)]
      exact S7.fr b zs (.inl (.inl z))
     ·rw[e1,e2]
      exact j4_
     ·rw[e1,j3_ ne12,e2]
      exact S7.the)
   have k08:je_ (Mut r kd fn ds bl) H (upd H7 A1 (.lst (v::(us++[v2])))):=fun b o e m=>by
    rw[j3_ fun z=>by rw[z,o1] at e;cases e]
    exact ext k7 b o e m
   have up8: ∀ {xs ys:List V},qk_ (Mut r kd fn ds ((bl.more A1 xs).more A2 ys)) (Mut r kd fn ds ((bl.more A1 (v::(us++[v2]))).more A2 ((es++[(op,e2)]).map fun x=>V.str (sgn x.1)))) H7 (upd H7 A1 (.lst (v::(us++[v2])))):=fun b o e m=>⟨fun z=>m (mo z),by rw[j3_ fun z=>m (by rw[z];exact yu_ qe_)];exact e⟩
   have up48:qk_ (Mut r kd fn ds ((bl.more A1 (v::us)).more A2 (es.map fun x=>V.str (sgn x.1)))) (Mut r kd fn ds ((bl.more A1 (v::(us++[v2]))).more A2 ((es++[(op,e2)]).map fun x=>V.str (sgn x.1)))) H4 (upd H7 A1 (.lst (v::(us++[v2])))):=fun b o e m=>up8 b o (k7 b o (kk6 b o e m) fun z=>m (mo z)) m
   have ev8:=ja_.keep2 up48 _ ev4
   have evs8:Paired (fun(x:Bytes×Vbemac.Exp) u=>ja_ a (Mut r kd fn ds ((bl.more A1 (v::(us++[v2]))).more A2 ((es++[(op,e2)]).map fun x=>V.str (sgn x.1)))) (upd H7 A1 (.lst (v::(us++[v2])))) x.2 u) (es++[(op,e2)]) (us++[v2]):=qf_ (Paired.mapP evs4 fun x u h=>ja_.keep2 up48 _ h) (ja_.keep2 up8 e2 ev7)
   have sg8: ∀x∈es++[(op,e2)],x.1∈sg:=fun x hx=>(List.mem_append.mp hx).elim (sg4 x) fun z=>by rw[List.mem_singleton.mp z];exact hop
   have ul8:(us++[v2]).length+t7.length<t.length:=by rw[List.length_cons] at ul;rw[List.length_append,List.length_singleton];omega
   refine⟨_,rfl,rfl,_,rfl,?_⟩
   rw[uc_]
   refine yt_ (fun e=>?_) fun e=>?_
   ·have s2:s=2:=by have:=of_decide_eq_true e;omega
    have on1:once=true:=by rw[onceE,s2];rfl
    have es0:=on0 on1
    have nb7:=w7.2 (h2 s2)
    have hR:=L.stop (by have z:=w7.1;rw[if_neg nb7] at z;exact z (by omega)) nb7 (.inl ⟨on1,fun z=>by rw[List.append_eq_nil_iff] at z;cases z.2⟩)
    have once1:once=true->(es++[(op,e2)]).length<=1:=fun _=>by rw[es0];exact Nat.le_refl _
    have l8:t7.length<t.length:=by omega
    have hA2:=S8.the
    have hA1:=S8.less.the
    refine⟨_,rfl,_,_,rfl, .inl (SqL.of hA2),rfl,_,rfl,?_⟩
    rw[uc_]
    refine yt_ (fun e=>?_) fun e=>?_
    ·have z0:((es++[(op,e2)]).map fun x=>V.str (sgn x.1)).length=0:=by have:=of_decide_eq_true e;omega
     rw[List.length_map,List.length_append,List.length_singleton] at z0
     omega
    ·have z1:(es++[(op,e2)])≠[]:=fun z=>by have:=of_decide_eq_false e;rw[z] at this;exact this rfl
     refine⟨_,rfl,_,rfl,_,rfl,?_⟩
     intro p dx hp hdx ne
     refine⟨p,dx,_,_,_,rfl,j4_,fun Hd hd' kd'=>⟨rfl,?_⟩⟩
     have scd:=yz_ hp hdx kd'
     have kk2:qk_ (Mut r kd fn ds ((bl.more A1 (v::(us++[v2]))).more A2 ((es++[(op,e2)]).map fun x=>V.str (sgn x.1)))) (Mut r kd fn ds bl) (upd H7 A1 (.lst (v::(us++[v2])))) Hd:=fun b o e m=>⟨fun z=>m (yu_ (yu_ z)),scd b o e⟩
     exact hR Hd (.ref p) n7 l8 (S8.less.less.same scd) (k08.trans (OS.vq_.keeps scd)) (N.at_ z1 sg8 once1 (S8.less.less.fresh hp) hd' ⟨A1,rfl,nA1,scd _ _ hA1⟩ ⟨A2,rfl,nA2,scd _ _ hA2⟩ (ja_.keep2 kk2 _ ev8) (Paired.mapP evs8 fun x u h=>ja_.keep2 kk2 _ h))
   ·have s2:s≠2:=by have:=of_decide_eq_false e;omega
    have on1:once≠true:=by rw[onceE,decide_eq_false s2];exact Bool.false_ne_true
    exact⟨es++[(op,e2)],us++[v2],n7,t7,by omega,rfl,fun z=>absurd z on1,ul8,sg8,S8,k08,ev8,evs8,fun b=>by have z:=w7.1;rw[if_pos b] at z;exact z,fun b=>by have z:=w7.1;rw[if_neg b] at z;exact z (by omega)⟩
  ·have hR:=L.stop G4 nb (.inr fun op ho hm=>by
    have:x= .sign op:=ho
    rw[this,signs_in hm] at ein
    cases ein)
   have once1:once=true->es.length<=1:=fun z=>by rw[on0 z];exact Nat.zero_le _
   have l8:((x,xp)::t5).length<t.length:=by omega
   refine⟨_,rfl,_,_,rfl, .inl (SqL.of hA2),rfl,_,rfl,?_⟩
   rw[uc_]
   refine yt_ (fun e=>?_) fun e=>?_
   ·have z0:(es.map fun x=>V.str (sgn x.1)).length=0:=by have:=of_decide_eq_true e;omega
    have z1:es=[]:=by cases es with|nil=>rfl|cons _ _=>cases z0
    subst z1
    refine⟨_,rfl,A1,_,0,v,rfl,rfl,SqL.of hA1,qb_ (j:=0) rfl,?_⟩
    rw[N.res0] at hR
    exact hR H4 v n4 l8 S4.less.less k04 (ja_.less (ja_.less ev4))
   ·have z1:es≠[]:=fun z=>by have:=of_decide_eq_false e;rw[z] at this;exact this rfl
    refine⟨_,rfl,_,rfl,_,rfl,?_⟩
    intro p dx hp hdx ne
    refine⟨p,dx,_,_,_,rfl,j4_,fun Hd hd' kd'=>⟨rfl,?_⟩⟩
    have scd:=yz_ hp hdx kd'
    have kk2:qk_ (Mut r kd fn ds ((bl.more A1 (v::us)).more A2 (es.map fun x=>V.str (sgn x.1)))) (Mut r kd fn ds bl) H4 Hd:=fun b o e m=>⟨fun z=>m (yu_ (yu_ z)),scd b o e⟩
    exact hR Hd (.ref p) n4 l8 (S4.less.less.same scd) (k04.trans (OS.vq_.keeps scd)) (N.at_ z1 sg4 once1 (S4.less.less.fresh hp) hd' ⟨A1,rfl,nA1,scd _ _ hA1⟩ ⟨A2,rfl,nA2,scd _ _ hA2⟩ (ja_.keep2 kk2 _ ev4) (Paired.mapP evs4 fun x u h=>ja_.keep2 kk2 _ h))
end
end OS
namespace OS
open PySem PySem.Spec L2
open PyProof.Rows hiding St
open Vbemac (Bytes Toks SIGNS KEYS peek place primary unary text isSign isKey expr ands compared added times)
section
variable {P:Program} {w:World} {K:PySem.W.Frag} {mg:Str->Option Value} {base:Heap} {a:Adr}
theorem fn_or {CX:CXT} {k:Nat} {f:Addr} {fd:FuncData} {ps:List Str} {sp1 sp2:Sp} (F1:ju_ P w K mg base CX k f fd ps sp1) (F2:ju_ P w K mg base CX k f fd ps sp2):ju_ P w K mg base CX k f fd ps (fun vs H Q E=>sp1 vs H Q E\/sp2 vs H Q E):=
 ⟨fun vs H Q E h=>h.elim (F1.len vs H Q E) (F2.len vs H Q E),fun A outer s H args us vs Q E hr he hb hv h=>h.elim (F1.run A outer s H args us vs Q E hr he hb hv) (F2.run A outer s H args us vs Q E hr he hb hv)⟩
theorem spRead_or {wp:WP} {p:Nat->Nat->Vbemac.Known->Vbemac.P Vbemac.Exp} {c:Nat} {ok1 ok2:Nat->Vbemac.Known->Toks->Prop} {vs:List V} {H:Hp} {Q:VK} {E:XK} (h:yy_ a wp p c (fun d K t=>ok1 d K t\/ok2 d K t) vs H Q E):yy_ a wp p c ok1 vs H Q E\/yy_ a wp p c ok2 vs H Q E:=by
 obtain⟨r,q,kd,fn,ds,bl,n,t,Kn,d,fuel,e,hd,ok,S,hf,hW⟩:=h
 rcases ok with ok|ok
 ·exact .inl ⟨r,q,kd,fn,ds,bl,n,t,Kn,d,fuel,e,hd,ok,S,hf,hW⟩
 ·exact .inr ⟨r,q,kd,fn,ds,bl,n,t,Kn,d,fuel,e,hd,ok,S,hf,hW⟩
theorem no_level {wp:WP} {p:Nat->Nat->Vbemac.Known->Vbemac.P Vbemac.Exp} {c:Nat} {vs:List V} {H:Hp} {Q:VK} {E:XK} (h:yy_ a wp p c (Lv 0) vs H Q E):False:=by
 obtain⟨r,q,kd,fn,ds,bl,n,t,Kn,d,fuel,e,hd,ok,S,hf,hW⟩:=h
 have ok:13<=d+0:=ok
 omega
theorem S_signs:(∀o∈S0,o∈SIGNS)/\(∀o∈S1,o∈SIGNS)/\(∀o∈S2,o∈SIGNS)/\(∀o∈S3,o∈SIGNS)/\(∀o∈S4,o∈SIGNS):=by decide+kernel
theorem row0:we_[0]?=some (S0.map fun o=>V.str (sgn o)):=by decide+kernel
theorem row1:we_[1]?=some (S1.map fun o=>V.str (sgn o)):=by decide+kernel
theorem row2:we_[2]?=some (S2.map fun o=>V.str (sgn o)):=by decide+kernel
theorem row3:we_[3]?=some (S3.map fun o=>V.str (sgn o)):=by decide+kernel
theorem row4:we_[4]?=some (S4.map fun o=>V.str (sgn o)):=by decide+kernel
theorem knot (T:Txt K mg a) (XC:XT K a) (KT:KTT K a.k_CHAIN_SIGNS we_): ∀j:Nat,
  ju_ P w K mg base (CXF P w) (7+11*j) a.f_z68 a.fd_z68 ["reader","depth"] (yy_ a W2 expr 12 (Lv j))/\
  ju_ P w K mg base (CXF P w) (7+11*j) a.f_z53 a.fd_z53 ["reader","depth"] (yy_ a W unary 7 (Lv j)):=by
 intro j
 induction j with
 |zero=>exact⟨okX T.F_z68 sc_z68 (fun _ _ _ _ h=>(no_level h).elim) (fun _ _ _ _ _ _ _ _ _ h=>(no_level h).elim),okX T.F_z53 sc_z53 (fun _ _ _ _ h=>(no_level h).elim) (fun _ _ _ _ _ _ _ _ _ h=>(no_level h).elim)⟩
 |succ j ih=>
  obtain⟨E0,U0⟩:=ih
  have hk:7<=7+11*j:=by omega
  rw[show 7+11*(j+1)=7+11*j+11 by omega]
  generalize 7+11*j=k at hk E0 U0 ⊢
  have B:=ok_z31 T XC hk E0
  have Su:=ok_z69 T XC hk E0
  have Ca:=ok_z61 T XC hk E0
  have Ch:=ok_z47 T XC hk E0
  have Pr:=ok_z39 T XC (by omega) B Su Ca
  have UF:ju_ P w K mg base (CXF P w) (k+1+1) a.f_z53 a.fd_z53 ["reader","depth"] (yy_ a W unary 7 (fun _ _ _=>False)):=
   okX T.F_z53 sc_z53 (fun _ _ _ _ h=>by obtain⟨r,q,kd,fn,ds,bl,n,t,Kn,d,fuel,e,hd,ok,_⟩:=h;exact ok.elim) (fun _ _ _ _ _ _ _ _ _ h=>by obtain⟨r,q,kd,fn,ds,bl,n,t,Kn,d,fuel,e,hd,ok,_⟩:=h;exact ok.elim)
  have UN:=j03_ (j:=j+1) (fun d _ t=>13<=d+(j+1)/\ ∃m,peek t= .num m) (fun _ _ _=>False) T XC (by omega) (fun d Kn t h=>h.1) (fun d Kn s xp t h _=>by obtain⟨_,m,z⟩:=h;cases z) (fun d Kn s xp t m h _=>by obtain⟨_,m,z⟩:=h;cases z) Pr UF
  have UB:=(fn_or (U0.mono (by omega:k<=k+1+1+1)) UN).imp fun vs H Q E h=>spRead_or h
  have Un:=j03_ (j:=j+1) (Lv (j+1)) (fun d K t=>Lv j d K t\/(13<=d+(j+1)/\ ∃m,peek t= .num m)) T XC (by omega) (fun d Kn t h=>h) (fun d Kn s xp t h lt=> .inl (by have h:13<=d+(j+1):=h;show 13<=d+1+j;omega)) (fun d Kn s xp t m h z=> .inr ⟨h,m,z⟩) (Pr.mono (by omega:k+1+1<=k+1+1+1)) UB
  have C5:=ok_chain5 T XC KT (by omega) Un
  have C4:=ud_ T XC KT (by omega) (s:=4) (by decide) wpW (fun z=>by cases z) chMul nodeMul row4 S_signs.2.2.2.2 rfl C5 (Un.mono (Nat.le_succ _))
  have C3:=ud_ T XC KT (by omega) (s:=3) (by decide) wpW2 (fun z=>by cases z) chAdd nodeAdd row3 S_signs.2.2.2.1 rfl C4 (Un.mono (by omega))
  have C2:=ud_ T XC KT (by omega) (s:=2) (by decide) wpW2 (fun _=>rfl) chCmp nodeCmp row2 S_signs.2.2.1 rfl C3 (Un.mono (by omega))
  have C1:=ud_ T XC KT (by omega) (s:=1) (by decide) wpW2 (fun z=>by cases z) chAnd nodeAnd row1 S_signs.2.1 rfl C2 (Un.mono (by omega))
  have C0:=ud_ T XC KT (by omega) (s:=0) (by decide) wpW2 (fun z=>by cases z) chOr nodeOr row0 S_signs.1 rfl C1 (Un.mono (by omega))
  have Ex:=ok_z68 T XC (by omega) (Ch.mono (by omega)) C0
  exact⟨Ex.mono (by omega),Un.mono (by omega)⟩
end
end OS
namespace OS
open PySem PySem.Spec L2
open PyProof.Rows hiding St
open Vbemac (Bytes Toks SIGNS KEYS peek place text isSign isKey expr newName anyName DEEP)
theorem litEq:LitS "=" (text "="):=⟨by decide+kernel,by decide+kernel⟩
theorem litSc:LitS ";" (text ";"):=⟨by decide+kernel,by decide+kernel⟩
theorem litLb:LitS "{" (text "{"):=⟨by decide+kernel,by decide+kernel⟩
theorem litRb:LitS "}" (text "}"):=⟨by decide+kernel,by decide+kernel⟩
theorem litSell:j0o_ "sell" (text "sell"):=⟨by decide+kernel,by decide+kernel,by decide+kernel⟩
theorem litBuy:j0o_ "buy" (text "buy"):=⟨by decide+kernel,by decide+kernel,by decide+kernel⟩
theorem litAmount:j0o_ "amount" (text "amount"):=⟨by decide+kernel,by decide+kernel,by decide+kernel⟩
def givenP (f:Nat) (Kn:Vbemac.Known):Vbemac.P Vbemac.Exp:=Vbemac.sign "=">>=fun _=>expr f DEEP Kn>>=fun e=>Vbemac.sign ";">>=fun _=>pure e
theorem W_given {β:Type} {f:Nat} {Kn:Vbemac.Known} {g:Vbemac.Exp->Vbemac.P β} {t:Toks} {Ro:β->Toks->Prop} {Qe:Nat->Vbemac.Pos->Prop} (h:W (Vbemac.sign "=">>=fun _=>expr f DEEP Kn>>=fun e=>Vbemac.sign ";">>=fun _=>g e) t Ro Qe):
  W (givenP f Kn) t (fun e t'=>W (g e) t' Ro Qe) Qe:=by
 unfold givenP
 simp only[jj_,W_pure] at h ⊢
 exact h
abbrev Cn (a:Adr) (r q kd fn:Addr) (ds bl:Box) (H:Hp) (Kn:Vbemac.Known) (Q:VK) {α:Type} (At:Hp->α->V->Prop):α->Toks->Prop:=
 fun e t'=> ∀H' v n',PSt a H' r q kd fn ds bl n' t' Kn->je_ (Mut r kd fn ds bl) H H'->At H' e v->Q v H'
def OptAt (a:Adr) (M:Addr->Prop) (H:Hp):Option Vbemac.Exp->V->Prop
 |none,v=>v= .non
 |some e,v=>ja_ a M H e v
inductive spGiven (a:Adr) (vs:List V) (H:Hp) (Q:VK) (E:XK):Prop
 |mk (r q kd fn:Addr) (ds bl:Box) (n:Nat) (t:Toks) (Kn:Vbemac.Known) (fuel:Nat) (_:vs=[.ref r]) (_:PSt a H r q kd fn ds bl n t Kn) (_:16*t.length+12<=fuel) (_:W (givenP fuel Kn) t (fun e t'=>t'.length<t.length->Cn a r q kd fn ds bl H Kn Q (fun H'=>ja_ a (Mut r kd fn ds bl) H') e t') (QE a r kd fn ds bl H E)):spGiven a vs H Q E
inductive spPart (a:Adr) (vs:List V) (H:Hp) (Q:VK) (E:XK):Prop
 |mk (r q kd fn:Addr) (ds bl:Box) (n:Nat) (t:Toks) (Kn:Vbemac.Known) (fuel:Nat) (v:Str) (s:String) (_:vs=[.ref r, .str v]) (_:j0o_ v (text s)) (_:PSt a H r q kd fn ds bl n t Kn) (_:16*t.length+12<=fuel) (_:W2 (Vbemac.key s>>=fun _=>expr fuel DEEP Kn) t (fun e t'=>t'.length<t.length->Cn a r q kd fn ds bl H Kn Q (fun H'=>ja_ a (Mut r kd fn ds bl) H') e t') (QE a r kd fn ds bl H E)):spPart a vs H Q E
inductive spPartIf (a:Adr) (vs:List V) (H:Hp) (Q:VK) (E:XK):Prop
 |mk (r q kd fn:Addr) (ds bl:Box) (n:Nat) (t:Toks) (Kn:Vbemac.Known) (fuel:Nat) (v:Str) (s:String) (_:vs=[.ref r, .str v]) (_:j0o_ v (text s)) (_:PSt a H r q kd fn ds bl n t Kn) (_:16*t.length+12<=fuel) (_:W2 (Vbemac.behind s (expr fuel DEEP Kn)) t (fun e t'=>t'.length<=t.length->Cn a r q kd fn ds bl H Kn Q (fun H'=>OptAt a (Mut r kd fn ds bl) H') e t') (QE a r kd fn ds bl H E)):spPartIf a vs H Q E
def sideV (b:Bool):V:= .str (if b=true then "buy" else "sell")
inductive spSide (a:Adr) (vs:List V) (H:Hp) (Q:VK) (E:XK):Prop
 |mk (r q kd fn:Addr) (ds bl:Box) (n:Nat) (t:Toks) (Kn:Vbemac.Known) (_:vs=[.ref r]) (_:PSt a H r q kd fn ds bl n t Kn) (_:W Vbemac.side t (fun b t'=> ∀H',t'.length<t.length->PSt a H' r q kd fn ds bl (n+1) t' Kn->je_ (Mut r kd fn ds bl) H H'->Q (sideV b) H') (QE a r kd fn ds bl H E)):spSide a vs H Q E
inductive spDeepB (a:Adr) (vs:List V) (H:Hp) (Q:VK) (E:XK):Prop
 |mk (r q kd fn ds bl:Addr) (n:Nat) (x:Vbemac.Tok×Vbemac.Pos) (t:Toks) (d:Nat) (_:vs=[.ref r, .int d]) (_:Rdr a H r q kd fn ds bl n (x::t)) (_:(d=6->Flt a.c_Fault E H (if x.1= .bad then 1 else 6) x.2)) (_:(d≠6->Q (.int ((d+1:Nat):Int)) H)):spDeepB a vs H Q E
def amountP (f:Nat) (Kn:Vbemac.Known):Vbemac.P (Bytes×Vbemac.Exp):=Vbemac.key "amount">>=fun _=>newName Kn>>=fun x=>Vbemac.sign ":">>=fun _=>expr f DEEP (Kn.with x)>>=fun e=>pure (x,e)
def AmAt (a:Adr) (M:Addr->Prop) (H:Hp) (x:Bytes×Vbemac.Exp) (v:V):Prop:= ∃u,qv_ M H a.c_Amounts [("name", .str (sb x.1)),("exp",u)] v/\ja_ a M H x.2 u
inductive spAmounts (a:Adr) (vs:List V) (H:Hp) (Q:VK) (E:XK):Prop
 |mk (r q kd fn:Addr) (ds bl:Box) (n:Nat) (t:Toks) (Kn:Vbemac.Known) (fuel:Nat) (_:vs=[.ref r]) (_:PSt a H r q kd fn ds bl n t Kn) (_:16*t.length+12<=fuel) (_:W2 (amountP fuel Kn) t (fun e t'=>t'.length<t.length->Cn a r q kd fn ds bl H Kn Q (fun H'=>AmAt a (Mut r kd fn ds bl) H') e t') (QE a r kd fn ds bl H E)):spAmounts a vs H Q E
def Bk (bl:Box) (B:Vbemac.Blocks):Prop:= ∀u,has bl.c u=B.contains u
inductive spUnder (a:Adr) (vs:List V) (H:Hp) (Q:VK) (E:XK):Prop
 |mk (r q kd fn:Addr) (ds bl:Box) (n:Nat) (t:Toks) (Kn:Vbemac.Known) (B:Vbemac.Blocks) (_:vs=[.ref r]) (_:PSt a H r q kd fn ds bl n t Kn) (_:Bk bl B) (_:W (Vbemac.knownBlock B) t (fun u t'=> ∀H',t'.length<t.length->PSt a H' r q kd fn ds bl (n+1) t' Kn->je_ (Mut r kd fn ds bl) H H'->Q (.str (sb u)) H') (QE a r kd fn ds bl H E)):spUnder a vs H Q E
section
variable {P:Program} {w:World} {K:PySem.W.Frag} {mg:Str->Option Value} {base:Heap} {a:Adr} {k:Nat}
abbrev ExpOk (P:Program) (w:World) (K:PySem.W.Frag) (mg:Str->Option Value) (base:Heap) (a:Adr) (k:Nat):Prop:=ju_ P w K mg base (CXF P w) k a.f_z68 a.fd_z68 ["reader","depth"] (yy_ a W2 expr 12 (Lv 13))
theorem lv13 {Kn:Vbemac.Known} {t:Toks} :Lv 13 0 Kn t:=by show 13<=0+13;decide
theorem ok_z56 (T:Txt K mg a) (XC:XT K a) (hk:7<=k) (G_z68:ExpOk P w K mg base a k):
  ju_ P w K mg base (CXF P w) (k+1) a.f_z56 a.fd_z56 ["reader"] (spGiven a):=by
 have G_z29:=yq_ (P:=P) (w:=w) (base:=base) T XC
 refine okX T.F_z56 sc_z56 (fun vs H Q E h=>?_) (fun cdv A outer s H vs Q E hr h=>?_)
 ·obtain⟨r,q,kd,fn,ds,bl,n,t,Kn,fuel,rfl,_⟩:=h
  rfl
 ·obtain⟨r,q,kd,fn,ds,bl,n,t,Kn,fuel,rfl,S,hf,hW⟩:=h
  refine⟨_,(j2_ (jd_ (jb_ (pv 0) T.cl_Reader T.me_z29 G_z29 (hr.mono (by omega)) T.b_z29 .nil j6_ (j0_ jk_ j5_)))
    (j2_ (jg_ (i:=1) sc_z56.nd rfl (Or.inl rfl) (j9_ G_z68 (hr.mono (by omega)) (by rfl) T.m_z68 T.F_z68.kp T.b_z68 .nil j6_ (j0_ (pv 0) (j0_ jr_ j5_))))
    (j2_ (jd_ (jb_ (pv 0) T.cl_Reader T.me_z29 G_z29 (hr.mono (by omega)) T.b_z29 .nil j6_ (j0_ jk_ j5_)))
    (j7_ (jh_ (pv 1)))))),?_⟩
  obtain⟨dr,er⟩:=S.rd.ins
  refine⟨_,rfl,r,dr,_,rfl,er,rfl,?_⟩
  unfold j14_ ua_ tC
  dsimp only[List.append_nil]
  refine qy_ litEq S (fun k x z=>z H je_.refl) hW fun H1 t1 l1 S1 k1 hW1=>?_
  have h1:=W2.of (fun x=>(jy_ ";").bind) hW1
  refine⟨_,rfl,r,q,kd,fn,ds,bl,n+1,t1,Kn,0,fuel,rfl,Nat.zero_le _,lv13,S1,by omega,h1.mono (fun e t2 nb2 hW2 H2 v n2 l2 S2 k2 ev=>?_) fun _ _ z H' k'=>z H' (k1.trans k')⟩
  obtain⟨dr2,er2⟩:=S2.rd.ins
  refine⟨_,rfl,r,dr2,_,rfl,er2,rfl,?_⟩
  refine qy_ litSc S2 (fun k x z=>z H2 (k1.trans k2)) hW2 fun H3 t3 l3 S3 k3 hW3=>?_
  exact⟨_,rfl,hW3 (by omega) H3 v _ S3 ((k1.trans k2).trans k3) (ja_.keep k3 _ ev)⟩
theorem ok_z64 (T:Txt K mg a) (XC:XT K a) (hk:7<=k) (G_z68:ExpOk P w K mg base a k):
  ju_ P w K mg base (CXF P w) (k+1) a.f_z64 a.fd_z64 ["reader","word"] (spPart a):=by
 have G_z29:=yq_ (P:=P) (w:=w) (base:=base) T XC
 refine okX T.F_z64 sc_z64 (fun vs H Q E h=>?_) (fun cdv A outer s H vs Q E hr h=>?_)
 ·obtain⟨r,q,kd,fn,ds,bl,n,t,Kn,fuel,v,s,rfl,_⟩:=h
  rfl
 ·obtain⟨r,q,kd,fn,ds,bl,n,t,Kn,fuel,v,s,rfl,lit,S,hf,hW⟩:=h
  refine⟨_,(j2_ (jd_ (jb_ (pv 0) T.cl_Reader T.me_z29 G_z29 (hr.mono (by omega)) T.b_z29 .nil j6_ (j0_ (pv 1) j5_)))
    (j7_ (jh_ (j9_ G_z68 (hr.mono (by omega)) (by rfl) T.m_z68 T.F_z68.kp T.b_z68 .nil j6_ (j0_ (pv 0) (j0_ jr_ j5_)))))),?_⟩
  obtain⟨dr,er⟩:=S.rd.ins
  refine⟨_,rfl,r,dr,_,rfl,er,rfl,_,rfl,?_⟩
  unfold j14_
  dsimp only[List.append_nil]
  unfold W2 at hW
  refine ky_step lit S (fun k x z=>z H je_.refl) hW fun H1 t1 l1 S1 k1 hW1=>?_
  have hW1:W2 (expr fuel DEEP Kn) t1 _ _:=hW1
  exact⟨_,rfl,r,q,kd,fn,ds,bl,n+1,t1,Kn,0,fuel,rfl,Nat.zero_le _,lv13,S1,by omega,hW1.mono (fun e t2 nb2 w2 H2 v n2 l2 S2 k2 ev=>w2 (by omega) H2 v n2 S2 (k1.trans k2) ev) fun _ _ z H' k'=>z H' (k1.trans k')⟩
theorem behind_is {α:Type} {s:String} {p:Vbemac.P α} {t:Toks} (h:isKey t s=true):Vbemac.behind s p t=(Vbemac.key s>>=fun _=>p>>=fun x=>pure (some x):Vbemac.P (Option α)) t:=by
 unfold Vbemac.behind
 rw[if_pos h]
 have e:(Vbemac.key s>>=fun _=>p>>=fun x=>pure (some x):Vbemac.P (Option α)) t=(p>>=fun x=>pure (some x):Vbemac.P (Option α)) (t.drop 1):=by
  show(StateT.bind (Vbemac.key s) _) t=_
  unfold StateT.bind Vbemac.key
  rw[if_pos h]
  rfl
 rw[e]
 show _=(StateT.bind p _) (t.drop 1)
 unfold StateT.bind
 cases p (t.drop 1) with
 |error e=>rfl
 |ok z=>rfl
theorem behind_not {α:Type} {s:String} {p:Vbemac.P α} {t:Toks} (h:isKey t s=false):Vbemac.behind s p t= .ok (none,t):=by
 unfold Vbemac.behind
 rw[if_neg (by rw[h];exact Bool.false_ne_true)]
theorem ok_z3 (T:Txt K mg a) (XC:XT K a) (hk:7<=k)
  (G_z64:ju_ P w K mg base (CXF P w) k a.f_z64 a.fd_z64 ["reader","word"] (spPart a)):
  ju_ P w K mg base (CXF P w) (k+1) a.f_z3 a.fd_z3 ["reader","word"] (spPartIf a):=by
 have G_z45:=qt_ (P:=P) (w:=w) (base:=base) T XC
 refine okX T.F_z3 sc_z3 (fun vs H Q E h=>?_) (fun cdv A outer s H vs Q E hr h=>?_)
 ·obtain⟨r,q,kd,fn,ds,bl,n,t,Kn,fuel,v,s,rfl,_⟩:=h
  rfl
 ·obtain⟨r,q,kd,fn,ds,bl,n,t,Kn,fuel,v,s,rfl,lit,S,hf,hW⟩:=h
  refine⟨_,(j2_ (yg_ (wj_ (yc_ (jb_ (pv 0) T.cl_Reader T.me_z45 G_z45 (hr.mono (by omega)) T.b_z45 .nil j6_ (j0_ (pv 1) j5_)))) (j7_ (jh_ pe_non)) ji_)
    (j7_ (jh_ (j9_ G_z64 (hr.mono (by omega)) (by rfl) T.m_z64 T.F_z64.kp T.b_z64 .nil j6_ (j0_ (pv 0) (j0_ (pv 1) j5_)))))),?_⟩
  obtain⟨dr,er⟩:=S.rd.ins
  refine⟨_,rfl,r,dr,_,rfl,er,rfl,_,rfl,?_⟩
  unfold j14_
  dsimp only[List.append_nil]
  refine wx_ lit S (fun b=>(wq_ s _).at_bad b hW H je_.refl) fun nb=>⟨_,rfl,?_⟩
  cases hk':isKey t s with
  |false=>
   refine j0q_ ?_
   exact W2_ok (behind_not hk') nb hW (Nat.le_refl _) H .non n S je_.refl rfl
  |true=>
   refine ur_ ?_
   have hW:=W2_as (behind_is hk') hW
   unfold W2 at hW
   rw[jj_] at hW
   refine⟨_,rfl,_,rfl,r,q,kd,fn,ds,bl,n,t,Kn,fuel,v,s,rfl,lit,S,hf,?_⟩
   unfold W2
   rw[jj_]
   refine hW.mono (fun u t1 hW1=>?_) fun _ _ z=>z
   rw[jj_] at hW1
   refine hW1.mono (fun e t2 hW2=>?_) fun _ _ z=>z
   have hW2:if peek t2= .bad then _ else _:=hW2
   by_cases b:peek t2= .bad
   ·rw[if_pos b] at hW2 ⊢
    exact hW2
   ·rw[if_neg b] at hW2 ⊢
    exact fun l H' v' n' S' k' ev=>hW2 (by omega) H' v' n' S' k' ev
theorem ok_z32 (T:Txt K mg a) (XC:XT K a):ju_ P w K mg base (CXF P w) 6 a.f_z32 a.fd_z32 ["reader","depth"] (spDeepB a):=by
 have G_z44:=qp_ (P:=P) (w:=w) (base:=base) T XC
 refine okX T.F_z32 sc_z32 (fun vs H Q E h=>?_) (fun cdv A outer s H vs Q E hr h=>?_)
 ·obtain⟨r,q,kd,fn,ds,bl,n,x,t,d,rfl,_⟩:=h
  rfl
 ·obtain⟨r,q,kd,fn,ds,bl,n,x,t,d,rfl,R,hf,hg⟩:=h
  obtain⟨dr,er⟩:=R.ins
  refine⟨_,(j2_ (yg_ (ya_ uk_ (pv 1) (vc_ (by rfl) T.g_MOST_BRACES) (yk_ _)) (j7_ (jd_ (jb_ (pv 0) T.cl_Reader T.me_z44 G_z44 (hr.mono (by omega)) T.b_z44 .nil j6_ (j0_ (vc_ (by rfl) T.g_TOO_DEEP) j5_)))) ji_)
    (j7_ (jh_ (uq_ uy_ (pv 1) jr_)))),?_⟩
  refine⟨_,rfl,rfl,_,rfl,?_⟩
  rw[uc_]
  refine yt_ (fun e=>?_) fun e=>?_
  ·have:=of_decide_eq_true e
   exact⟨_,rfl,r,dr,_,rfl,er,rfl,r,q,kd,fn,ds,bl,n,x,t,6,rfl,R,hf (by omega)⟩
  ·have:=of_decide_eq_false e
   exact⟨_,rfl,_,_,rfl,rfl,hg (by omega)⟩
theorem ok_z63 (T:Txt K mg a) (XC:XT K a):ju_ P w K mg base (CXF P w) 7 a.f_z63 a.fd_z63 ["reader"] (spSide a):=by
 have G_z45:=qt_ (P:=P) (w:=w) (base:=base) T XC
 have G_z44:=qp_ (P:=P) (w:=w) (base:=base) T XC
 have G_z46:=wr_ (P:=P) (w:=w) (base:=base) T XC
 refine okX T.F_z63 sc_z63 (fun vs H Q E h=>?_) (fun cdv A outer s H vs Q E hr h=>?_)
 ·obtain⟨r,q,kd,fn,ds,bl,n,t,Kn,rfl,_⟩:=h
  rfl
 ·obtain⟨r,q,kd,fn,ds,bl,n,t,Kn,rfl,S,hW⟩:=h
  refine⟨_,(j2_ (yg_ (pw_and (wj_ (yc_ (jb_ (pv 0) T.cl_Reader T.me_z45 G_z45 (hr.mono (by omega)) T.b_z45 .nil j6_ (j0_ jk_ j5_)))) (pw_and1 (wj_ (yc_ (jb_ (pv 0) T.cl_Reader T.me_z45 G_z45 (hr.mono (by omega)) T.b_z45 .nil j6_ (j0_ jk_ j5_)))))).pt (j7_ (jd_ (jb_ (pv 0) T.cl_Reader T.me_z44 G_z44 (hr.mono (by omega)) T.b_z44 .nil j6_ (j0_ (vc_ (by rfl) T.g_NOT_HERE) j5_)))) ji_)
    (j7_ (jh_ (jn_ (pv 0) T.cl_Reader T.me_z46 G_z46 (hr.mono (by omega)) T.b_z46 .nil j6_)))),?_⟩
  obtain⟨dr,er⟩:=S.rd.ins
  have hb:peek t= .bad->Flt a.c_Fault E H 1 (place t):=fun b=>side_strict.at_bad b hW H je_.refl
  refine⟨_,rfl,r,dr,_,rfl,er,rfl,?_⟩
  unfold j14_ ua_ tC
  dsimp only[List.append_nil]
  refine wx_ litSell S hb fun nb=>⟨_,rfl,?_⟩
  obtain⟨⟨x,xp⟩,t',rfl,tok,hpk,hpl,_⟩:=S.wh.first
  have fin: ∀(b:Bool) (u:Bytes),x= .word u->V.str (sb u)=sideV b->Vbemac.side ((x,xp)::t')= .ok (b,t')-> ∀H1,OS.past a H r q kd fn ds bl n H1->Q (tokV x) H1:=fun b u ex eu es H1 hp1=>by
   rw[j0n_ es] at hW
   subst ex
   show Q (V.str (sb u)) H1
   rw[eu]
   exact hW H1 (Nat.lt_succ_self _) (S.past (fun z=>z.elim (fun z=>nomatch z) fun z=>nomatch z) hp1) (jt_ hp1)
  cases h1:isKey ((x,xp)::t') "sell" with
  |true=>
   have ex:x= .word (text "sell"):=beq_iff_eq.mp h1
   refine ur_ ?_
   refine ur_ ?_
   refine⟨_,rfl,r,dr,_,rfl,er,rfl,r,q,kd,fn,ds,bl,n,(x,xp),t',rfl,S.rd,hb,fun _ H1 hp1=>?_⟩
   exact fin false _ ex (by rw[<-litSell.1];rfl) (by unfold Vbemac.side;rw[if_pos h1];rfl) H1 hp1
  |false=>
   refine j0q_ ?_
   refine⟨_,rfl,r,dr,_,rfl,er,rfl,?_⟩
   refine wx_ litBuy S hb fun nb=>⟨_,rfl,?_⟩
   cases h2:isKey ((x,xp)::t') "buy" with
   |true=>
    have ex:x= .word (text "buy"):=beq_iff_eq.mp h2
    refine ur_ ?_
    refine⟨_,rfl,r,dr,_,rfl,er,rfl,r,q,kd,fn,ds,bl,n,(x,xp),t',rfl,S.rd,hb,fun _ H1 hp1=>?_⟩
    exact fin true _ ex (by rw[<-litBuy.1];rfl) (by unfold Vbemac.side;rw[if_neg (by rw[h1];exact Bool.false_ne_true),if_pos h2];rfl) H1 hp1
   |false=>
    refine j0q_ ?_
    refine⟨_,rfl,r,dr,_,rfl,er,rfl,r,q,kd,fn,ds,bl,n,(x,xp),t',2,rfl,S.rd,?_⟩
    have nb': ¬(x,xp).fst=Vbemac.Tok.bad:=nb
    rw[if_neg nb']
    exact yl_ (p:=Vbemac.side) (n:=2) (by unfold Vbemac.side;rw[if_neg (by rw[h1];exact Bool.false_ne_true),if_neg (by rw[h2];exact Bool.false_ne_true)]) nb hW H je_.refl
theorem ok_z40 (T:Txt K mg a) (XC:XT K a) (hk:7<=k) (G_z68:ExpOk P w K mg base a k):
  ju_ P w K mg base (CXF P w) (k+1) a.f_z40 a.fd_z40 ["reader"] (spAmounts a):=by
 have G_z29:=yq_ (P:=P) (w:=w) (base:=base) T XC
 have G_z2:=yh_ (P:=P) (w:=w) (base:=base) T XC
 have G_z38:=j0j_ (P:=P) (w:=w) (base:=base) T
 have G_z30:=j09_ (P:=P) (w:=w) (base:=base) T
 have G_z4:=ok_Amounts_init (P:=P) (w:=w) (base:=base) T
 refine okX T.F_z40 sc_z40 (fun vs H Q E h=>?_) (fun cdv A outer s H vs Q E hr h=>?_)
 ·obtain⟨r,q,kd,fn,ds,bl,n,t,Kn,fuel,rfl,_⟩:=h
  rfl
 ·obtain⟨r,q,kd,fn,ds,bl,n,t,Kn,fuel,rfl,S,hf,hW⟩:=h
  refine⟨_,(j2_ (jd_ (jb_ (pv 0) T.cl_Reader T.me_z29 G_z29 (hr.mono (by omega)) T.b_z29 .nil j6_ (j0_ jk_ j5_)))
    (j2_ (jg_ (i:=1) sc_z40.nd rfl (Or.inl rfl) (jn_ (pv 0) T.cl_Reader T.me_z2 G_z2 (hr.mono (by omega)) T.b_z2 .nil j6_))
    (j2_ (jd_ (jb_ (pv 0) T.cl_Reader T.me_z29 G_z29 (hr.mono (by omega)) T.b_z29 .nil j6_ (j0_ jk_ j5_)))
    (j2_ (jd_ (jb_ (pv 0) T.cl_Reader T.me_z38 G_z38 (hr.mono (by omega)) T.b_z38 .nil yr_ (j0_ (pv 1) j5_)))
    (j2_ (jg_ (i:=2) sc_z40.nd rfl (Or.inl rfl) (j9_ G_z68 (hr.mono (by omega)) (by rfl) T.m_z68 T.F_z68.kp T.b_z68 .nil j6_ (j0_ (pv 0) (j0_ jr_ j5_))))
    (j2_ (jd_ (jb_ (pv 0) T.cl_Reader T.me_z30 G_z30 (hr.mono (by omega)) T.b_z30 .nil yr_ (j0_ (pv 1) j5_)))
    (j7_ (jh_ (vf_ T.mk_Amounts G_z4 (hr.mono (by omega)) (by rfl) T.mg_Amounts T.b_z4 .nil yr_ (j0_ (pv 1) (j0_ (pv 2) j5_))))))))))),?_⟩
  obtain⟨dr,er⟩:=S.rd.ins
  have room:=S.kn.len
  unfold W2 amountP at hW
  refine⟨_,rfl,r,dr,_,rfl,er,rfl,?_⟩
  unfold j14_ ua_ tC
  dsimp only[List.append_nil]
  refine ky_step litAmount S (fun k x z=>z H je_.refl) hW fun H1 t1 l1 S1 k1 hW1=>?_
  obtain⟨dr1,er1⟩:=S1.rd.ins
  refine⟨_,rfl,r,dr1,_,rfl,er1,rfl,?_⟩
  refine nm_step S1 (fun k x z=>z H1 k1) hW1 fun u H2 t2 l2 ft S2 k2 hW2=>?_
  have k02:=k1.trans k2
  obtain⟨dr2,er2⟩:=S2.rd.ins
  refine⟨_,rfl,r,dr2,_,rfl,er2,rfl,?_⟩
  refine qy_ litCo S2 (fun k x z=>z H2 k02) hW2 fun H3 t3 l3 S3 k3 hW3=>?_
  have k03:=k02.trans k3
  have fv:Kn.values.contains u=false:=by
   unfold Vbemac.Known.taken at ft
   cases h:Kn.values.contains u with
   |false=>rfl
   |true=>rw[h] at ft;cases ft
  obtain⟨dr3,er3⟩:=S3.rd.ins
  obtain⟨kk,kk1,kk2,kk3⟩:=S3.kn.vals
  have S4:=S3.learn (u:=u) fv (by omega) kk1
  have k34:je_ (Mut r kd fn ds bl) H3 (upd H3 kd (.dK (j0l_ kk (nk u) (.bl true)))):=fun b o e m=>by rw[j3_ fun z=>m (.inr (.inl z))];exact e
  refine⟨_,rfl,r,dr3,_,rfl,er3,rfl,_,rfl,r,dr3,q,kd,fn,ds,bl,_,u,kk,rfl,er3,kk1,Nat.lt_of_le_of_lt (show kk.length<=4000 by omega) (by decide),?_⟩
  have k04:=k03.trans k34
  rw[jj_] at hW3
  refine⟨_,rfl,r,q,kd,fn,ds,bl,_,t3,Kn.with u,0,fuel,rfl,Nat.zero_le _,lv13,S4,by omega,?_⟩
  refine W2.mono (Qo:=fun e t4=>t4.length<t.length->Cn a r q kd fn ds bl H Kn Q (fun H'=>AmAt a (Mut r kd fn ds bl) H') (u,e) t4) (Qe:=QE a r kd fn ds bl H E) hW3 (fun e t5 nb5 w5 H5 v n5 l5 S5 k5 ev=>?_) fun _ _ z H' k'=>z H' (k04.trans k')
  have k05:=k04.trans k5
  obtain⟨dr5,er5⟩:=S5.rd.ins
  obtain⟨kb,kb1,_,_⟩:=S5.kn.vals
  obtain⟨hu,S6⟩:=S5.forget (u:=u) fv kb1
  have k56:je_ (Mut r kd fn ds bl) H5 (upd H5 kd (.dK (wt_ kb (nk u)))):=fun b o e m=>by rw[j3_ fun z=>m (.inr (.inl z))];exact e
  refine⟨_,rfl,r,dr5,_,rfl,er5,rfl,_,rfl,r,dr5,q,kd,fn,ds,bl,_,u,kb,rfl,er5,kb1,hu,?_⟩
  refine⟨_,rfl,_,rfl,?_⟩
  intro p dx hp hdx ne
  refine⟨p,dx,_,_,rfl,j4_,fun Hd hd' kd'=>⟨rfl,?_⟩⟩
  have scd:=yz_ hp hdx kd'
  have k6d:=k56.trans (OS.vq_.keeps scd)
  exact w5 (by omega) Hd (.ref p) _ (S6.same scd) (k05.trans k6d) ⟨v,⟨p,dx,rfl,S6.fresh hp,hd'⟩,ja_.keep k6d _ ev⟩
theorem ok_z12 (T:Txt K mg a) (XC:XT K a):ju_ P w K mg base (CXF P w) 7 a.f_z12 a.fd_z12 ["reader"] (spUnder a):=by
 have G_z7:=ut_ (P:=P) (w:=w) (base:=base) T XC
 have G_z19:=v8_ (P:=P) (w:=w) (base:=base) T XC
 have G_z44:=qp_ (P:=P) (w:=w) (base:=base) T XC
 have G_z46:=wr_ (P:=P) (w:=w) (base:=base) T XC
 refine okX T.F_z12 sc_z12 (fun vs H Q E h=>?_) (fun cdv A outer s H vs Q E hr h=>?_)
 ·obtain⟨r,q,kd,fn,ds,bl,n,t,Kn,B,rfl,_⟩:=h
  rfl
 ·obtain⟨r,q,kd,fn,ds,bl,n,t,Kn,B,rfl,S,hB,hW⟩:=h
  refine⟨_,(j2_ (jd_ (jn_ (pv 0) T.cl_Reader T.me_z7 G_z7 (hr.mono (by omega)) T.b_z7 .nil j6_))
    (j2_ (yg_ (j17_ (pc_dnotin (j16_ hr) (yf_ (jn_ (pv 0) T.cl_Reader T.me_z19 G_z19 (hr.mono (by omega)) T.b_z19 .nil j6_) rfl) (yf_ (pv 0) rfl))) (j7_ (jd_ (jb_ (pv 0) T.cl_Reader T.me_z44 G_z44 (hr.mono (by omega)) T.b_z44 .nil j6_ (j0_ (vc_ (by rfl) T.g_NOT_KNOWN) j5_)))) ji_)
    (j7_ (jh_ (jn_ (pv 0) T.cl_Reader T.me_z46 G_z46 (hr.mono (by omega)) T.b_z46 .nil j6_))))),?_⟩
  obtain⟨dr,er⟩:=S.rd.ins
  obtain⟨⟨x,xp⟩,t',rfl,tok,hpk,hpl,_⟩:=S.wh.first
  have hb:x= .bad->Flt a.c_Fault E H 1 xp:=fun b=>(knownBlock_strict B).at_bad (hpk.trans b) hW H je_.refl
  refine⟨_,rfl,r,dr,_,rfl,er,rfl,r,q,kd,fn,ds,bl,n,(x,xp),t',rfl,S.rd,hb,fun nb en=>?_,fun nb en=>?_⟩
  ·refine yl_ (p:=Vbemac.knownBlock B) (n:=2) (t:=(x,xp)::t') ?_ nb hW H je_.refl
   cases x with
   |word u=>
    have en:qo_ (.word u)=false:=en
    rw[jz_] at en
    have hkw:KEYS.contains u=true:=by cases h:KEYS.contains u;rw[h] at en;cases en;rfl
    unfold Vbemac.knownBlock
    rw[va_,if_pos hkw]
    rfl
   |num m=>rfl
   |sign s=>rfl
   |eof=>rfl
   |bad=>exact absurd rfl nb
  ·obtain⟨u,rfl⟩: ∃u,x= .word u:=by
    cases x with
    |word u=>exact⟨u,rfl⟩
    |num m=>cases en
    |sign s=>cases en
    |eof=>cases en
    |bad=>cases en
   have en:qo_ (.word u)=true:=en
   rw[jz_] at en
   have hkw:KEYS.contains u=false:=by cases h:KEYS.contains u;rfl;rw[h] at en;cases en
   have ek:Vbemac.knownBlock B ((.word u,xp)::t')=if B.contains u=true then .ok (u,t') else Vbemac.fail 3 ((.word u,xp)::t'):=by
    unfold Vbemac.knownBlock
    rw[va_,if_neg (by rw[hkw];exact Bool.false_ne_true)]
   refine⟨_,rfl,r,dr,_,rfl,er,rfl,r,q,kd,fn,ds,bl,n,(.word u,xp),t',rfl,S.rd,hb,fun _ p ⟨dx,et⟩=>⟨p,_,dx,_,_,rfl,et,T.cl_Token,T.no_Token_value,rfl,?_⟩⟩
   refine⟨_,rfl,r,_,dr,_,_,rfl,er,T.cl_Reader,T.no_Reader_blocks,rfl,bl.p,_,rfl,DGet.k (k:=nk u) S.bl_,_,rfl,?_⟩
   have hBu:(uo_ bl.c (nk u)).isSome=B.contains u:=hB u
   rw[hBu]
   cases hc:B.contains u with
   |false=>
    refine j0q_ ?_
    rw[hc,if_neg Bool.false_ne_true] at ek
    refine⟨_,rfl,r,dr,_,rfl,er,rfl,r,q,kd,fn,ds,bl,n,(.word u,xp),t',3,rfl,S.rd,?_⟩
    rw[if_neg nb]
    exact yl_ ek nb hW H je_.refl
   |true=>
    refine ur_ ?_
    rw[hc,if_pos rfl] at ek
    rw[j0n_ ek] at hW
    refine⟨_,rfl,r,dr,_,rfl,er,rfl,r,q,kd,fn,ds,bl,n,(.word u,xp),t',rfl,S.rd,hb,fun _ H1 hp1=>?_⟩
    exact hW H1 (Nat.lt_succ_self _) (S.past (fun z=>z.elim (fun z=>nomatch z) fun z=>nomatch z) hp1) (jt_ hp1)
end
end OS
namespace OS
open PySem PySem.Spec L2
open PyProof.Rows hiding St
open Vbemac (Bytes Toks SIGNS KEYS peek place text isSign isKey expr newName anyName DEEP stmt stmts)
def nameV:Option Bytes->V
 |none=> .non
 |some u=> .str (sb u)
mutual
def yx_ (a:Adr) (M:Addr->Prop) (H:Hp):Vbemac.Stmt->V->Prop
 | .bind x e,v=> ∃u,qv_ M H a.c_Let [("name", .str (sb x)),("exp",u)] v/\ja_ a M H e u
 | .loop x lo hi l,v=> ∃u1 u2 q us,qv_ M H a.c_For [("name", .str (sb x)),("first",u1),("last",u2),("statements",q)] v/\ja_ a M H lo u1/\ja_ a M H hi u2/\ql_ M H us q/\yn_ a M H l us
 | .cond c x y,v=> ∃u q us g ws,qv_ M H a.c_If [("condition",u),("statements",q),("else_statements",g)] v/\ja_ a M H c u/\ql_ M H us q/\yn_ a M H x us/\ql_ M H ws g/\yn_ a M H y ws
 | .step b z qu p top am,v=> ∃u1 u2 u3 u4 u5,qv_ M H a.c_Step [("side",sideV b),("zone",u1),("quarter",u2),("price",u3),("to_price",u4),("amount",u5)] v/\ja_ a M H z u1/\ja_ a M H qu u2/\ja_ a M H p u3/\OptAt a M H top u4/\ja_ a M H am u5
 | .block nm b z p x am un g,v=> ∃u1 u2 u3 u4,qv_ M H a.c_Block [("name",nameV nm),("side",sideV b),("zone",u1),("price",u2),("amounts",u3),("under",nameV un),("group",u4)] v/\ja_ a M H z u1/\ja_ a M H p u2/\AmAt a M H (x,am) u3/\OptAt a M H g u4
def yn_ (a:Adr) (M:Addr->Prop) (H:Hp):Vbemac.Stmts->List V->Prop
 | .nil,us=>us=[]
 | .cons s l,us=> ∃u vs,us=u::vs/\yx_ a M H s u/\yn_ a M H l vs
end
section
variable {a:Adr} {M M':Addr->Prop} {H H':Hp}
theorem OptAt.keep2 (k:qk_ M M' H H'): ∀(e:Option Vbemac.Exp) {v:V},OptAt a M H e v->OptAt a M' H' e v
 |none,v,h=>h
 |some e,v,h=>ja_.keep2 k e h
theorem AmAt.keep2 (k:qk_ M M' H H') {x:Bytes×Vbemac.Exp} {v:V} (h:AmAt a M H x v):AmAt a M' H' x v:=by
 obtain⟨u,h1,h2⟩:=h
 exact⟨u,h1.keep k,ja_.keep2 k _ h2⟩
mutual
theorem yx_.keep2 (k:qk_ M M' H H'): ∀(s:Vbemac.Stmt) {v:V},yx_ a M H s v->yx_ a M' H' s v
 | .bind x e,v,h=>by
  unfold yx_ at h ⊢
  obtain⟨u,h1,h2⟩:=h
  exact⟨u,h1.keep k,ja_.keep2 k e h2⟩
 | .loop x lo hi l,v,h=>by
  unfold yx_ at h ⊢
  obtain⟨u1,u2,q,us,h1,h2,h3,h4,h5⟩:=h
  exact⟨u1,u2,q,us,h1.keep k,ja_.keep2 k lo h2,ja_.keep2 k hi h3,h4.keep k,yn_.keep2 k l h5⟩
 | .cond c x y,v,h=>by
  unfold yx_ at h ⊢
  obtain⟨u,q,us,g,ws,h1,h2,h3,h4,h5,h6⟩:=h
  exact⟨u,q,us,g,ws,h1.keep k,ja_.keep2 k c h2,h3.keep k,yn_.keep2 k x h4,h5.keep k,yn_.keep2 k y h6⟩
 | .step b z qu p top am,v,h=>by
  unfold yx_ at h ⊢
  obtain⟨u1,u2,u3,u4,u5,h1,h2,h3,h4,h5,h6⟩:=h
  exact⟨u1,u2,u3,u4,u5,h1.keep k,ja_.keep2 k z h2,ja_.keep2 k qu h3,ja_.keep2 k p h4,OptAt.keep2 k top h5,ja_.keep2 k am h6⟩
 | .block nm b z p x am un g,v,h=>by
  unfold yx_ at h ⊢
  obtain⟨u1,u2,u3,u4,h1,h2,h3,h4,h5⟩:=h
  exact⟨u1,u2,u3,u4,h1.keep k,ja_.keep2 k z h2,ja_.keep2 k p h3,h4.keep2 k,OptAt.keep2 k g h5⟩
theorem yn_.keep2 (k:qk_ M M' H H'): ∀(l:Vbemac.Stmts) {us:List V},yn_ a M H l us->yn_ a M' H' l us
 | .nil,us,h=>by unfold yn_ at h ⊢; exact h
 | .cons s l,us,h=>by
  unfold yn_ at h ⊢
  obtain⟨u,vs,h1,h2,h3⟩:=h
  exact⟨u,vs,h1,yx_.keep2 k s h2,yn_.keep2 k l h3⟩
end
end
abbrev Box.at_ (bl:Box) (c:List (Key×V)):Box:=⟨bl.p,c,bl.x⟩
def StB (a:Adr) (r q kd fn:Addr) (ds bl:Box) (n:Nat) (t:Toks) (Kn:Vbemac.Known) (B:Vbemac.Blocks) (H:Hp) (Q:VK) (E:XK) (p:Vbemac.P (Vbemac.Stmt×Vbemac.Known×Vbemac.Blocks)):Prop:=
 PSt a H r q kd fn ds bl n t Kn/\Bk bl B/\bl.c.length+t.length<=4000/\
 W3 p t (fun s t'=>t'.length<t.length-> ∀H' v n' c',Bk (bl.at_ c') s.2.2->c'.length+t'.length<=4000->PSt a H' r q kd fn ds (bl.at_ c') n' t' s.2.1->je_ (Mut r kd fn ds bl) H H'->yx_ a (Mut r kd fn ds bl) H' s.1 v->Q v H') (QE a r kd fn ds bl H E)
inductive spSt0 (a:Adr) (ok:Toks->Prop) (vs:List V) (H:Hp) (Q:VK) (E:XK):Prop
 |mk (r q kd fn:Addr) (ds bl:Box) (n:Nat) (t:Toks) (Kn:Vbemac.Known) (B:Vbemac.Blocks) (d fuel:Nat) (_:vs=[.ref r]) (_:ok t) (_:16*t.length+14<=fuel) (_:StB a r q kd fn ds bl n t Kn B H Q E (stmt fuel d Kn B)):spSt0 a ok vs H Q E
section
variable {f:Nat} {Kn:Vbemac.Known} {β:Type} {s:String} {g:Vbemac.Exp->Vbemac.P β} {t:Toks} {Ro:β->Toks->Prop} {Qe:Nat->Vbemac.Pos->Prop}
theorem W_part (hs: ∀e,yb_ (g e)) (h:W (Vbemac.key s>>=fun _=>expr f DEEP Kn>>=fun z=>g z) t Ro Qe):W2 (Vbemac.key s>>=fun _=>expr f DEEP Kn) t (fun e t'=>W (g e) t' Ro Qe) Qe:=by
 unfold W2
 rw[jj_] at h ⊢
 refine h.mono (fun u t1 w=>?_) fun _ _ z=>z
 exact W2.of hs w
end
theorem litLet:j0o_ "let" (text "let"):=⟨by decide+kernel,by decide+kernel,by decide+kernel⟩
theorem litZone:j0o_ "zone" (text "zone"):=⟨by decide+kernel,by decide+kernel,by decide+kernel⟩
theorem litQuarter:j0o_ "quarter" (text "quarter"):=⟨by decide+kernel,by decide+kernel,by decide+kernel⟩
theorem litPrice:j0o_ "price" (text "price"):=⟨by decide+kernel,by decide+kernel,by decide+kernel⟩
theorem litTo:j0o_ "to" (text "to"):=⟨by decide+kernel,by decide+kernel,by decide+kernel⟩
section
variable {P:Program} {w:World} {K:PySem.W.Frag} {mg:Str->Option Value} {base:Heap} {a:Adr} {k:Nat}
theorem ok_z72 (T:Txt K mg a) (XC:XT K a) (hk:7<=k)
  (G_z56:ju_ P w K mg base (CXF P w) k a.f_z56 a.fd_z56 ["reader"] (spGiven a)):
  ju_ P w K mg base (CXF P w) (k+1) a.f_z72 a.fd_z72 ["reader"] (spSt0 a fun t=>isKey t "let"=true):=by
 have G_z29:=yq_ (P:=P) (w:=w) (base:=base) T XC
 have G_z2:=yh_ (P:=P) (w:=w) (base:=base) T XC
 have G_z38:=j0j_ (P:=P) (w:=w) (base:=base) T
 have G_z34:=ok_Let_init (P:=P) (w:=w) (base:=base) T
 refine okX T.F_z72 sc_z72 (fun vs H Q E h=>?_) (fun cdv A outer s H vs Q E hr h=>?_)
 ·obtain⟨r,q,kd,fn,ds,bl,n,t,Kn,B,d,fuel,rfl,_⟩:=h
  rfl
 ·obtain⟨r,q,kd,fn,ds,bl,n,t,Kn,B,d,fuel,rfl,hkw,hf,S,hB,hBl,hW⟩:=h
  refine⟨_,(j2_ (jd_ (jb_ (pv 0) T.cl_Reader T.me_z29 G_z29 (hr.mono (by omega)) T.b_z29 .nil j6_ (j0_ jk_ j5_)))
    (j2_ (jg_ (i:=1) sc_z72.nd rfl (Or.inl rfl) (jn_ (pv 0) T.cl_Reader T.me_z2 G_z2 (hr.mono (by omega)) T.b_z2 .nil j6_))
    (j2_ (jg_ (i:=2) sc_z72.nd rfl (Or.inl rfl) (j9_ G_z56 (hr.mono (by omega)) (by rfl) T.m_z56 T.F_z56.kp T.b_z56 .nil j6_ (j0_ (pv 0) j5_)))
    (j2_ (jd_ (jb_ (pv 0) T.cl_Reader T.me_z38 G_z38 (hr.mono (by omega)) T.b_z38 .nil yr_ (j0_ (pv 1) j5_)))
    (j7_ (jh_ (vf_ T.mk_Let G_z34 (hr.mono (by omega)) (by rfl) T.mg_Let T.b_z34 .nil yr_ (j0_ (pv 1) (j0_ (pv 2) j5_))))))))),?_⟩
  obtain⟨⟨x,xp⟩,t',rfl,tok,hpk,hpl,_⟩:=S.wh.first
  obtain rfl:x= .word (text "let"):=beq_iff_eq.mp hkw
  have room:=S.kn.len
  rw[List.length_cons] at hf room hBl
  obtain⟨f,rfl⟩: ∃f,fuel=f+1:=⟨fuel-1,by omega⟩
  have hW:=W3_as (stmt_let hkw) hW
  unfold W3 at hW
  have hW:=W_nx hW
  obtain⟨dr,er⟩:=S.rd.ins
  refine⟨_,rfl,r,dr,_,rfl,er,rfl,?_⟩
  unfold j14_ ua_ tC
  dsimp only[List.append_nil]
  refine at_step litLet S fun H1 S1 k1=>?_
  obtain⟨dr1,er1⟩:=S1.rd.ins
  refine⟨_,rfl,r,dr1,_,rfl,er1,rfl,?_⟩
  refine nm_step S1 (fun k x z=>z H1 k1) hW fun u H2 t2 l2 ft S2 k2 hW2=>?_
  have k02:=k1.trans k2
  have fv:Kn.values.contains u=false:=by
   unfold Vbemac.Known.taken at ft
   cases h:Kn.values.contains u with
   |false=>rfl
   |true=>rw[h] at ft;cases ft
  have hG:=W_given hW2
  refine⟨_,rfl,r,q,kd,fn,ds,bl,_,t2,Kn,f,rfl,S2,by omega,hG.mono (fun e t3 w3 l3 H3 v n3 S3 k3 ev=>?_) fun _ _ z H' k'=>z H' (k02.trans k')⟩
  obtain⟨dr3,er3⟩:=S3.rd.ins
  obtain⟨kk,kk1,kk2,kk3⟩:=S3.kn.vals
  have S4:=S3.learn (u:=u) fv (by omega) kk1
  have k34:je_ (Mut r kd fn ds bl) H3 (upd H3 kd (.dK (j0l_ kk (nk u) (.bl true)))):=fun b o e m=>by rw[j3_ fun z=>m (.inr (.inl z))];exact e
  refine⟨_,rfl,r,dr3,_,rfl,er3,rfl,_,rfl,r,dr3,q,kd,fn,ds,bl,_,u,kk,rfl,er3,kk1,Nat.lt_of_le_of_lt (show kk.length<=4000 by omega) (by decide),?_⟩
  refine⟨_,rfl,_,rfl,?_⟩
  intro p dx hp hdx ne
  refine⟨p,dx,_,_,rfl,j4_,fun Hd hd' kd'=>⟨rfl,?_⟩⟩
  have scd:=yz_ hp hdx kd'
  have k4d:=k34.trans (OS.vq_.keeps (M:=Mut r kd fn ds bl) scd)
  refine w3.2 (by rw[List.length_cons];omega) Hd (.ref p) _ bl.c hB (by omega) (S4.same scd) ((k02.trans k3).trans k4d) ?_
  unfold yx_
  exact⟨v,⟨p,dx,rfl,S4.fresh hp,hd'⟩,ja_.keep k4d _ ev⟩
theorem ok_z65 (T:Txt K mg a) (XC:XT K a) (hk:7<=k)
  (G_z64:ju_ P w K mg base (CXF P w) k a.f_z64 a.fd_z64 ["reader","word"] (spPart a))
  (G_z3:ju_ P w K mg base (CXF P w) k a.f_z3 a.fd_z3 ["reader","word"] (spPartIf a)):
  ju_ P w K mg base (CXF P w) (k+1) a.f_z65 a.fd_z65 ["reader"] (spSt0 a fun t=>isKey t "let"=false/\isKey t "for"=false/\isKey t "if"=false/\isKey t "block"=false):=by
 have G_z29:=yq_ (P:=P) (w:=w) (base:=base) T XC
 have G_z63:=ok_z63 (P:=P) (w:=w) (base:=base) T XC
 have G_z25:=ok_Step_init (P:=P) (w:=w) (base:=base) T
 refine okX T.F_z65 sc_z65 (fun vs H Q E h=>?_) (fun cdv A outer s H vs Q E hr h=>?_)
 ·obtain⟨r,q,kd,fn,ds,bl,n,t,Kn,B,d,fuel,rfl,_⟩:=h
  rfl
 ·obtain⟨r,q,kd,fn,ds,bl,n,t,Kn,B,d,fuel,rfl,⟨n1,n2,n3,n4⟩,hf,S,hB,hBl,hW⟩:=h
  refine⟨_,(j2_ (jg_ (i:=1) sc_z65.nd rfl (Or.inl rfl) (j9_ G_z63 (hr.mono (by omega)) (by rfl) T.m_z63 T.F_z63.kp T.b_z63 .nil j6_ (j0_ (pv 0) j5_)))
    (j2_ (jg_ (i:=2) sc_z65.nd rfl (Or.inl rfl) (j9_ G_z64 (hr.mono (by omega)) (by rfl) T.m_z64 T.F_z64.kp T.b_z64 .nil j6_ (j0_ (pv 0) (j0_ jk_ j5_))))
    (j2_ (jg_ (i:=3) sc_z65.nd rfl (Or.inl rfl) (j9_ G_z64 (hr.mono (by omega)) (by rfl) T.m_z64 T.F_z64.kp T.b_z64 .nil j6_ (j0_ (pv 0) (j0_ jk_ j5_))))
    (j2_ (jg_ (i:=4) sc_z65.nd rfl (Or.inl rfl) (j9_ G_z64 (hr.mono (by omega)) (by rfl) T.m_z64 T.F_z64.kp T.b_z64 .nil j6_ (j0_ (pv 0) (j0_ jk_ j5_))))
    (j2_ (jg_ (i:=5) sc_z65.nd rfl (Or.inl rfl) (j9_ G_z3 (hr.mono (by omega)) (by rfl) T.m_z3 T.F_z3.kp T.b_z3 .nil j6_ (j0_ (pv 0) (j0_ jk_ j5_))))
    (j2_ (jg_ (i:=6) sc_z65.nd rfl (Or.inl rfl) (j9_ G_z64 (hr.mono (by omega)) (by rfl) T.m_z64 T.F_z64.kp T.b_z64 .nil j6_ (j0_ (pv 0) (j0_ jk_ j5_))))
    (j2_ (jd_ (jb_ (pv 0) T.cl_Reader T.me_z29 G_z29 (hr.mono (by omega)) T.b_z29 .nil j6_ (j0_ jk_ j5_)))
    (j7_ (jh_ (vf_ T.mk_Step G_z25 (hr.mono (by omega)) (by rfl) T.mg_Step T.b_z25 .nil yr_ (j0_ (pv 1) (j0_ (pv 2) (j0_ (pv 3) (j0_ (pv 4) (j0_ (pv 5) (j0_ (pv 6) j5_)))))))))))))))),?_⟩
  obtain⟨f,rfl⟩: ∃f,fuel=f+1:=⟨fuel-1,by omega⟩
  have hW:=W3_as (stmt_step n1 n2 n3 n4) hW
  unfold W3 at hW
  unfold j14_ ua_ tC
  dsimp only[List.append_nil]
  rw[jj_] at hW
  refine⟨_,rfl,r,q,kd,fn,ds,bl,n,t,Kn,rfl,S,hW.mono (fun b t1 w1 H1 l1 S1 k1=>?_) fun _ _ z=>z⟩
  have h1:=W_part (fun _=>(vp_ "quarter").bind) w1
  refine⟨_,rfl,r,q,kd,fn,ds,bl,_,t1,Kn,f,_,_,rfl,litZone,S1,by omega,h1.mono (fun e1 t2 nb2 w2 l2 H2 v1 n2 S2 k2 ev1=>?_) fun _ _ z H' k'=>z H' (k1.trans k')⟩
  have k02:=k1.trans k2
  have h2:=W_part (fun _=>(vp_ "price").bind) w2
  refine⟨_,rfl,r,q,kd,fn,ds,bl,_,t2,Kn,f,_,_,rfl,litQuarter,S2,by omega,h2.mono (fun e2 t3 nb3 w3 l3 H3 v2 n3 S3 k3 ev2=>?_) fun _ _ z H' k'=>z H' (k02.trans k')⟩
  have k03:=k02.trans k3
  have h3:=W_part (fun _=>(wq_ "to" _).strict fun _=>(vp_ "amount").bind) w3
  refine⟨_,rfl,r,q,kd,fn,ds,bl,_,t3,Kn,f,_,_,rfl,litPrice,S3,by omega,h3.mono (fun e3 t4 nb4 w4 l4 H4 v3 n4 S4 k4 ev3=>?_) fun _ _ z H' k'=>z H' (k03.trans k')⟩
  have k04:=k03.trans k4
  have h4:=W2.of (fun _=>(vp_ "amount").bind) w4
  refine⟨_,rfl,r,q,kd,fn,ds,bl,_,t4,Kn,f,_,_,rfl,litTo,S4,by omega,h4.mono (fun e4 t5 nb5 w5 l5 H5 v4 n5 S5 k5 ev4=>?_) fun _ _ z H' k'=>z H' (k04.trans k')⟩
  have k05:=k04.trans k5
  have h5:=W_part (fun _=>(jy_ ";").bind) w5
  refine⟨_,rfl,r,q,kd,fn,ds,bl,_,t5,Kn,f,_,_,rfl,litAmount,S5,by omega,h5.mono (fun e5 t6 nb6 w6 l6 H6 v5 n6 S6 k6 ev5=>?_) fun _ _ z H' k'=>z H' (k05.trans k')⟩
  have k06:=k05.trans k6
  obtain⟨dr6,er6⟩:=S6.rd.ins
  refine⟨_,rfl,r,dr6,_,rfl,er6,rfl,?_⟩
  refine qy_ litSc S6 (fun k x z=>z H6 k06) w6 fun H7 t7 l7 S7 k7 w7=>?_
  refine⟨_,rfl,_,rfl,_,rfl,_,rfl,_,rfl,_,rfl,?_⟩
  intro p dx hp hdx ne
  refine⟨p,dx,_,_,_,_,_,_,rfl,j4_,fun Hd hd' kd'=>⟨rfl,?_⟩⟩
  have scd:=yz_ hp hdx kd'
  have k6d:=k7.trans (OS.vq_.keeps (M:=Mut r kd fn ds bl) scd)
  have k5d:=k6.trans k6d
  have k4d:=k5.trans k5d
  have k3d:=k4.trans k4d
  have k2d:=k3.trans k3d
  refine w7.2 (by omega) Hd (.ref p) _ bl.c hB (by omega) (S7.same scd) (k02.trans k2d) ?_
  unfold yx_
  exact⟨v1,v2,v3,v4,v5,⟨p,dx,rfl,S7.fresh hp,hd'⟩,ja_.keep k2d _ ev1,ja_.keep k3d _ ev2,ja_.keep k4d _ ev3,OptAt.keep2 k5d.two _ ev4,ja_.keep k6d _ ev5⟩
end
end OS
namespace OS
open PySem PySem.Spec L2
open PyProof.Rows hiding St
open Vbemac (Bytes Toks SIGNS KEYS peek place text isSign isKey expr newName anyName DEEP stmt stmts)
theorem litBlock:j0o_ "block" (text "block"):=⟨by decide+kernel,by decide+kernel,by decide+kernel⟩
theorem litUnder:j0o_ "under" (text "under"):=⟨by decide+kernel,by decide+kernel,by decide+kernel⟩
theorem litGroup:j0o_ "group" (text "group"):=⟨by decide+kernel,by decide+kernel,by decide+kernel⟩
section
variable {a:Adr} {H0 H:Hp} {r q kd fn:Addr} {ds bl:Box} {n:Nat} {t:Toks} {Kn:Vbemac.Known} {β:Type} {E:XK} {Q:VK} {Qe:Nat->Vbemac.Pos->Prop}
theorem skip_key {v:Str} {s:String} (lit:j0o_ v (text s)) (S:PSt a H r q kd fn ds bl n t Kn) (hb:peek t= .bad->Flt a.c_Fault E H 1 (place t)) (no:peek t≠ .bad->isKey t s=false->Q (.bl false) H)
  (yes:isKey t s=true-> ∀H' t',t=t.take 1++t'->t'.length+1=t.length->t.drop 1=t'->PSt a H' r q kd fn ds bl (n+1) t' Kn->je_ (Mut r kd fn ds bl) H H'->Q (.bl true) H'):spSkips a [.ref r, .str v] H Q E:=by
 obtain⟨⟨x,xp⟩,t',rfl,tok,hpk,hpl,_⟩:=S.wh.first
 refine⟨r,q,kd,fn,ds,bl,n,(x,xp),t',v,rfl,S.rd,hb,fun nb e=>?_,fun nb e H' hp=>?_⟩
 ·rw[vd_ (x:=v) tok lit] at e
  exact no nb e
 ·rw[vd_ (x:=v) tok lit] at e
  have ex:x= .word (text s):=beq_iff_eq.mp e
  exact yes e H' t' rfl rfl rfl (S.past (fun z=>z.elim (fun z=>by rw[ex] at z;cases z) fun z=>nb z) hp) (jt_ hp)
theorem skip_sign {v:Str} {s:String} (lit:LitS v (text s)) (S:PSt a H r q kd fn ds bl n t Kn) (hb:peek t= .bad->Flt a.c_Fault E H 1 (place t)) (no:peek t≠ .bad->isSign t s=false->Q (.bl false) H)
  (yes:isSign t s=true-> ∀H' t',t'.length+1=t.length->t.drop 1=t'->PSt a H' r q kd fn ds bl (n+1) t' Kn->je_ (Mut r kd fn ds bl) H H'->Q (.bl true) H'):spSkips a [.ref r, .str v] H Q E:=by
 obtain⟨⟨x,xp⟩,t',rfl,tok,hpk,hpl,_⟩:=S.wh.first
 refine⟨r,q,kd,fn,ds,bl,n,(x,xp),t',v,rfl,S.rd,hb,fun nb e=>?_,fun nb e H' hp=>?_⟩
 ·rw[v9_ (x:=v) tok lit] at e
  exact no nb e
 ·rw[v9_ (x:=v) tok lit] at e
  have ex:x= .sign (text s):=beq_iff_eq.mp e
  exact yes e H' t' rfl rfl (S.past (fun z=>z.elim (fun z=>by rw[ex] at z;cases z) fun z=>nb z) hp) (jt_ hp)
end
def blkGo (f:Nat) (Kn:Vbemac.Known) (B:Vbemac.Blocks) (m:Option Bytes) (buy:Bool):Vbemac.P (Vbemac.Stmt×Vbemac.Known×Vbemac.Blocks):=
 Vbemac.key "zone">>=fun _=>expr f DEEP Kn>>=fun z=>Vbemac.key "price">>=fun _=>expr f DEEP Kn>>=fun p=>Vbemac.key "amount">>=fun _=>newName Kn>>=fun x=>Vbemac.sign ":">>=fun _=>expr f DEEP (Kn.with x)>>=fun q=>
  Vbemac.behind "under" (Vbemac.knownBlock B)>>=fun u=>Vbemac.behind "group" (expr f DEEP Kn)>>=fun g=>Vbemac.sign ";">>=fun _=>pure (.block m buy z p x q u g,Kn,moreB m B)
theorem W_amount {β:Type} {f:Nat} {Kn:Vbemac.Known} {g:Bytes->Vbemac.Exp->Vbemac.P β} {t:Toks} {Ro:β->Toks->Prop} {Qe:Nat->Vbemac.Pos->Prop} (hs: ∀x e,yb_ (g x e)) (h:W (Vbemac.key "amount">>=fun _=>newName Kn>>=fun x=>Vbemac.sign ":">>=fun _=>expr f DEEP (Kn.with x)>>=fun e=>g x e) t Ro Qe):
  W2 (amountP f Kn) t (fun e t'=>W (g e.1 e.2) t' Ro Qe) Qe:=by
 unfold W2 amountP
 rw[jj_] at h ⊢
 refine h.mono (fun u t1 h=>?_) fun _ _ z=>z
 rw[jj_] at h ⊢
 refine h.mono (fun x t2 h=>?_) fun _ _ z=>z
 rw[jj_] at h ⊢
 refine h.mono (fun u t3 h=>?_) fun _ _ z=>z
 have h:=W2.of (fun e=>hs x e) h
 rw[jj_]
 exact h
theorem maybe_not {B:Vbemac.Blocks} {x:Vbemac.Tok} {xp:Vbemac.Pos} {t:Toks} (nb:x≠ .bad) (en:qo_ x=false) (g:Option Bytes->Bool->Vbemac.P (Vbemac.Stmt×Vbemac.Known×Vbemac.Blocks)) {Ro:Vbemac.Stmt×Vbemac.Known×Vbemac.Blocks->Toks->Prop} {Qe:Nat->Vbemac.Pos->Prop}
  (h:W (Vbemac.maybeName B>>=fun m=>Vbemac.side>>=fun b=>g m b) ((x,xp)::t) Ro Qe):W Vbemac.side ((x,xp)::t) (fun b t'=>W (g none b) t' Ro Qe) Qe:=by
 by_cases c:isKey ((x,xp)::t) "sell"=true\/isKey ((x,xp)::t) "buy"=true
 ·have e:Vbemac.maybeName B ((x,xp)::t)= .ok (none,(x,xp)::t):=by unfold Vbemac.maybeName;rw[if_pos c]
  rw[jj_,j0n_ e,jj_] at h
  exact h
 ·have e:Vbemac.maybeName B ((x,xp)::t)=(Vbemac.fail 2:Vbemac.P (Option Bytes)) ((x,xp)::t):=by
   unfold Vbemac.maybeName
   rw[if_neg c]
   cases x with
   |word u=>
    rw[jz_] at en
    have hkw:KEYS.contains u=true:=by cases h:KEYS.contains u;rw[h] at en;cases en;rfl
    unfold Vbemac.blockName
    rw[va_,if_pos hkw]
    rfl
   |num m=>rfl
   |sign s=>rfl
   |eof=>rfl
   |bad=>exact absurd rfl nb
  rw[jj_] at h
  have h:=yl_ e nb h
  have e2:Vbemac.side ((x,xp)::t)=(Vbemac.fail 2:Vbemac.P Bool) ((x,xp)::t):=by
   unfold Vbemac.side
   rw[if_neg fun z=>c (.inl z),if_neg fun z=>c (.inr z)]
  have e3:Vbemac.side ((x,xp)::t)= .error (2,place ((x,xp)::t)):=by rw[e2];unfold Vbemac.fail;rw[if_neg (show¬peek ((x,xp)::t)= .bad from nb)]
  rw[W_error e3]
  exact h
theorem maybe_is {B:Vbemac.Blocks} {u:Bytes} {xp:Vbemac.Pos} {t:Toks} (hkw:KEYS.contains u=false):Vbemac.maybeName B ((.word u,xp)::t)=if B.contains u=true then Vbemac.fail 4 ((.word u,xp)::t) else .ok (some u,t):=by
 have c: ¬(isKey ((.word u,xp)::t) "sell"=true\/isKey ((.word u,xp)::t) "buy"=true):=fun z=>z.elim (fun z=>by
  have:Vbemac.Tok.word u= .word (text "sell"):=beq_iff_eq.mp z
  cases this
  exact absurd hkw (by decide+kernel)) fun z=>by
  have:Vbemac.Tok.word u= .word (text "buy"):=beq_iff_eq.mp z
  cases this
  exact absurd hkw (by decide+kernel)
 unfold Vbemac.maybeName
 rw[if_neg c]
 unfold Vbemac.blockName
 rw[va_,if_neg (by rw[hkw];exact Bool.false_ne_true)]
 dsimp only
 by_cases h:B.contains u=true
 ·rw[if_pos h,if_pos h]
  rfl
 ·rw[if_neg h,if_neg h]
theorem PSt.putB {a:Adr} {H:Hp} {r q kd fn:Addr} {ds bl:Box} {n:Nat} {t:Toks} {Kn:Vbemac.Known} {c:List (Key×V)} (S:PSt a H r q kd fn ds bl n t Kn):PSt a (upd H bl.p (.dK c)) r q kd fn ds (bl.at_ c) n t Kn:=by
 obtain⟨dr,er⟩:=S.rd.ins
 obtain⟨as,all,h1,h2,h3⟩:=S.rd.toks
 obtain⟨kk,k1,k2,k3⟩:=S.kn.vals
 obtain⟨ff,f1,f2⟩:=S.kn.funs
 have hy:=S.ds_
 have e:=S.bl_
 obtain⟨d1,d2,d3,d4,d5,d6⟩:=S.dif
 have nr:r≠bl.p:=fun w=>by rw[w,e] at er;cases er
 have nq:q≠bl.p:=fun w=>by rw[w,e] at h1;cases h1
 refine⟨⟨⟨dr,by rw[j3_ nr];exact er⟩,as,all,by rw[j3_ nq];exact h1,Paired.mapP h2 fun b x ⟨dx,ex⟩=>⟨dx,?_⟩,h3⟩,S.wh,⟨⟨kk,by rw[j3_ d3];exact k1,k2,k3⟩,⟨ff,by rw[j3_ d5];exact f1,f2⟩,S.kn.len,⟨ff,by rw[j3_ d5];exact f1,S.kn.fl f1⟩⟩,(by rw[j3_ d6];exact hy),j4_,S.dif,fun b xs h=>?_⟩
 ·rw[j3_ fun w=>by rw[w,e] at ex;cases ex]
  exact ex
 ·have e2:=S.fr b xs h
  rw[j3_ fun w=>by rw[w,e] at e2;cases e2]
  exact e2
section
variable {P:Program} {w:World} {K:PySem.W.Frag} {mg:Str->Option Value} {base:Heap} {a:Adr} {k:Nat}
theorem ok_z57 (T:Txt K mg a) (XC:XT K a) (hk:7<=k)
  (G_z64:ju_ P w K mg base (CXF P w) k a.f_z64 a.fd_z64 ["reader","word"] (spPart a))
  (G_z3:ju_ P w K mg base (CXF P w) k a.f_z3 a.fd_z3 ["reader","word"] (spPartIf a))
  (G_z40:ju_ P w K mg base (CXF P w) k a.f_z40 a.fd_z40 ["reader"] (spAmounts a)):
  ju_ P w K mg base (CXF P w) (k+1) a.f_z57 a.fd_z57 ["reader"] (spSt0 a fun t=>isKey t "let"=false/\isKey t "for"=false/\isKey t "if"=false/\isKey t "block"=true):=by
 have G_z29:=yq_ (P:=P) (w:=w) (base:=base) T XC
 have G_z20:=ok_at_name (P:=P) (w:=w) (base:=base) T XC
 have G_z0:=um_ (P:=P) (w:=w) (base:=base) T XC
 have G_z37:=ok_skips (P:=P) (w:=w) (base:=base) T XC
 have G_z12:=ok_z12 (P:=P) (w:=w) (base:=base) T XC
 have G_z63:=ok_z63 (P:=P) (w:=w) (base:=base) T XC
 have G_z15:=ok_Block_init (P:=P) (w:=w) (base:=base) T
 refine okX T.F_z57 j0t_ (fun vs H Q E h=>?_) (fun cdv A outer s H vs Q E hr h=>?_)
 ·obtain⟨r,q,kd,fn,ds,bl,n,t,Kn,B,d,fuel,rfl,_⟩:=h
  rfl
 ·obtain⟨r,q,kd,fn,ds,bl,n,t,Kn,B,d,fuel,rfl,⟨c1,c2,c3,hkw⟩,hf,S,hB,hBl,hW⟩:=h
  refine⟨_,(j2_ (jd_ (jb_ (pv 0) T.cl_Reader T.me_z29 G_z29 (hr.mono (by omega)) T.b_z29 .nil j6_ (j0_ jk_ j5_)))
    (j2_ (jg_ (i:=1) j0t_.nd rfl (Or.inl rfl) pe_non)
    (j2_ (ps_join (yg_ (yc_ (jn_ (pv 0) T.cl_Reader T.me_z20 G_z20 (hr.mono (by omega)) T.b_z20 .nil j6_)) (j7_ (jg_ (i:=1) j0t_.nd rfl (Or.inl rfl) (jb_ (pv 0) T.cl_Reader T.me_z0 G_z0 (hr.mono (by omega)) T.b_z0 .nil j6_ (j0_ (yf_ (pv 0) rfl) j5_)))) ji_))
    (j2_ (jg_ (i:=2) j0t_.nd rfl (Or.inl rfl) (j9_ G_z63 (hr.mono (by omega)) (by rfl) T.m_z63 T.F_z63.kp T.b_z63 .nil j6_ (j0_ (pv 0) j5_)))
    (j2_ (jg_ (i:=3) j0t_.nd rfl (Or.inl rfl) (j9_ G_z64 (hr.mono (by omega)) (by rfl) T.m_z64 T.F_z64.kp T.b_z64 .nil j6_ (j0_ (pv 0) (j0_ jk_ j5_))))
    (j2_ (jg_ (i:=4) j0t_.nd rfl (Or.inl rfl) (j9_ G_z64 (hr.mono (by omega)) (by rfl) T.m_z64 T.F_z64.kp T.b_z64 .nil j6_ (j0_ (pv 0) (j0_ jk_ j5_))))
    (j2_ (jg_ (i:=5) j0t_.nd rfl (Or.inl rfl) (j9_ G_z40 (hr.mono (by omega)) (by rfl) T.m_z40 T.F_z40.kp T.b_z40 .nil j6_ (j0_ (pv 0) j5_)))
    (j2_ (jg_ (i:=6) j0t_.nd rfl (Or.inl rfl) pe_non)
    (j2_ (ps_join (yg_ (yc_ (jb_ (pv 0) T.cl_Reader T.me_z37 G_z37 (hr.mono (by omega)) T.b_z37 .nil j6_ (j0_ jk_ j5_))) (j7_ (jg_ (i:=6) j0t_.nd rfl (Or.inl rfl) (j9_ G_z12 (hr.mono (by omega)) (by rfl) T.m_z12 T.F_z12.kp T.b_z12 .nil j6_ (j0_ (pv 0) j5_)))) ji_))
    (j2_ (jg_ (i:=7) j0t_.nd rfl (Or.inl rfl) (j9_ G_z3 (hr.mono (by omega)) (by rfl) T.m_z3 T.F_z3.kp T.b_z3 .nil j6_ (j0_ (pv 0) (j0_ jk_ j5_))))
    (j2_ (jd_ (jb_ (pv 0) T.cl_Reader T.me_z29 G_z29 (hr.mono (by omega)) T.b_z29 .nil j6_ (j0_ jk_ j5_)))
    (j2_ (ps_join (yg_ (j17_ (pc_notN (pv 1))) (j7_ (ps_dput (j16_ hr) (yf_ (pv 0) rfl) (pv 1) pe_bl rfl)) ji_))
    (j7_ (jh_ (vf_ T.mk_Block G_z15 (hr.mono (by omega)) (by rfl) T.mg_Block T.b_z15 .nil yr_ (j0_ (pv 1) (j0_ (pv 2) (j0_ (pv 3) (j0_ (pv 4) (j0_ (pv 5) (j0_ (pv 6) (j0_ (pv 7) j5_)))))))))))))))))))))),?_⟩
  obtain⟨⟨x,xp⟩,t',rfl,tok,hpk,hpl,_⟩:=S.wh.first
  obtain rfl:x= .word (text "block"):=beq_iff_eq.mp hkw
  have room:=S.kn.len
  rw[List.length_cons] at hf room hBl
  obtain⟨f,rfl⟩: ∃f,fuel=f+1:=⟨fuel-1,by omega⟩
  have hW:=W3_as (stmt_block c1 c2 c3 hkw) hW
  unfold W3 at hW
  have hW:=W_nx hW
  obtain⟨dr,er⟩:=S.rd.ins
  refine⟨_,rfl,r,dr,_,rfl,er,rfl,?_⟩
  unfold j14_ ua_ tC
  dsimp only[List.append_nil]
  refine at_step litBlock S fun H1 S1 k1=>?_
  obtain⟨⟨y,yp⟩,ty,rfl,toky,hpky,hply,_⟩:=S1.wh.first
  have hb1:y= .bad->Flt a.c_Fault E H1 1 yp:=fun b=>by
   rw[jj_] at hW
   exact(maybeName_strict B).at_bad (hpky.trans b) hW H1 k1
  refine⟨fun σ' H'=> ∃(m:Option Bytes) (n2:Nat) (t2:Toks),σ'=[some (.ref r),some (nameV m),none,none,none,none,none,none]/\t2.length<=((y,yp)::ty).length/\PSt a H' r q kd fn ds bl n2 t2 Kn/\je_ (Mut r kd fn ds bl) H H'/\(∀u,m=some u->t2.length<((y,yp)::ty).length)/\
   W Vbemac.side t2 (fun b t3=>W (blkGo f Kn B m b) t3 (fun s t'=>(peek t'= .bad->QE a r kd fn ds bl H E 1 (place t'))/\(t'.length<((y,yp)::ty).length+1-> ∀H' v n' c',Bk (bl.at_ c') s.2.2->c'.length+t'.length<=4000->PSt a H' r q kd fn ds (bl.at_ c') n' t' s.2.1->je_ (Mut r kd fn ds bl) H H'->yx_ a (Mut r kd fn ds bl) H' s.1 v->Q v H')) (QE a r kd fn ds bl H E)) (QE a r kd fn ds bl H E),?_,?_⟩
  ·obtain⟨dr1,er1⟩:=S1.rd.ins
   refine⟨_,rfl,r,dr1,_,rfl,er1,rfl,r,q,kd,fn,ds,bl,n+1,(y,yp),ty,rfl,S1.rd,hb1,fun nb=>⟨_,rfl,?_⟩⟩
   refine yt_ (fun en=>?_) fun en=>?_
   ·obtain⟨u,rfl⟩: ∃u,y= .word u:=by
     cases y with
     |word u=>exact⟨u,rfl⟩
     |num m=>cases en
     |sign s=>cases en
     |eof=>cases en
     |bad=>cases en
    have en':qo_ (.word u)=true:=en
    rw[jz_] at en'
    have hkw':KEYS.contains u=false:=by cases h:KEYS.contains u;rfl;rw[h] at en';cases en'
    have em:=maybe_is (B:=B) (xp:=yp) (t:=ty) hkw'
    rw[jj_] at hW
    refine⟨_,rfl,r,dr1,_,rfl,er1,rfl,_,rfl,r,_,dr1,_,_,rfl,er1,T.cl_Reader,T.no_Reader_blocks,rfl,?_⟩
    refine⟨r,q,kd,fn,ds,bl,bl.p,n+1,(.word u,yp),ty,bl.c,rfl,S1.rd,S1.bl_,hb1,fun _ z=>(by rw[en] at z;cases z),fun u' e1 _ hu=>?_,fun u' e1 _ hu H2 hp2=>?_⟩
    ·cases e1
     have hu:B.contains u=true:=(hB u).symm.trans hu
     rw[if_pos hu] at em
     exact yl_ em (fun z=>nomatch z) hW H1 k1
    ·cases e1
     have hu:B.contains u=false:=(hB u).symm.trans hu
     rw[if_neg (by rw[hu];exact Bool.false_ne_true)] at em
     rw[j0n_ em,jj_] at hW
     exact⟨some u,n+1+1,ty,rfl,Nat.le_succ _,S1.past (fun z=>z.elim (fun z=>nomatch z) fun z=>nomatch z) hp2,k1.trans (jt_ hp2),fun _ _=>Nat.lt_succ_self _,hW⟩
   ·exact⟨none,n+1,_,rfl,Nat.le_refl _,S1,k1,(fun _ z=>nomatch z),maybe_not nb en (fun m b=>blkGo f Kn B m b) hW⟩
  rintro σ2 H2 ⟨m,n2,t2,rfl,l2,S2,k02,lm,hS⟩
  refine⟨_,rfl,r,q,kd,fn,ds,bl,n2,t2,Kn,rfl,S2,hS.mono (fun b t3 w3 H3 l3 S3 k3=>?_) fun _ _ z H' k'=>z H' (k02.trans k')⟩
  have k03:=k02.trans k3
  unfold blkGo at w3
  have h3:=W_part (fun _=>(vp_ "price").bind) w3
  refine⟨_,rfl,r,q,kd,fn,ds,bl,_,t3,Kn,f,_,_,rfl,litZone,S3,by rw[List.length_cons] at *; omega,h3.mono (fun e1 t4 nb4 w4 l4 H4 v1 n4 S4 k4 ev1=>?_) fun _ _ z H' k'=>z H' (k03.trans k')⟩
  have k04:=k03.trans k4
  have h4:=W_part (fun _=>(vp_ "amount").bind) w4
  refine⟨_,rfl,r,q,kd,fn,ds,bl,_,t4,Kn,f,_,_,rfl,litPrice,S4,by rw[List.length_cons] at *; omega,h4.mono (fun e2 t5 nb5 w5 l5 H5 v2 n5 S5 k5 ev2=>?_) fun _ _ z H' k'=>z H' (k04.trans k')⟩
  have k05:=k04.trans k5
  have h5:=W_amount (fun _ _=>(wq_ "under" _).strict fun _=>(wq_ "group" _).strict fun _=>(jy_ ";").bind) w5
  refine⟨_,rfl,r,q,kd,fn,ds,bl,_,t5,Kn,f,rfl,S5,by rw[List.length_cons] at *; omega,h5.mono (fun e3 t6 nb6 w6 l6 H6 v3 n6 S6 k6 ev3=>?_) fun _ _ z H' k'=>z H' (k05.trans k')⟩
  have k06:=k05.trans k6
  refine⟨fun σ' H'=> ∃(un:Option Bytes) (n7:Nat) (t7:Toks),σ'=[some (.ref r),some (nameV m),some (sideV b),some v1,some v2,some v3,some (nameV un),none]/\t7.length<=t6.length/\PSt a H' r q kd fn ds bl n7 t7 Kn/\je_ (Mut r kd fn ds bl) H6 H'/\
   W (Vbemac.behind "group" (expr f DEEP Kn)>>=fun g=>Vbemac.sign ";">>=fun _=>pure (.block m b e1 e2 e3.1 e3.2 un g,Kn,moreB m B):Vbemac.P (Vbemac.Stmt×Vbemac.Known×Vbemac.Blocks)) t7 (fun s t'=>(peek t'= .bad->QE a r kd fn ds bl H E 1 (place t'))/\(t'.length<((y,yp)::ty).length+1-> ∀H' v n' c',Bk (bl.at_ c') s.2.2->c'.length+t'.length<=4000->PSt a H' r q kd fn ds (bl.at_ c') n' t' s.2.1->je_ (Mut r kd fn ds bl) H H'->yx_ a (Mut r kd fn ds bl) H' s.1 v->Q v H')) (QE a r kd fn ds bl H E),?_,?_⟩
  ·obtain⟨dr6,er6⟩:=S6.rd.ins
   refine⟨_,rfl,r,dr6,_,rfl,er6,rfl,?_⟩
   refine skip_key litUnder S6 (fun b=>absurd b nb6) (fun nb no=>⟨_,rfl,ur_ ?_⟩) fun yes H7 t7 _ l7 d7 S7 k7=>⟨_,rfl,j0q_ ?_⟩
   ·rw[jj_,j0n_ (behind_not no)] at w6
    exact⟨none,n6,t6,rfl,Nat.le_refl _,S6,je_.refl,w6⟩
   ·rw[jj_] at w6
    have w6:=j04_ (behind_is yes) w6
    rw[jj_] at w6
    have ek:Vbemac.key "under" t6= .ok ((),t7):=by unfold Vbemac.key;rw[if_pos yes,d7]
    rw[j0n_ ek,jj_] at w6
    refine⟨_,rfl,r,q,kd,fn,ds,bl,_,t7,Kn,B,rfl,S7,hB,w6.mono (fun u t8 w8 H8 l8 S8 k8=>?_) fun _ _ z H' k'=>z H' ((k06.trans k7).trans k')⟩
    exact⟨some u,_,t8,rfl,by omega,S8,k7.trans k8,w8⟩
  rintro σ7 H7 ⟨un,n7,t7,rfl,l7,S7,k7,w7⟩
  have k07:=k06.trans k7
  have h7:=W2.of (fun _=>(jy_ ";").bind) w7
  refine⟨_,rfl,r,q,kd,fn,ds,bl,_,t7,Kn,f,_,_,rfl,litGroup,S7,by rw[List.length_cons] at *; omega,h7.mono (fun e4 t8 nb8 w8 l8 H8 v4 n8 S8 k8 ev4=>?_) fun _ _ z H' k'=>z H' (k07.trans k')⟩
  have k08:=k07.trans k8
  obtain⟨dr8,er8⟩:=S8.rd.ins
  refine⟨_,rfl,r,dr8,_,rfl,er8,rfl,?_⟩
  refine qy_ litSc S8 (fun k x z=>z H8 k08) w8 fun H9 t9 l9 S9 k9 w9=>?_
  have k09:=k08.trans k9
  refine⟨fun σ' H'=> ∃c',σ'=[some (.ref r),some (nameV m),some (sideV b),some v1,some v2,some v3,some (nameV un),some v4]/\Bk (bl.at_ c') (moreB m B)/\c'.length+t9.length<=4000/\PSt a H' r q kd fn ds (bl.at_ c') (n8+1) t9 Kn/\je_ (Mut r kd fn ds bl) H9 H',?_,?_⟩
  ·refine⟨_,rfl,_,rfl,?_⟩
   cases m with
   |none=>
    refine ur_ ?_
    exact⟨bl.c,rfl,hB,by rw[List.length_cons] at *; omega,S9,je_.refl⟩
   |some u=>
    refine j0q_ ?_
    obtain⟨dr9,er9⟩:=S9.rd.ins
    have lu:=lm u rfl
    refine⟨_,rfl,r,_,dr9,_,_,rfl,er9,T.cl_Reader,T.no_Reader_blocks,rfl,_,rfl,bl.p,_,rfl, .inl ⟨bl.c,nk u,S9.bl_,rfl,Nat.lt_of_le_of_lt (show bl.c.length<=4000 by rw[List.length_cons] at *; omega) (by decide),rfl⟩,?_⟩
    refine⟨j0l_ bl.c (nk u) (.bl true),rfl,fun v=>?_,?_,S9.putB,fun b' o e m'=>by rw[j3_ fun z=>m' (.inr (.inr (.inr (.inr (.inl z)))))];exact e⟩
    ·show has (j0l_ bl.c (nk u) (.bl true)) v=(u::B).contains v
     rw[has_put,List.contains_cons,hB v]
     congr 1
     rw[Bool.eq_iff_iff,decide_eq_true_iff,beq_iff_eq]
    ·have:=ug_ bl.c (nk u) (.bl true)
     rw[List.length_cons] at*
     omega
  rintro σa Ha ⟨c',rfl,hBa,hca,Sa,ka⟩
  refine⟨_,rfl,_,rfl,_,rfl,_,rfl,_,rfl,_,rfl,_,rfl,?_⟩
  intro p dx hp hdx ne
  refine⟨p,dx,_,_,_,_,_,_,_,rfl,j4_,fun Hd hd' kd'=>⟨rfl,?_⟩⟩
  have scd:=yz_ hp hdx kd'
  have k8d:je_ (Mut r kd fn ds bl) H8 Hd:=k9.trans (ka.trans (OS.vq_.keeps scd))
  have k6d:=k7.trans (k8.trans k8d)
  have k5d:=k6.trans k6d
  have k4d:=k5.trans k5d
  refine w9.2 (by rw[List.length_cons] at *; omega) Hd (.ref p) _ c' hBa hca (Sa.same scd) (k04.trans k4d) ?_
  unfold yx_
  exact⟨v1,v2,v3,v4,⟨p,dx,rfl,Sa.fresh hp,hd'⟩,ja_.keep k4d _ ev1,ja_.keep k5d _ ev2,AmAt.keep2 k6d.two ev3,OptAt.keep2 k8d.two _ ev4⟩
end
end OS
namespace OS
open PySem PySem.Spec L2
open PyProof.Rows hiding St
open Vbemac (Bytes Toks SIGNS KEYS peek place text isSign isKey expr newName anyName DEEP stmt stmts)
structure IsLet (K:PySem.W.Frag) (a:Adr):Prop where
 t1:TyK K a.c_Let
 t2:TyK K a.c_For
 t3:TyK K a.c_If
 t4:TyK K a.c_Step
 t5:TyK K a.c_Block
 k1:PySem.W.kitOne K (.ref a.c_Let) (.ref a.c_Let)=some true
 k2:PySem.W.kitOne K (.ref a.c_For) (.ref a.c_Let)=some false
 k3:PySem.W.kitOne K (.ref a.c_If) (.ref a.c_Let)=some false
 k4:PySem.W.kitOne K (.ref a.c_Step) (.ref a.c_Let)=some false
 k5:PySem.W.kitOne K (.ref a.c_Block) (.ref a.c_Let)=some false
theorem IsLet.of {K:PySem.W.Frag} {a:Adr} {M:Addr->Prop} {H:Hp} {s:Vbemac.Stmt} {v:V} (I:IsLet K a) (h:yx_ a M H s v): ∃C,TyOf K H v (.ref C)/\PySem.W.kitOne K (.ref C) (.ref a.c_Let)=some (letOf s).isSome:=by
 cases s with
 |bind x e=>
  unfold yx_ at h
  obtain⟨u,⟨p,dx,rfl,m,z⟩,_⟩:=h
  exact⟨_,I.t1.of z,I.k1⟩
 |loop x lo hi l=>
  unfold yx_ at h
  obtain⟨u1,u2,q,us,⟨p,dx,rfl,m,z⟩,_⟩:=h
  exact⟨_,I.t2.of z,I.k2⟩
 |cond c x y=>
  unfold yx_ at h
  obtain⟨u,q,us,g,ws,⟨p,dx,rfl,m,z⟩,_⟩:=h
  exact⟨_,I.t3.of z,I.k3⟩
 |step b z qu p top am=>
  unfold yx_ at h
  obtain⟨u1,u2,u3,u4,u5,⟨p,dx,rfl,m,z⟩,_⟩:=h
  exact⟨_,I.t4.of z,I.k4⟩
 |block nm b z p x am un g=>
  unfold yx_ at h
  obtain⟨u1,u2,u3,u4,⟨p,dx,rfl,m,z⟩,_⟩:=h
  exact⟨_,I.t5.of z,I.k5⟩
theorem PSt.forgetG {a:Adr} {H:Hp} {r q kd fn:Addr} {ds bl:Box} {n:Nat} {t:Toks} {K1 K2:Vbemac.Known} {u:Bytes} (S:PSt a H r q kd fn ds bl n t K1) (hc:K1.values.contains u=true) (hf:K2.funs=K1.funs) (hl:K2.values.length+1=K1.values.length)
  (hv: ∀v,K2.values.contains v=(!decide (v=u)&&K1.values.contains v)) {kk:List (Key×V)} (e:H kd=some (.dK kk)):has kk u=true/\PSt a (upd H kd (.dK (wt_ kk (nk u)))) r q kd fn ds bl n t K2:=by
 obtain⟨dr,er⟩:=S.rd.ins
 obtain⟨as,all,h1,h2,h3⟩:=S.rd.toks
 obtain⟨kk',k1,k2,k3⟩:=S.kn.vals
 obtain⟨ff,f1,f2⟩:=S.kn.funs
 have hy:=S.ds_
 have hz:=S.bl_
 obtain rfl:kk'=kk:=by rw[e] at k1;cases k1;rfl
 obtain⟨d1,d2,d3,d4,d5,d6⟩:=S.dif
 have nr:r≠kd:=fun w=>by rw[w,e] at er;cases er
 have nq:q≠kd:=fun w=>by rw[w,e] at h1;cases h1
 have hu:has kk' u=true:=by rw[k3];exact hc
 have len:=S.kn.len
 refine⟨hu,⟨⟨dr,by rw[j3_ nr];exact er⟩,as,all,by rw[j3_ nq];exact h1,Paired.mapP h2 fun b x ⟨dx,ex⟩=>⟨dx,?_⟩,h3⟩,S.wh,⟨⟨_,j4_,?_,fun v=>?_⟩,⟨ff,by rw[j3_ d1.symm];exact f1,by rw[hf];exact f2⟩,by omega,⟨ff,by rw[j3_ d1.symm];exact f1,(by rw[hf];exact S.kn.fl f1)⟩⟩,(by rw[j3_ d2.symm];exact hy),(by rw[j3_ d3.symm];exact hz),S.dif,fun b xs h=>?_⟩
 ·rw[j3_ fun w=>by rw[w,e] at ex;cases ex]
  exact ex
 ·have:(wt_ kk' (nk u)).length<kk'.length:=by
   unfold wt_
   refine Nat.lt_of_le_of_ne (List.length_filter_le _ _) fun w=>?_
   rw[List.length_filter_eq_length_iff] at w
   unfold has uo_ at hu
   rw[Option.isSome_map,List.find?_isSome] at hu
   obtain⟨p,hp,e1⟩:=hu
   have:=w p hp
   simp only[decide_eq_true_eq] at this e1
   exact this e1
  omega
 ·rw[has_drop,k3,hv]
 ·have e2:=S.fr b xs h
  rw[j3_ fun w=>by rw[w,e] at e2;cases e2]
  exact e2
def Kof (Kn:Vbemac.Known) (ss:List Vbemac.Stmt):Vbemac.Known:=⟨(lets ss).reverse++Kn.values,Kn.funs⟩
theorem forget_vals {x:Bytes} {rest V:List Bytes} (h1:x∉rest) (h2:x∉V) (v:Bytes):(rest.reverse++V).contains v=(!decide (v=x)&&((x::rest).reverse++V).contains v):=by
 by_cases e:v=x
 ·subst e
  rw[decide_eq_true rfl]
  show _=false
  rw[Bool.eq_false_iff]
  intro z
  rcases List.mem_append.mp (List.contains_iff_mem.mp z) with z|z
  ·exact h1 (List.mem_reverse.mp z)
  ·exact h2 z
 ·rw[decide_eq_false e]
  show _=((x::rest).reverse++V).contains v
  rw[Bool.eq_iff_iff,List.contains_iff_mem,List.contains_iff_mem,List.mem_append,List.mem_append,List.mem_reverse,List.mem_reverse,List.mem_cons]
  constructor
  ·rintro(z|z)
   ·exact .inl (.inr z)
   ·exact .inr z
  ·rintro((z|z)|z)
   ·exact absurd z e
   ·exact .inl z
   ·exact .inr z
inductive spBr (a:Adr) (m:Nat) (vs:List V) (H:Hp) (Q:VK) (E:XK):Prop
 |mk (r q kd fn:Addr) (ds bl:Box) (n:Nat) (t:Toks) (Kn:Vbemac.Known) (B:Vbemac.Blocks) (d fuel:Nat) (_:vs=[.ref r, .int d]) (_:d<=6) (_:7<=d+m) (_:16*t.length<=fuel) (_:PSt a H r q kd fn ds bl n t Kn) (_:Bk bl B) (_:bl.c.length+t.length<=4000) (_:W (Vbemac.sign "{">>=fun _=>stmts fuel (6-d) Kn B) t (fun l t'=>t'.length<t.length-> ∀H' v n' c',Bk (bl.at_ c') l.2->c'.length+t'.length<=4000->PSt a H' r q kd fn ds (bl.at_ c') n' t' Kn->je_ (Mut r kd fn ds bl) H H'->(∃us,ql_ (Mut r kd fn ds bl) H' us v/\yn_ a (Mut r kd fn ds bl) H' l.1 us)->Q v H') (QE a r kd fn ds bl H E)):spBr a m vs H Q E
inductive spStD (a:Adr) (m:Nat) (ok:Toks->Prop) (vs:List V) (H:Hp) (Q:VK) (E:XK):Prop
 |mk (r q kd fn:Addr) (ds bl:Box) (n:Nat) (t:Toks) (Kn:Vbemac.Known) (B:Vbemac.Blocks) (d fuel:Nat) (_:vs=[.ref r, .int d]) (_:d<=6) (_:7<=d+m) (_:ok t) (_:16*t.length+14<=fuel) (_:StB a r q kd fn ds bl n t Kn B H Q E (stmt fuel (6-d) Kn B)):spStD a m ok vs H Q E
abbrev StL (a:Adr) (M:Addr->Prop) (H:Hp) (ss:List Vbemac.Stmt) (us:List V):Prop:=Paired (fun s v=>yx_ a M H s v) ss us
theorem stL_at {a:Adr} {M:Addr->Prop} {H:Hp} : ∀ {ss:List Vbemac.Stmt} {us:List V},StL a M H ss us->yn_ a M H (toS ss .nil) us
 |_,_, .nil=>by unfold toS yn_;rfl
 |_,_, .cons h t=>by unfold toS yn_;exact⟨_,_,rfl,h,stL_at t⟩
section
variable {P:Program} {w:World} {K:PySem.W.Frag} {mg:Str->Option Value} {base:Heap} {a:Adr} {k m:Nat}
theorem ok_z49 (T:Txt K mg a) (XC:XT K a) (IL:IsLet K a) (hk:7<=k)
  (G_z22:ju_ P w K mg base (CXF P w) k a.f_z22 a.fd_z22 ["reader","depth"] (spStD a m fun _=>True)):
  ju_ P w K mg base (CXF P w) (k+1) a.f_z49 a.fd_z49 ["reader","depth"] (spBr a m):=by
 have G_z29:=yq_ (P:=P) (w:=w) (base:=base) T XC
 have G_z45:=qt_ (P:=P) (w:=w) (base:=base) T XC
 have G_z30:=j09_ (P:=P) (w:=w) (base:=base) T
 refine okX T.F_z49 sc_z49 (fun vs H Q E h=>?_) (fun cdv A outer s H vs Q E hr h=>?_)
 ·obtain⟨r,q,kd,fn,ds,bl,n,t,Kn,B,d,fuel,rfl,_⟩:=h
  rfl
 ·obtain⟨r,q,kd,fn,ds,bl,n,t,Kn,B,d,fuel,rfl,hd,hm,hf,S,hB,hBl,hW⟩:=h
  refine⟨_,(j2_ (jd_ (jb_ (pv 0) T.cl_Reader T.me_z29 G_z29 (hr.mono (by omega)) T.b_z29 .nil j6_ (j0_ jk_ j5_)))
    (j2_ (jg_ (i:=2) sc_z49.nd rfl (Or.inl rfl) (uu_ j5_))
    (j2_ (u6_ PassesOwn.leaving (wj_ (yc_ (jb_ (pv 0) T.cl_Reader T.me_z45 G_z45 (hr.mono (by omega)) T.b_z45 .nil j6_ (j0_ jk_ j5_)))) (j7_ (jd_ (pe_bm PySem.F.plainAttrs_list PySem.F.slot_list_append PySem.F.type_list_append qc_ (pv 2) (j0_ (j9_ G_z22 (hr.mono (by omega)) (by rfl) T.m_z22 T.F_z22.kp T.b_z22 .nil j6_ (j0_ (pv 0) (j0_ (pv 1) j5_))) j5_)))))
    (j2_ (jd_ (jb_ (pv 0) T.cl_Reader T.me_z29 G_z29 (hr.mono (by omega)) T.b_z29 .nil j6_ (j0_ jk_ j5_)))
    (j2_ (ps_for PassesOwn.leaving rfl (pi_list (pv 2)) (pg_name (i:=3) sc_z49.nd rfl (Or.inl rfl)) (j7_ (yg_ (yc_ (yw_ call_isin (by rfl) T.n_isinstance boot_isinstance (j0_ (pv 3) (j0_ (pe_gr (by rfl) T.mg_Let) j5_)))) (j7_ (jd_ (jb_ (pv 0) T.cl_Reader T.me_z30 G_z30 (hr.mono (by omega)) T.b_z30 .nil yr_ (j0_ (yf_ (pv 3) rfl) j5_)))) ji_)))
    (j7_ (jh_ (pv 2)))))))),?_⟩
  have room:=S.kn.len
  obtain⟨dr,er⟩:=S.rd.ins
  refine⟨_,rfl,r,dr,_,rfl,er,rfl,?_⟩
  unfold j14_ ua_ tC
  dsimp only[List.append_nil]
  refine qy_ litLb S (fun k x z=>z H je_.refl) hW fun H1 t1 l1 S1 k1 hW1=>?_
  refine⟨Nat.zero_le _,fun L hL=>?_⟩
  have nL: ¬Mut r kd fn ds bl L:=S1.fresh hL
  have nq:L≠q:=fun z=>by obtain⟨as,all,h1,_⟩:=S1.rd.toks;rw[z,h1] at hL;cases hL
  have H0L:H L=none:=by
   cases e:H L with
   |none=>rfl
   |some o=>rw[k1 L o e nL] at hL;cases hL
  have ap: ∀zs,¬bl.x L zs:=fun zs z=>by rw[S1.fr L zs z] at hL;cases hL
  have S2:PSt a (upd H1 L (.lst [])) r q kd fn ds ((bl.at_ bl.c).more L []) (n+1) t1 Kn:=(S1.same (yj_ hL)).more j4_
  have k02:je_ (Mut r kd fn ds bl) H (upd H1 L (.lst [])):=k1.trans (OS.vq_.keeps (yj_ hL))
  let Ro:Vbemac.Stmts×Vbemac.Blocks->Toks->Prop:=fun l t'=>t'.length<t.length-> ∀H' v n' c',Bk (bl.at_ c') l.2->c'.length+t'.length<=4000->PSt a H' r q kd fn ds (bl.at_ c') n' t' Kn->je_ (Mut r kd fn ds bl) H H'->(∃us,ql_ (Mut r kd fn ds bl) H' us v/\yn_ a (Mut r kd fn ds bl) H' l.1 us)->Q v H'
  let Iv:List Vbemac.Stmt->List V->Vbemac.Known->Vbemac.Blocks->List (Key×V)->Nat->Toks->Nat->Hp->Prop:=fun ss us K1 B1 c1 n1 t1 f1 H'=>us.length+t1.length<t.length/\PSt a H' r q kd fn ds ((bl.at_ c1).more L us) n1 t1 K1/\Bk (bl.at_ c1) B1/\c1.length+t1.length<=4000/\16*t1.length+15<=f1/\
   je_ (Mut r kd fn ds bl) H H'/\StL a (Mut r kd fn ds (bl.more L us)) H' ss us/\LetsOk Kn ss K1/\W (stmts f1 (6-d) K1 B1) t1 (fun l t'=>Ro (toS ss l.1,l.2) t') (QE a r kd fn ds bl H E)
  refine⟨fun mm σ H'=> ∃(ss:List Vbemac.Stmt) (us:List V) (K1:Vbemac.Known) (B1:Vbemac.Blocks) (c1:List (Key×V)) (n1:Nat) (t1:Toks) (f1:Nat),mm=t1.length/\σ=[some (.ref r),some (.int d),some (.ref L),none]/\Iv ss us K1 B1 c1 n1 t1 f1 H',
   ⟨_,[],[],Kn,B,bl.c,_,t1,fuel,rfl,rfl,by show 0+t1.length<_;omega,S2,hB,by omega,by omega,k02, .nil,LetsOk.nil,hW1⟩,?_⟩
  rintro mm σ H3 ⟨ss,us,K1,B1,c1,n3,t3,f3,rfl,rfl,ul,S3,hB3,hc3,hf3,k03,sv,lo,w3⟩
  obtain⟨f3,rfl⟩: ∃f',f3=f'+1:=⟨f3-1,by omega⟩
  obtain⟨dr3,er3⟩:=S3.rd.ins
  refine⟨_,rfl,r,dr3,_,rfl,er3,rfl,?_⟩
  refine see_sign litRb S3 (fun b=>(stmts_strict _ _ _ _).at_bad b w3 H3 k03) fun nb=>⟨_,rfl,?_⟩
  cases hs:isSign t3 "}" with
  |false=>
   refine⟨fun σ' H'=> ∃(ss:List Vbemac.Stmt) (us:List V) (K1:Vbemac.Known) (B1:Vbemac.Blocks) (c1:List (Key×V)) (n1:Nat) (t1:Toks) (f1:Nat),t1.length<t3.length/\σ'=[some (.ref r),some (.int d),some (.ref L),none]/\Iv ss us K1 B1 c1 n1 t1 f1 H',?_,?_⟩
   ·rintro σ' H' ⟨ss',us',K',B',c',n',t',f',l',rfl,I'⟩
    exact⟨_,l',ss',us',K',B',c',n',t',f',rfl,rfl,I'⟩
   have w4:=j04_ (stmts_go hs) w3
   have w4:=W_and (W3.of (fun s=>(stmts_strict f3 (6-d) s.2.1 s.2.2).bind) w4) (stmt_kn f3 (6-d) K1 B1 t3)
   refine⟨_,rfl, .inl ⟨rfl,_,SqL.of S3.the⟩,?_⟩
   refine⟨_,rfl,_,rfl,r,q,kd,fn,ds,(bl.at_ c1).more L us,n3,t3,K1,B1,d,f3,rfl,hd,hm,True.intro,by omega,S3,hB3,hc3,?_⟩
   unfold W3
   refine w4.mono (fun x t4 z=>⟨fun b=>?_,fun l4 H4 v n4 c4 hB4 hc4 S4 k4 ev4=>?_⟩) fun _ _ z H' k'=>z.1 H' (k03.cut k' H0L)
   ·exact fun H' k'=>z.1.1 b H' (k03.cut k' H0L)
   have S4:PSt a H4 r q kd fn ds ((bl.at_ c4).more L us) n4 t4 x.2.1:=S4
   have k04:=k03.cut k4 H0L
   refine⟨L,_,_,rfl,rfl,S4.the,Nat.lt_of_le_of_lt (show us.length<=4000 by omega) (by decide),?_⟩
   have w5:=z.1.2
   dsimp only at w5
   rw[jj_] at w5
   refine⟨ss++[x.1],us++[v],x.2.1,x.2.2,c4,n4,t4,f3,l4,rfl,by rw[List.length_append,List.length_singleton];omega,S4.write ap nq,hB4,hc4,by omega,fun b o e m=>?_,?_,lo.snoc z.2,?_⟩
   ·rw[j3_ fun z=>by rw[z,H0L] at e;cases e]
    exact k04 b o e m
   ·have up:qk_ (Mut r kd fn ds (bl.more L us)) (Mut r kd fn ds (bl.more L (us++[v]))) H4 (upd H4 L (.lst (us++[v]))):=fun b o e m=>⟨fun z=>m (mut_other z),by rw[j3_ fun z=>m (by rw[z];exact qe_)];exact e⟩
    have up3:qk_ (Mut r kd fn ds (bl.more L us)) (Mut r kd fn ds (bl.more L (us++[v]))) H3 (upd H4 L (.lst (us++[v]))):=fun b o e m=>up b o (k4 b o e m) m
    exact qf_ (Paired.mapP sv fun s v h=>yx_.keep2 up3 _ h) (yx_.keep2 up _ ev4)
   ·simp only[toS_snoc]
    exact w5
  |true=>
   rw[j0n_ (stmts_end hs)] at w3
   obtain⟨⟨x,xp⟩,t5,rfl,tok,hpk,hpl,_⟩:=S3.wh.first
   obtain rfl:x= .sign (text "}"):=beq_iff_eq.mp hs
   refine⟨_,rfl,r,dr3,_,rfl,er3,rfl,?_⟩
   refine at_sign litRb S3 fun H5 S5 k5=>?_
   have eK:K1=Kof Kn ss:=by
    obtain⟨v1,f1⟩:=K1
    unfold Kof
    rw[<-lo.vals,<-lo.funs]
   rw[eK] at S5
   have hR:Ro (toS ss .nil,B1) t5:=w3
   refine⟨_,rfl,L,rfl,⟨_,SqL.of S5.the⟩,for_list (K:=K) (a:=L) (xs:=us) (fun i σ H'=> ∃v:Option V,σ=[some (.ref r),some (.int d),some (.ref L),v]/\PSt a H' r q kd fn ds ((bl.at_ c1).more L us) (n3+1) t5 (Kof Kn (ss.drop i))/\je_ (Mut r kd fn ds (bl.more L us)) H3 H') ⟨none,rfl,S5,k5⟩ (fun i σ H' _ ⟨_,_,S',_⟩=>SqL.of S'.the) ?_ ?_⟩
   ·rintro i y σ H6 hi ⟨v,rfl,S6,k6⟩
    obtain⟨s,hs,sa⟩:=j10_ sv hi
    have sa6:=yx_.keep2 k6.two _ sa
    have ed:ss.drop i=s::ss.drop (i+1):=by
     obtain⟨h,e⟩:=List.getElem?_eq_some_iff.mp hs
     rw[<-e]
     exact List.drop_eq_getElem_cons h
    rw[ed] at S6
    obtain⟨C,ty,kit⟩:=IL.of sa6
    refine⟨_,rfl,_,_,_,_,rfl,ty,kit,_,rfl,?_⟩
    cases hl:letOf s with
    |none=>
     refine ur_ ?_
     refine⟨_,rfl,?_,k6⟩
     have e:Kof Kn (s::ss.drop (i+1))=Kof Kn (ss.drop (i+1)):=by
      unfold Kof lets
      rw[List.filterMap_cons,hl]
     rw[e] at S6
     exact S6
    |some x=>
     refine j0q_ ?_
     obtain⟨dr6,er6⟩:=S6.rd.ins
     obtain⟨kb,kb1,_,_⟩:=S6.kn.vals
     obtain⟨e1,rfl⟩: ∃e1,s= .bind x e1:=by
      cases s with
      |bind y e1=>cases hl;exact⟨e1,rfl⟩
      |loop _ _ _ _=>cases hl
      |cond _ _ _=>cases hl
      |step _ _ _ _ _ _=>cases hl
      |block _ _ _ _ _ _ _ _=>cases hl
     have el:lets (Vbemac.Stmt.bind x e1::ss.drop (i+1))=x::lets (ss.drop (i+1)):=rfl
     have sub:(x::lets (ss.drop (i+1))).Sublist (lets ss):=by
      rw[<-el,<-ed]
      exact(List.drop_sublist i ss).filterMap letOf
     have nd:=sub.nodup lo.nodup
     have nin:=(List.nodup_cons.mp nd).1
     have nV:=lo.free x (sub.subset (List.mem_cons_self ..))
     obtain⟨hu,S7⟩:=S6.forgetG (u:=x) (K2:=Kof Kn (ss.drop (i+1))) (by
      unfold Kof
      rw[el]
      exact List.contains_iff_mem.mpr (List.mem_append.mpr (.inl (List.mem_reverse.mpr (List.mem_cons_self ..))))) rfl (by
      unfold Kof
      rw[el]
      simp only[List.length_append,List.length_reverse,List.length_cons]
      omega) (fun v=>by
      unfold Kof
      rw[el]
      exact forget_vals nin nV v) kb1
     unfold yx_ at sa6
     obtain⟨ue,⟨p,dx,rfl,mp,zp⟩,_⟩:=sa6
     refine⟨_,rfl,r,dr6,_,rfl,er6,rfl,_,rfl,p,_,dx,_,_,rfl,zp,T.cl_Let,T.no_Let_name,rfl,r,dr6,q,kd,fn,ds,_,_,x,kb,rfl,er6,kb1,hu,?_⟩
     exact⟨_,rfl,S7,k6.trans fun b o e m=>by rw[j3_ fun z=>m (.inr (.inl z))];exact e⟩
   ·rintro σ H6 ⟨v,rfl,S6,k6⟩
    have ed:ss.drop us.length=[]:=by rw[<-j0m_ sv];exact List.drop_length
    rw[ed] at S6
    have S6:PSt a H6 r q kd fn ds ((bl.at_ c1).more L us) (n3+1) t5 Kn:=S6
    refine⟨_,rfl,hR (by rw[List.length_cons] at ul;omega) H6 (.ref L) _ c1 hB3 (by rw[List.length_cons] at hc3;omega) S6.less (k03.cut k6 H0L) ⟨us,⟨L,rfl,nL,S6.the⟩,stL_at (Paired.mapP sv fun s v h=>yx_.keep2 (fun b o e m=>⟨fun z=>m (yu_ z),k6 b o e m⟩) _ h)⟩⟩
end
end OS
namespace OS
open PySem PySem.Spec L2
open PyProof.Rows hiding St
open Vbemac (Bytes Toks SIGNS KEYS peek place text isSign isKey expr newName anyName DEEP stmt stmts)
theorem litFor:j0o_ "for" (text "for"):=⟨by decide+kernel,by decide+kernel,by decide+kernel⟩
section
variable {a:Adr} {H:Hp} {r q kd fn:Addr} {ds bl:Box} {n:Nat} {t:Toks} {Kn:Vbemac.Known} {β:Type} {E:XK} {Q:VK} {Qe:Nat->Vbemac.Pos->Prop}
theorem db_step {d:Nat} {g:Nat->Vbemac.P β} {Ro:β->Toks->Prop} (hd:d<=6) (S:PSt a H r q kd fn ds bl n t Kn) (nb:peek t≠ .bad) (hq: ∀k x,Qe k x->Flt a.c_Fault E H k x) (hW:W (Vbemac.deeper (6-d)>>=g) t Ro Qe)
  (cont:d<6->W (g (6-(d+1))) t Ro Qe->Q (.int ((d+1:Nat):Int)) H):spDeepB a [.ref r, .int d] H Q E:=by
 obtain⟨⟨x,xp⟩,t',rfl,tok,hpk,hpl,_⟩:=S.wh.first
 rw[jj_] at hW
 have nx:x≠ .bad:=nb
 refine⟨r,q,kd,fn,ds,bl,n,(x,xp),t',d,rfl,S.rd,fun e=>?_,fun e=>?_⟩
 ·rw[if_neg nx]
  exact hq _ _ (yl_ (p:=Vbemac.deeper (6-d)) (n:=6) (by unfold Vbemac.deeper;rw[if_pos (by omega)]) nb hW)
 ·have ed:Vbemac.deeper (6-d) ((x,xp)::t')= .ok (6-(d+1),(x,xp)::t'):=by unfold Vbemac.deeper;rw[if_neg (by omega),show 6-d-1=6-(d+1) by omega]
  rw[j0n_ ed] at hW
  exact cont (by omega) hW
end
theorem W_br {β:Type} {f d:Nat} {K:Vbemac.Known} {B:Vbemac.Blocks} {g:Vbemac.Stmts×Vbemac.Blocks->Vbemac.P β} {t:Toks} {Ro:β->Toks->Prop} {Qe:Nat->Vbemac.Pos->Prop} (h:W (Vbemac.sign "{">>=fun _=>stmts f d K B>>=g) t Ro Qe):
  W (Vbemac.sign "{">>=fun _=>stmts f d K B) t (fun l t'=>W (g l) t' Ro Qe) Qe:=by
 rw[jj_] at h ⊢
 refine h.mono (fun u t1 h=>?_) fun _ _ z=>z
 rw[jj_] at h
 exact h
section
variable {P:Program} {w:World} {K:PySem.W.Frag} {mg:Str->Option Value} {base:Heap} {a:Adr} {k m:Nat}
theorem ok_z73 (T:Txt K mg a) (XC:XT K a) (hk:7<=k) (G_z68:ExpOk P w K mg base a k)
  (G_z49:ju_ P w K mg base (CXF P w) k a.f_z49 a.fd_z49 ["reader","depth"] (spBr a m)):
  ju_ P w K mg base (CXF P w) (k+1) a.f_z73 a.fd_z73 ["reader","depth"] (spStD a (m+1) fun t=>isKey t "let"=false/\isKey t "for"=true):=by
 have G_z32:=ok_z32 (P:=P) (w:=w) (base:=base) T XC
 have G_z29:=yq_ (P:=P) (w:=w) (base:=base) T XC
 have G_z2:=yh_ (P:=P) (w:=w) (base:=base) T XC
 have G_z38:=j0j_ (P:=P) (w:=w) (base:=base) T
 have G_z30:=j09_ (P:=P) (w:=w) (base:=base) T
 have G_z35:=ok_For_init (P:=P) (w:=w) (base:=base) T
 refine okX T.F_z73 sc_z73 (fun vs H Q E h=>?_) (fun cdv A outer s H vs Q E hr h=>?_)
 ·obtain⟨r,q,kd,fn,ds,bl,n,t,Kn,B,d,fuel,rfl,_⟩:=h
  rfl
 ·obtain⟨r,q,kd,fn,ds,bl,n,t,Kn,B,d,fuel,rfl,hd,hm,⟨c1,hkw⟩,hf,S,hB,hBl,hW⟩:=h
  refine⟨_,(j2_ (jg_ (i:=2) sc_z73.nd rfl (Or.inl rfl) (j9_ G_z32 (hr.mono (by omega)) (by rfl) T.m_z32 T.F_z32.kp T.b_z32 .nil j6_ (j0_ (pv 0) (j0_ (pv 1) j5_))))
    (j2_ (jd_ (jb_ (pv 0) T.cl_Reader T.me_z29 G_z29 (hr.mono (by omega)) T.b_z29 .nil j6_ (j0_ jk_ j5_)))
    (j2_ (jg_ (i:=3) sc_z73.nd rfl (Or.inl rfl) (jn_ (pv 0) T.cl_Reader T.me_z2 G_z2 (hr.mono (by omega)) T.b_z2 .nil j6_))
    (j2_ (jd_ (jb_ (pv 0) T.cl_Reader T.me_z29 G_z29 (hr.mono (by omega)) T.b_z29 .nil j6_ (j0_ jk_ j5_)))
    (j2_ (jg_ (i:=4) sc_z73.nd rfl (Or.inl rfl) (j9_ G_z68 (hr.mono (by omega)) (by rfl) T.m_z68 T.F_z68.kp T.b_z68 .nil j6_ (j0_ (pv 0) (j0_ jr_ j5_))))
    (j2_ (jd_ (jb_ (pv 0) T.cl_Reader T.me_z29 G_z29 (hr.mono (by omega)) T.b_z29 .nil j6_ (j0_ jk_ j5_)))
    (j2_ (jg_ (i:=5) sc_z73.nd rfl (Or.inl rfl) (j9_ G_z68 (hr.mono (by omega)) (by rfl) T.m_z68 T.F_z68.kp T.b_z68 .nil j6_ (j0_ (pv 0) (j0_ jr_ j5_))))
    (j2_ (jd_ (jb_ (pv 0) T.cl_Reader T.me_z38 G_z38 (hr.mono (by omega)) T.b_z38 .nil yr_ (j0_ (pv 3) j5_)))
    (j2_ (jg_ (i:=6) sc_z73.nd rfl (Or.inl rfl) (j9_ G_z49 (hr.mono (by omega)) (by rfl) T.m_z49 T.F_z49.kp T.b_z49 .nil j6_ (j0_ (pv 0) (j0_ (pv 2) j5_))))
    (j2_ (jd_ (jb_ (pv 0) T.cl_Reader T.me_z30 G_z30 (hr.mono (by omega)) T.b_z30 .nil yr_ (j0_ (pv 3) j5_)))
    (j7_ (jh_ (vf_ T.mk_For G_z35 (hr.mono (by omega)) (by rfl) T.mg_For T.b_z35 .nil yr_ (j0_ (pv 3) (j0_ (pv 4) (j0_ (pv 5) (j0_ (pv 6) j5_))))))))))))))))),?_⟩
  obtain⟨⟨x,xp⟩,t',rfl,tok,hpk,hpl,_⟩:=S.wh.first
  obtain rfl:x= .word (text "for"):=beq_iff_eq.mp hkw
  have nb:peek ((.word (text "for"),xp)::t')≠ .bad:=fun z=>nomatch z
  have room:=S.kn.len
  rw[List.length_cons] at hf room hBl
  obtain⟨f,rfl⟩: ∃f,fuel=f+1:=⟨fuel-1,by omega⟩
  have hW:=W3_as (stmt_for c1 hkw) hW
  unfold W3 at hW
  refine⟨_,rfl,_,rfl,?_⟩
  unfold j14_ ua_ tC
  dsimp only[List.append_nil]
  refine db_step hd S nb (fun k x z=>z H je_.refl) hW fun lt hW=>?_
  have hW:=W_nx hW
  obtain⟨dr,er⟩:=S.rd.ins
  refine⟨_,rfl,r,dr,_,rfl,er,rfl,?_⟩
  refine at_step litFor S fun H1 S1 k1=>?_
  obtain⟨dr1,er1⟩:=S1.rd.ins
  refine⟨_,rfl,r,dr1,_,rfl,er1,rfl,?_⟩
  refine nm_step S1 (fun k x z=>z H1 k1) hW fun u H2 t2 l2 ft S2 k2 hW2=>?_
  have k02:=k1.trans k2
  obtain⟨dr2,er2⟩:=S2.rd.ins
  refine⟨_,rfl,r,dr2,_,rfl,er2,rfl,?_⟩
  refine ky_step litIn S2 (fun k x z=>z H2 k02) hW2 fun H3 t3 l3 S3 k3 hW3=>?_
  have k03:=k02.trans k3
  have h3:=W2.of (fun _=>(jy_ "..").bind) hW3
  refine⟨_,rfl,r,q,kd,fn,ds,bl,_,t3,Kn,0,f,rfl,Nat.zero_le _,lv13,S3,by omega,h3.mono (fun e1 t4 nb4 hW4 H4 v1 n4 l4 S4 k4 ev1=>?_) fun _ _ z H' k'=>z H' (k03.trans k')⟩
  have k04:=k03.trans k4
  obtain⟨dr4,er4⟩:=S4.rd.ins
  refine⟨_,rfl,r,dr4,_,rfl,er4,rfl,?_⟩
  refine qy_ litDD S4 (fun k x z=>z H4 k04) hW4 fun H5 t5 l5 S5 k5 hW5=>?_
  have k05:=k04.trans k5
  have h5:=W2.of (fun _=>(jy_ "{").bind) hW5
  refine⟨_,rfl,r,q,kd,fn,ds,bl,_,t5,Kn,0,f,rfl,Nat.zero_le _,lv13,S5,by omega,h5.mono (fun e2 t6 nb6 hW6 H6 v2 n6 l6 S6 k6 ev2=>?_) fun _ _ z H' k'=>z H' (k05.trans k')⟩
  have k06:=k05.trans k6
  have fv:Kn.values.contains u=false:=by
   unfold Vbemac.Known.taken at ft
   cases h:Kn.values.contains u with
   |false=>rfl
   |true=>rw[h] at ft;cases ft
  obtain⟨dr6,er6⟩:=S6.rd.ins
  obtain⟨kk,kk1,kk2,kk3⟩:=S6.kn.vals
  have S7:=S6.learn (u:=u) fv (by omega) kk1
  have k67:je_ (Mut r kd fn ds bl) H6 (upd H6 kd (.dK (j0l_ kk (nk u) (.bl true)))):=fun b o e m=>by rw[j3_ fun z=>m (.inr (.inl z))];exact e
  refine⟨_,rfl,r,dr6,_,rfl,er6,rfl,_,rfl,r,dr6,q,kd,fn,ds,bl,_,u,kk,rfl,er6,kk1,Nat.lt_of_le_of_lt (show kk.length<=4000 by omega) (by decide),?_⟩
  have k07:=k06.trans k67
  have h7:=W_br hW6
  refine⟨_,rfl,_,rfl,r,q,kd,fn,ds,bl,_,t6,Kn.with u,B,d+1,f,rfl,lt,by omega,by omega,S7,hB,by omega,h7.mono (fun l t8 hW8 l8 H8 v3 n8 c8 hB8 hc8 S8 k8 sv8=>?_) fun _ _ z H' k'=>z H' (k07.trans k')⟩
  obtain⟨us,la,sa⟩:=sv8
  have k08:=k07.trans k8
  obtain⟨dr8,er8⟩:=S8.rd.ins
  obtain⟨kb,kb1,_,_⟩:=S8.kn.vals
  obtain⟨hu,S9⟩:=S8.forget (u:=u) fv kb1
  have k89:je_ (Mut r kd fn ds bl) H8 (upd H8 kd (.dK (wt_ kb (nk u)))):=fun b o e m=>by rw[j3_ fun z=>m (.inr (.inl z))];exact e
  refine⟨_,rfl,r,dr8,_,rfl,er8,rfl,_,rfl,r,dr8,q,kd,fn,ds,bl,_,u,kb,rfl,er8,kb1,hu,?_⟩
  refine⟨_,rfl,_,rfl,_,rfl,_,rfl,?_⟩
  intro p dx hp hdx ne
  refine⟨p,dx,_,_,_,_,rfl,j4_,fun Hd hd' kd'=>⟨rfl,?_⟩⟩
  have scd:=yz_ hp hdx kd'
  have k8d:=k89.trans (OS.vq_.keeps (M:=Mut r kd fn ds bl) scd)
  have k6d:=k67.trans (k8.trans k8d)
  have k4d:=k5.trans (k6.trans k6d)
  have hW8:_/\_:=hW8
  refine hW8.2 (by rw[List.length_cons];omega) Hd (.ref p) _ c8 hB8 hc8 (S9.same scd) (k04.trans k4d) ?_
  unfold yx_
  exact⟨v1,v2,v3,us,⟨p,dx,rfl,S9.fresh hp,hd'⟩,ja_.keep k4d _ ev1,ja_.keep k6d _ ev2,la.keep k8d.two,yn_.keep2 k8d.two _ sa⟩
theorem ok_z74 (T:Txt K mg a) (XC:XT K a) (hk:7<=k) (G_z68:ExpOk P w K mg base a k)
  (G_z49:ju_ P w K mg base (CXF P w) k a.f_z49 a.fd_z49 ["reader","depth"] (spBr a m)):
  ju_ P w K mg base (CXF P w) (k+1) a.f_z74 a.fd_z74 ["reader","depth"] (spStD a (m+1) fun t=>isKey t "let"=false/\isKey t "for"=false/\isKey t "if"=true):=by
 have G_z32:=ok_z32 (P:=P) (w:=w) (base:=base) T XC
 have G_z29:=yq_ (P:=P) (w:=w) (base:=base) T XC
 have G_z37:=ok_skips (P:=P) (w:=w) (base:=base) T XC
 have G_z41:=ok_If_init (P:=P) (w:=w) (base:=base) T
 refine okX T.F_z74 sc_z74 (fun vs H Q E h=>?_) (fun cdv A outer s H vs Q E hr h=>?_)
 ·obtain⟨r,q,kd,fn,ds,bl,n,t,Kn,B,d,fuel,rfl,_⟩:=h
  rfl
 ·obtain⟨r,q,kd,fn,ds,bl,n,t,Kn,B,d,fuel,rfl,hd,hm,⟨c1,c2,hkw⟩,hf,S,hB,hBl,hW⟩:=h
  refine⟨_,(j2_ (jg_ (i:=2) sc_z74.nd rfl (Or.inl rfl) (j9_ G_z32 (hr.mono (by omega)) (by rfl) T.m_z32 T.F_z32.kp T.b_z32 .nil j6_ (j0_ (pv 0) (j0_ (pv 1) j5_))))
    (j2_ (jd_ (jb_ (pv 0) T.cl_Reader T.me_z29 G_z29 (hr.mono (by omega)) T.b_z29 .nil j6_ (j0_ jk_ j5_)))
    (j2_ (jg_ (i:=3) sc_z74.nd rfl (Or.inl rfl) (j9_ G_z68 (hr.mono (by omega)) (by rfl) T.m_z68 T.F_z68.kp T.b_z68 .nil j6_ (j0_ (pv 0) (j0_ jr_ j5_))))
    (j2_ (jg_ (i:=4) sc_z74.nd rfl (Or.inl rfl) (j9_ G_z49 (hr.mono (by omega)) (by rfl) T.m_z49 T.F_z49.kp T.b_z49 .nil j6_ (j0_ (pv 0) (j0_ (pv 2) j5_))))
    (j2_ (jg_ (i:=5) sc_z74.nd rfl (Or.inl rfl) (uu_ j5_))
    (j2_ (ps_join (yg_ (yc_ (jb_ (pv 0) T.cl_Reader T.me_z37 G_z37 (hr.mono (by omega)) T.b_z37 .nil j6_ (j0_ jk_ j5_))) (j7_ (jg_ (i:=5) sc_z74.nd rfl (Or.inl rfl) (j9_ G_z49 (hr.mono (by omega)) (by rfl) T.m_z49 T.F_z49.kp T.b_z49 .nil j6_ (j0_ (pv 0) (j0_ (pv 2) j5_))))) ji_))
    (j7_ (jh_ (vf_ T.mk_If G_z41 (hr.mono (by omega)) (by rfl) T.mg_If T.b_z41 .nil yr_ (j0_ (pv 3) (j0_ (pv 4) (j0_ (pv 5) j5_)))))))))))),?_⟩
  obtain⟨⟨x,xp⟩,t',rfl,tok,hpk,hpl,_⟩:=S.wh.first
  obtain rfl:x= .word (text "if"):=beq_iff_eq.mp hkw
  have nb:peek ((.word (text "if"),xp)::t')≠ .bad:=fun z=>nomatch z
  have room:=S.kn.len
  rw[List.length_cons] at hf room hBl
  obtain⟨f,rfl⟩: ∃f,fuel=f+1:=⟨fuel-1,by omega⟩
  have hW:=W3_as (stmt_if c1 c2 hkw) hW
  unfold W3 at hW
  refine⟨_,rfl,_,rfl,?_⟩
  unfold j14_ ua_ tC
  dsimp only[List.append_nil]
  refine db_step hd S nb (fun k x z=>z H je_.refl) hW fun lt hW=>?_
  have hW:=W_nx hW
  obtain⟨dr,er⟩:=S.rd.ins
  refine⟨_,rfl,r,dr,_,rfl,er,rfl,?_⟩
  refine at_step litIf S fun H1 S1 k1=>?_
  have h1:=W2.of (fun _=>(jy_ "{").bind) hW
  refine⟨_,rfl,r,q,kd,fn,ds,bl,_,t',Kn,0,f,rfl,Nat.zero_le _,lv13,S1,by omega,h1.mono (fun e1 t2 nb2 hW2 H2 v1 n2 l2 S2 k2 ev1=>?_) fun _ _ z H' k'=>z H' (k1.trans k')⟩
  have k02:=k1.trans k2
  have h2:=W_br hW2
  refine⟨_,rfl,_,rfl,r,q,kd,fn,ds,bl,_,t2,Kn,B,d+1,f,rfl,lt,by omega,by omega,S2,hB,by omega,h2.mono (fun l3 t3 hW3 l3' H3 v3 n3 c3 hB3 hc3 S3 k3 sv3=>?_) fun _ _ z H' k'=>z H' (k02.trans k')⟩
  obtain⟨us3,la3,sa3⟩:=sv3
  have k03:=k02.trans k3
  refine⟨Nat.zero_le _,fun L hL=>?_⟩
  have nL: ¬Mut r kd fn ds bl L:=S3.fresh hL
  have s34:=yj_ hL (o:= .lst [])
  have S4:=S3.same s34
  have k34:je_ (Mut r kd fn ds bl) H3 (upd H3 L (.lst [])):=OS.vq_.keeps s34
  have k04:=k03.trans k34
  have hL4:upd H3 L (.lst []) L=some (.lst []):=j4_
  generalize upd H3 L (.lst [])=H4 at S4 k34 k04 hL4
  unfold condGo at hW3
  rw[jj_] at hW3
  refine⟨fun σ' H'=> ∃(y:Vbemac.Stmts) (B5:Vbemac.Blocks) (v5:V) (us5:List V) (c5:List (Key×V)) (n5:Nat) (t5:Toks),σ'=[some (.ref r),some (.int d),some (.int ((d+1:Nat):Int)),some v1,some v3,some v5]/\t5.length<=t3.length/\Bk (bl.at_ c5) B5/\c5.length+t5.length<=4000/\PSt a H' r q kd fn ds (bl.at_ c5) n5 t5 Kn/\je_ (Mut r kd fn ds bl) H4 H'/\
   ql_ (Mut r kd fn ds bl) H' us5 v5/\yn_ a (Mut r kd fn ds bl) H' y us5/\(t5.length<t'.length+1-> ∀H' v n' c',Bk (bl.at_ c') B5->c'.length+t5.length<=4000->PSt a H' r q kd fn ds (bl.at_ c') n' t5 Kn->je_ (Mut r kd fn ds bl) H H'->yx_ a (Mut r kd fn ds bl) H' (.cond e1 l3.1 y) v->Q v H'),?_,?_⟩
  ·obtain⟨dr4,er4⟩:=S4.rd.ins
   refine⟨_,rfl,r,dr4,_,rfl,er4,rfl,?_⟩
   have ifno:isKey t3 "else"=false->Vbemac.ifKey "else" t3= .ok (false,t3):=fun no=>by unfold Vbemac.ifKey;rw[if_neg (by rw[no];exact Bool.false_ne_true)]
   refine skip_key litElse S4 (fun b=>?_) (fun nb no=>⟨_,rfl,ur_ ?_⟩) fun yes H5 t5 _ l5 d5 S5 k5=>⟨_,rfl,j0q_ ?_⟩
   ·rw[j0n_ (ifno (vg_ b "else")),if_neg Bool.false_ne_true] at hW3
    have hW3:_/\_:=hW3
    exact hW3.1 b H4 k04
   ·rw[j0n_ (ifno no),if_neg Bool.false_ne_true] at hW3
    have hW3:_/\_:=hW3
    exact⟨.nil,l3.2, .ref L,[],c3,n3,t3,rfl,Nat.le_refl _,hB3,hc3,S4,je_.refl,⟨L,rfl,nL,hL4⟩,by unfold yn_;rfl,hW3.2⟩
   ·have ek:Vbemac.ifKey "else" t3= .ok (true,t5):=by unfold Vbemac.ifKey;rw[if_pos yes,d5]
    rw[j0n_ ek,if_pos rfl] at hW3
    have h5:=W_br hW3
    refine⟨_,rfl,_,rfl,r,q,kd,fn,ds,bl.at_ c3,_,t5,Kn,l3.2,d+1,f,rfl,lt,by omega,by omega,S5,hB3,(by show c3.length+t5.length<=4000;omega),h5.mono (fun l6 t6 hW6 l6' H6 v6 n6 c6 hB6 hc6 S6 k6 sv6=>?_) fun _ _ z H' k'=>z H' ((k04.trans k5).trans k')⟩
    obtain⟨us6,la6,sa6⟩:=sv6
    have hW6:_/\_:=hW6
    exact⟨l6.1,l6.2,v6,us6,c6,n6,t6,rfl,by omega,hB6,hc6,S6,k5.trans k6,la6,sa6,hW6.2⟩
  rintro σ5 H5 ⟨y,B5,v5,us5,c5,n5,t5,rfl,l5,hB5,hc5,S5,k5,la5,sa5,hR⟩
  refine⟨_,rfl,_,rfl,_,rfl,?_⟩
  intro p dx hp hdx ne
  refine⟨p,dx,_,_,_,rfl,j4_,fun Hd hd' kd'=>⟨rfl,?_⟩⟩
  have scd:=yz_ hp hdx kd'
  have k5d:je_ (Mut r kd fn ds bl) H5 Hd:=OS.vq_.keeps scd
  have k3d:=k34.trans (k5.trans k5d)
  have k2d:=k3.trans k3d
  refine hR (by omega) Hd (.ref p) _ c5 hB5 hc5 (S5.same scd) (k02.trans k2d) ?_
  unfold yx_
  exact⟨v1,v3,us3,v5,us5,⟨p,dx,rfl,S5.fresh hp,hd'⟩,ja_.keep k2d _ ev1,la3.keep k3d.two,yn_.keep2 k3d.two _ sa3,la5.keep k5d.two,yn_.keep2 k5d.two _ sa5⟩
theorem ok_z22 (T:Txt K mg a) (XC:XT K a) (hk:7<=k)
  (G_z72:ju_ P w K mg base (CXF P w) k a.f_z72 a.fd_z72 ["reader"] (spSt0 a fun t=>isKey t "let"=true))
  (G_z73:ju_ P w K mg base (CXF P w) k a.f_z73 a.fd_z73 ["reader","depth"] (spStD a m fun t=>isKey t "let"=false/\isKey t "for"=true))
  (G_z74:ju_ P w K mg base (CXF P w) k a.f_z74 a.fd_z74 ["reader","depth"] (spStD a m fun t=>isKey t "let"=false/\isKey t "for"=false/\isKey t "if"=true))
  (G_z57:ju_ P w K mg base (CXF P w) k a.f_z57 a.fd_z57 ["reader"] (spSt0 a fun t=>isKey t "let"=false/\isKey t "for"=false/\isKey t "if"=false/\isKey t "block"=true))
  (G_z65:ju_ P w K mg base (CXF P w) k a.f_z65 a.fd_z65 ["reader"] (spSt0 a fun t=>isKey t "let"=false/\isKey t "for"=false/\isKey t "if"=false/\isKey t "block"=false)):
  ju_ P w K mg base (CXF P w) (k+1) a.f_z22 a.fd_z22 ["reader","depth"] (spStD a m fun _=>True):=by
 have G_z45:=qt_ (P:=P) (w:=w) (base:=base) T XC
 refine okX T.F_z22 sc_z22 (fun vs H Q E h=>?_) (fun cdv A outer s H vs Q E hr h=>?_)
 ·obtain⟨r,q,kd,fn,ds,bl,n,t,Kn,B,d,fuel,rfl,_⟩:=h
  rfl
 ·obtain⟨r,q,kd,fn,ds,bl,n,t,Kn,B,d,fuel,rfl,hd,hm,_,hf,SB⟩:=h
  refine⟨_,(j2_ (yg_ (yc_ (jb_ (pv 0) T.cl_Reader T.me_z45 G_z45 (hr.mono (by omega)) T.b_z45 .nil j6_ (j0_ jk_ j5_))) (j7_ (jh_ (j9_ G_z72 (hr.mono (by omega)) (by rfl) T.m_z72 T.F_z72.kp T.b_z72 .nil j6_ (j0_ (pv 0) j5_)))) ji_)
    (j2_ (yg_ (yc_ (jb_ (pv 0) T.cl_Reader T.me_z45 G_z45 (hr.mono (by omega)) T.b_z45 .nil j6_ (j0_ jk_ j5_))) (j7_ (jh_ (j9_ G_z73 (hr.mono (by omega)) (by rfl) T.m_z73 T.F_z73.kp T.b_z73 .nil j6_ (j0_ (pv 0) (j0_ (pv 1) j5_))))) ji_)
    (j2_ (yg_ (yc_ (jb_ (pv 0) T.cl_Reader T.me_z45 G_z45 (hr.mono (by omega)) T.b_z45 .nil j6_ (j0_ jk_ j5_))) (j7_ (jh_ (j9_ G_z74 (hr.mono (by omega)) (by rfl) T.m_z74 T.F_z74.kp T.b_z74 .nil j6_ (j0_ (pv 0) (j0_ (pv 1) j5_))))) ji_)
    (j2_ (yg_ (yc_ (jb_ (pv 0) T.cl_Reader T.me_z45 G_z45 (hr.mono (by omega)) T.b_z45 .nil j6_ (j0_ jk_ j5_))) (j7_ (jh_ (j9_ G_z57 (hr.mono (by omega)) (by rfl) T.m_z57 T.F_z57.kp T.b_z57 .nil j6_ (j0_ (pv 0) j5_)))) ji_)
    (j7_ (jh_ (j9_ G_z65 (hr.mono (by omega)) (by rfl) T.m_z65 T.F_z65.kp T.b_z65 .nil j6_ (j0_ (pv 0) j5_)))))))),?_⟩
  have S:=SB.1
  have hb:peek t= .bad->Flt a.c_Fault E H 1 (place t):=fun b=>(stmt_strict _ _ _ _).at_bad b SB.2.2.2.w H je_.refl
  obtain⟨dr,er⟩:=S.rd.ins
  refine⟨_,rfl,r,dr,_,rfl,er,rfl,?_⟩
  unfold j14_ ua_ tC
  dsimp only[List.append_nil]
  refine wx_ litLet S hb fun nb=>⟨_,rfl,yt_ (fun e1=>?_) fun e1=>?_⟩
  ·exact⟨_,rfl,r,q,kd,fn,ds,bl,n,t,Kn,B,6-d,fuel,rfl,e1,hf,SB⟩
  refine⟨_,rfl,r,dr,_,rfl,er,rfl,?_⟩
  refine wx_ litFor S hb fun nb=>⟨_,rfl,yt_ (fun e2=>?_) fun e2=>?_⟩
  ·exact⟨_,rfl,_,rfl,r,q,kd,fn,ds,bl,n,t,Kn,B,d,fuel,rfl,hd,hm,⟨e1,e2⟩,hf,SB⟩
  refine⟨_,rfl,r,dr,_,rfl,er,rfl,?_⟩
  refine wx_ litIf S hb fun nb=>⟨_,rfl,yt_ (fun e3=>?_) fun e3=>?_⟩
  ·exact⟨_,rfl,_,rfl,r,q,kd,fn,ds,bl,n,t,Kn,B,d,fuel,rfl,hd,hm,⟨e1,e2,e3⟩,hf,SB⟩
  refine⟨_,rfl,r,dr,_,rfl,er,rfl,?_⟩
  refine wx_ litBlock S hb fun nb=>⟨_,rfl,yt_ (fun e4=>?_) fun e4=>?_⟩
  ·exact⟨_,rfl,r,q,kd,fn,ds,bl,n,t,Kn,B,6-d,fuel,rfl,⟨e1,e2,e3,e4⟩,hf,SB⟩
  ·exact⟨_,rfl,r,q,kd,fn,ds,bl,n,t,Kn,B,6-d,fuel,rfl,⟨e1,e2,e3,e4⟩,hf,SB⟩
theorem no_depth {vs:List V} {H:Hp} {Q:VK} {E:XK} (h:spBr a 0 vs H Q E):False:=by
 obtain⟨r,q,kd,fn,ds,bl,n,t,Kn,B,d,fuel,e,hd,hm,_⟩:=h
 omega
theorem ok_braces (T:Txt K mg a) (XC:XT K a) (IL:IsLet K a) (hk:7<=k) (G_z68:ExpOk P w K mg base a k): ∀m:Nat,
  ju_ P w K mg base (CXF P w) (k+3+3*m) a.f_z49 a.fd_z49 ["reader","depth"] (spBr a m):=by
 intro m
 induction m with
 |zero=>exact okX T.F_z49 sc_z49 (fun _ _ _ _ h=>(no_depth h).elim) (fun _ _ _ _ _ _ _ _ _ h=>(no_depth h).elim)
 |succ m ih=>
  have G:=ok_z56 T XC hk G_z68
  have Pa:=ok_z64 T XC hk G_z68
  have Pi:=ok_z3 T XC (by omega) Pa
  have Am:=ok_z40 T XC hk G_z68
  have Le:=ok_z72 T XC (by omega) G
  have St:=ok_z65 T XC (by omega) (Pa.mono (by omega:k+1<=k+1+1)) Pi
  have Bl:=ok_z57 T XC (by omega) (Pa.mono (by omega:k+1<=k+1+1)) Pi (Am.mono (by omega))
  have Fo:=ok_z73 T XC (by omega) (G_z68.mono (by omega:k<=k+3+3*m)) ih
  have If_:=ok_z74 T XC (by omega) (G_z68.mono (by omega:k<=k+3+3*m)) ih
  have Sm:=ok_z22 T XC (by omega) (Le.mono (by omega)) Fo If_ (Bl.mono (by omega)) (St.mono (by omega))
  have:=ok_z49 T XC IL (by omega) Sm
  exact this.mono (by omega)
end
end OS
namespace OS
open PySem PySem.Spec L2
open PyProof.Rows hiding St
open Vbemac (Bytes Toks SIGNS KEYS peek place text isSign isKey expr newName anyName DEEP stmt stmts)
def strV (ps:List Bytes):List V:=ps.map fun p=>V.str (sb p)
def TopAt (a:Adr) (M:Addr->Prop) (H:Hp):Vbemac.Top->V->Prop
 | .const x e,v=> ∃u,qv_ M H a.c_Const [("name", .str (sb x)),("exp",u)] v/\ja_ a M H e u
 | .func x ps e,v=> ∃q u,qv_ M H a.c_Fun [("name", .str (sb x)),("parameters",q),("exp",u)] v/\ql_ M H (strV ps) q/\ja_ a M H e u
 | .desk x l,v=> ∃q us,qv_ M H a.c_Desk [("name", .str (sb x)),("statements",q)] v/\ql_ M H us q/\yn_ a M H l us
theorem TopAt.keep2 {a:Adr} {M M':Addr->Prop} {H H':Hp} (k:qk_ M M' H H'): ∀(x:Vbemac.Top) {v:V},TopAt a M H x v->TopAt a M' H' x v
 | .const x e,v,⟨u,h1,h2⟩=>⟨u,h1.keep k,ja_.keep2 k e h2⟩
 | .func x ps e,v,⟨q,u,h1,h2,h3⟩=>⟨q,u,h1.keep k,h2.keep k,ja_.keep2 k e h3⟩
 | .desk x l,v,⟨q,us,h1,h2,h3⟩=>⟨q,us,h1.keep k,h2.keep k,yn_.keep2 k l h3⟩
def TopCn (a:Adr) (r q kd fn:Addr) (ds bl:Box) (H:Hp) (Q:VK) (m:Nat):TopR->Toks->Prop:=fun x t'=>t'.length<m-> ∀H' v n' dc bl',(∀u,has dc u=x.2.2.2.contains u)->dc.length+t'.length<=4000->bl'.x=bl.x->(bl'.p=bl.p\/H bl'.p=none)->PSt a H' r q kd fn (ds.at_ dc) bl' n' t' x.2.1->x.2.1.funs.length+x.2.2.1=9->
 je_ (Mut r kd fn ds bl) H H'->TopAt a (Mut r kd fn ds bl') H' x.1 v->Q v H'
inductive spTop (a:Adr) (ok:Toks->Prop) (vs:List V) (H:Hp) (Q:VK) (E:XK):Prop
 |mk (r q kd fn:Addr) (ds bl:Box) (n:Nat) (t:Toks) (Kn:Vbemac.Known) (nf:Nat) (D:List Bytes) (fuel:Nat) (_:vs=[.ref r]) (_:ok t) (_:16*t.length<=fuel) (_:PSt a H r q kd fn ds bl n t Kn) (_:(∀u,has ds.c u=D.contains u)) (_:ds.c.length+t.length<=4000) (_:Kn.funs.length+nf=9) (_:W (top1 fuel Kn nf D) t (TopCn a r q kd fn ds bl H Q t.length) (QE a r kd fn ds bl H E)):spTop a ok vs H Q E
theorem litConst:j0o_ "const" (text "const"):=⟨by decide+kernel,by decide+kernel,by decide+kernel⟩
inductive spParam (a:Adr) (vs:List V) (H:Hp) (Q:VK) (E:XK):Prop
 |mk (r q kd fn:Addr) (ds bl:Box) (n:Nat) (t:Toks) (Kn Kf:Vbemac.Known) (fname:Bytes) (_:vs=[.ref r, .str (sb fname)]) (_:j0o_ (sb fname) fname) (_:KEYS.contains fname=false) (_:PSt a H r q kd fn ds bl n t Kn) (_:(∀u,Kf.taken u=(decide (u=fname)||Kn.taken u))) (_:W (newName Kf) t (fun u t'=> ∀H',t'.length+1=t.length->Kn.values.contains u=false->PSt a H' r q kd fn ds bl (n+1) t' (Kn.with u)->je_ (Mut r kd fn ds bl) H H'->Q (.str (sb u)) H') (QE a r kd fn ds bl H E)):spParam a vs H Q E
inductive spParams (a:Adr) (vs:List V) (H:Hp) (Q:VK) (E:XK):Prop
 |mk (r q kd fn:Addr) (ds bl:Box) (n:Nat) (t:Toks) (Kn:Vbemac.Known) (fname:Bytes) (fuel:Nat) (Ro:List Bytes->Toks->Prop) (_:vs=[.ref r, .str (sb fname)]) (_:j0o_ (sb fname) fname) (_:KEYS.contains fname=false) (_:PSt a H r q kd fn ds bl n t Kn) (_:t.length<fuel) (_:W (Vbemac.params fuel 6 (Kn.with fname)) t Ro (QE a r kd fn ds bl H E)) (_: ∀ps t' H' L n',t'.length<t.length->ps.length<=6->ps.Nodup->(∀x∈ps,x∉Kn.values)->W (Vbemac.sign ")") t' (fun _ t2=>Ro ps t2) (QE a r kd fn ds bl H E)->PSt a H' r q kd fn ds bl n' t' { Kn with values:=ps.reverse++Kn.values } ->je_ (Mut r kd fn ds bl) H H'->H L=none->H' L=some (.lst (strV ps))->Q (.ref L) H'):spParams a vs H Q E
section
variable {P:Program} {w:World} {K:PySem.W.Frag} {mg:Str->Option Value} {base:Heap} {a:Adr} {k m:Nat}
theorem ok_z55 (T:Txt K mg a) (XC:XT K a) (hk:7<=k)
  (G_z56:ju_ P w K mg base (CXF P w) k a.f_z56 a.fd_z56 ["reader"] (spGiven a)):
  ju_ P w K mg base (CXF P w) (k+1) a.f_z55 a.fd_z55 ["reader"] (spTop a fun t=>isKey t "const"=true):=by
 have G_z29:=yq_ (P:=P) (w:=w) (base:=base) T XC
 have G_z2:=yh_ (P:=P) (w:=w) (base:=base) T XC
 have G_z38:=j0j_ (P:=P) (w:=w) (base:=base) T
 have G_z16:=ok_Const_init (P:=P) (w:=w) (base:=base) T
 refine okX T.F_z55 sc_z55 (fun vs H Q E h=>?_) (fun cdv A outer s H vs Q E hr h=>?_)
 ·obtain⟨r,q,kd,fn,ds,bl,n,t,Kn,nf,D,fuel,rfl,_⟩:=h
  rfl
 ·obtain⟨r,q,kd,fn,ds,bl,n,t,Kn,nf,D,fuel,rfl,hkw,hf,S,hD,hDl,hn,hW⟩:=h
  refine⟨_,(j2_ (jd_ (jb_ (pv 0) T.cl_Reader T.me_z29 G_z29 (hr.mono (by omega)) T.b_z29 .nil j6_ (j0_ jk_ j5_)))
    (j2_ (jg_ (i:=1) sc_z55.nd rfl (Or.inl rfl) (jn_ (pv 0) T.cl_Reader T.me_z2 G_z2 (hr.mono (by omega)) T.b_z2 .nil j6_))
    (j2_ (jg_ (i:=2) sc_z55.nd rfl (Or.inl rfl) (j9_ G_z56 (hr.mono (by omega)) (by rfl) T.m_z56 T.F_z56.kp T.b_z56 .nil j6_ (j0_ (pv 0) j5_)))
    (j2_ (jd_ (jb_ (pv 0) T.cl_Reader T.me_z38 G_z38 (hr.mono (by omega)) T.b_z38 .nil yr_ (j0_ (pv 1) j5_)))
    (j7_ (jh_ (vf_ T.mk_Const G_z16 (hr.mono (by omega)) (by rfl) T.mg_Const T.b_z16 .nil yr_ (j0_ (pv 1) (j0_ (pv 2) j5_))))))))),?_⟩
  obtain⟨⟨x,xp⟩,t',rfl,tok,hpk,hpl,_⟩:=S.wh.first
  obtain rfl:x= .word (text "const"):=beq_iff_eq.mp hkw
  have room:=S.kn.len
  rw[List.length_cons] at hf room hDl
  have hW:W (Vbemac.next>>=fun _=>constP fuel Kn nf D) _ _ _:=j04_ (by unfold top1;rw[if_pos hkw]) hW
  have hW:=W_nx hW
  unfold constP at hW
  obtain⟨dr,er⟩:=S.rd.ins
  refine⟨_,rfl,r,dr,_,rfl,er,rfl,?_⟩
  unfold j14_ ua_ tC
  dsimp only[List.append_nil]
  refine at_step litConst S fun H1 S1 k1=>?_
  obtain⟨dr1,er1⟩:=S1.rd.ins
  refine⟨_,rfl,r,dr1,_,rfl,er1,rfl,?_⟩
  refine nm_step S1 (fun k x z=>z H1 k1) hW fun u H2 t2 l2 ft S2 k2 hW2=>?_
  have k02:=k1.trans k2
  have fv:Kn.values.contains u=false:=by
   unfold Vbemac.Known.taken at ft
   cases h:Kn.values.contains u with
   |false=>rfl
   |true=>rw[h] at ft;cases ft
  have hG:=W_given hW2
  refine⟨_,rfl,r,q,kd,fn,ds,bl,_,t2,Kn,fuel,rfl,S2,by omega,hG.mono (fun e t3 w3 l3 H3 v n3 S3 k3 ev=>?_) fun _ _ z H' k'=>z H' (k02.trans k')⟩
  obtain⟨dr3,er3⟩:=S3.rd.ins
  obtain⟨kk,kk1,kk2,kk3⟩:=S3.kn.vals
  have S4:=S3.learn (u:=u) fv (by omega) kk1
  have k34:je_ (Mut r kd fn ds bl) H3 (upd H3 kd (.dK (j0l_ kk (nk u) (.bl true)))):=fun b o e m=>by rw[j3_ fun z=>m (.inr (.inl z))];exact e
  refine⟨_,rfl,r,dr3,_,rfl,er3,rfl,_,rfl,r,dr3,q,kd,fn,ds,bl,_,u,kk,rfl,er3,kk1,Nat.lt_of_le_of_lt (show kk.length<=4000 by omega) (by decide),?_⟩
  refine⟨_,rfl,_,rfl,?_⟩
  intro p dx hp hdx ne
  refine⟨p,dx,_,_,rfl,j4_,fun Hd hd' kd'=>⟨rfl,?_⟩⟩
  have scd:=yz_ hp hdx kd'
  have k4d:=k34.trans (OS.vq_.keeps (M:=Mut r kd fn ds bl) scd)
  have w3:TopCn a r q kd fn ds bl H Q _ _ t3:=w3
  refine w3 (by rw[List.length_cons];omega) Hd (.ref p) _ ds.c bl hD (by omega) rfl (.inl rfl) (S4.same scd) hn ((k02.trans k3).trans k4d) ?_
  exact⟨v,⟨p,dx,rfl,S4.fresh hp,hd'⟩,ja_.keep k4d _ ev⟩
theorem ok_z21 (T:Txt K mg a) (XC:XT K a):ju_ P w K mg base (CXF P w) 8 a.f_z21 a.fd_z21 ["reader","function"] (spParam a):=by
 have G_z45:=qt_ (P:=P) (w:=w) (base:=base) T XC
 have G_z44:=qp_ (P:=P) (w:=w) (base:=base) T XC
 have G_z2:=yh_ (P:=P) (w:=w) (base:=base) T XC
 have G_z38:=j0j_ (P:=P) (w:=w) (base:=base) T
 refine okX T.F_z21 sc_z21 (fun vs H Q E h=>?_) (fun cdv A outer s H vs Q E hr h=>?_)
 ·obtain⟨r,q,kd,fn,ds,bl,n,t,Kn,Kf,fname,rfl,_⟩:=h
  rfl
 ·obtain⟨r,q,kd,fn,ds,bl,n,t,Kn,Kf,fname,rfl,lit,nkey,S,hK,hW⟩:=h
  refine⟨_,(j2_ (yg_ (yc_ (jb_ (pv 0) T.cl_Reader T.me_z45 G_z45 (hr.mono (by omega)) T.b_z45 .nil j6_ (j0_ (pv 1) j5_))) (j7_ (jd_ (jb_ (pv 0) T.cl_Reader T.me_z44 G_z44 (hr.mono (by omega)) T.b_z44 .nil j6_ (j0_ (vc_ (by rfl) T.g_NOT_FREE) j5_)))) ji_)
    (j2_ (jg_ (i:=2) sc_z21.nd rfl (Or.inl rfl) (jn_ (pv 0) T.cl_Reader T.me_z2 G_z2 (hr.mono (by omega)) T.b_z2 .nil j6_))
    (j2_ (jd_ (jb_ (pv 0) T.cl_Reader T.me_z38 G_z38 (hr.mono (by omega)) T.b_z38 .nil yr_ (j0_ (pv 2) j5_)))
    (j7_ (jh_ (pv 2)))))),?_⟩
  obtain⟨⟨x,xp⟩,t',rfl,tok,hpk,hpl,_⟩:=S.wh.first
  have room:=S.kn.len
  rw[List.length_cons] at room
  have hb:x= .bad->Flt a.c_Fault E H 1 xp:=fun b=>(u9_ Kf).at_bad (hpk.trans b) hW H je_.refl
  obtain⟨dr,er⟩:=S.rd.ins
  refine⟨_,rfl,r,dr,_,rfl,er,rfl,_,rfl,r,q,kd,fn,ds,bl,n,(x,xp),t',sb fname,rfl,S.rd,hb,fun nb=>⟨_,rfl,?_⟩⟩
  rw[vd_ (x:=sb fname) tok lit]
  refine yt_ (fun e=>?_) fun e=>?_
  ·obtain rfl:x= .word fname:=beq_iff_eq.mp e
   refine⟨_,rfl,r,dr,_,rfl,er,rfl,r,q,kd,fn,ds,bl,n,(.word fname,xp),t',4,rfl,S.rd,?_⟩
   rw[if_neg nb]
   refine yl_ (p:=newName Kf) (n:=4) (t:=(.word fname,xp)::t') ?_ nb hW H je_.refl
   rw[vh_ nkey,if_pos (by rw[hK,decide_eq_true rfl];rfl)]
  ·have nf: ∀u,x= .word u->decide (u=fname)=false:=fun u ex=>by
    refine decide_eq_false fun z=>?_
    rw[ex,z] at e
    rw[beq_self_eq_true] at e
    cases e
   refine⟨_,rfl,r,dr,_,rfl,er,rfl,?_⟩
   unfold j14_
   dsimp only[List.append_nil]
   have hW2:W (newName Kn>>=fun u=>pure u:Vbemac.P Bytes) ((x,xp)::t') (fun u t1=> ∀H',t1.length+1=((x,xp)::t').length->Kn.values.contains u=false->PSt a H' r q kd fn ds bl (n+1) t1 (Kn.with u)->je_ (Mut r kd fn ds bl) H H'->Q (.str (sb u)) H') (QE a r kd fn ds bl H E):=by
    have en:newName Kn ((x,xp)::t')=newName Kf ((x,xp)::t'):=by
     cases x with
     |word u=>
      cases hkw:KEYS.contains u with
      |true=>rw[uf_ hkw,uf_ hkw]
      |false=>rw[vh_ hkw,vh_ hkw,hK,nf u rfl];rfl
     |num m=>rfl
     |sign s=>rfl
     |eof=>rfl
     |bad=>rfl
    rw[jj_]
    have z:=j04_ (p':=newName Kn) (t':=(x,xp)::t') en.symm hW
    exact z.mono (fun u t w=>w) fun _ _ w=>w
   refine nm_step S (fun k x z=>z H je_.refl) hW2 fun u H2 t2 l2 ft S2 k2 hW3=>?_
   have fv:Kn.values.contains u=false:=by
    unfold Vbemac.Known.taken at ft
    cases h:Kn.values.contains u with
    |false=>rfl
    |true=>rw[h] at ft;cases ft
   obtain⟨dr3,er3⟩:=S2.rd.ins
   obtain⟨kk,kk1,kk2,kk3⟩:=S2.kn.vals
   have l2':=l2
   rw[List.length_cons] at l2
   have S4:=S2.learn (u:=u) fv (by omega) kk1
   have k34:je_ (Mut r kd fn ds bl) H2 (upd H2 kd (.dK (j0l_ kk (nk u) (.bl true)))):=fun b o e m=>by rw[j3_ fun z=>m (.inr (.inl z))];exact e
   refine⟨_,rfl,r,dr3,_,rfl,er3,rfl,_,rfl,r,dr3,q,kd,fn,ds,bl,_,u,kk,rfl,er3,kk1,Nat.lt_of_le_of_lt (show kk.length<=4000 by omega) (by decide),?_⟩
   exact⟨_,rfl,hW3 _ l2' fv S4 (k2.trans k34)⟩
end
end OS
namespace OS
open PySem PySem.Spec L2
open PyProof.Rows hiding St
open Vbemac (Bytes Toks SIGNS KEYS peek place text isSign isKey expr newName anyName DEEP stmt stmts params)
def j0f_ (f n:Nat) (K:Vbemac.Known):Vbemac.P (List Bytes):=Vbemac.ifSign ",">>=fun m=>(if m=true then params f n K else(Vbemac.sign ")">>=fun _=>pure []))
theorem params_on {f n:Nat} {K:Vbemac.Known} {t:Toks} {Ro:List Bytes->Toks->Prop} {Qe:Nat->Vbemac.Pos->Prop} (hn:n≠0) (h:W (params (f+1) n K) t Ro Qe):
  W (newName K) t (fun x t'=>W (j0f_ f (n-1) (K.with x)) t' (fun l t2=>Ro (x::l) t2) Qe) Qe:=by
 have h:=j04_ (params_go hn) h
 rw[jj_] at h
 refine h.mono (fun x t1 h=>?_) fun _ _ z=>z
 unfold j0f_
 rw[jj_] at h ⊢
 refine h.mono (fun m t2 h=>?_) fun _ _ z=>z
 cases m with
 |true=>
  rw[if_pos rfl] at h ⊢
  rw[jj_] at h
  exact h
 |false=>
  rw[if_neg Bool.false_ne_true] at h ⊢
  rw[jj_] at h ⊢
  exact h
theorem parTail_no {f n:Nat} {K:Vbemac.Known} {t:Toks} {Ro:List Bytes->Toks->Prop} {Qe:Nat->Vbemac.Pos->Prop} (no:isSign t ","=false) (h:W (j0f_ f n K) t Ro Qe):W (Vbemac.sign ")") t (fun _ t2=>Ro [] t2) Qe:=by
 unfold j0f_ at h
 rw[jj_,j0n_ (show Vbemac.ifSign "," t= .ok (false,t) by unfold Vbemac.ifSign;rw[if_neg (by rw[no];exact Bool.false_ne_true)]),if_neg Bool.false_ne_true,jj_] at h
 exact h
theorem parTail_yes {f n:Nat} {K:Vbemac.Known} {t:Toks} {Ro:List Bytes->Toks->Prop} {Qe:Nat->Vbemac.Pos->Prop} (yes:isSign t ","=true) (h:W (j0f_ f n K) t Ro Qe):W (params f n K) (t.drop 1) Ro Qe:=by
 unfold j0f_ at h
 rw[jj_,j0n_ (show Vbemac.ifSign "," t= .ok (true,t.drop 1) by unfold Vbemac.ifSign;rw[if_pos yes]),if_pos rfl] at h
 exact h
theorem parTail_strict (f n:Nat) (K:Vbemac.Known):yb_ (j0f_ f n K):=(ifSign_resp ",").strict fun m=>by
 cases m with
 |true=>
  rw[if_pos rfl]
  exact j1h_ f n K
 |false=>
  rw[if_neg Bool.false_ne_true]
  exact(jy_ ")").bind
theorem PSt.recast {a:Adr} {H:Hp} {r q kd fn:Addr} {ds bl:Box} {n:Nat} {t:Toks} {K1 K2:Vbemac.Known} (S:PSt a H r q kd fn ds bl n t K1) (hc: ∀u,K2.values.contains u=K1.values.contains u) (hl:K2.values.length=K1.values.length) (hf:K2.funs=K1.funs):PSt a H r q kd fn ds bl n t K2:=by
 obtain⟨kk,k1,k2,k3⟩:=S.kn.vals
 obtain⟨ff,f1,f2⟩:=S.kn.funs
 refine⟨S.rd,S.wh,⟨⟨kk,k1,by rw[hl];exact k2,fun u=>by rw[hc];exact k3 u⟩,⟨ff,f1,by rw[hf];exact f2⟩,by rw[hl];exact S.kn.len,⟨ff,f1,by rw[hf];exact S.kn.fl f1⟩⟩,S.ds_,S.bl_,S.dif,S.fr⟩
theorem taken_with {K:Vbemac.Known} {f u:Bytes} {vs:List Bytes} :(⟨vs++f::K.values,K.funs⟩:Vbemac.Known).taken u=(decide (u=f)||(⟨vs++K.values,K.funs⟩:Vbemac.Known).taken u):=by
 unfold Vbemac.Known.taken
 rw[<-Bool.or_assoc]
 congr 1
 rw[Bool.eq_iff_iff,Bool.or_eq_true,decide_eq_true_iff,List.contains_iff_mem,List.contains_iff_mem,List.mem_append,List.mem_append,List.mem_cons]
 constructor
 ·rintro(h|h|h)
  ·exact .inr (.inl h)
  ·exact .inl h
  ·exact .inr (.inr h)
 ·rintro(h|h|h)
  ·exact .inr (.inl h)
  ·exact .inl h
  ·exact .inr (.inr h)
theorem putK_new {kvs:List (Key×V)} {j:Key} {v:V} (h:uo_ kvs j=none):(j0l_ kvs j v).length=kvs.length+1:=by
 unfold j0l_
 rw[if_neg,List.length_append]
 ·rfl
 ·intro z
  rw[List.any_eq_true] at z
  obtain⟨p,hp,e⟩:=z
  have:(uo_ kvs j).isSome=true:=by
   unfold uo_
   rw[Option.isSome_map,List.find?_isSome]
   exact⟨p,hp,e⟩
  rw[h] at this
  cases this
theorem PSt.putF {a:Adr} {H:Hp} {r q kd fn:Addr} {ds bl:Box} {n:Nat} {t:Toks} {Kn:Vbemac.Known} {x:Bytes} {c:Nat} {ff:List (Key×V)} (S:PSt a H r q kd fn ds bl n t Kn) (hx:Kn.taken x=false) (e:H fn=some (.dK ff)):
  PSt a (upd H fn (.dK (j0l_ ff (nk x) (.int (c:Nat))))) r q kd fn ds bl n t { Kn with funs:=(x,c)::Kn.funs } :=by
 obtain⟨dr,er⟩:=S.rd.ins
 obtain⟨as,all,h1,h2,h3⟩:=S.rd.toks
 obtain⟨kk,k1,k2,k3⟩:=S.kn.vals
 obtain⟨ff',f1,f2⟩:=S.kn.funs
 have hy:=S.ds_
 have hz:=S.bl_
 have fl:=S.kn.fl e
 obtain rfl:ff'=ff:=by rw[e] at f1;cases f1;rfl
 obtain⟨d1,d2,d3,d4,d5,d6⟩:=S.dif
 have nr:r≠fn:=fun w=>by rw[w,e] at er;cases er
 have nq:q≠fn:=fun w=>by rw[w,e] at h1;cases h1
 unfold Vbemac.Known.taken at hx
 rw[Bool.or_eq_false_iff] at hx
 have none_:uo_ ff' (nk x)=none:=by
  rw[f2]
  have:Kn.funs.find? (fun f=>f.1 == x)=none:=by
   rw[List.find?_eq_none]
   intro y hy z
   have:=hx.2
   rw[List.any_eq_false] at this
   exact this y hy z
  rw[this]
  rfl
 refine⟨⟨⟨dr,by rw[j3_ nr];exact er⟩,as,all,by rw[j3_ nq];exact h1,Paired.mapP h2 fun b x ⟨dx,ex⟩=>⟨dx,?_⟩,h3⟩,S.wh,⟨⟨kk,by rw[j3_ d1];exact k1,k2,k3⟩,⟨_,j4_,fun u=>?_⟩,S.kn.len,⟨_,j4_,?_⟩⟩,(by rw[j3_ d4.symm];exact hy),(by rw[j3_ d5.symm];exact hz),S.dif,fun b xs h=>?_⟩
 ·rw[j3_ fun w=>by rw[w,e] at ex;cases ex]
  exact ex
 ·rw[valV_put,List.find?_cons]
  by_cases w:u=x
  ·rw[if_pos (by rw[w]),w,show((x,c).1 == x)=true from beq_self_eq_true x]
   rfl
  ·rw[if_neg fun z=>w (sb_inj (Sum.inr.inj z)),show((x,c).1 == u)=false from beq_eq_false_iff_ne.mpr (Ne.symm w)]
   exact f2 u
 ·rw[putK_new none_,fl]
  rfl
 ·have e2:=S.fr b xs h
  rw[j3_ fun w=>by rw[w,e] at e2;cases e2]
  exact e2
theorem call_lenKD {X:Cx} :CallR X (.builtin "len") (fun xs H Q=> ∃a kvs,xs=[V.ref a]/\KdK X.prog X.w X.K a kvs/\Q (.int kvs.length) H):=by
 intro pins s σ H xs us Q I r h
 obtain⟨a,kvs,rfl,kd,q⟩:=h
 obtain⟨u,rfl,ru⟩:=vals1 r
 cases ru
 obtain⟨vs,dd,rel⟩:=kd.at_
 have z:=kd.len
 refine call_len_dict kd.no (dd _ I.kIn) (by rw[<-rel.length];rw[sizeLine_eq] at z;omega) ?_
 rw[<-rel.length]
 exact⟨.int kvs.length,H,I.tok _,⟨_,rfl⟩,q⟩
theorem litFun:j0o_ "fun" (text "fun"):=⟨by decide+kernel,by decide+kernel,by decide+kernel⟩
section
variable {P:Program} {w:World} {K:PySem.W.Frag} {mg:Str->Option Value} {base:Heap} {a:Adr} {k m:Nat}
theorem ok_z11 (T:Txt K mg a) (XC:XT K a):ju_ P w K mg base (CXF P w) 9 a.f_z11 a.fd_z11 ["reader","function"] (spParams a):=by
 have G_z21:=ok_z21 (P:=P) (w:=w) (base:=base) T XC
 have G_z37:=ok_skips (P:=P) (w:=w) (base:=base) T XC
 have G_z44:=qp_ (P:=P) (w:=w) (base:=base) T XC
 refine okX T.F_z11 sc_z11 (fun vs H Q E h=>?_) (fun cdv A outer s H vs Q E hr h=>?_)
 ·obtain⟨r,q,kd,fn,ds,bl,n,t,Kn,fname,fuel,Ro,rfl,_⟩:=h
  rfl
 ·obtain⟨r,q,kd,fn,ds,bl,n,t,Kn,fname,fuel,Ro,rfl,lit,nkey,S,hf,hW,hQ⟩:=h
  refine⟨_,(j2_ (jg_ (i:=2) sc_z11.nd rfl (Or.inl rfl) (uu_ (j0_ (j9_ G_z21 (hr.mono (by omega)) (by rfl) T.m_z21 T.F_z21.kp T.b_z21 .nil j6_ (j0_ (pv 0) (j0_ (pv 1) j5_))) j5_)))
    (j2_ (u6_ PassesOwn.leaving (yc_ (jb_ (pv 0) T.cl_Reader T.me_z37 G_z37 (hr.mono (by omega)) T.b_z37 .nil j6_ (j0_ jk_ j5_))) (j2_ (yg_ (ya_ uk_ (yw_ jv_ (by rfl) T.n_len PySem.boot_len (j0_ (pv 2) j5_)) (vc_ (by rfl) T.g_MOST_PARAMETERS) (yk_ _)) (j7_ (jd_ (jb_ (pv 0) T.cl_Reader T.me_z44 G_z44 (hr.mono (by omega)) T.b_z44 .nil j6_ (j0_ (vc_ (by rfl) T.g_TOO_MANY) j5_)))) ji_)
    (j7_ (jd_ (pe_bm PySem.F.plainAttrs_list PySem.F.slot_list_append PySem.F.type_list_append qc_ (pv 2) (j0_ (j9_ G_z21 (hr.mono (by omega)) (by rfl) T.m_z21 T.F_z21.kp T.b_z21 .nil j6_ (j0_ (pv 0) (j0_ (pv 1) j5_))) j5_))))))
    (j7_ (jh_ (pv 2))))),?_⟩
  have room:=S.kn.len
  obtain⟨f,rfl⟩: ∃f,fuel=f+1:=⟨fuel-1,by omega⟩
  have h0:=params_on (by decide) hW
  refine⟨_,rfl,_,rfl,?_⟩
  unfold j14_ ua_ tC
  dsimp only[List.append_nil]
  refine⟨r,q,kd,fn,ds,bl,n,t,Kn,Kn.with fname,fname,rfl,lit,nkey,S,fun u=>taken_with (vs:=[]),h0.mono (fun u t1 w1 H1 l1 fv S1 k1=>?_) fun _ _ z=>z⟩
  refine⟨by show 1<=sizeLine;decide,fun L hL=>?_⟩
  have nL: ¬Mut r kd fn ds bl L:=S1.fresh hL
  have nq:L≠q:=fun z=>by obtain⟨as,all,h1,_⟩:=S1.rd.toks;rw[z,h1] at hL;cases hL
  have H0L:H L=none:=by
   cases e:H L with
   |none=>rfl
   |some o=>rw[k1 L o e nL] at hL;cases hL
  have ap: ∀zs,¬bl.x L zs:=fun zs z=>by rw[S1.fr L zs z] at hL;cases hL
  have S2:PSt a (upd H1 L (.lst (strV [u]))) r q kd fn ds (bl.more L (strV [u])) (n+1) t1 ⟨[u].reverse++Kn.values,Kn.funs⟩:=(S1.same (yj_ hL)).more j4_
  have k02:je_ (Mut r kd fn ds bl) H (upd H1 L (.lst (strV [u]))):=k1.trans (OS.vq_.keeps (yj_ hL))
  let Iv:List Bytes->Nat->Toks->Nat->Hp->Prop:=fun ps n1 t1 f1 H'=>ps≠[]/\ps.length<=6/\ps.Nodup/\(∀x∈ps,x∉Kn.values)/\ps.length+t1.length<=t.length/\PSt a H' r q kd fn ds (bl.more L (strV ps)) n1 t1 ⟨ps.reverse++Kn.values,Kn.funs⟩/\t1.length<f1/\je_ (Mut r kd fn ds bl) H H'/\
   W (j0f_ f1 (6-ps.length) ⟨ps.reverse++fname::Kn.values,Kn.funs⟩) t1 (fun l t2=>Ro (ps++l) t2) (QE a r kd fn ds bl H E)
  refine⟨fun mm σ H'=> ∃(ps:List Bytes) (n1:Nat) (t1:Toks) (f1:Nat),mm=t1.length/\σ=[some (.ref r),some (.str (sb fname)),some (.ref L)]/\Iv ps n1 t1 f1 H',
   ⟨_,[u],n+1,t1,f,rfl,rfl,List.cons_ne_nil _ _,(by show 1<=6;decide),List.nodup_cons.mpr ⟨List.not_mem_nil,List.nodup_nil⟩,fun x hx z=>?_,by show 1+t1.length<=_;omega,S2,by omega,k02,w1⟩,?_⟩
  ·rw[List.mem_singleton.mp hx] at z
   rw[List.contains_iff_mem.mpr z] at fv
   cases fv
  rintro mm σ H3 ⟨ps,n3,t3,f3,rfl,rfl,pne,p6,pnd,pfr,pl,S3,hf3,k03,w3⟩
  obtain⟨dr3,er3⟩:=S3.rd.ins
  refine⟨_,rfl,r,dr3,_,rfl,er3,rfl,?_⟩
  refine skip_sign litCm S3 (fun b=>(parTail_strict _ _ _).at_bad b w3 H3 k03) (fun nb no=>⟨_,rfl,ur_ ?_⟩) fun yes H4 t4 l4 d4 S4 k4=>⟨_,rfl,j0q_ ?_⟩
  ·refine⟨_,rfl,?_⟩
   have z:=parTail_no no w3
   simp only[List.append_nil] at z
   exact hQ ps t3 H3 L n3 (by have:0<ps.length:=List.length_pos_iff.mpr pne;omega) p6 pnd pfr z S3.less k03 H0L S3.the
  ·have w4:=parTail_yes yes w3
   rw[d4] at w4
   have k04:=k03.cut k4 H0L
   obtain⟨f3,rfl⟩: ∃f',f3=f'+1:=⟨f3-1,by omega⟩
   refine⟨fun σ' H'=> ∃(ps:List Bytes) (n1:Nat) (t1:Toks) (f1:Nat),t1.length<t3.length/\σ'=[some (.ref r),some (.str (sb fname)),some (.ref L)]/\Iv ps n1 t1 f1 H',?_,?_⟩
   ·rintro σ' H' ⟨ps',n',t',f',l',rfl,I'⟩
    exact⟨_,l',ps',n',t',f',rfl,rfl,I'⟩
   refine⟨_,rfl,_,_,rfl, .inl (SqL.of S4.the),rfl,_,rfl,?_⟩
   rw[uc_]
   have sl:(strV ps).length=ps.length:=List.length_map ..
   rw[sl]
   refine yt_ (fun e=>?_) fun e=>?_
   ·have p6':ps.length=6:=by have:=of_decide_eq_true e;omega
    obtain⟨⟨x,xp⟩,t5,rfl,tok,hpk,hpl,_⟩:=S4.wh.first
    obtain⟨dr4,er4⟩:=S4.rd.ins
    refine⟨_,rfl,r,dr4,_,rfl,er4,rfl,r,q,kd,fn,ds,_,_,(x,xp),t5,7,rfl,S4.rd,?_⟩
    have w4:=j04_ (p':=(Vbemac.fail 7:Vbemac.P (List Bytes))) (t':=(x,xp)::t5) (params_end (by omega)) w4
    rw[W_fail] at w4
    exact w4 H4 k04
   ·have p5:ps.length<6:=by have:=of_decide_eq_false e;omega
    have h4:=params_on (by omega) w4
    refine⟨_,rfl, .inl ⟨rfl,_,SqL.of S4.the⟩,?_⟩
    refine⟨_,rfl,_,rfl,r,q,kd,fn,ds,bl.more L (strV ps),_,t4,⟨ps.reverse++Kn.values,Kn.funs⟩,⟨ps.reverse++fname::Kn.values,Kn.funs⟩,fname,rfl,lit,nkey,S4,fun u=>taken_with,h4.mono (fun u t5 w5 H5 l5 fv5 S5 k5=>?_) fun _ _ z H' k'=>z H' (k04.cut k' H0L)⟩
    have k05:=k04.cut k5 H0L
    refine⟨L,_,_,rfl,rfl,S5.the,Nat.lt_of_le_of_lt (show(strV ps).length<=6 by rw[sl];exact p6) (by decide),?_⟩
    have ns:strV ps++[V.str (sb u)]=strV (ps++[u]):=by unfold strV;rw[List.map_append];rfl
    rw[ns]
    have nu:u∉ps.reverse++Kn.values:=fun z=>by rw[List.contains_iff_mem.mpr z] at fv5;cases fv5
    have er: ∀(V:List Bytes),(ps++[u]).reverse++V=u::(ps.reverse++V):=fun V=>by rw[List.reverse_append];rfl
    refine⟨ps++[u],n3+1+1,t5,f3,by omega,rfl,(fun z=>by rw[List.append_eq_nil_iff] at z;exact nomatch z.2),by rw[List.length_append,List.length_singleton];omega,?_,fun x hx z=>?_,by rw[List.length_append,List.length_singleton];omega,?_,by omega,fun b o e m=>?_,?_⟩
    ·rw[List.nodup_append]
     refine⟨pnd,List.nodup_cons.mpr ⟨List.not_mem_nil,List.nodup_nil⟩,fun x hx y hy z=>?_⟩
     rw[List.mem_singleton.mp hy] at z
     exact nu (List.mem_append.mpr (.inl (List.mem_reverse.mpr (by rw[<-z];exact hx))))
    ·rcases List.mem_append.mp hx with hx|hx
     ·exact pfr x hx z
     ·rw[List.mem_singleton.mp hx] at z
      exact nu (List.mem_append.mpr (.inr z))
    ·rw[er]
     exact S5.write ap nq
    ·rw[j3_ fun z=>by rw[z,H0L] at e;cases e]
     exact k05 b o e m
    ·rw[er,List.length_append,List.length_singleton]
     have e2: ∀l,Ro (ps++[u]++l)=Ro (ps++u::l):=fun l=>by rw[List.append_assoc];rfl
     simp only[e2]
     exact w5
end
end OS
namespace OS
open PySem PySem.Spec L2
open PyProof.Rows hiding St
open Vbemac (Bytes Toks SIGNS KEYS peek place text isSign isKey expr newName anyName DEEP stmt stmts params)
def funRest (k:Nat) (K:Vbemac.Known) (n:Nat) (D:List Bytes) (x:Bytes) (ps:List Bytes):Vbemac.P TopR:=Vbemac.sign "=">>=fun _=>expr k DEEP { K with values:=ps++K.values } >>=fun e=>Vbemac.sign ";">>=fun _=>pure (.func x ps e,{ K with funs:=(x,ps.length)::K.funs },n-1,D)
theorem nameLit {H:Hp} {a:Adr} {r q kd fn:Addr} {ds bl:Box} {n:Nat} {t:Toks} {Kn:Vbemac.Known} (S:PSt a H r q kd fn ds bl n t Kn) {u:Bytes} {t':Toks} (e:newName Kn t= .ok (u,t')):j0o_ (sb u) u/\KEYS.contains u=false:=by
 obtain⟨⟨x,xp⟩,t1,rfl,tok,hpk,hpl,_⟩:=S.wh.first
 cases x with
 |word v=>
  cases hkw:KEYS.contains v with
  |true=>rw[uf_ hkw] at e;cases e
  |false=>
   rw[vh_ hkw] at e
   by_cases h:Kn.taken v=true
   ·rw[if_pos h] at e;cases e
   ·rw[if_neg h] at e
    cases e
    exact⟨⟨rfl,tok.1,tok.2⟩,hkw⟩
 |num m=>cases e
 |sign s=>cases e
 |eof=>cases e
 |bad=>cases e
theorem newName_ok {K:Vbemac.Known} {t:Toks} :W (newName K) t (fun u t'=>newName K t= .ok (u,t')) (fun _ _=>True):=by
 unfold W
 cases h:newName K t with
 |error e=>exact True.intro
 |ok z=>rfl
theorem W_gv {α:Type} {p:Vbemac.P α} {t:Toks} {Qo:α->Toks->Prop} {Qe:Nat->Vbemac.Pos->Prop} (h:W p t Qo Qe):W (p>>=fun u=>Vbemac.give u) t Qo Qe:=by
 rw[jj_]
 exact h
theorem PSt.newB {a:Adr} {H:Hp} {r q kd fn:Addr} {ds bl:Box} {n:Nat} {t:Toks} {Kn:Vbemac.Known} {nb:Addr} (S:PSt a H r q kd fn ds bl n t Kn) (hnb:H nb=none) (dr:Addr) (er:H r=some (.ins a.c_Reader dr (rdF q kd fn ds.p bl.p n))):
  PSt a (upd (upd H nb (.dK [])) r (.ins a.c_Reader dr (rdF q kd fn ds.p nb n))) r q kd fn ds ⟨nb,[],bl.x⟩ n t Kn/\je_ (Mut r kd fn ds bl) H (upd (upd H nb (.dK [])) r (.ins a.c_Reader dr (rdF q kd fn ds.p nb n))):=by
 obtain⟨as,all,h1,h2,h3⟩:=S.rd.toks
 obtain⟨kk,k1,k2,k3⟩:=S.kn.vals
 obtain⟨ff,f1,f2⟩:=S.kn.funs
 have hy:=S.ds_
 obtain⟨d1,d2,d3,d4,d5,d6⟩:=S.dif
 have old: ∀ {b:Addr} {o:HO},H b=some o->b≠r->upd (upd H nb (.dK [])) r (.ins a.c_Reader dr (rdF q kd fn ds.p nb n)) b=some o:=fun e w=>by
  rw[j3_ w,j3_ (jf_ e hnb)]
  exact e
 have nir: ∀ {b:Addr} {o:HO},H b=some o->(∀C dx fs,o≠ .ins C dx fs)->b≠r:=fun e no w=>by
  rw[w,er] at e
  exact no _ _ _ (Option.some.inj e).symm
 have nbr:nb≠r:=(jf_ er hnb).symm
 have tokr: ∀ {b:Addr} {x:Vbemac.Tok×Vbemac.Pos},j1b_ a.c_Token H b x->b≠r:=fun {b x} ⟨dx,ex⟩ w=>by
  rw[w,er] at ex
  have:=congrArg (fun o:HO=>match o with| .ins _ _ fs=>fs.length|_=>0) (Option.some.inj ex)
  exact absurd this (by show¬(6=4);decide)
 refine⟨⟨⟨⟨dr,j4_⟩,as,all,old h1 (nir h1 fun _ _ _ z=>nomatch z),Paired.mapP h2 fun b x h=>?_,h3⟩,S.wh,⟨⟨kk,old k1 (nir k1 fun _ _ _ z=>nomatch z),k2,k3⟩,⟨ff,old f1 (nir f1 fun _ _ _ z=>nomatch z),f2⟩,S.kn.len,⟨ff,old f1 (nir f1 fun _ _ _ z=>nomatch z),S.kn.fl f1⟩⟩,old hy (nir hy fun _ _ _ z=>nomatch z),by show upd (upd H nb (.dK [])) r _ nb=some (.dK []);rw[j3_ nbr];exact j4_,⟨d1,d2,jf_ k1 hnb,d4,jf_ f1 hnb,jf_ hy hnb⟩,fun b xs h=>?_⟩,fun b o e m=>old e fun z=>m (.inl z)⟩
 ·have w:=tokr h
  obtain⟨dx,ex⟩:=h
  exact⟨dx,old ex w⟩
 ·have e2:=S.fr b xs h
  exact old e2 (nir e2 fun _ _ _ z=>nomatch z)
theorem putF_blocks {q kd fn ds bl nb:Addr} {n:Nat} :putF "blocks" (.ref nb) (rdF q kd fn ds bl n)=rdF q kd fn ds nb n:=by
 unfold rdF
 simp only[putF]
 rfl
theorem litDesk:j0o_ "desk" (text "desk"):=⟨by decide+kernel,by decide+kernel,by decide+kernel⟩
theorem PSt.putD {a:Adr} {H:Hp} {r q kd fn:Addr} {ds bl:Box} {n:Nat} {t:Toks} {Kn:Vbemac.Known} {c:List (Key×V)} (S:PSt a H r q kd fn ds bl n t Kn):PSt a (upd H ds.p (.dK c)) r q kd fn (ds.at_ c) bl n t Kn:=by
 obtain⟨dr,er⟩:=S.rd.ins
 obtain⟨as,all,h1,h2,h3⟩:=S.rd.toks
 obtain⟨kk,k1,k2,k3⟩:=S.kn.vals
 obtain⟨ff,f1,f2⟩:=S.kn.funs
 have hy:=S.bl_
 have e:=S.ds_
 obtain⟨d1,d2,d3,d4,d5,d6⟩:=S.dif
 have nr:r≠ds.p:=fun w=>by rw[w,e] at er;cases er
 have nq:q≠ds.p:=fun w=>by rw[w,e] at h1;cases h1
 refine⟨⟨⟨dr,by rw[j3_ nr];exact er⟩,as,all,by rw[j3_ nq];exact h1,Paired.mapP h2 fun b x ⟨dx,ex⟩=>⟨dx,?_⟩,h3⟩,S.wh,⟨⟨kk,by rw[j3_ d2];exact k1,k2,k3⟩,⟨ff,by rw[j3_ d4];exact f1,f2⟩,S.kn.len,⟨ff,by rw[j3_ d4];exact f1,S.kn.fl f1⟩⟩,j4_,(by rw[j3_ d6.symm];exact hy),S.dif,fun b xs h=>?_⟩
 ·rw[j3_ fun w=>by rw[w,e] at ex;cases ex]
  exact ex
 ·have e2:=S.fr b xs h
  rw[j3_ fun w=>by rw[w,e] at e2;cases e2]
  exact e2
section
variable {P:Program} {w:World} {K:PySem.W.Frag} {mg:Str->Option Value} {base:Heap} {a:Adr} {k m:Nat}
theorem ok_z71 (T:Txt K mg a) (XC:XT K a) (kF:KdK P w K a.k_FIRST_FUNCTIONS ub_) (hk:9<=k)
  (G_z56:ju_ P w K mg base (CXF P w) k a.f_z56 a.fd_z56 ["reader"] (spGiven a)):
  ju_ P w K mg base (CXF P w) (k+1) a.f_z71 a.fd_z71 ["reader"] (spTop a fun t=>isKey t "const"=false/\isKey t "fun"=true):=by
 have G_z29:=yq_ (P:=P) (w:=w) (base:=base) T XC
 have G_z44:=qp_ (P:=P) (w:=w) (base:=base) T XC
 have G_z45:=qt_ (P:=P) (w:=w) (base:=base) T XC
 have G_z2:=yh_ (P:=P) (w:=w) (base:=base) T XC
 have G_z30:=j09_ (P:=P) (w:=w) (base:=base) T
 have G_z11:=ok_z11 (P:=P) (w:=w) (base:=base) T XC
 have G_z36:=ok_Fun_init (P:=P) (w:=w) (base:=base) T
 refine okX T.F_z71 sc_z71 (fun vs H Q E h=>?_) (fun cdv A outer s H vs Q E hr h=>?_)
 ·obtain⟨r,q,kd,fn,ds,bl,n,t,Kn,nf,D,fuel,rfl,_⟩:=h
  rfl
 ·obtain⟨r,q,kd,fn,ds,bl,n,t,Kn,nf,D,fuel,rfl,⟨nc,hkw⟩,hf,S,hD,hDl,hn,hW⟩:=h
  refine⟨_,(j2_ (yg_ (ya_ uk_ (yw_ call_lenD (by rfl) T.n_len PySem.boot_len (j0_ (yf_ (pv 0) rfl) j5_)) (uq_ uy_ (yw_ call_lenKD (by rfl) T.n_len PySem.boot_len (j0_ (pe_gr (by rfl) T.g_FIRST_FUNCTIONS) j5_)) (vc_ (by rfl) T.g_MOST_FUNCTIONS)) (yk_ _)) (j7_ (jd_ (jb_ (pv 0) T.cl_Reader T.me_z44 G_z44 (hr.mono (by omega)) T.b_z44 .nil j6_ (j0_ (vc_ (by rfl) T.g_TOO_MANY) j5_)))) ji_)
    (j2_ (jd_ (jb_ (pv 0) T.cl_Reader T.me_z29 G_z29 (hr.mono (by omega)) T.b_z29 .nil j6_ (j0_ jk_ j5_)))
    (j2_ (jg_ (i:=1) sc_z71.nd rfl (Or.inl rfl) (jn_ (pv 0) T.cl_Reader T.me_z2 G_z2 (hr.mono (by omega)) T.b_z2 .nil j6_))
    (j2_ (jd_ (jb_ (pv 0) T.cl_Reader T.me_z29 G_z29 (hr.mono (by omega)) T.b_z29 .nil j6_ (j0_ jk_ j5_)))
    (j2_ (jg_ (i:=2) sc_z71.nd rfl (Or.inl rfl) (uu_ j5_))
    (j2_ (ps_join (yg_ (wj_ (yc_ (jb_ (pv 0) T.cl_Reader T.me_z45 G_z45 (hr.mono (by omega)) T.b_z45 .nil j6_ (j0_ jk_ j5_)))) (j7_ (jg_ (i:=2) sc_z71.nd rfl (Or.inl rfl) (j9_ G_z11 (hr.mono (by omega)) (by rfl) T.m_z11 T.F_z11.kp T.b_z11 .nil j6_ (j0_ (pv 0) (j0_ (pv 1) j5_))))) ji_))
    (j2_ (jd_ (jb_ (pv 0) T.cl_Reader T.me_z29 G_z29 (hr.mono (by omega)) T.b_z29 .nil j6_ (j0_ jk_ j5_)))
    (j2_ (jg_ (i:=3) sc_z71.nd rfl (Or.inl rfl) (j9_ G_z56 (hr.mono (by omega)) (by rfl) T.m_z56 T.F_z56.kp T.b_z56 .nil j6_ (j0_ (pv 0) j5_)))
    (j2_ (ps_for PassesOwn.leaving rfl (pi_list (pv 2)) (pg_name (i:=4) sc_z71.nd rfl (Or.inl rfl)) (j7_ (jd_ (jb_ (pv 0) T.cl_Reader T.me_z30 G_z30 (hr.mono (by omega)) T.b_z30 .nil yr_ (j0_ (pv 4) j5_)))))
    (j2_ (ps_dput (j16_ hr) (yf_ (pv 0) rfl) (pv 1) (yw_ jv_ (by rfl) T.n_len PySem.boot_len (j0_ (pv 2) j5_)) rfl)
    (j7_ (jh_ (vf_ T.mk_Fun G_z36 (hr.mono (by omega)) (by rfl) T.mg_Fun T.b_z36 .nil yr_ (j0_ (pv 1) (j0_ (pv 2) (j0_ (pv 3) j5_)))))))))))))))),?_⟩
  obtain⟨⟨x,xp⟩,t',rfl,tok,hpk,hpl,_⟩:=S.wh.first
  obtain rfl:x= .word (text "fun"):=beq_iff_eq.mp hkw
  have nb:peek ((.word (text "fun"),xp)::t')≠ .bad:=fun z=>nomatch z
  have room:=S.kn.len
  rw[List.length_cons] at hf room hDl
  obtain⟨dr,er⟩:=S.rd.ins
  obtain⟨ff,f1,f2⟩:=S.kn.funs
  have fl:=S.kn.fl f1
  refine⟨_,rfl,r,_,dr,_,_,rfl,er,T.cl_Reader,T.no_Reader_functions,rfl,fn,ff,rfl,f1,a.k_FIRST_FUNCTIONS,ub_,rfl,kF,_,_,rfl,rfl,rfl,_,rfl,?_⟩
  rw[uc_]
  have c1: ¬isKey ((.word (text "fun"),xp)::t') "const"=true:=by rw[nc];exact Bool.false_ne_true
  refine yt_ (fun e=>?_) fun e=>?_
  ·have e:=of_decide_eq_true e
   have e:(ff.length:Int)=3+6:=e
   have n0:nf=0:=by omega
   have hW:=j04_ (p':=(Vbemac.fail 7:Vbemac.P TopR)) (t':=(.word (text "fun"),xp)::t') (by unfold top1;rw[if_neg c1,if_pos hkw,if_pos n0]) hW
   refine⟨_,rfl,r,dr,_,rfl,er,rfl,r,q,kd,fn,ds,bl,n,_,t',7,rfl,S.rd,?_⟩
   rw[W_fail] at hW
   exact hW H je_.refl
  have n0:nf≠0:=fun z=>of_decide_eq_false e (by show(ff.length:Int)=3+6;omega)
  have hW:W (Vbemac.next>>=fun _=>funP fuel Kn nf D) _ _ _:=j04_ (by unfold top1;rw[if_neg c1,if_pos hkw,if_neg n0]) hW
  have hW:=W_nx hW
  unfold funP at hW
  refine⟨_,rfl,r,dr,_,rfl,er,rfl,?_⟩
  unfold j14_ ua_ tC
  dsimp only[List.append_nil]
  refine at_step litFun S fun H1 S1 k1=>?_
  obtain⟨dr1,er1⟩:=S1.rd.ins
  refine⟨_,rfl,r,dr1,_,rfl,er1,rfl,?_⟩
  rw[jj_] at hW
  have hW:=W_and hW newName_ok
  have hW:=W_gv hW
  refine nm_step S1 (fun k x z=>z.1 H1 k1) hW fun u H2 t2 l2 ft S2 k2 hW2=>?_
  obtain⟨hW2,eN⟩:=(show _/\_ from hW2)
  obtain⟨lit,nkey⟩:=nameLit S1 eN
  have k02:=k1.trans k2
  obtain⟨dr2,er2⟩:=S2.rd.ins
  refine⟨_,rfl,r,dr2,_,rfl,er2,rfl,?_⟩
  refine qy_ litO S2 (fun k x z=>z H2 k02) hW2 fun H3 t3 l3 S3 k3 hW3=>?_
  have k03:=k02.trans k3
  refine⟨Nat.zero_le _,fun L hL=>?_⟩
  have nL: ¬Mut r kd fn ds bl L:=S3.fresh hL
  have s34:=yj_ hL (o:= .lst [])
  have S4:=S3.same s34
  have k34:je_ (Mut r kd fn ds bl) H3 (upd H3 L (.lst [])):=OS.vq_.keeps s34
  have k04:=k03.trans k34
  have hL4:upd H3 L (.lst []) L=some (.lst []):=j4_
  generalize upd H3 L (.lst [])=H4 at S4 k34 k04 hL4
  rw[jj_] at hW3
  refine⟨fun σ' H'=> ∃(ps:List Bytes) (Lp:Addr) (n5:Nat) (t5:Toks),σ'=[some (.ref r),some (.str (sb u)),some (.ref Lp),none,none]/\t5.length<=t3.length/\ps.length<=6/\ps.Nodup/\(∀x∈ps,x∉Kn.values)/\ ¬Mut r kd fn ds bl Lp/\H' Lp=some (.lst (strV ps))/\PSt a H' r q kd fn ds bl n5 t5 ⟨ps.reverse++Kn.values,Kn.funs⟩/\je_ (Mut r kd fn ds bl) H4 H'/\
   W (Vbemac.sign ")") t5 (fun _ t6=>W (funRest fuel Kn nf D u ps) t6 (TopCn a r q kd fn ds bl H Q (t'.length+1)) (QE a r kd fn ds bl H E)) (QE a r kd fn ds bl H4 E),?_,?_⟩
  ·obtain⟨dr4,er4⟩:=S4.rd.ins
   refine⟨_,rfl,r,dr4,_,rfl,er4,rfl,?_⟩
   have ifno:isSign t3 ")"=false->Vbemac.ifSign ")" t3= .ok (false,t3):=fun no=>by unfold Vbemac.ifSign;rw[if_neg (by rw[no];exact Bool.false_ne_true)]
   refine see_sign litC S4 (fun b=>?_) fun nb=>⟨_,rfl,?_⟩
   ·rw[j0n_ (ifno (vo_ b ")")),if_neg Bool.false_ne_true,jj_] at hW3
    exact(j1h_ _ _ _).at_bad b hW3 H4 k04
   ·cases hs:isSign t3 ")" with
    |true=>
     refine ur_ ?_
     have ek:Vbemac.ifSign ")" t3= .ok (true,t3.drop 1):=by unfold Vbemac.ifSign;rw[if_pos hs]
     rw[j0n_ ek,if_pos rfl,jj_,W_give] at hW3
     have es:Vbemac.sign ")" t3= .ok ((),t3.drop 1):=by unfold Vbemac.sign;rw[if_pos hs]
     refine⟨[],L,_,t3,rfl,Nat.le_refl _,Nat.zero_le _,List.nodup_nil,(fun _ z=>nomatch z),nL,hL4,S4,je_.refl,?_⟩
     rw[j0n_ es]
     exact hW3
    |false=>
     refine j0q_ ?_
     rw[j0n_ (ifno hs),if_neg Bool.false_ne_true,jj_] at hW3
     refine⟨_,rfl,_,rfl,r,q,kd,fn,ds,bl,_,t3,Kn,u,fuel,_,rfl,lit,nkey,S4,by omega,hW3.mono (fun _ _ z=>z) (fun _ _ z H' k'=>z H' (k04.trans k')),fun ps t5 H5 Lp n5 l5 p6 pnd pfr w5 S5 k5 H4L H5L=>?_⟩
     exact⟨ps,Lp,n5,t5,rfl,by omega,p6,pnd,pfr,S4.fresh H4L,H5L,S5,k5,w5⟩
  rintro σ5 H5 ⟨ps,Lp,n5,t5,rfl,l5,p6,pnd,pfr,nLp,hLp,S5,k45,w5⟩
  have k05:=k04.trans k45
  obtain⟨dr5,er5⟩:=S5.rd.ins
  refine⟨_,rfl,r,dr5,_,rfl,er5,rfl,?_⟩
  refine qy_ litC S5 (fun k x z=>z H5 k45) (W_gv w5) fun H6 t6 l6 S6 k6 w6=>?_
  have k06:=k05.trans k6
  have w6:W (funRest fuel Kn nf D u ps) t6 (TopCn a r q kd fn ds bl H Q (t'.length+1)) (QE a r kd fn ds bl H E):=w6
  unfold funRest at w6
  have S7:PSt a H6 r q kd fn ds bl (n5+1) t6 { Kn with values:=ps++Kn.values } :=S6.recast (fun v=>by
   rw[Bool.eq_iff_iff,List.contains_iff_mem,List.contains_iff_mem,List.mem_append,List.mem_append,List.mem_reverse]) (by
   show(ps++Kn.values).length=(ps.reverse++Kn.values).length
   rw[List.length_append,List.length_append,List.length_reverse]) rfl
  have hG:=W_given w6
  refine⟨_,rfl,r,q,kd,fn,ds,bl,_,t6,{ Kn with values:=ps++Kn.values },fuel,rfl,S7,by omega,hG.mono (fun e t8 w8 l8 H8 v n8 S8 k8 ev=>?_) fun _ _ z H' k'=>z H' (k06.trans k')⟩
  have k08:=k06.trans k8
  have hL8:H8 Lp=some (.lst (strV ps)):=k8 _ _ (k6 _ _ hLp nLp) nLp
  refine⟨_,rfl,Lp,rfl,⟨_,SqL.of hL8⟩,for_list (K:=K) (a:=Lp) (xs:=strV ps) (fun i σ H'=> ∃y:Option V,σ=[some (.ref r),some (.str (sb u)),some (.ref Lp),some v,y]/\PSt a H' r q kd fn ds bl n8 t8 { Kn with values:=ps.drop i++Kn.values } /\je_ (Mut r kd fn ds bl) H8 H') ⟨none,rfl,S8,je_.refl⟩ (fun i σ H' _ ⟨_,_,S',k'⟩=>SqL.of (k' _ _ hL8 nLp)) ?_ ?_⟩
  ·rintro i y σ H9 hi ⟨y0,rfl,S9,k9⟩
   obtain⟨x,hx,rfl⟩: ∃x,ps[i]?=some x/\y=V.str (sb x):=by
    unfold strV at hi
    rw[List.getElem?_map] at hi
    cases e:ps[i]? with
    |none=>rw[e] at hi;cases hi
    |some c=>rw[e] at hi;exact⟨c,rfl,(Option.some.inj hi).symm⟩
   have ed:ps.drop i=x::ps.drop (i+1):=by
    obtain⟨h,e⟩:=List.getElem?_eq_some_iff.mp hx
    rw[<-e]
    exact List.drop_eq_getElem_cons h
   rw[ed] at S9
   have sub:(x::ps.drop (i+1)).Sublist ps:=by
    rw[<-ed]
    exact List.drop_sublist i ps
   have nin:=(List.nodup_cons.mp (sub.nodup pnd)).1
   have nV:=pfr x (sub.subset (List.mem_cons_self ..))
   obtain⟨dr9,er9⟩:=S9.rd.ins
   obtain⟨kb,kb1,_,_⟩:=S9.kn.vals
   obtain⟨hu,Sa⟩:=S9.forgetG (u:=x) (K2:= { Kn with values:=ps.drop (i+1)++Kn.values }) (List.contains_iff_mem.mpr (List.mem_cons_self ..)) rfl rfl (fun z=>by
    show(ps.drop (i+1)++Kn.values).contains z=(!decide (z=x)&&(x::(ps.drop (i+1)++Kn.values)).contains z)
    rw[List.contains_cons]
    by_cases e:z=x
    ·subst e
     rw[decide_eq_true rfl]
     show _=false
     rw[Bool.eq_false_iff]
     intro w
     rcases List.mem_append.mp (List.contains_iff_mem.mp w) with w|w
     ·exact nin w
     ·exact nV w
    ·rw[decide_eq_false e,show(z == x)=false from beq_eq_false_iff_ne.mpr e]
     rfl) kb1
   refine⟨_,rfl,r,dr9,_,rfl,er9,rfl,_,rfl,r,dr9,q,kd,fn,ds,bl,_,x,kb,rfl,er9,kb1,hu,?_⟩
   exact⟨_,rfl,Sa,k9.trans fun b o e m=>by rw[j3_ fun z=>m (.inr (.inl z))];exact e⟩
  ·rintro σ H9 ⟨y0,rfl,S9,k9⟩
   have ed:ps.drop (strV ps).length=[]:=by unfold strV;rw[List.length_map];exact List.drop_length
   rw[ed] at S9
   have S9:PSt a H9 r q kd fn ds bl n8 t8 Kn:=S9
   obtain⟨dr9,er9⟩:=S9.rd.ins
   obtain⟨gg,g1,_⟩:=S9.kn.funs
   have gl:=S9.kn.fl g1
   have hL9:=k9 _ _ hL8 nLp
   have sl:(strV ps).length=ps.length:=List.length_map ..
   refine⟨_,rfl,_,_,rfl, .inl (SqL.of hL9),_,rfl,r,_,dr9,_,_,rfl,er9,T.cl_Reader,T.no_Reader_functions,rfl,_,rfl,fn,_,rfl, .inl ⟨gg,nk u,g1,rfl,Nat.lt_of_le_of_lt (show gg.length<=9 by omega) (by decide),rfl⟩,?_⟩
   have Sa:=S9.putF (x:=u) (c:=(strV ps).length) ft g1
   have k9a:je_ (Mut r kd fn ds bl) H9 (upd H9 fn (.dK (j0l_ gg (nk u) (.int ((strV ps).length:Nat))))):=fun b o e m=>by rw[j3_ fun z=>m (.inr (.inr (.inl z)))];exact e
   refine⟨_,rfl,_,rfl,_,rfl,?_⟩
   intro p dx hp hdx ne
   refine⟨p,dx,_,_,_,rfl,j4_,fun Hd hd' kd'=>⟨rfl,?_⟩⟩
   have scd:=yz_ hp hdx kd'
   have k9d:=k9a.trans (OS.vq_.keeps (M:=Mut r kd fn ds bl) scd)
   have k8d:=k9.trans k9d
   have w8:TopCn a r q kd fn ds bl H Q (t'.length+1) _ t8:=w8
   have Sb:=Sa.recast (K2:= { Kn with funs:=(u,ps.length)::Kn.funs }) (fun _=>rfl) rfl (by show(u,ps.length)::Kn.funs=(u,(strV ps).length)::Kn.funs;rw[sl])
   refine w8 (by omega) Hd (.ref p) _ ds.c bl hD (by omega) rfl (.inl rfl) (Sb.same scd) (by show Kn.funs.length+1+(nf-1)=9;omega) (k08.trans k8d) ?_
   exact⟨.ref Lp,v,⟨p,dx,rfl,Sa.fresh hp,hd'⟩,ql_.keep k8d.two ⟨Lp,rfl,nLp,hL8⟩,ja_.keep k8d _ ev⟩
theorem ok_z62 (T:Txt K mg a) (XC:XT K a) (hk:8<=k)
  (G_z49:ju_ P w K mg base (CXF P w) k a.f_z49 a.fd_z49 ["reader","depth"] (spBr a 7)):
  ju_ P w K mg base (CXF P w) (k+1) a.f_z62 a.fd_z62 ["reader"] (spTop a fun t=>isKey t "const"=false/\isKey t "fun"=false):=by
 have G_z29:=yq_ (P:=P) (w:=w) (base:=base) T XC
 have G_z0:=um_ (P:=P) (w:=w) (base:=base) T XC
 have G_z26:=ok_Desk_init (P:=P) (w:=w) (base:=base) T
 refine okX T.F_z62 sc_z62 (fun vs H Q E h=>?_) (fun cdv A outer s H vs Q E hr h=>?_)
 ·obtain⟨r,q,kd,fn,ds,bl,n,t,Kn,nf,D,fuel,rfl,_⟩:=h
  rfl
 ·obtain⟨r,q,kd,fn,ds,bl,n,t,Kn,nf,D,fuel,rfl,⟨nc,nfu⟩,hf,S,hD,hDl,hn,hW⟩:=h
  refine⟨_,(j2_ (jd_ (jb_ (pv 0) T.cl_Reader T.me_z29 G_z29 (hr.mono (by omega)) T.b_z29 .nil j6_ (j0_ jk_ j5_)))
    (j2_ (jg_ (i:=1) sc_z62.nd rfl (Or.inl rfl) (jb_ (pv 0) T.cl_Reader T.me_z0 G_z0 (hr.mono (by omega)) T.b_z0 .nil j6_ (j0_ (yf_ (pv 0) rfl) j5_)))
    (j2_ (ps_dput (j16_ hr) (yf_ (pv 0) rfl) (pv 1) pe_bl rfl)
    (j2_ (jq_ (pv 0) pe_dnewK rfl)
    (j7_ (jh_ (vf_ T.mk_Desk G_z26 (hr.mono (by omega)) (by rfl) T.mg_Desk T.b_z26 .nil yr_ (j0_ (pv 1) (j0_ (j9_ G_z49 (hr.mono (by omega)) (by rfl) T.m_z49 T.F_z49.kp T.b_z49 .nil j6_ (j0_ (pv 0) (j0_ jr_ j5_))) j5_))))))))),?_⟩
  have room:=S.kn.len
  have c1: ¬isKey t "const"=true:=by rw[nc];exact Bool.false_ne_true
  have c2: ¬isKey t "fun"=true:=by rw[nfu];exact Bool.false_ne_true
  have hW:W (Vbemac.key "desk">>=fun _=>deskP fuel Kn nf D) t (TopCn a r q kd fn ds bl H Q t.length) (QE a r kd fn ds bl H E):=by
   cases hd:isKey t "desk" with
   |true=>
    have h:=j04_ (p':=(Vbemac.next>>=fun _=>deskP fuel Kn nf D:Vbemac.P TopR)) (t':=t) (by unfold top1;rw[if_neg c1,if_neg c2,if_pos hd]) hW
    rw[jj_] at h ⊢
    rw[j0n_ (show Vbemac.key "desk" t= .ok ((),t.drop 1) by unfold Vbemac.key;rw[if_pos hd])]
    exact h
   |false=>
    have c3: ¬isKey t "desk"=true:=by rw[hd];exact Bool.false_ne_true
    have h:=j04_ (p':=(Vbemac.fail 2:Vbemac.P TopR)) (t':=t) (by unfold top1;rw[if_neg c1,if_neg c2,if_neg c3]) hW
    rw[jj_]
    exact j04_ (p:=(Vbemac.fail 2:Vbemac.P Unit)) (t:=t) (by unfold Vbemac.key;rw[if_neg c3]) h
  obtain⟨dr,er⟩:=S.rd.ins
  refine⟨_,rfl,r,dr,_,rfl,er,rfl,?_⟩
  unfold j14_ ua_ tC
  dsimp only[List.append_nil]
  refine ky_step litDesk S (fun k x z=>z H je_.refl) hW fun H1 t1 l1 S1 k1 hW1=>?_
  unfold deskP at hW1
  obtain⟨⟨x,xp⟩,t2,rfl,tok,hpk,hpl,_⟩:=S1.wh.first
  obtain⟨dr1,er1⟩:=S1.rd.ins
  rw[jj_] at hW1
  refine⟨_,rfl,r,dr1,_,rfl,er1,rfl,_,rfl,r,_,dr1,_,_,rfl,er1,T.cl_Reader,T.no_Reader_desks,rfl,?_⟩
  refine⟨r,q,kd,fn,ds,bl,ds.p,n+1,(x,xp),t2,ds.c,rfl,S1.rd,S1.ds_,fun b=>(deskName_strict D).at_bad (hpk.trans b) hW1 H1 k1,fun nb en=>?_,fun u ex en hu=>?_,fun u ex en hu H2 hp2=>?_⟩
  ·refine yl_ (p:=qz_ D) (n:=2) (t:=(x,xp)::t2) ?_ nb hW1 H1 k1
   cases x with
   |word u=>
    have en:qo_ (.word u)=false:=en
    rw[jz_] at en
    have hkw:KEYS.contains u=true:=by cases h:KEYS.contains u;rw[h] at en;cases en;rfl
    unfold qz_
    rw[va_,if_pos hkw]
    rfl
   |num m=>rfl
   |sign s=>rfl
   |eof=>rfl
   |bad=>exact absurd rfl nb
  ·obtain rfl:x= .word u:=ex
   have en:qo_ (.word u)=true:=en
   rw[jz_] at en
   have hkw:KEYS.contains u=false:=by cases h:KEYS.contains u;rfl;rw[h] at en;cases en
   refine yl_ (p:=qz_ D) (n:=4) (t:=(.word u,xp)::t2) ?_ (fun z=>nomatch z) hW1 H1 k1
   unfold qz_
   rw[va_,if_neg (by rw[hkw];exact Bool.false_ne_true)]
   dsimp only
   rw[if_pos ((hD u).symm.trans hu)]
  obtain rfl:x= .word u:=ex
  have en:qo_ (.word u)=true:=en
  rw[jz_] at en
  have hkw:KEYS.contains u=false:=by cases h:KEYS.contains u;rfl;rw[h] at en;cases en
  have hu':D.contains u=false:=(hD u).symm.trans hu
  have ed:qz_ D ((.word u,xp)::t2)= .ok (u,t2):=by
   unfold qz_
   rw[va_,if_neg (by rw[hkw];exact Bool.false_ne_true)]
   dsimp only
   rw[if_neg (by rw[hu'];exact Bool.false_ne_true)]
  rw[j0n_ ed] at hW1
  have S2:=S1.past (fun z=>z.elim (fun z=>nomatch z) fun z=>nomatch z) hp2
  have k02:=k1.trans (jt_ hp2)
  obtain⟨dr2,er2⟩:=S2.rd.ins
  rw[List.length_cons] at l1
  refine⟨_,rfl,r,_,dr2,_,_,rfl,er2,T.cl_Reader,T.no_Reader_desks,rfl,_,rfl,ds.p,_,rfl, .inl ⟨ds.c,nk u,S2.ds_,rfl,Nat.lt_of_le_of_lt (show ds.c.length<=4000 by omega) (by decide),rfl⟩,?_⟩
  have S3:PSt a (upd H2 ds.p (.dK (j0l_ ds.c (nk u) (.bl true)))) r q kd fn (ds.at_ (j0l_ ds.c (nk u) (.bl true))) bl (n+1+1) t2 Kn:=S2.putD
  have k23:je_ (Mut r kd fn ds bl) H2 (upd H2 ds.p (.dK (j0l_ ds.c (nk u) (.bl true)))):=fun b o e m=>by rw[j3_ fun z=>m (.inr (.inr (.inr (.inl z))))];exact e
  have hD3: ∀v,has (j0l_ ds.c (nk u) (.bl true)) v=(u::D).contains v:=fun v=>by
   rw[has_put,List.contains_cons,hD v]
   congr 1
   rw[Bool.eq_iff_iff,decide_eq_true_iff,beq_iff_eq]
  have hD3l:(j0l_ ds.c (nk u) (.bl true)).length+t2.length<=4000:=by
   have:=ug_ ds.c (nk u) (.bl true)
   omega
  have k03:=k02.trans k23
  generalize hc3:j0l_ ds.c (nk u) (.bl true)=c3 at S3 hD3 hD3l k23 k03 ⊢
  generalize hH3:upd H2 ds.p (.dK c3)=H3 at S3 k23 k03 ⊢
  intro nb hnb
  have S4:=S3.newB hnb
  obtain⟨dr3,er3⟩:=S3.rd.ins
  have rn:r≠nb:=fun z=>by rw[<-z,er3] at hnb;cases hnb
  have nbM: ¬Mut r kd fn ds bl nb:=S3.fresh (ds:=ds.at_ c3) hnb
  refine⟨_,rfl,r,_,dr3,_,rfl,(by rw[j3_ rn];exact er3),T.cl_Reader,T.no_Reader_blocks,(by show 6<1000;decide),?_⟩
  rw[show(ds.at_ c3).p=ds.p from rfl] at er3
  rw[putF_blocks]
  obtain⟨S5,k35⟩:=S4 dr3 er3
  generalize hH5:upd (upd H3 nb (.dK [])) r (.ins a.c_Reader dr3 (rdF q kd fn ds.p nb (n+1+1)))=H5 at S5 k35 ⊢
  have k05:je_ (Mut r kd fn ds bl) H H5:=k03.trans k35
  have H0nb:H nb=none:=by
   cases e:H nb with
   |none=>rfl
   |some o=>rw[k03 nb o e nbM] at hnb;cases hnb
  have ext: ∀ {H':Hp},je_ (Mut r kd fn ds ⟨nb,[],bl.x⟩) H5 H'->je_ (Mut r kd fn ds bl) H H':=fun k' b o e m=>k' b o (k05 b o e m) fun z=>by
   rcases z with z|z|z|z|z|z
   ·exact m (.inl z)
   ·exact m (.inr (.inl z))
   ·exact m (.inr (.inr (.inl z)))
   ·exact m (.inr (.inr (.inr (.inl z))))
   ·have z:b=nb:=z
    rw[z,H0nb] at e
    cases e
   ·exact m (.inr (.inr (.inr (.inr (.inr z)))))
  have h5:=W_br hW1
  refine⟨_,rfl,_,rfl,r,q,kd,fn,ds.at_ c3,⟨nb,[],bl.x⟩,_,t2,Kn,[],0,fuel,rfl,Nat.zero_le _,by decide,by omega,S5,(fun v=>rfl),(by show 0+t2.length<=4000;omega),h5.mono (fun l t6 w6 l6 H6 v n6 c6 hB6 hc6 S6 k6 sv6=>?_) fun _ _ z H' k'=>z H' (ext k')⟩
  obtain⟨us,la,sa⟩:=sv6
  intro p dx hp hdx ne
  refine⟨p,dx,_,_,rfl,j4_,fun Hd hd' kd'=>⟨rfl,?_⟩⟩
  have scd:=yz_ hp hdx kd'
  have k6d:je_ (Mut r kd fn ds ⟨nb,[],bl.x⟩) H6 Hd:=OS.vq_.keeps scd
  have w6:TopCn a r q kd fn ds bl H Q t.length _ t6:=w6
  exact w6 (by omega) Hd (.ref p) _ c3 ⟨nb,c6,bl.x⟩ hD3 (by omega) rfl (.inr H0nb) (S6.same scd) hn (ext (k6.trans k6d)) ⟨v,us,⟨p,dx,rfl,S6.fresh hp,hd'⟩,la.keep k6d.two,yn_.keep2 k6d.two _ sa⟩
theorem ok_z70 (T:Txt K mg a) (XC:XT K a) (hk:7<=k)
  (G_z55:ju_ P w K mg base (CXF P w) k a.f_z55 a.fd_z55 ["reader"] (spTop a fun t=>isKey t "const"=true))
  (G_z71:ju_ P w K mg base (CXF P w) k a.f_z71 a.fd_z71 ["reader"] (spTop a fun t=>isKey t "const"=false/\isKey t "fun"=true))
  (G_z62:ju_ P w K mg base (CXF P w) k a.f_z62 a.fd_z62 ["reader"] (spTop a fun t=>isKey t "const"=false/\isKey t "fun"=false)):
  ju_ P w K mg base (CXF P w) (k+1) a.f_z70 a.fd_z70 ["reader"] (spTop a fun _=>True):=by
 have G_z45:=qt_ (P:=P) (w:=w) (base:=base) T XC
 refine okX T.F_z70 sc_z70 (fun vs H Q E h=>?_) (fun cdv A outer s H vs Q E hr h=>?_)
 ·obtain⟨r,q,kd,fn,ds,bl,n,t,Kn,nf,D,fuel,rfl,_⟩:=h
  rfl
 ·obtain⟨r,q,kd,fn,ds,bl,n,t,Kn,nf,D,fuel,rfl,_,hf,S,hD,hDl,hn,hW⟩:=h
  refine⟨_,(j2_ (yg_ (yc_ (jb_ (pv 0) T.cl_Reader T.me_z45 G_z45 (hr.mono (by omega)) T.b_z45 .nil j6_ (j0_ jk_ j5_))) (j7_ (jh_ (j9_ G_z55 (hr.mono (by omega)) (by rfl) T.m_z55 T.F_z55.kp T.b_z55 .nil j6_ (j0_ (pv 0) j5_)))) ji_)
    (j2_ (yg_ (yc_ (jb_ (pv 0) T.cl_Reader T.me_z45 G_z45 (hr.mono (by omega)) T.b_z45 .nil j6_ (j0_ jk_ j5_))) (j7_ (jh_ (j9_ G_z71 (hr.mono (by omega)) (by rfl) T.m_z71 T.F_z71.kp T.b_z71 .nil j6_ (j0_ (pv 0) j5_)))) ji_)
    (j7_ (jh_ (j9_ G_z62 (hr.mono (by omega)) (by rfl) T.m_z62 T.F_z62.kp T.b_z62 .nil j6_ (j0_ (pv 0) j5_)))))),?_⟩
  have hb:peek t= .bad->Flt a.c_Fault E H 1 (place t):=fun b=>(top1_strict _ _ _ _).at_bad b hW H je_.refl
  obtain⟨dr,er⟩:=S.rd.ins
  refine⟨_,rfl,r,dr,_,rfl,er,rfl,?_⟩
  unfold j14_ ua_ tC
  dsimp only[List.append_nil]
  refine wx_ litConst S hb fun nb=>⟨_,rfl,yt_ (fun e1=>?_) fun e1=>?_⟩
  ·exact⟨_,rfl,r,q,kd,fn,ds,bl,n,t,Kn,nf,D,fuel,rfl,e1,hf,S,hD,hDl,hn,hW⟩
  refine⟨_,rfl,r,dr,_,rfl,er,rfl,?_⟩
  refine wx_ litFun S hb fun nb=>⟨_,rfl,yt_ (fun e2=>?_) fun e2=>?_⟩
  ·exact⟨_,rfl,r,q,kd,fn,ds,bl,n,t,Kn,nf,D,fuel,rfl,⟨e1,e2⟩,hf,S,hD,hDl,hn,hW⟩
  ·exact⟨_,rfl,r,q,kd,fn,ds,bl,n,t,Kn,nf,D,fuel,rfl,⟨e1,e2⟩,hf,S,hD,hDl,hn,hW⟩
end
end OS
namespace OS
open PySem PySem.Spec L2
open PyProof.Rows hiding St
open Vbemac (Bytes Toks SIGNS KEYS peek place text isSign isKey tokens known0 FUNS BUILT)
abbrev TopL (a:Adr) (M:Addr->Prop) (H:Hp) (ss:List Vbemac.Top) (us:List V):Prop:=Paired (fun s v=>TopAt a M H s v) ss us
inductive spSheet (K:PySem.W.Frag) (a:Adr) (vs:List V) (H:Hp) (Q:VK) (E:XK):Prop
 |mk (l:Addr) (bs:Bytes) (_:vs=[.ref l]) (_:SqL K H l (bsV bs)) (_:bs.length<=3000) (_:W (Vbemac.tops (Vbemac.fuel (tokens bs)) known0 FUNS []) (tokens bs) (fun ss _=> ∀H' (L:Addr) (us:List V) (M:Addr->Prop),vq_ H H'->H L=none-> ¬M L->H' L=some (.lst us)->TopL a M H' ss us->Q (.ref L) H') (fun k x=> ∀H',vq_ H H'->Flt a.c_Fault E H' k x)):spSheet K a vs H Q E
section
variable {P:Program} {w:World} {K:PySem.W.Frag} {mg:Str->Option Value} {base:Heap} {a:Adr} {k m:Nat}
theorem ok_z54 (T:Txt K mg a) (XC:XT K a) (kS:KdT P w K a.k_SIGNS wl_) (kF:KdK P w K a.k_FIRST_FUNCTIONS ub_) (hk:7<=k)
  (G_z70:ju_ P w K mg base (CXF P w) k a.f_z70 a.fd_z70 ["reader"] (spTop a fun _=>True)):
  ju_ P w K mg base (CXF P w) (k+1) a.f_z54 a.fd_z54 ["text"] (spSheet K a):=by
 have G_z10:=ok_Reader_init (P:=P) (w:=w) (base:=base) T kF
 have G_z60:=ok_z60 (P:=P) (w:=w) (base:=base) T kS
 have G_z28:=ok_at_end (P:=P) (w:=w) (base:=base) T XC
 refine okX T.F_z54 sc_z54 (fun vs H Q E h=>?_) (fun cdv A outer s H vs Q E hr h=>?_)
 ·obtain⟨l,bs,rfl,_⟩:=h
  rfl
 ·obtain⟨l,bs,rfl,hS,hl,hW⟩:=h
  refine⟨_,(j2_ (jg_ (i:=1) sc_z54.nd rfl (Or.inl rfl) (vf_ T.mk_Reader G_z10 (hr.mono (by omega)) (by rfl) T.mg_Reader T.b_z10 .nil yr_ (j0_ (j9_ G_z60 (hr.mono (by omega)) (by rfl) T.m_z60 T.F_z60.kp T.b_z60 .nil yr_ (j0_ (pv 0) j5_)) j5_)))
    (j2_ (jg_ (i:=2) sc_z54.nd rfl (Or.inl rfl) (uu_ j5_))
    (j2_ (u6_ PassesOwn.leaving (wj_ (yc_ (jn_ (pv 1) T.cl_Reader T.me_z28 G_z28 (hr.mono (by omega)) T.b_z28 .nil j6_))) (j7_ (jd_ (pe_bm PySem.F.plainAttrs_list PySem.F.slot_list_append PySem.F.type_list_append qc_ (pv 2) (j0_ (j9_ G_z70 (hr.mono (by omega)) (by rfl) T.m_z70 T.F_z70.kp T.b_z70 .nil j6_ (j0_ (pv 1) j5_)) j5_)))))
    (j7_ (jh_ (pv 2)))))),?_⟩
  refine⟨_,rfl,l,bs,rfl,hS,hl,fun H1 q as s1 hq0 hq1 tk=>?_⟩
  intro r dr hr0 hdr ne
  refine⟨r,dr,q,rfl,j4_,fun H2 kd fn ds bl N=>⟨rfl,?_⟩⟩
  have qr:q≠r:=(jf_ hq1 hr0)
  have up1: ∀ {b:Addr} {o:HO},H1 b=some o->upd (upd H1 dr (.own r)) r (.ins a.c_Reader dr []) b=some o:=fun e=>by
   rw[j3_ (jf_ e hr0),j3_ (jf_ e hdr)]
   exact e
  have ntok: ∀ {as:List Addr} {ts:Toks},Paired (j1b_ a.c_Token H1) as ts-> ∀b∈as,b≠r:=fun tk=>by
   induction tk with
   |nil=>exact fun b hb=>nomatch hb
   |cons h t ih=>
    intro b hb
    rcases List.mem_cons.mp hb with hb|hb
    ·obtain⟨dx,e⟩:=h
     rw[hb]
     exact jf_ e hr0
    ·exact ih b hb
  have S2:=N.st (up1 hq1) qr (Paired.mapP tk fun b x ⟨dx,e⟩=>⟨dx,up1 e⟩) (ntok tk) hl
  have s02:vq_ H H2:=fun b o e=>N.kept b o (up1 (s1 b o e)) (jf_ (s1 b o e) hr0)
  have upn: ∀ {b:Addr},upd (upd H1 dr (.own r)) r (.ins a.c_Reader dr []) b=none->H b=none:=fun {b} e=>by
   cases z:H b with
   |none=>rfl
   |some o=>rw[up1 (s1 b o z)] at e;cases e
  have M2: ∀b,Mut r kd fn ⟨ds,[],F0⟩ ⟨bl,[],F0⟩ b->H b=none:=fun b z=>by
   rcases z with z|z|z|z|z|⟨_,z⟩
   ·rw[z]
    cases e:H r with
    |none=>rfl
    |some o=>rw[s1 r o e] at hr0;cases hr0
   ·rw[z];exact upn N.kd0
   ·rw[z];exact upn N.fn0
   ·rw[z];exact upn N.ds0
   ·rw[z];exact upn N.bl0
   ·exact z.elim
  refine⟨Nat.zero_le _,fun L hL=>?_⟩
  have H0L:H L=none:=by
   cases e:H L with
   |none=>rfl
   |some o=>rw[s02 L o e] at hL;cases hL
  have nq:L≠q:=fun z=>by obtain⟨as,all,h1,_⟩:=S2.rd.toks;rw[z,h1] at hL;cases hL
  have S3:PSt a (upd H2 L (.lst [])) r q kd fn ⟨ds,[],F0⟩ ((⟨bl,[],F0⟩:Box).more L []) 0 (tokens bs) known0:=(S2.same (yj_ hL)).more j4_
  let Ro:Vbemac.Sheet->Toks->Prop:=fun ss _=> ∀H' (L:Addr) (us:List V) (M:Addr->Prop),vq_ H H'->H L=none-> ¬M L->H' L=some (.lst us)->TopL a M H' ss us->Q (.ref L) H'
  let Qe:Nat->Vbemac.Pos->Prop:=fun k x=> ∀H',vq_ H H'->Flt a.c_Fault E H' k x
  let Iv:List Vbemac.Top->List V->Vbemac.Known->Nat->List Bytes->List (Key×V)->Addr->List (Key×V)->Nat->Toks->Nat->Hp->Prop:=fun ss us K1 nf D dc bp bc n1 t1 f1 H'=>us.length+t1.length<=(tokens bs).length/\PSt a H' r q kd fn ⟨ds,dc,F0⟩ ((⟨bp,bc,F0⟩:Box).more L us) n1 t1 K1/\(∀u,has dc u=D.contains u)/\dc.length+t1.length<=4000/\K1.funs.length+nf=9/\16*t1.length+1<=f1/\vq_ H H'/\
   (∀b,Mut r kd fn ⟨ds,dc,F0⟩ (⟨bp,bc,F0⟩:Box) b->H b=none)/\ ¬Mut r kd fn ⟨ds,dc,F0⟩ (⟨bp,bc,F0⟩:Box) L/\TopL a (Mut r kd fn ⟨ds,dc,F0⟩ ((⟨bp,bc,F0⟩:Box).more L us)) H' ss us/\W (Vbemac.tops f1 K1 nf D) t1 (fun l t'=>Ro (ss++l) t') Qe
  have tl:(tokens bs).length<=3002:=by
   have:=qx_ (bs.length+1) (1,1) bs
   unfold tokens
   omega
  refine⟨fun mm σ H'=> ∃(ss:List Vbemac.Top) (us:List V) (K1:Vbemac.Known) (nf:Nat) (D:List Bytes) (dc:List (Key×V)) (bp:Addr) (bc:List (Key×V)) (n1:Nat) (t1:Toks) (f1:Nat),mm=t1.length/\σ=[some (.ref l),some (.ref r),some (.ref L)]/\Iv ss us K1 nf D dc bp bc n1 t1 f1 H',
   ⟨_,[],[],known0,FUNS,[],[],bl,[],0,tokens bs,Vbemac.fuel (tokens bs),rfl,rfl,by show 0+_<=_;omega,S3,(fun u=>rfl),by show 0+_<=_;omega,rfl,by unfold Vbemac.fuel;omega,s02.trans (yj_ hL),M2,S2.fresh hL, .nil,hW⟩,?_⟩
  rintro mm σ H4 ⟨ss,us,K1,nf,D,dc,bp,bc,n4,t4,f4,rfl,rfl,ul,S4,hD,hDl,hn,hf4,s04,M4,nL,tv,w4⟩
  obtain⟨f4,rfl⟩: ∃f',f4=f'+1:=⟨f4-1,by omega⟩
  obtain⟨⟨x,xp⟩,t5,rfl,tok,hpk,hpl,_⟩:=S4.wh.first
  obtain⟨dr4,er4⟩:=S4.rd.ins
  refine⟨_,rfl,r,dr4,_,rfl,er4,rfl,r,q,kd,fn,ds,bp,n4,(x,xp),t5,rfl,S4.rd,(fun b=>(tops_strict _ _ _ _).at_bad (hpk.trans b) w4 H4 s04),fun nb=>⟨_,rfl,?_⟩⟩
  have ee:isEnd x=true->x= .eof:=fun h=>by cases x<;>first|rfl|cases h
  cases he:isEnd x with
  |true=>
   have ex:=ee he
   subst ex
   refine ur_ ?_
   rw[j0n_ (tops_end (t:=(.eof,xp)::t5) rfl)] at w4
   have w4:Ro (ss++[]) ((.eof,xp)::t5):=w4
   rw[List.append_nil] at w4
   refine⟨_,rfl,?_⟩
   exact w4 H4 L us (Mut r kd fn ⟨ds,dc,F0⟩ (⟨bp,bc,F0⟩:Box)) s04 H0L nL S4.the (Paired.mapP tv fun s v h=>TopAt.keep2 (fun b o e m=>⟨fun z=>m (yu_ z),e⟩) _ h)
  |false=>
   have ne:peek ((x,xp)::t5)≠ .eof:=fun z=>by
    have z:x= .eof:=z
    rw[z] at he
    cases he
   refine j0q_ ?_
   refine⟨fun σ' H'=> ∃(ss:List Vbemac.Top) (us:List V) (K1:Vbemac.Known) (nf:Nat) (D:List Bytes) (dc:List (Key×V)) (bp:Addr) (bc:List (Key×V)) (n1:Nat) (t1:Toks) (f1:Nat),t1.length<((x,xp)::t5).length/\σ'=[some (.ref l),some (.ref r),some (.ref L)]/\Iv ss us K1 nf D dc bp bc n1 t1 f1 H',?_,?_⟩
   ·rintro σ' H' ⟨ss',us',K',nf',D',dc',bp',bc',n',t',f',l',rfl,I'⟩
    exact⟨_,l',ss',us',K',nf',D',dc',bp',bc',n',t',f',rfl,rfl,I'⟩
   have ext: ∀ {H':Hp},je_ (Mut r kd fn ⟨ds,dc,F0⟩ ((⟨bp,bc,F0⟩:Box).more L us)) H4 H'->vq_ H H':=fun k' b o e=>k' b o (s04 b o e) fun z=>by
    rcases qd_ z with z|z
    ·rw[z,H0L] at e;cases e
    ·rw[M4 b z] at e;cases e
   have h5:=tops_go ne w4
   refine⟨_,rfl, .inl ⟨rfl,_,SqL.of S4.the⟩,?_⟩
   refine⟨_,rfl,r,q,kd,fn,⟨ds,dc,F0⟩,(⟨bp,bc,F0⟩:Box).more L us,n4,(x,xp)::t5,K1,nf,D,f4,rfl,True.intro,by omega,S4,hD,hDl,hn,h5.mono (fun y t6 w6 l6 H6 v n6 dc6 bl6 hD6 hD6l bx6 bp6 S6 hn6 k6 ta6=>?_) fun _ _ z H' k'=>z H' (ext k')⟩
   obtain⟨bp',bc',bx'⟩:=bl6
   obtain rfl:bx'=((⟨bp,bc,F0⟩:Box).more L us).x:=bx6
   have s06:=ext k6
   have S6:PSt a H6 r q kd fn ⟨ds,dc6,F0⟩ ((⟨bp',bc',F0⟩:Box).more L us) n6 t6 y.2.1:=S6
   have bp6:bp'=bp\/H4 bp'=none:=bp6
   have hb0:H bp'=none:=bp6.elim (fun z=>by rw[z];exact M4 bp (.inr (.inr (.inr (.inr (.inl rfl)))))) fun z=>by
    cases e:H bp' with
    |none=>rfl
    |some o=>rw[s04 bp' o e] at z;cases z
   have Lb:L≠bp':=fun z=>bp6.elim (fun w=>nL (.inr (.inr (.inr (.inr (.inl (z.trans w))))))) fun w=>by rw[<-z,S4.the] at w;cases w
   have M6: ∀b,Mut r kd fn ⟨ds,dc6,F0⟩ (⟨bp',bc',F0⟩:Box) b->H b=none:=fun b z=>by
    rcases z with z|z|z|z|z|⟨_,z⟩
    ·exact M4 b (.inl z)
    ·exact M4 b (.inr (.inl z))
    ·exact M4 b (.inr (.inr (.inl z)))
    ·exact M4 b (.inr (.inr (.inr (.inl z))))
    ·have z:b=bp':=z
     rw[z];exact hb0
    ·exact z.elim
   have nL6: ¬Mut r kd fn ⟨ds,dc6,F0⟩ (⟨bp',bc',F0⟩:Box) L:=fun z=>by
    rcases z with z|z|z|z|z|⟨_,z⟩
    ·exact nL (.inl z)
    ·exact nL (.inr (.inl z))
    ·exact nL (.inr (.inr (.inl z)))
    ·exact nL (.inr (.inr (.inr (.inl z))))
    ·exact Lb z
    ·exact z.elim
   refine⟨L,_,_,rfl,rfl,S6.the,Nat.lt_of_le_of_lt (show us.length<=4000 by omega) (by decide),?_⟩
   have up6:qk_ (Mut r kd fn ⟨ds,dc6,F0⟩ ((⟨bp',bc',F0⟩:Box).more L us)) (Mut r kd fn ⟨ds,dc6,F0⟩ ((⟨bp',bc',F0⟩:Box).more L (us++[v]))) H6 (upd H6 L (.lst (us++[v]))):=fun b o e m=>⟨fun z=>m (mut_other z),by rw[j3_ fun z=>m (by rw[z];exact qe_)];exact e⟩
   have up4:qk_ (Mut r kd fn ⟨ds,dc,F0⟩ ((⟨bp,bc,F0⟩:Box).more L us)) (Mut r kd fn ⟨ds,dc6,F0⟩ ((⟨bp',bc',F0⟩:Box).more L (us++[v]))) H4 (upd H6 L (.lst (us++[v]))):=fun b o e m=>up6 b o (k6 b o e m) fun z=>by
    rcases qd_ z with z|z
    ·exact m (by rw[z];exact qe_)
    ·rcases z with z|z|z|z|z|⟨_,z⟩
     ·exact m (yu_ (.inl z))
     ·exact m (yu_ (.inr (.inl z)))
     ·exact m (yu_ (.inr (.inr (.inl z))))
     ·exact m (yu_ (.inr (.inr (.inr (.inl z)))))
     ·have z:b=bp':=z
      rcases bp6 with w|w
      ·exact m (yu_ (.inr (.inr (.inr (.inr (.inl (z.trans w)))))))
      ·rw[z,w] at e;cases e
     ·exact z.elim
   refine⟨ss++[y.1],us++[v],y.2.1,y.2.2.1,y.2.2.2,dc6,bp',bc',n6,t6,f4,l6,rfl,by rw[List.length_append,List.length_singleton];rw[List.length_cons] at ul l6;omega,S6.write (fun zs z=>z) nq,hD6,hD6l,hn6,by rw[List.length_cons] at hf4 l6;omega,fun b o e=>?_,M6,nL6,?_,?_⟩
   ·rw[j3_ fun z=>by rw[z,H0L] at e;cases e]
    exact s06 b o e
   ·exact qf_ (Paired.mapP tv fun s v h=>TopAt.keep2 up4 _ h) (TopAt.keep2 up6 _ ta6)
   ·have e2: ∀l,Ro (ss++[y.1]++l)=Ro (ss++y.1::l):=fun l=>by rw[List.append_assoc];rfl
    simp only[e2]
    exact w6
end
end OS
namespace OS
open PySem PySem.Spec L2
open PyProof.Rows hiding St
open Vbemac (Bytes Toks tokens bytesOf)
def intsV (zs:List Int):List V:=zs.map V.int
def byteB (z:Int):Bool:=decide (0<=z)&&decide (z<=255)
def isText (zs:List Int):Bool:=decide (zs.length<=3000)&&zs.all byteB
inductive spIsText (K:PySem.W.Frag) (vs:List V) (H:Hp) (Q:VK) (_E:XK):Prop
 |mk (l:Addr) (zs:List Int) (_:vs=[.ref l]) (_:SqL K H l (intsV zs)) (_:zs.length<=4000) (_: ∀H',vq_ H H'->Q (.bl (isText zs)) H'):spIsText K vs H Q _E
theorem bytesOf_not {zs:List Int} (h:isText zs=false):bytesOf zs=none:=by
 unfold bytesOf
 rw[if_neg]
 intro z
 have:isText zs=true:=z
 rw[h] at this
 cases this
theorem bytesOf_is {zs:List Int} (h:isText zs=true): ∃bs:Bytes,bytesOf zs=some bs/\bsV bs=intsV zs/\bs.length<=3000:=by
 have h0:=h
 unfold isText at h
 rw[Bool.and_eq_true,decide_eq_true_iff] at h
 refine⟨zs.map fun c=>UInt8.ofNat c.toNat,?_,?_,by rw[List.length_map];exact h.1⟩
 ·unfold bytesOf
  exact if_pos h0
 ·unfold bsV intsV
  rw[List.map_map]
  refine List.map_congr_left fun z hz=>?_
  have b:=List.all_eq_true.mp h.2 z hz
  unfold byteB at b
  rw[Bool.and_eq_true,decide_eq_true_iff,decide_eq_true_iff] at b
  show V.int (nb (UInt8.ofNat z.toNat))=V.int z
  unfold nb
  congr 1
  rw[UInt8.toNat_ofNat']
  omega
section
variable {P:Program} {w:World} {K:PySem.W.Frag} {mg:Str->Option Value} {base:Heap} {a:Adr} {k m:Nat}
theorem ok_z75 (T:Txt K mg a):ju_ P w K mg base CX0 1 a.f_z75 a.fd_z75 ["text"] (spIsText K):=by
 refine T.F_z75.ok sc_z75 (fun vs H Q E h=>?_) (fun cdv A outer s H vs Q E hr h=>?_)
 ·obtain⟨l,zs,rfl,_⟩:=h
  rfl
 ·obtain⟨l,zs,rfl,hS,hl,hQ⟩:=h
  refine⟨_,(j7_ (jh_ (pe_and (ww_ op_le (yw_ jv_ (by rfl) T.n_len PySem.boot_len (j0_ (pv 0) j5_)) (vc_ (by rfl) T.g_LONGEST_TEXT) (yk_ _)) (pe_one (yw_ (cr_all rfl) (by rfl) T.n_all boot_all (j0_ (pe_lc rfl sc_z75.nd (pi_list (pv 0)) (own:=[("byte",1)]) (blkOk_by (by show blkC ["text","byte"] (j8_ s_z75) _ [("byte",1)]=true;decide+kernel)) (fun _ _ _ _ _=>pg_name (i:=1) sc_z75.nd rfl (Or.inl rfl)) (fun _ _ _ _ _=>pts_nil) (fun _ _ _ _ _=>(pe_chain op_le op_le jr_ (pv 1) jr_))) j5_)))))),?_⟩
  have il:(intsV zs).length=zs.length:=List.length_map ..
  refine⟨_,rfl,_,_,rfl, .inl hS,_,_,rfl,rfl,_,rfl,?_⟩
  rw[il]
  unfold isText at hQ
  refine yt_ (fun e=>?_) fun e=>?_
  ·have le:zs.length<=3000:=by have:=of_decide_eq_true e;omega
   rw[decide_eq_true le] at hQ
   refine⟨_,rfl,l,rfl,⟨_,hS⟩,fun D hD=>?_⟩
   refine lc_list (K:=K) (a:=l) (xs:=intsV zs) (fun i H'=>vq_ H H'/\H' D=some (.lst (((zs.take i).map byteB).map V.bl))) ⟨yj_ hD,j4_⟩ (fun i H' _ z=>z.1.seq hS) ?_ ?_
   ·rintro i y H' hi ⟨s1,hD'⟩
    obtain⟨z,hz,rfl⟩: ∃z,zs[i]?=some z/\y=V.int z:=by
     unfold intsV at hi
     rw[List.getElem?_map] at hi
     cases e:zs[i]? with
     |none=>rw[e] at hi;cases hi
     |some c=>rw[e] at hi;exact⟨c,rfl,(Option.some.inj hi).symm⟩
    have fin: ∀b:Bool,b=byteB z-> ∃acc,H' D=some (.lst acc)/\acc.length<sizeLine/\(vq_ H (upd H' D (.lst (acc++[V.bl b])))/\upd H' D (.lst (acc++[V.bl b])) D=some (.lst (((zs.take (i+1)).map byteB).map V.bl))):=fun b hb=>by
     refine⟨_,hD',?_,fun b' o e=>by rw[j3_ (jf_ e hD)];exact s1 b' o e,?_⟩
     ·rw[List.length_map,List.length_map]
      exact Nat.lt_of_le_of_lt (Nat.le_trans (List.length_take_le' i zs) hl) (by decide)
     ·rw[j4_,List.take_add_one,hz,hb]
      show some (HO.lst (((zs.take i).map byteB).map V.bl++[V.bl (byteB z)]))=some (HO.lst (((zs.take i++[z]).map byteB).map V.bl))
      rw[List.map_append,List.map_append]
      rfl
    refine⟨rfl,?_⟩
    unfold tYes
    dsimp only
    rw[if_pos rfl]
    refine⟨_,rfl,_,_,rfl,rfl,_,rfl,?_⟩
    refine yt_ (fun e0=>?_) fun e0=>?_
    ·refine⟨_,_,rfl,rfl,fin _ ?_⟩
     unfold byteB
     rw[e0]
     rfl
    ·refine fin _ ?_
     unfold byteB
     rw[e0]
     rfl
   ·rintro H' ⟨s1,hD'⟩
    rw[il,List.take_length] at hD'
    refine⟨D,zs.map byteB,rfl,SqL.of hD',?_⟩
    have:=hQ H' s1
    rw[Bool.true_and] at this
    rw[List.all_map]
    exact this
  ·have le: ¬zs.length<=3000:=by have:=of_decide_eq_false e;omega
   rw[decide_eq_false le] at hQ
   exact hQ H fun _ _ e=>e
end
end OS
namespace OS
open PySem PySem.Spec L2
open PyProof.Rows hiding St
open Vbemac (Bytes Toks tokens bytesOf)
inductive spCheck (K:PySem.W.Frag) (vs:List V) (H:Hp) (Q:VK) (_E:XK):Prop
 |mk (l:Addr) (zs:List Int) (_:vs=[.ref l]) (_:SqL K H l (intsV zs)) (_:zs.length<=4000) (_: ∀(H':Hp) (p:Addr),H' p=some (.lst (intsV (PyVbemac.check zs)))->Q (.ref p) H'):spCheck K vs H Q _E
theorem check_not {zs:List Int} (h:bytesOf zs=none):PyVbemac.check zs=[-1]:=by
 show Vbemac.answer [[0],zs]=_
 unfold Vbemac.answer
 rw[show Vbemac.decode [[0],zs]=(bytesOf zs).map Vbemac.Call.check from rfl,h]
 rfl
theorem check_is {zs:List Int} {bs:Bytes} (h:bytesOf zs=some bs):PyVbemac.check zs=(match Vbemac.read bs with
  | .error e=>[0,(e.1:Int),(e.2.1:Int),(e.2.2:Int)]
  | .ok _=>[0,0,0,0]):=by
 show Vbemac.answer [[0],zs]=_
 unfold Vbemac.answer
 rw[show Vbemac.decode [[0],zs]=(bytesOf zs).map Vbemac.Call.check from rfl,h]
 rfl
section
variable {P:Program} {w:World} {K:PySem.W.Frag} {mg:Str->Option Value} {base:Heap} {a:Adr} {k m:Nat}
theorem W_read {bs:Bytes} {Qo:Vbemac.Sheet->Toks->Prop} {Qe:Nat->Vbemac.Pos->Prop} (ho: ∀ss t,Vbemac.read bs= .ok ss->Qo ss t) (he: ∀e,Vbemac.read bs= .error e->Qe e.1 e.2):W (Vbemac.tops (Vbemac.fuel (tokens bs)) Vbemac.known0 Vbemac.FUNS []) (tokens bs) Qo Qe:=by
 unfold W
 have r:Vbemac.read bs=(match Vbemac.tops (Vbemac.fuel (tokens bs)) Vbemac.known0 Vbemac.FUNS [] (tokens bs) with
  | .error e=> .error e
  | .ok (a,_)=> .ok a):=rfl
 cases e:Vbemac.tops (Vbemac.fuel (tokens bs)) Vbemac.known0 Vbemac.FUNS [] (tokens bs) with
 |error x=>rw[e] at r;exact he x r
 |ok z=>rw[e] at r;exact ho z.1 z.2 r
theorem ok_z77 (T:Txt K mg a) (XC:XT K a) (hk:7<=k)
  (G_z54:ju_ P w K mg base (CXF P w) k a.f_z54 a.fd_z54 ["text"] (spSheet K a)):
  ju_ P w K mg base CX0 (k+1) a.f_z77 a.fd_z77 ["text"] (spCheck K):=by
 have G_z75:=ok_z75 (P:=P) (w:=w) (base:=base) T
 refine T.F_z77.ok sc_z77 (fun vs H Q E h=>?_) (fun cdv A outer s H vs Q E hr h=>?_)
 ·obtain⟨l,zs,rfl,_⟩:=h
  rfl
 ·obtain⟨l,zs,rfl,hS,hl,hQ⟩:=h
  refine⟨_,(j2_ (yg_ (wj_ (yc_ (j9_ G_z75 (hr.mono (by omega)) (by rfl) T.m_z75 T.F_z75.kp T.b_z75 .nil yr_ (j0_ (pv 0) j5_)))) (j7_ (jh_ (uu_ (j0_ (pe_un un_neg jr_) j5_)))) ji_)
    (j2_ (ps_tryAs (R:=a.c_Refusal) (G:=a.c_Fault) (i:=1) (fun v od H''=> ∃(d:Addr) (e:Vbemac.Fault),v= .ref a.c_Fault/\od=some d/\PyVbemac.check zs=[0,(e.1:Int),(e.2.1:Int),(e.2.2:Int)]/\H'' d=some (qj_ d (fault4 (e.1:Nat) (e.2.1:Nat) (e.2.2:Nat)))) rfl rfl (fun C d H h=>by obtain⟨_,_,e,_⟩:=h;cases e;exact⟨_,XC.fc, .inl rfl⟩) (by rfl) T.mg_Fault sc_z77.nd rfl rfl
     (fun pins Ew PE_=>j7_ (jd_ (j9_ G_z54 (hr.mono (by omega)) (by rfl) T.m_z54 T.F_z54.kp T.b_z54 .nil PE_ (j0_ (pv 0) j5_))))
     (fun a'=>(j7_ (jh_ (uu_ (j0_ jr_ (j0_ (pe_xfld (K:=K) rfl (by decide+kernel) exc_kind (pv 1) (by rfl)) (j0_ (pe_xfld (K:=K) rfl (by decide+kernel) exc_line (pv 1) (by rfl)) (j0_ (pe_xfld (K:=K) rfl (by decide+kernel) exc_column (pv 1) (by rfl)) j5_)))))))))
    (j7_ (jh_ (uu_ (j0_ jr_ (j0_ jr_ (j0_ jr_ (j0_ jr_ j5_))))))))),?_⟩
  refine⟨_,rfl,l,zs,rfl,hS,hl,fun H1 s1=>⟨_,rfl,?_⟩⟩
  cases ht:isText zs with
  |false=>
   refine j0q_ ?_
   refine⟨_,rfl,by show 1<=sizeLine;decide,fun p hp=>?_⟩
   refine hQ _ p ?_
   rw[check_not (bytesOf_not ht)]
   exact j4_
  |true=>
   refine ur_ ?_
   obtain⟨bs,eb,ev,hb⟩:=bytesOf_is ht
   have ec:=check_is eb
   refine⟨?_,?_⟩
   ·refine⟨_,rfl,l,bs,rfl,by rw[ev];exact s1.seq hS,hb,W_read (fun ss t hr'=>?_) fun e he=>?_⟩
    ·intro H2 L us M s12 H1L nM hL tl
     refine⟨by show 4<=sizeLine;decide,fun p hp=>?_⟩
     refine hQ _ p ?_
     rw[ec,hr']
     exact j4_
    ·intro H2 s12 d hd
     rw[he] at ec
     exact⟨d,e,rfl,rfl,ec,j4_⟩
   ·rintro C d H2 a' ⟨d',e,eC,ed,ec',hd⟩ ha'
    cases ed
    cases eC
    have nd:d≠a':=fun z=>by rw[z,ha'] at hd;cases hd
    have h1:upd H2 a' (xcaught a.c_Fault d a') d=some (qj_ d (fault4 (e.1:Nat) (e.2.1:Nat) (e.2.2:Nat))):=by rw[j3_ nd];exact hd
    refine⟨_,rfl,_,_,_,a',d,_,_,XC.fc,rfl,j4_,h1,rfl,?_⟩
    refine⟨_,rfl,_,_,_,a',d,_,_,XC.fc,rfl,j4_,h1,rfl,?_⟩
    refine⟨_,rfl,_,_,_,a',d,_,_,XC.fc,rfl,j4_,h1,rfl,?_⟩
    refine⟨by show 4<=sizeLine;decide,fun p hp=>?_⟩
    refine hQ _ p ?_
    rw[ec']
    exact j4_
end
end OS
namespace OS
open PySem PySem.Spec L2
open PyProof.Rows hiding St
def dEnt (K:PySem.W.Frag) (a:Addr):List DictEntry:=match K.lookup a with
 |some ⟨.type c,none, .dict es _,sl⟩=>if c="dict"/\sl.size=0 then es.toList else []
 |_=>[]
theorem dEnt_at {K:PySem.W.Frag} {a:Addr} {e:DictEntry} {r:List DictEntry} (h:dEnt K a=e::r): ∃o es ep,K.lookup a=some o/\o.ExactDict/\o.data= .dict es ep/\es.toList=e::r:=by
 unfold dEnt at h
 split at h
 ·rename_i c es n sl q
  split at h
  ·rename_i hc
   obtain⟨rfl,hs⟩:=hc
   exact⟨_,es,n,q,⟨rfl,rfl,Array.eq_empty_of_size_eq_zero hs⟩,rfl,h⟩
  ·cases h
 ·cases h
section
variable {P:Program} {w:World} {K:PySem.W.Frag} {a:Addr}
theorem ns_some {h:Heap} {N:Addr} {mg:Str->Option Value} {n:Str} {v:Value} (X:K.In h) (G:h.Ns N mg) (e:PySem.W.nsIn K N n=some (some v)):mg n=some v:=by
 obtain⟨o,es,ep,ho,hd,_,hf⟩:=G
 unfold PySem.W.nsIn at e
 split at e
 ·rename_i c d es' n' sl q
  have:=X _ _ q
  rw[ho] at this
  cases this
  cases hd
  split at e
  ·rename_i en he
   cases e
   rw[<-hf]
   unfold nsFind findBy
   rw[<-Array.find?_toList,he]
   rfl
  ·split at e<;>cases e
 ·cases e
def j06_:List Value->Option (List Int)
 |[]=>some []
 | .int i _::r=>(j06_ r).map (i:: ·)
 |_=>none
def strsOf:List Value->Option (List Str)
 |[]=>some []
 | .str i _::r=>(strsOf r).map (i:: ·)
 |_=>none
def refsOf:List Value->Option (List Addr)
 |[]=>some []
 | .ref i::r=>(refsOf r).map (i:: ·)
 |_=>none
def j0b_ (K:PySem.W.Frag) (a:Addr):Option (List Value):=match K.lookup a with
 |some ⟨.type c,_, .seq its _,_⟩=>if c="tuple"/\its.size<=1000 then some its.toList else none
 |_=>none
theorem tupOf_at {l:List Value} (h:j0b_ K a=some l): ∃o its n,K.lookup a=some o/\o.cls= .type "tuple"/\o.data= .seq its n/\its.size<=sizeLine/\its.toList=l:=by
 unfold j0b_ at h
 split at h
 ·rename_i c d its n sl q
  split at h
  ·rename_i hc
   obtain⟨rfl,hs⟩:=hc
   exact⟨_,its,n,q,rfl,rfl,Nat.le_trans hs (by decide),Option.some.inj h⟩
  ·cases h
 ·cases h
theorem intsOf_vals: ∀ {vs:List Value} {l:List Int},j06_ vs=some l->vx_ (l.map V.int) vs
 |[],l,h=>by cases h;exact .nil
 | .int i t::r,l,h=>by
  unfold j06_ at h
  cases e:j06_ r with
  |none=>rw[e] at h;cases h
  |some l'=>rw[e] at h;cases h;exact .cons ⟨t,rfl⟩ (intsOf_vals e)
theorem strsOf_vals: ∀ {vs:List Value} {l:List Str},strsOf vs=some l->vx_ (l.map V.str) vs
 |[],l,h=>by cases h;exact .nil
 | .str i t::r,l,h=>by
  unfold strsOf at h
  cases e:strsOf r with
  |none=>rw[e] at h;cases h
  |some l'=>rw[e] at h;cases h;exact .cons ⟨t,rfl⟩ (strsOf_vals e)
theorem refsOf_vals: ∀ {vs:List Value} {l:List Addr},refsOf vs=some l->vx_ (l.map V.ref) vs
 |[],l,h=>by cases h;exact .nil
 | .ref i::r,l,h=>by
  unfold refsOf at h
  cases e:refsOf r with
  |none=>rw[e] at h;cases h
  |some l'=>rw[e] at h;cases h;exact .cons rfl (refsOf_vals e)
theorem ktup_of {vs:List Value} {xs:List V} (h:j0b_ K a=some vs) (v:vx_ xs vs):KTup K a xs:=by
 obtain⟨o,its,n,h1,h2,h3,h4,h5⟩:=tupOf_at h
 exact⟨o,its,n,h1,h2,h3,h4,by rw[h5];exact v⟩
theorem ktup_int {l:List Int} (h:(j0b_ K a).bind j06_=some l):KTup K a (l.map V.int):=by
 cases e:j0b_ K a with
 |none=>rw[e] at h;cases h
 |some vs=>rw[e] at h;exact ktup_of e (intsOf_vals h)
theorem ktup_str {l:List Str} (h:(j0b_ K a).bind strsOf=some l):KTup K a (l.map V.str):=by
 cases e:j0b_ K a with
 |none=>rw[e] at h;cases h
 |some vs=>rw[e] at h;exact ktup_of e (strsOf_vals h)
def tsEnt (K:PySem.W.Frag) (e:DictEntry):Option (Int×List Int×Str):=match e.key,e.val with
 | .ref p, .str x _=>((j0b_ K p).bind j06_).map fun l=>(e.hash,l,x)
 |_,_=>none
theorem tsEnt_at {e:DictEntry} {h:Int} {l:List Int} {x:Str} (z:tsEnt K e=some (h,l,x)): ∃p t,e.key= .ref p/\e.val= .str x t/\e.hash=h/\(j0b_ K p).bind j06_=some l:=by
 unfold tsEnt at z
 split at z
 ·rename_i p x' t h1 h2
  cases q:(j0b_ K p).bind j06_ with
  |none=>rw[q] at z;cases z
  |some l'=>rw[q] at z;cases z;exact⟨p,t,h1,h2,rfl,q⟩
 ·cases z
theorem items_int: ∀ {vs:List Value} {l:List Int},j06_ vs=some l->ItemsAre (ym_ P w) (l.map fun i=>(Sum.inl i:Key)) vs
 |[],l,h=>by cases h;exact .nil
 | .int i t::r,l,h=>by
  unfold j06_ at h
  cases e:j06_ r with
  |none=>rw[e] at h;cases h
  |some l'=>rw[e] at h;cases h;exact .cons (by show Value.isInt i (.int i t)=true;simp [Value.isInt]) (items_int e)
theorem ts_list: ∀ {es:List DictEntry} {L:List (List Int×Str)},es.map (tsEnt K)=(L.map fun p=>some (tupleKeyHash (ym_ P w) (p.1.map fun i=>(Sum.inl i:Key)),p.1,p.2))->
  ∃xs:List (List Key×Addr×Value),Paired (fun(p:List Key×V) (q:List Key×Addr×Value)=>p.1=q.1/\vt_ p.2 q.2.2) (L.map fun p=>(p.1.map fun i=>(Sum.inl i:Key),V.str p.2)) xs/\es=xs.map (entryOfKey (tupleKind (ym_ P w)))/\(xs.map (·.1))=(L.map fun p=>p.1.map fun i=>(Sum.inl i:Key))/\ ∀h:Heap,K.In h-> ∀x∈xs,(tupleKind (ym_ P w)).is h x.1 x.2.1
 |[],[],_=>⟨[], .nil,rfl,rfl,fun _ _ _ z=>nomatch z⟩
 |[],_::_,h=>by cases h
 |_::_,[],h=>by cases h
 |e::es,p::L,h=>by
  rw[List.map_cons,List.map_cons] at h
  obtain⟨h1,h2⟩:=List.cons.inj h
  obtain⟨xs,k1,k2,k3,k4⟩:=ts_list h2
  obtain⟨q,t,e1,e2,e3,e4⟩:=tsEnt_at h1
  refine⟨(p.1.map fun i=>Sum.inl i,q, .str p.2 t)::xs, .cons ⟨rfl,⟨t,rfl⟩⟩ k1,?_,by rw[List.map_cons,List.map_cons,k3],fun hp hK y hy=>?_⟩
  ·rw[List.map_cons,<-k2]
   congr 1
   obtain⟨eh,ek,ev⟩:=e
   cases e1
   cases e2
   cases e3
   rfl
  ·rcases List.mem_cons.mp hy with rfl|hy
   ·cases z:j0b_ K q with
    |none=>rw[z] at e4;cases e4
    |some vs=>
     rw[z] at e4
     obtain⟨o,its,n,g1,g2,g3,g4,g5⟩:=tupOf_at z
     exact⟨o,its,n,hK _ _ g1,g2,g3,by rw[g5];exact items_int e4⟩
   ·exact k4 hp hK y hy
theorem kdT_ts {L:List (List Int×Str)} (ne:L≠[]) (h:(dEnt K a).map (tsEnt K)=(L.map fun p=>some (tupleKeyHash (ym_ P w) (p.1.map fun i=>(Sum.inl i:Key)),p.1,p.2))) (nd:(L.map fun p=>p.1.map fun i=>(Sum.inl i:Key)).Nodup) (no:(a == sysModules)=false):
  KdT P w K a (L.map fun p=>(p.1.map fun i=>(Sum.inl i:Key),V.str p.2)):=by
 obtain⟨xs,k1,k2,k3,k4⟩:=ts_list (P:=P) (w:=w) h
 cases he:dEnt K a with
 |nil=>rw[he] at h;exact absurd (List.map_eq_nil_iff.mp h.symm) ne
 |cons e r=>
  obtain⟨o,es,ep,lk,ex,od,el⟩:=dEnt_at he
  refine⟨⟨xs,fun hp hK=>⟨o,es,ep,hK a o lk,ex,od,by rw[el,<-he];exact k2,k4 hp hK,by rw[k3];exact nd⟩,k1⟩,no⟩
def signL:List (List Int×Str):=Vbemac.SIGNS.map fun s=>(s.map nb,sgn s)
theorem signL_kv:wl_=signL.map fun p=>(p.1.map fun i=>(Sum.inl i:Key),V.str p.2):=by decide+kernel
theorem signs_k {mg:Str->Option Value} {a:Adr} (_:Txt K mg a) (e:(dEnt K a.k_SIGNS).map (tsEnt K)=(signL.map fun p=>some (tupleKeyHash (ym_ P w) (p.1.map fun i=>(Sum.inl i:Key)),p.1,p.2))) (no:(a.k_SIGNS == sysModules)=false):KdT P w K a.k_SIGNS wl_:=by
 rw[signL_kv]
 exact kdT_ts (by decide+kernel) e (by decide+kernel) no
theorem js_ {h:Heap} {mg:Str->Option Value} (X:K.In h) (G:h.Ns mainGlobals mg) {x:Str} {st:Stmt} {ps:List Str} {f:Addr} {oc:Value} {od an:Option Addr} {sl:Array (Option Value)} {kV doc pm cd ct:Value}
  (a:PySem.W.nsIn K mainGlobals x=some (some (.ref f))) (l:K.lookup f=some ⟨oc,od, .func (PySem.W.fnOf x x (j0a_ st) (wa_ st) (j8_ st) .none kV doc pm an cd ct),sl⟩) (c:PySem.W.codeIn K cd x=true) (k:PySem.W.keepIn K (.ref f)=true)
  (hb: ∀(kV doc pm:Value) (an:Option Addr) (cdv ct:Value) (us:List Value),us.length=ps.length->bindArgs (PySem.W.fnOf x x (j0a_ st) (wa_ st) (j8_ st) .none kV doc pm an cdv ct) ⟨us,[]⟩=pure (ps.zip us)):
  ∃fd,Fun K x x st f fd/\jo_ K fd ps []/\mg x=some (.ref f)/\ ∀(s:Shared) (us:List Value),us.length=ps.length->BindsTo s fd ⟨us,[]⟩ (ps.zip us):=⟨_,fun_mk (st:=st) l c k,(fun_mk (st:=st) l c k).binds hb,PySem.W.mg_of X G a,fun s us hu=> .of_eq (hb _ _ _ _ _ _ us hu)⟩
theorem jp_ {h:Heap} {mg:Str->Option Value} (_:K.In h) {cx x q:Str} {st:Stmt} {ps:List Str} {C f:Addr} {oc:Value} {od an:Option Addr} {sl:Array (Option Value)} {kV doc pm cd ct:Value} (_:mg cx=some (.ref C))
  (a:PySem.W.findIn K (.ref C) x=some (some (.ref f))) (i:PySem.W.isFn K (.ref f)=true) (l:K.lookup f=some ⟨oc,od, .func (PySem.W.fnOf x q (j0a_ st) (wa_ st) (j8_ st) .none kV doc pm an cd ct),sl⟩) (c:PySem.W.codeIn K cd q=true) (k:PySem.W.keepIn K (.ref f)=true)
  (hb: ∀(kV doc pm:Value) (an:Option Addr) (cdv ct:Value) (us:List Value),us.length=ps.length->bindArgs (PySem.W.fnOf x q (j0a_ st) (wa_ st) (j8_ st) .none kV doc pm an cdv ct) ⟨us,[]⟩=pure (ps.zip us)):
  ∃fd,Fun K x q st f fd/\jo_ K fd ps []/\Meth K C x f:=⟨_,fun_mk (st:=st) l c k,(fun_mk (st:=st) l c k).binds hb,⟨a,i,k⟩⟩
end
end OS
namespace OS
open PySem PySem.Spec L2
open PyProof.Rows hiding St
section
variable {P:Program} {w:World} {K:PySem.W.Frag} {a:Addr}
def tailB:List Addr->List Value->Bool
 |[],[.type a, .type b, .type c]=>a == "Exception"&&b == "BaseException"&&c == "object"
 |r::u, .ref r'::l=>r == r'&&tailB u l
 |_,_=>false
theorem tailB_at: ∀ {u:List Addr} {l:List Value},tailB u l=true->l=u.map Value.ref++qg_
 |[],[.type a, .type b, .type c],h=>by
  simp only[tailB,Bool.and_eq_true,beq_iff_eq] at h
  obtain⟨⟨rfl,rfl⟩,rfl⟩:=h
  rfl
 |r::u, .ref r'::l,h=>by
  simp only[tailB,Bool.and_eq_true,beq_iff_eq] at h
  obtain⟨rfl,h⟩:=h
  rw[tailB_at h]
  rfl
def excN (K:PySem.W.Frag) (C:Addr) (u:List Addr):Option Addr:=match K.lookup C with
 |some ⟨.type "type",_, .cls cd,sl⟩=>(match cd.mro,sl.toList with
  | .ref C'::bm,[_,_,_,_,some (.builtin n),_]=>if(C' == C&&n == "Exception.__new__"&&!cd.hasDel&&cd.hasDict&&tailB u bm)=true then some cd.ns else none
  |_,_=>none)
 |_=>none
theorem excN_at {C N:Addr} {u:List Addr} (q:excN K C u=some N) {h:Heap} (X:K.In h):XO h C N (u.map Value.ref++qg_):=by
 unfold excN at q
 split at q
 ·rename_i dd cd sl ho
  split at q
  ·rename_i C' bm k0 k1 k2 k3 n k5 hm hs
   split at q
   ·rename_i hq
    simp only[Bool.and_eq_true,beq_iff_eq,Bool.not_eq_true'] at hq
    obtain⟨⟨⟨⟨rfl,rfl⟩,hdel⟩,hdi⟩,ht⟩:=hq
    cases q
    obtain⟨nm,bs,mro,ns,qn,hd,sn,sub,ab,col,del⟩:=cd
    dsimp only at hm hdel hdi
    subst hm hdel hdi
    have hsl:sl= #[k0,k1,k2,k3,some (.builtin "Exception.__new__"),k5]:=by
     obtain⟨l⟩:=sl
     simp only at hs
     rw[hs]
    subst hsl
    rw[tailB_at ht] at ho
    exact⟨nm,qn,bs,sn,sub,ab,col,dd,k0,k1,k2,k3,k5,X _ _ ho⟩
   ·cases q
  ·cases q
 ·cases q
theorem xcls_of {h0:Heap} {mg:Str->Option Value} {x:Str} {C fI N R NR:Addr} (_:K.In h0) (_:mg x=some (.ref C)) (_:mg "Refusal"=some (.ref R)) (l:excN K C [R]=some N)
  (hok:PySem.W.nsOkIn K N=true) (hi:PySem.W.nsIn K N "__init__"=some (some (.ref fI))) (hq:(q0_.map fun n=>PySem.W.nsIn K N n)=q0_.map fun _=>some none) (lI:((K.lookup fI).map fun o=>o.cls)=some (.type "function")) (kp:PySem.W.keepIn K (.ref C)=true)
  (lR:excN K R []=some NR) (hokR:PySem.W.nsOkIn K NR=true) (hqR:(q0_.map fun n=>PySem.W.nsIn K NR n)=q0_.map fun _=>some none):XCls K R C fI:=by
 obtain⟨oI,lI,cI⟩:=Option.map_eq_some_iff.mp lI
 refine⟨fun h X=>?_,kp⟩
 have ns:h.Ns N (h.nsMap N):= .of_isNs (PySem.W.isNs_of_in X hok)
 have nR:h.Ns NR (h.nsMap NR):= .of_isNs (PySem.W.isNs_of_in X hokR)
 have all: ∀ {M:Addr},(q0_.map fun n=>PySem.W.nsIn K M n)=(q0_.map fun _=>some none)-> ∀n∈q0_,PySem.W.nsIn K M n=some none:=fun e=>List.map_inj_left.mp e
 exact⟨N,h.nsMap N,oI,NR,h.nsMap NR,excN_at l X,ns,ns_some X ns hi,fun n hn=>PySem.W.nsMap_none_of_in X hok (all hq n hn),X _ _ lI,cI,excN_at lR X,nR,fun n hn=>PySem.W.nsMap_none_of_in X hokR (all hqR n hn)⟩
end
end OS
namespace OS
open PySem PySem.Spec L2
open PyProof.Rows hiding St
def siEnt (e:DictEntry):Option (Int×Str×Int):=match e.key,e.val with
 | .str x _, .int i _=>some (e.hash,x,i)
 |_,_=>none
theorem siEnt_at {e:DictEntry} {h:Int} {x:Str} {i:Int} (z:siEnt e=some (h,x,i)): ∃t u,e.key= .str x t/\e.val= .int i u/\e.hash=h:=by
 unfold siEnt at z
 split at z
 ·rename_i x' t i' u h1 h2
  cases z
  exact⟨t,u,h1,h2,rfl⟩
 ·cases z
section
variable {P:Program} {w:World} {K:PySem.W.Frag} {a:Addr}
theorem si_list: ∀ {es:List DictEntry} {L:List (Str×Int)},es.map siEnt=(L.map fun p=>some (hashStr w p.1,p.1,p.2))->
  ∃vs:List (Key×Value),KV (L.map fun p=>((Sum.inr p.1:Key),V.int p.2)) vs/\PySem.Pairs (ym_ P w) es vs/\(vs.map (·.1))=(L.map fun p=>(Sum.inr p.1:Key))/\ ∀e∈es,∃k,(ym_ P w).is k e.key=true/\e.hash=(ym_ P w).hash k
 |[],[],_=>⟨[], .nil, .nil,rfl,fun _ z=>nomatch z⟩
 |[],_::_,h=>by cases h
 |_::_,[],h=>by cases h
 |e::es,p::L,h=>by
  rw[List.map_cons,List.map_cons] at h
  obtain⟨h1,h2⟩:=List.cons.inj h
  obtain⟨vs,k1,k2,k3,k4⟩:=si_list h2
  obtain⟨t,u,e1,e2,e3⟩:=siEnt_at h1
  have is:(ym_ P w).is (Sum.inr p.1) e.key=true:=by rw[e1];show Value.isStrOf p.1 (.str p.1 t)=true;simp [Value.isStrOf]
  refine⟨(Sum.inr p.1, .int p.2 u)::vs, .cons ⟨rfl,⟨u,rfl⟩⟩ k1, .cons is e2 k2,by rw[List.map_cons,List.map_cons,k3],fun y hy=>?_⟩
  rcases List.mem_cons.mp hy with rfl|hy
  ·exact⟨Sum.inr p.1,is,e3⟩
  ·exact k4 y hy
theorem kdK_si {p:Str×Int} {L:List (Str×Int)} (h:(dEnt K a).map siEnt=((p::L).map fun p=>some (hashStr w p.1,p.1,p.2))) (nd:((p::L).map (·.1)).Nodup) (len:(p::L).length<=sizeLine) (no:(a == sysModules)=false):
  KdK P w K a ((p::L).map fun p=>((Sum.inr p.1:Key),V.int p.2)):=by
 obtain⟨vs,k1,k2,k3,k4⟩:=si_list (P:=P) h
 cases he:dEnt K a with
 |nil=>rw[he] at h;cases h
 |cons e r=>
  obtain⟨o,es,ep,lk,ex,od,el⟩:=dEnt_at he
  rw[he,<-el] at k2
  rw[he] at k4
  refine⟨⟨vs,fun hp hK=>⟨o,es,ep,hK a o lk,ex,od,fun y hy=>k4 y (by rw[<-el];exact Array.mem_toList_iff.mpr hy),k2,?_⟩,k1⟩,by rw[List.length_map];exact len,no⟩
  rw[k3,List.map_cons]
  rw[show(fun p:Str×Int=>(Sum.inr p.1:Key))=(fun x=>Sum.inr x) ∘ (fun p:Str×Int=>p.1) from rfl]
  rw[show(Sum.inr p.1:Key)::L.map ((fun x=>(Sum.inr x:Key)) ∘ fun p=>p.1)=((p::L).map (·.1)).map (fun x=>(Sum.inr x:Key)) by rw[List.map_cons,List.map_cons,List.map_map]]
  exact List.Pairwise.map (fun x=>(Sum.inr x:Key)) (fun _ _ h z=>h (Sum.inr.inj z)) nd
theorem rows_of: ∀ {qs:List Addr} {rows:List (List Str)},(qs.map fun q=>(j0b_ K q).bind strsOf)=rows.map some->Paired (fun q xs=>KTup K q xs) qs (rows.map fun r=>r.map V.str)
 |[],[],_=> .nil
 |[],_::_,h=>by cases h
 |_::_,[],h=>by cases h
 |q::qs,r::rows,h=>by
  rw[List.map_cons,List.map_cons] at h
  obtain⟨h1,h2⟩:=List.cons.inj h
  exact .cons (ktup_str h1) (rows_of h2)
theorem ktt_of {qs:List Addr} {rows:List (List Str)} (h:(j0b_ K a).bind refsOf=some qs) (h2:(qs.map fun q=>(j0b_ K q).bind strsOf)=rows.map some):KTT K a (rows.map fun r=>r.map V.str):=by
 cases e:j0b_ K a with
 |none=>rw[e] at h;cases h
 |some vs=>rw[e] at h;exact⟨qs,ktup_of e (refsOf_vals h),rows_of h2⟩
theorem first_k {mg:Str->Option Value} {a:Adr} (_:Txt K mg a) (e:(dEnt K a.k_FIRST_FUNCTIONS).map siEnt=(([("min",2),("max",2),("abs",1)]:List (Str×Int)).map fun p=>some (hashStr w p.1,p.1,p.2))) (no:(a.k_FIRST_FUNCTIONS == sysModules)=false):KdK P w K a.k_FIRST_FUNCTIONS ub_:=kdK_si (p:=("min",2)) (L:=[("max",2),("abs",1)]) e (by decide+kernel) (by decide) no
theorem chain_k {mg:Str->Option Value} {a:Adr} (_:Txt K mg a) (e:(((j0b_ K a.k_CHAIN_SIGNS).bind refsOf).map fun qs=>qs.map fun q=>(j0b_ K q).bind strsOf)=some (([["||"],["&&"],["==","!=","<=",">=","<",">"],["+","-"],["*","/","/rest"]]:List (List Str)).map some)):KTT K a.k_CHAIN_SIGNS we_:=by
 obtain⟨qs,e1,e2⟩:=Option.map_eq_some_iff.mp e
 exact ktt_of e1 e2
end
end OS
namespace OS
open PySem PySem.Spec L2
open PyProof.Rows hiding St
section
variable {P:Program} {w:World} {K:PySem.W.Frag} {a:Addr}
theorem xt_of {mg:Str->Option Value} {a:Adr} {N NR:Addr} {h0:Heap} (T:Txt K mg a) (KX:K.In h0) (l:excN K a.c_Fault [a.c_Refusal]=some N) (hok:PySem.W.nsOkIn K N=true) (hi:PySem.W.nsIn K N "__init__"=some (some (.ref a.f_z17)))
  (hq:(q0_.map fun n=>PySem.W.nsIn K N n)=q0_.map fun _=>some none) (lI:((K.lookup a.f_z17).map fun o=>o.cls)=some (.type "function")) (kp:PySem.W.keepIn K (.ref a.c_Fault)=true) (lR:excN K a.c_Refusal []=some NR) (hokR:PySem.W.nsOkIn K NR=true)
  (hqR:(q0_.map fun n=>PySem.W.nsIn K NR n)=q0_.map fun _=>some none) (c:CMeth K a.c_Refusal "__init__" a.f_z5):XT K a:=⟨xcls_of KX T.mg_Fault T.mg_Refusal l hok hi hq lI kp lR hokR hqR,c⟩
theorem ok_all {mg:Str->Option Value} {base:Heap} {a:Adr} (T:Txt K mg a) (XC:XT K a) (kS:KdT P w K a.k_SIGNS wl_) (kF:KdK P w K a.k_FIRST_FUNCTIONS ub_) (KT:KTT K a.k_CHAIN_SIGNS we_) (IL:IsLet K a):
  ju_ P w K mg base CX0 178 a.f_z77 a.fd_z77 ["text"] (spCheck K):=by
 have E:ExpOk P w K mg base a 150:=(knot T XC KT 13).1
 have G:=ok_z56 T XC (by decide) E
 have Br:=ok_braces T XC IL (by decide) E 7
 have Co:=ok_z55 T XC (by decide) G
 have Fu:=ok_z71 T XC kF (by decide) G
 have De:=ok_z62 T XC (by decide) Br
 have To:=ok_z70 T XC (by decide) (Co.mono (by decide:152<=175)) (Fu.mono (by decide)) De
 have Sh:=ok_z54 T XC kS kF (by decide) To
 exact ok_z77 T XC (by decide) Sh
end
end OS
namespace PySem.W.Fast
def tw7718024390389849370:=0
def tw9182656148698468876:=0
def tw16158596056588414310:=0
def tw5950935621458092902:=0
def tw1250737158798438267:=0
def tw14420834322920748821:=0
def tw2764622286913939273:=0
def tw10830462559221580320:=0
def tw7312995406469276499:=0
def tw2064614757605511988:=0
def tw5167017101376583234:=0
def tw15095623555130911861:=0
def tw483833752788167614:=0
def tw4211697049388568371:=0
def tw10720089938981759163:=0
def tw4963905891165970155:=0
def tw11968983085320453211:=0
def tw11557649013945799287:=0
def tw10433921826091302806:=0
def tw2820006465610944901:=0
def tw8498646448019240762:=0
def tw16235247788338077536:=0
def tw10668330085654024653:=0
def tw12800993329672353163:=0
def tw4395993406031023211:=0
def tw18091972221367666816:=0
def tw5749947350503310493:=0
def tw7406006371602512300:=0
def tw344195258580567730:=0
def tw11145029407205188364:=0
def tw1806997670222509712:=0
def tw3889892944313468130:=0
def tw11285034475750601467:=0
def tw3255441967745503217:=0
def tw4627462113277152451:=0
def tw6883865869662110694:=0
def tw7008999144685225288:=0
def tw5342565920167165017:=0
def tw5165246186673658781:=0
def tw4023598768117657069:=0
def tw1167923750202393923:=0
def tw6953458510996204552:=0
def tw15224829112554629009:=0
def tw7638264315694706543:=0
def tw18115728395930203887:=0
def tw7169208622249805138:=0
def tw1361029068666299034:=0
def tw5559114639778915060:=0
def tw7837390915090139882:=0
def tw8963096217811167979:=0
def tw11542447314147774906:=0
def tw13973965527920528592:=0
def tw12258091227961506879:=0
def tw4142886669745241990:=0
def tw1293661580887722315:=0
def tw1949769794097672116:=0
def tw12174428456419863238:=0
def tw7560990054304834996:=0
def tw1966249618473049610:=0
def tw14031386079263775032:=0
def tw1569484431014956947:=0
def tw3816614375081081475:=0
def tw13898291496328329451:=0
def tw6691096133035642105:=0
def tw10328035551185022562:=0
def tw4556646063808804282:=0
def tw15793816884526695182:=0
def tw14440798603075874787:=0
def tw14486967667291501973:=0
def tw14638826774248101060:=0
def tw15796389657558842935:=0
def tw8488057608699131515:=0
def tw1837898280795025116:=0
def tw4063711026856377632:=0
def tw8218513830653398043:=0
def tw5931557850756269622:=0
def tw7036774273389800137:=0
def tw7942356022449273640:=0
def tw9547405842397717322:=0
def tw11337138870487024614:=0
def tw10166177580246698954:=0
def tw18133337332564725073:=0
def tw798112151389166095:=0
def tw9686716018754401340:=0
def tw3075852276849519696:=0
def tw8149768844003510705:=0
def tw1574190147756956000:=0
def tw6751325250457081506:=0
def tw1768145863603694631:=0
def tw13324682102625140257:=0
def tw7377951119289696551:=0
def tw9757510498167669400:=0
def tw14523194414916541159:=0
def tw10621869182095959939:=0
def tw11334315548868461266:=0
def tw13490271089115657533:=0
def tw10228056581460284639:=0
def tw5139038280401388628:=0
def tw17097863947041559436:=0
def tw17973823742243214161:=0
def tw15266671788063327338:=0
def tw13660458427697844493:=0
def tw7976584878799511612:=0
def tw8674954928483269897:=0
def tw2721058515887410366:=0
def tw7899053155097765748:=0
def tw14977622721685000629:=0
def tw5126367029887209449:=0
def tw8180521880214950306:=0
def tw5601410141323852246:=0
def tw11951242475241406603:=0
def tw11871769083020612079:=0
def tw3506416646508013684:=0
def tw13092625543312428237:=0
def tw14349527824957885504:=0
def tw6600712132454773882:=0
def tw2816415573753612311:=0
def tw3743261976460499942:=0
def tw379313219042500420:=0
def tw2376044371104317133:=0
def tw8106020513081422930:=0
def tw8366455330331722046:=0
def tw12701059802904070517:=0
def tw15429520647770124201:=0
def tw17448681108231015226:=0
def tw201849420807378300:=0
def tw13235248127601615511:=0
def tw15095739204327786508:=0
def tw15827398067028568553:=0
def tw9387683729482632816:=0
def tw9347022196319357572:=0
def tw3959970435990791940:=0
def tw1775431130816562320:=0
def tw7367895819938651500:=0
def tw13364928304031759896:=0
def tw10751557943803133052:=0
def tw13178555581455116831:=0
def tw4832489179719073687:=0
def tw16387976803070722614:=0
def tw12728421627760471906:=0
def tw10782141799906803757:=0
def tw14612810405531085641:=0
def tw15632843769316871807:=0
def tw16821630353306497572:=0
def tw5601840658873986763:=0
def tw18423140926783890095:=0
def tw7629714391180571519:=0
def tw15241426115242909519:=0
def tw4807647822198348246:=0
def tw5226277883639364034:=0
def tw7085933639864471030:=0
def tw2683634685017712988:=0
def tw16154092142185580166:=0
def tw11936665978751410438:=0
def tw12183109499402426674:=0
def tw5311759472466266749:=0
def tw9102773567685594124:=0
def tw1201775001781631340:=0
def tw8608049686325956589:=0
def tw4423291997829106633:=0
def tw5919756586101369699:=0
def tw8736249894957875075:=0
def tw14464466893436778975:=0
def tw16723932926338117291:=0
def tw8582503230032292890:=0
def tw14339547448845326787:=0
def tw9367014985570696698:=0
def tw4770805858032454471:=0
def tw15338826244202115851:=0
def tw8686666917952697553:=0
def tw4528837405903740072:=0
def tw13216686857524362624:=0
def tw231501362386589248:=0
def tw8117520866497396016:=0
def tw14354077111051564717:=0
def tw9482937457987095344:=0
def tw11874446394565153391:=0
def tw10673218533839748841:=0
def tw1856801721730072236:=0
def tw1935482029822737715:=0
def tw8235965807946620855:=0
def tw6343113403334063724:=0
def tw16762877135707844740:=0
def tw11179293625639141104:=0
def tw14509677317479349855:=0
def tw1284790679999330040:=0
def tw4877521871422141999:=0
def tw15272489423141421748:=0
def tw16780713876258660326:=0
def tw2098273935191489797:=0
def tw6708002128855340774:=0
def tw1268096728830094804:=0
def tw11200074246484510021:=0
def tw221904210955941648:=0
def tw7514862256510195943:=0
def tw15964270267225522202:=0
def tw15095571165434310992:=0
def tw13469032465081270978:=0
def tw15760336038711421628:=0
def tw13302684973087738446:=0
def tw705575756167928477:=0
def tw10613821085892723084:=0
def tw4870125553925600724:=0
def tw8586294166752052025:=0
def tw17612599277819196967:=0
def tw13701034503530837063:=0
def tw326841166907486708:=0
def tw10094348980038472676:=0
def tw17519552691188647629:=0
def tw13971195949735829272:=0
def tw9808466071599552237:=0
def tw5104460894935102640:=0
def tw4520268596611219931:=0
def tw17827460610495746777:=0
def tw10794125538889940372:=0
def tw11662553163584657358:=0
def tw11194829248108741677:=0
def tw16084061121861557123:=0
def tw321309551890690323:=0
def tw4763654503016628936:=0
def tw13532874882716793465:=0
def tw17746208271430114152:=0
def tw13082023473713770447:=0
def tw5457563876263092842:=0
def tw2518275736094592145:=0
def tw6486859752499938691:=0
def tw2295191824153332141:=0
def tw1627484526994337561:=0
def tw13567833697394079816:=0
def tw11274795630457076872:=0
def tw6297247018972344002:=0
def tw15622666288819433027:=0
def tw2710637643002823453:=0
def tw11990140238486824513:=0
def tw12372888495102877700:=0
def tw2370287691229725335:=0
def tw14648673402343449574:=0
def tw2854207169776902514:=0
def tw3475339030240032544:=0
def tw9076317167472574906:=0
def tw6478243331960392224:=0
def tw12827669942125394506:=0
def tw10001387308321596031:=0
def tw14066746849024380627:=0
def tw2893330470038538194:=0
def tw17141013206141045131:=0
def tw9005494492558143007:=0
end PySem.W.Fast
open PySem PySem.W PyProof.Rows
set_option maxRecDepth 100000 in
set_option maxHeartbeats 0 in
theorem PySem.Challenge.cw_ordersheets_s01_check_holds : PySem.Challenge.rw_ordersheets_s01_check.Holds := by
 w_on;k_headS;(case hw=>exact⟨[.list []],by decide+kernel,by decide+kernel⟩)
 k_fillS
 refine L2.walk_specK (r:=PySem.Challenge.rw_ordersheets_s01_check) (k:=178) (CX:=L2.CX0) (ps:=["text"]) (sp:=OS.spCheck) (by decide+kernel) rfl rfl ⟨rfl,by decide,by decide⟩ (fun w h Y=>PySem.W.kIn_of Y) ?F ?S (fun _ _ _ _ z=>z)
 case F=>
  intro w mg fa h Y KX G hmg
  have gC_Number:=PySem.W.mg_of KX G (n:="Number") (by exact rfl)
  have gC_Name:=PySem.W.mg_of KX G (n:="Name") (by exact rfl)
  have gC_Call:=PySem.W.mg_of KX G (n:="Call") (by exact rfl)
  have gC_Unary:=PySem.W.mg_of KX G (n:="Unary") (by exact rfl)
  have gC_Chain:=PySem.W.mg_of KX G (n:="Chain") (by exact rfl)
  have gC_Choice:=PySem.W.mg_of KX G (n:="Choice") (by exact rfl)
  have gC_Sum:=PySem.W.mg_of KX G (n:="Sum") (by exact rfl)
  have gC_Let:=PySem.W.mg_of KX G (n:="Let") (by exact rfl)
  have gC_For:=PySem.W.mg_of KX G (n:="For") (by exact rfl)
  have gC_If:=PySem.W.mg_of KX G (n:="If") (by exact rfl)
  have gC_Step:=PySem.W.mg_of KX G (n:="Step") (by exact rfl)
  have gC_Amounts:=PySem.W.mg_of KX G (n:="Amounts") (by exact rfl)
  have gC_Block:=PySem.W.mg_of KX G (n:="Block") (by exact rfl)
  have gC_Const:=PySem.W.mg_of KX G (n:="Const") (by exact rfl)
  have gC_Fun:=PySem.W.mg_of KX G (n:="Fun") (by exact rfl)
  have gC_Desk:=PySem.W.mg_of KX G (n:="Desk") (by exact rfl)
  have gC_Refusal:=PySem.W.mg_of KX G (n:="Refusal") (by exact rfl)
  have gC_Fault:=PySem.W.mg_of KX G (n:="Fault") (by exact rfl)
  have gC_Token:=PySem.W.mg_of KX G (n:="Token") (by exact rfl)
  have gC_Reader:=PySem.W.mg_of KX G (n:="Reader") (by exact rfl)
  obtain⟨fd_z8,F_z8,b_z8,me_z8⟩:=OS.jp_ (x:="__init__") (q:="Number.__init__") (st:=OS.s_z8) (ps:=["self","worth"]) KX gC_Number (by exact rfl) (by exact rfl) (by exact rfl) (by exact rfl) (by exact rfl) (fun _ _ _ _ _ _ us hl=>match us,hl with|[_,_],_=>rfl)
  obtain⟨fd_z23,F_z23,b_z23,me_z23⟩:=OS.jp_ (x:="__init__") (q:="Name.__init__") (st:=OS.s_z23) (ps:=["self","name"]) KX gC_Name (by exact rfl) (by exact rfl) (by exact rfl) (by exact rfl) (by exact rfl) (fun _ _ _ _ _ _ us hl=>match us,hl with|[_,_],_=>rfl)
  obtain⟨fd_z24,F_z24,b_z24,me_z24⟩:=OS.jp_ (x:="__init__") (q:="Call.__init__") (st:=OS.s_z24) (ps:=["self","name","arguments"]) KX gC_Call (by exact rfl) (by exact rfl) (by exact rfl) (by exact rfl) (by exact rfl) (fun _ _ _ _ _ _ us hl=>match us,hl with|[_,_,_],_=>rfl)
  obtain⟨fd_z13,F_z13,b_z13,me_z13⟩:=OS.jp_ (x:="__init__") (q:="Unary.__init__") (st:=OS.s_z13) (ps:=["self","sign","operand"]) KX gC_Unary (by exact rfl) (by exact rfl) (by exact rfl) (by exact rfl) (by exact rfl) (fun _ _ _ _ _ _ us hl=>match us,hl with|[_,_,_],_=>rfl)
  obtain⟨fd_z14,F_z14,b_z14,me_z14⟩:=OS.jp_ (x:="__init__") (q:="Chain.__init__") (st:=OS.s_z14) (ps:=["self","strength","operands","signs"]) KX gC_Chain (by exact rfl) (by exact rfl) (by exact rfl) (by exact rfl) (by exact rfl) (fun _ _ _ _ _ _ us hl=>match us,hl with|[_,_,_,_],_=>rfl)
  obtain⟨fd_z9,F_z9,b_z9,me_z9⟩:=OS.jp_ (x:="__init__") (q:="Choice.__init__") (st:=OS.s_z9) (ps:=["self","condition","chosen","otherwise"]) KX gC_Choice (by exact rfl) (by exact rfl) (by exact rfl) (by exact rfl) (by exact rfl) (fun _ _ _ _ _ _ us hl=>match us,hl with|[_,_,_,_],_=>rfl)
  obtain⟨fd_z33,F_z33,b_z33,me_z33⟩:=OS.jp_ (x:="__init__") (q:="Sum.__init__") (st:=OS.s_z33) (ps:=["self","name","first","last","body"]) KX gC_Sum (by exact rfl) (by exact rfl) (by exact rfl) (by exact rfl) (by exact rfl) (fun _ _ _ _ _ _ us hl=>match us,hl with|[_,_,_,_,_],_=>rfl)
  obtain⟨fd_z34,F_z34,b_z34,me_z34⟩:=OS.jp_ (x:="__init__") (q:="Let.__init__") (st:=OS.s_z34) (ps:=["self","name","exp"]) KX gC_Let (by exact rfl) (by exact rfl) (by exact rfl) (by exact rfl) (by exact rfl) (fun _ _ _ _ _ _ us hl=>match us,hl with|[_,_,_],_=>rfl)
  obtain⟨fd_z35,F_z35,b_z35,me_z35⟩:=OS.jp_ (x:="__init__") (q:="For.__init__") (st:=OS.s_z35) (ps:=["self","name","first","last","statements"]) KX gC_For (by exact rfl) (by exact rfl) (by exact rfl) (by exact rfl) (by exact rfl) (fun _ _ _ _ _ _ us hl=>match us,hl with|[_,_,_,_,_],_=>rfl)
  obtain⟨fd_z41,F_z41,b_z41,me_z41⟩:=OS.jp_ (x:="__init__") (q:="If.__init__") (st:=OS.s_z41) (ps:=["self","condition","statements","else_statements"]) KX gC_If (by exact rfl) (by exact rfl) (by exact rfl) (by exact rfl) (by exact rfl) (fun _ _ _ _ _ _ us hl=>match us,hl with|[_,_,_,_],_=>rfl)
  obtain⟨fd_z25,F_z25,b_z25,me_z25⟩:=OS.jp_ (x:="__init__") (q:="Step.__init__") (st:=OS.s_z25) (ps:=["self","side","zone","quarter","price","to_price","amount"]) KX gC_Step (by exact rfl) (by exact rfl) (by exact rfl) (by exact rfl) (by exact rfl) (fun _ _ _ _ _ _ us hl=>match us,hl with|[_,_,_,_,_,_,_],_=>rfl)
  obtain⟨fd_z4,F_z4,b_z4,me_z4⟩:=OS.jp_ (x:="__init__") (q:="Amounts.__init__") (st:=OS.s_z4) (ps:=["self","name","exp"]) KX gC_Amounts (by exact rfl) (by exact rfl) (by exact rfl) (by exact rfl) (by exact rfl) (fun _ _ _ _ _ _ us hl=>match us,hl with|[_,_,_],_=>rfl)
  obtain⟨fd_z15,F_z15,b_z15,me_z15⟩:=OS.jp_ (x:="__init__") (q:="Block.__init__") (st:=OS.s_z15) (ps:=["self","name","side","zone","price","amounts","under","group"]) KX gC_Block (by exact rfl) (by exact rfl) (by exact rfl) (by exact rfl) (by exact rfl) (fun _ _ _ _ _ _ us hl=>match us,hl with|[_,_,_,_,_,_,_,_],_=>rfl)
  obtain⟨fd_z16,F_z16,b_z16,me_z16⟩:=OS.jp_ (x:="__init__") (q:="Const.__init__") (st:=OS.s_z16) (ps:=["self","name","exp"]) KX gC_Const (by exact rfl) (by exact rfl) (by exact rfl) (by exact rfl) (by exact rfl) (fun _ _ _ _ _ _ us hl=>match us,hl with|[_,_,_],_=>rfl)
  obtain⟨fd_z36,F_z36,b_z36,me_z36⟩:=OS.jp_ (x:="__init__") (q:="Fun.__init__") (st:=OS.s_z36) (ps:=["self","name","parameters","exp"]) KX gC_Fun (by exact rfl) (by exact rfl) (by exact rfl) (by exact rfl) (by exact rfl) (fun _ _ _ _ _ _ us hl=>match us,hl with|[_,_,_,_],_=>rfl)
  obtain⟨fd_z26,F_z26,b_z26,me_z26⟩:=OS.jp_ (x:="__init__") (q:="Desk.__init__") (st:=OS.s_z26) (ps:=["self","name","statements"]) KX gC_Desk (by exact rfl) (by exact rfl) (by exact rfl) (by exact rfl) (by exact rfl) (fun _ _ _ _ _ _ us hl=>match us,hl with|[_,_,_],_=>rfl)
  obtain⟨fd_z5,F_z5,b_z5,me_z5⟩:=OS.jp_ (x:="__init__") (q:="Refusal.__init__") (st:=OS.s_z5) (ps:=["self","number"]) KX gC_Refusal (by exact rfl) (by exact rfl) (by exact rfl) (by exact rfl) (by exact rfl) (fun _ _ _ _ _ _ us hl=>match us,hl with|[_,_],_=>rfl)
  obtain⟨fd_z17,F_z17,b_z17,me_z17⟩:=OS.jp_ (x:="__init__") (q:="Fault.__init__") (st:=OS.s_z17) (ps:=["self","kind","line","column"]) KX gC_Fault (by exact rfl) (by exact rfl) (by exact rfl) (by exact rfl) (by exact rfl) (fun _ _ _ _ _ _ us hl=>match us,hl with|[_,_,_,_],_=>rfl)
  obtain⟨fd_z18,F_z18,b_z18,me_z18⟩:=OS.jp_ (x:="__init__") (q:="Token.__init__") (st:=OS.s_z18) (ps:=["self","kind","value","line","column"]) KX gC_Token (by exact rfl) (by exact rfl) (by exact rfl) (by exact rfl) (by exact rfl) (fun _ _ _ _ _ _ us hl=>match us,hl with|[_,_,_,_,_],_=>rfl)
  obtain⟨fd_z66,F_z66,b_z66,m_z66,bt_z66⟩:=OS.js_ (x:="is_digit") (st:=OS.s_z66) (ps:=["byte"]) KX G (by exact rfl) (by exact rfl) (by exact rfl) (by exact rfl) (fun _ _ _ _ _ _ us hl=>match us,hl with|[_],_=>rfl)
  obtain⟨fd_z58,F_z58,b_z58,m_z58,bt_z58⟩:=OS.js_ (x:="is_letter") (st:=OS.s_z58) (ps:=["byte"]) KX G (by exact rfl) (by exact rfl) (by exact rfl) (by exact rfl) (fun _ _ _ _ _ _ us hl=>match us,hl with|[_],_=>rfl)
  obtain⟨fd_z42,F_z42,b_z42,m_z42,bt_z42⟩:=OS.js_ (x:="comment_end") (st:=OS.s_z42) (ps:=["text","at"]) KX G (by exact rfl) (by exact rfl) (by exact rfl) (by exact rfl) (fun _ _ _ _ _ _ us hl=>match us,hl with|[_,_],_=>rfl)
  obtain⟨fd_z67,F_z67,b_z67,m_z67,bt_z67⟩:=OS.js_ (x:="word_end") (st:=OS.s_z67) (ps:=["text","at"]) KX G (by exact rfl) (by exact rfl) (by exact rfl) (by exact rfl) (fun _ _ _ _ _ _ us hl=>match us,hl with|[_,_],_=>rfl)
  obtain⟨fd_z50,F_z50,b_z50,m_z50,bt_z50⟩:=OS.js_ (x:="digits_end") (st:=OS.s_z50) (ps:=["text","at"]) KX G (by exact rfl) (by exact rfl) (by exact rfl) (by exact rfl) (fun _ _ _ _ _ _ us hl=>match us,hl with|[_,_],_=>rfl)
  obtain⟨fd_z59,F_z59,b_z59,m_z59,bt_z59⟩:=OS.js_ (x:="token_end") (st:=OS.s_z59) (ps:=["text","at"]) KX G (by exact rfl) (by exact rfl) (by exact rfl) (by exact rfl) (fun _ _ _ _ _ _ us hl=>match us,hl with|[_,_],_=>rfl)
  obtain⟨fd_z51,F_z51,b_z51,m_z51,bt_z51⟩:=OS.js_ (x:="token_kind") (st:=OS.s_z51) (ps:=["text","at","end"]) KX G (by exact rfl) (by exact rfl) (by exact rfl) (by exact rfl) (fun _ _ _ _ _ _ us hl=>match us,hl with|[_,_,_],_=>rfl)
  obtain⟨fd_z27,F_z27,b_z27,m_z27,bt_z27⟩:=OS.js_ (x:="decimal_worth") (st:=OS.s_z27) (ps:=["part"]) KX G (by exact rfl) (by exact rfl) (by exact rfl) (by exact rfl) (fun _ _ _ _ _ _ us hl=>match us,hl with|[_],_=>rfl)
  obtain⟨fd_z43,F_z43,b_z43,m_z43,bt_z43⟩:=OS.js_ (x:="token_value") (st:=OS.s_z43) (ps:=["kind","part"]) KX G (by exact rfl) (by exact rfl) (by exact rfl) (by exact rfl) (fun _ _ _ _ _ _ us hl=>match us,hl with|[_,_],_=>rfl)
  obtain⟨fd_z60,F_z60,b_z60,m_z60,bt_z60⟩:=OS.js_ (x:="scan_text") (st:=OS.s_z60) (ps:=["text"]) KX G (by exact rfl) (by exact rfl) (by exact rfl) (by exact rfl) (fun _ _ _ _ _ _ us hl=>match us,hl with|[_],_=>rfl)
  obtain⟨fd_z10,F_z10,b_z10,me_z10⟩:=OS.jp_ (x:="__init__") (q:="Reader.__init__") (st:=OS.s_z10) (ps:=["self","tokens"]) KX gC_Reader (by exact rfl) (by exact rfl) (by exact rfl) (by exact rfl) (by exact rfl) (fun _ _ _ _ _ _ us hl=>match us,hl with|[_,_],_=>rfl)
  obtain⟨fd_z19,F_z19,b_z19,me_z19⟩:=OS.jp_ (x:="current") (q:="Reader.current") (st:=OS.s_z19) (ps:=["self"]) KX gC_Reader (by exact rfl) (by exact rfl) (by exact rfl) (by exact rfl) (by exact rfl) (fun _ _ _ _ _ _ us hl=>match us,hl with|[_],_=>rfl)
  obtain⟨fd_z44,F_z44,b_z44,me_z44⟩:=OS.jp_ (x:="fail") (q:="Reader.fail") (st:=OS.s_z44) (ps:=["self","kind"]) KX gC_Reader (by exact rfl) (by exact rfl) (by exact rfl) (by exact rfl) (by exact rfl) (fun _ _ _ _ _ _ us hl=>match us,hl with|[_,_],_=>rfl)
  obtain⟨fd_z45,F_z45,b_z45,me_z45⟩:=OS.jp_ (x:="sees") (q:="Reader.sees") (st:=OS.s_z45) (ps:=["self","value"]) KX gC_Reader (by exact rfl) (by exact rfl) (by exact rfl) (by exact rfl) (by exact rfl) (fun _ _ _ _ _ _ us hl=>match us,hl with|[_,_],_=>rfl)
  obtain⟨fd_z28,F_z28,b_z28,me_z28⟩:=OS.jp_ (x:="at_end") (q:="Reader.at_end") (st:=OS.s_z28) (ps:=["self"]) KX gC_Reader (by exact rfl) (by exact rfl) (by exact rfl) (by exact rfl) (by exact rfl) (fun _ _ _ _ _ _ us hl=>match us,hl with|[_],_=>rfl)
  obtain⟨fd_z6,F_z6,b_z6,me_z6⟩:=OS.jp_ (x:="at_number") (q:="Reader.at_number") (st:=OS.s_z6) (ps:=["self"]) KX gC_Reader (by exact rfl) (by exact rfl) (by exact rfl) (by exact rfl) (by exact rfl) (fun _ _ _ _ _ _ us hl=>match us,hl with|[_],_=>rfl)
  obtain⟨fd_z20,F_z20,b_z20,me_z20⟩:=OS.jp_ (x:="at_name") (q:="Reader.at_name") (st:=OS.s_z20) (ps:=["self"]) KX gC_Reader (by exact rfl) (by exact rfl) (by exact rfl) (by exact rfl) (by exact rfl) (fun _ _ _ _ _ _ us hl=>match us,hl with|[_],_=>rfl)
  obtain⟨fd_z1,F_z1,b_z1,me_z1⟩:=OS.jp_ (x:="number_follows") (q:="Reader.number_follows") (st:=OS.s_z1) (ps:=["self"]) KX gC_Reader (by exact rfl) (by exact rfl) (by exact rfl) (by exact rfl) (by exact rfl) (fun _ _ _ _ _ _ us hl=>match us,hl with|[_],_=>rfl)
  obtain⟨fd_z46,F_z46,b_z46,me_z46⟩:=OS.jp_ (x:="take") (q:="Reader.take") (st:=OS.s_z46) (ps:=["self"]) KX gC_Reader (by exact rfl) (by exact rfl) (by exact rfl) (by exact rfl) (by exact rfl) (fun _ _ _ _ _ _ us hl=>match us,hl with|[_],_=>rfl)
  obtain⟨fd_z29,F_z29,b_z29,me_z29⟩:=OS.jp_ (x:="expect") (q:="Reader.expect") (st:=OS.s_z29) (ps:=["self","value"]) KX gC_Reader (by exact rfl) (by exact rfl) (by exact rfl) (by exact rfl) (by exact rfl) (fun _ _ _ _ _ _ us hl=>match us,hl with|[_,_],_=>rfl)
  obtain⟨fd_z37,F_z37,b_z37,me_z37⟩:=OS.jp_ (x:="skips") (q:="Reader.skips") (st:=OS.s_z37) (ps:=["self","value"]) KX gC_Reader (by exact rfl) (by exact rfl) (by exact rfl) (by exact rfl) (by exact rfl) (fun _ _ _ _ _ _ us hl=>match us,hl with|[_,_],_=>rfl)
  obtain⟨fd_z7,F_z7,b_z7,me_z7⟩:=OS.jp_ (x:="need_name") (q:="Reader.need_name") (st:=OS.s_z7) (ps:=["self"]) KX gC_Reader (by exact rfl) (by exact rfl) (by exact rfl) (by exact rfl) (by exact rfl) (fun _ _ _ _ _ _ us hl=>match us,hl with|[_],_=>rfl)
  obtain⟨fd_z2,F_z2,b_z2,me_z2⟩:=OS.jp_ (x:="take_free_name") (q:="Reader.take_free_name") (st:=OS.s_z2) (ps:=["self"]) KX gC_Reader (by exact rfl) (by exact rfl) (by exact rfl) (by exact rfl) (by exact rfl) (fun _ _ _ _ _ _ us hl=>match us,hl with|[_],_=>rfl)
  obtain⟨fd_z0,F_z0,b_z0,me_z0⟩:=OS.jp_ (x:="take_name_not_in") (q:="Reader.take_name_not_in") (st:=OS.s_z0) (ps:=["self","given"]) KX gC_Reader (by exact rfl) (by exact rfl) (by exact rfl) (by exact rfl) (by exact rfl) (fun _ _ _ _ _ _ us hl=>match us,hl with|[_,_],_=>rfl)
  obtain⟨fd_z38,F_z38,b_z38,me_z38⟩:=OS.jp_ (x:="learn") (q:="Reader.learn") (st:=OS.s_z38) (ps:=["self","name"]) KX gC_Reader (by exact rfl) (by exact rfl) (by exact rfl) (by exact rfl) (by exact rfl) (fun _ _ _ _ _ _ us hl=>match us,hl with|[_,_],_=>rfl)
  obtain⟨fd_z30,F_z30,b_z30,me_z30⟩:=OS.jp_ (x:="forget") (q:="Reader.forget") (st:=OS.s_z30) (ps:=["self","name"]) KX gC_Reader (by exact rfl) (by exact rfl) (by exact rfl) (by exact rfl) (by exact rfl) (fun _ _ _ _ _ _ us hl=>match us,hl with|[_,_],_=>rfl)
  obtain⟨fd_z76,F_z76,b_z76,m_z76,bt_z76⟩:=OS.js_ (x:="deeper") (st:=OS.s_z76) (ps:=["reader","depth"]) KX G (by exact rfl) (by exact rfl) (by exact rfl) (by exact rfl) (fun _ _ _ _ _ _ us hl=>match us,hl with|[_,_],_=>rfl)
  obtain⟨fd_z68,F_z68,b_z68,m_z68,bt_z68⟩:=OS.js_ (x:="read_exp") (st:=OS.s_z68) (ps:=["reader","depth"]) KX G (by exact rfl) (by exact rfl) (by exact rfl) (by exact rfl) (fun _ _ _ _ _ _ us hl=>match us,hl with|[_,_],_=>rfl)
  obtain⟨fd_z47,F_z47,b_z47,m_z47,bt_z47⟩:=OS.js_ (x:="read_choice") (st:=OS.s_z47) (ps:=["reader","depth"]) KX G (by exact rfl) (by exact rfl) (by exact rfl) (by exact rfl) (fun _ _ _ _ _ _ us hl=>match us,hl with|[_,_],_=>rfl)
  obtain⟨fd_z52,F_z52,b_z52,m_z52,bt_z52⟩:=OS.js_ (x:="read_chain") (st:=OS.s_z52) (ps:=["reader","depth","strength"]) KX G (by exact rfl) (by exact rfl) (by exact rfl) (by exact rfl) (fun _ _ _ _ _ _ us hl=>match us,hl with|[_,_,_],_=>rfl)
  obtain⟨fd_z53,F_z53,b_z53,m_z53,bt_z53⟩:=OS.js_ (x:="read_unary") (st:=OS.s_z53) (ps:=["reader","depth"]) KX G (by exact rfl) (by exact rfl) (by exact rfl) (by exact rfl) (fun _ _ _ _ _ _ us hl=>match us,hl with|[_,_],_=>rfl)
  obtain⟨fd_z39,F_z39,b_z39,m_z39,bt_z39⟩:=OS.js_ (x:="read_primary") (st:=OS.s_z39) (ps:=["reader","depth"]) KX G (by exact rfl) (by exact rfl) (by exact rfl) (by exact rfl) (fun _ _ _ _ _ _ us hl=>match us,hl with|[_,_],_=>rfl)
  obtain⟨fd_z31,F_z31,b_z31,m_z31,bt_z31⟩:=OS.js_ (x:="read_brackets") (st:=OS.s_z31) (ps:=["reader","depth"]) KX G (by exact rfl) (by exact rfl) (by exact rfl) (by exact rfl) (fun _ _ _ _ _ _ us hl=>match us,hl with|[_,_],_=>rfl)
  obtain⟨fd_z69,F_z69,b_z69,m_z69,bt_z69⟩:=OS.js_ (x:="read_sum") (st:=OS.s_z69) (ps:=["reader","depth"]) KX G (by exact rfl) (by exact rfl) (by exact rfl) (by exact rfl) (fun _ _ _ _ _ _ us hl=>match us,hl with|[_,_],_=>rfl)
  obtain⟨fd_z61,F_z61,b_z61,m_z61,bt_z61⟩:=OS.js_ (x:="read_call") (st:=OS.s_z61) (ps:=["reader","depth"]) KX G (by exact rfl) (by exact rfl) (by exact rfl) (by exact rfl) (fun _ _ _ _ _ _ us hl=>match us,hl with|[_,_],_=>rfl)
  obtain⟨fd_z48,F_z48,b_z48,m_z48,bt_z48⟩:=OS.js_ (x:="refuse_here") (st:=OS.s_z48) (ps:=["reader","sign"]) KX G (by exact rfl) (by exact rfl) (by exact rfl) (by exact rfl) (fun _ _ _ _ _ _ us hl=>match us,hl with|[_,_],_=>rfl)
  obtain⟨fd_z54,F_z54,b_z54,m_z54,bt_z54⟩:=OS.js_ (x:="read_sheet") (st:=OS.s_z54) (ps:=["text"]) KX G (by exact rfl) (by exact rfl) (by exact rfl) (by exact rfl) (fun _ _ _ _ _ _ us hl=>match us,hl with|[_],_=>rfl)
  obtain⟨fd_z70,F_z70,b_z70,m_z70,bt_z70⟩:=OS.js_ (x:="read_top") (st:=OS.s_z70) (ps:=["reader"]) KX G (by exact rfl) (by exact rfl) (by exact rfl) (by exact rfl) (fun _ _ _ _ _ _ us hl=>match us,hl with|[_],_=>rfl)
  obtain⟨fd_z55,F_z55,b_z55,m_z55,bt_z55⟩:=OS.js_ (x:="read_const") (st:=OS.s_z55) (ps:=["reader"]) KX G (by exact rfl) (by exact rfl) (by exact rfl) (by exact rfl) (fun _ _ _ _ _ _ us hl=>match us,hl with|[_],_=>rfl)
  obtain⟨fd_z56,F_z56,b_z56,m_z56,bt_z56⟩:=OS.js_ (x:="read_given") (st:=OS.s_z56) (ps:=["reader"]) KX G (by exact rfl) (by exact rfl) (by exact rfl) (by exact rfl) (fun _ _ _ _ _ _ us hl=>match us,hl with|[_],_=>rfl)
  obtain⟨fd_z71,F_z71,b_z71,m_z71,bt_z71⟩:=OS.js_ (x:="read_fun") (st:=OS.s_z71) (ps:=["reader"]) KX G (by exact rfl) (by exact rfl) (by exact rfl) (by exact rfl) (fun _ _ _ _ _ _ us hl=>match us,hl with|[_],_=>rfl)
  obtain⟨fd_z11,F_z11,b_z11,m_z11,bt_z11⟩:=OS.js_ (x:="read_parameters") (st:=OS.s_z11) (ps:=["reader","function"]) KX G (by exact rfl) (by exact rfl) (by exact rfl) (by exact rfl) (fun _ _ _ _ _ _ us hl=>match us,hl with|[_,_],_=>rfl)
  obtain⟨fd_z21,F_z21,b_z21,m_z21,bt_z21⟩:=OS.js_ (x:="read_parameter") (st:=OS.s_z21) (ps:=["reader","function"]) KX G (by exact rfl) (by exact rfl) (by exact rfl) (by exact rfl) (fun _ _ _ _ _ _ us hl=>match us,hl with|[_,_],_=>rfl)
  obtain⟨fd_z62,F_z62,b_z62,m_z62,bt_z62⟩:=OS.js_ (x:="read_desk") (st:=OS.s_z62) (ps:=["reader"]) KX G (by exact rfl) (by exact rfl) (by exact rfl) (by exact rfl) (fun _ _ _ _ _ _ us hl=>match us,hl with|[_],_=>rfl)
  obtain⟨fd_z49,F_z49,b_z49,m_z49,bt_z49⟩:=OS.js_ (x:="read_braces") (st:=OS.s_z49) (ps:=["reader","depth"]) KX G (by exact rfl) (by exact rfl) (by exact rfl) (by exact rfl) (fun _ _ _ _ _ _ us hl=>match us,hl with|[_,_],_=>rfl)
  obtain⟨fd_z22,F_z22,b_z22,m_z22,bt_z22⟩:=OS.js_ (x:="read_statement") (st:=OS.s_z22) (ps:=["reader","depth"]) KX G (by exact rfl) (by exact rfl) (by exact rfl) (by exact rfl) (fun _ _ _ _ _ _ us hl=>match us,hl with|[_,_],_=>rfl)
  obtain⟨fd_z72,F_z72,b_z72,m_z72,bt_z72⟩:=OS.js_ (x:="read_let") (st:=OS.s_z72) (ps:=["reader"]) KX G (by exact rfl) (by exact rfl) (by exact rfl) (by exact rfl) (fun _ _ _ _ _ _ us hl=>match us,hl with|[_],_=>rfl)
  obtain⟨fd_z32,F_z32,b_z32,m_z32,bt_z32⟩:=OS.js_ (x:="deeper_braces") (st:=OS.s_z32) (ps:=["reader","depth"]) KX G (by exact rfl) (by exact rfl) (by exact rfl) (by exact rfl) (fun _ _ _ _ _ _ us hl=>match us,hl with|[_,_],_=>rfl)
  obtain⟨fd_z73,F_z73,b_z73,m_z73,bt_z73⟩:=OS.js_ (x:="read_for") (st:=OS.s_z73) (ps:=["reader","depth"]) KX G (by exact rfl) (by exact rfl) (by exact rfl) (by exact rfl) (fun _ _ _ _ _ _ us hl=>match us,hl with|[_,_],_=>rfl)
  obtain⟨fd_z74,F_z74,b_z74,m_z74,bt_z74⟩:=OS.js_ (x:="read_if") (st:=OS.s_z74) (ps:=["reader","depth"]) KX G (by exact rfl) (by exact rfl) (by exact rfl) (by exact rfl) (fun _ _ _ _ _ _ us hl=>match us,hl with|[_,_],_=>rfl)
  obtain⟨fd_z63,F_z63,b_z63,m_z63,bt_z63⟩:=OS.js_ (x:="read_side") (st:=OS.s_z63) (ps:=["reader"]) KX G (by exact rfl) (by exact rfl) (by exact rfl) (by exact rfl) (fun _ _ _ _ _ _ us hl=>match us,hl with|[_],_=>rfl)
  obtain⟨fd_z64,F_z64,b_z64,m_z64,bt_z64⟩:=OS.js_ (x:="read_part") (st:=OS.s_z64) (ps:=["reader","word"]) KX G (by exact rfl) (by exact rfl) (by exact rfl) (by exact rfl) (fun _ _ _ _ _ _ us hl=>match us,hl with|[_,_],_=>rfl)
  obtain⟨fd_z3,F_z3,b_z3,m_z3,bt_z3⟩:=OS.js_ (x:="read_part_if_there") (st:=OS.s_z3) (ps:=["reader","word"]) KX G (by exact rfl) (by exact rfl) (by exact rfl) (by exact rfl) (fun _ _ _ _ _ _ us hl=>match us,hl with|[_,_],_=>rfl)
  obtain⟨fd_z65,F_z65,b_z65,m_z65,bt_z65⟩:=OS.js_ (x:="read_step") (st:=OS.s_z65) (ps:=["reader"]) KX G (by exact rfl) (by exact rfl) (by exact rfl) (by exact rfl) (fun _ _ _ _ _ _ us hl=>match us,hl with|[_],_=>rfl)
  obtain⟨fd_z57,F_z57,b_z57,m_z57,bt_z57⟩:=OS.js_ (x:="read_block") (st:=OS.s_z57) (ps:=["reader"]) KX G (by exact rfl) (by exact rfl) (by exact rfl) (by exact rfl) (fun _ _ _ _ _ _ us hl=>match us,hl with|[_],_=>rfl)
  obtain⟨fd_z40,F_z40,b_z40,m_z40,bt_z40⟩:=OS.js_ (x:="read_amounts") (st:=OS.s_z40) (ps:=["reader"]) KX G (by exact rfl) (by exact rfl) (by exact rfl) (by exact rfl) (fun _ _ _ _ _ _ us hl=>match us,hl with|[_],_=>rfl)
  obtain⟨fd_z12,F_z12,b_z12,m_z12,bt_z12⟩:=OS.js_ (x:="read_under_name") (st:=OS.s_z12) (ps:=["reader"]) KX G (by exact rfl) (by exact rfl) (by exact rfl) (by exact rfl) (fun _ _ _ _ _ _ us hl=>match us,hl with|[_],_=>rfl)
  obtain⟨fd_z75,F_z75,b_z75,m_z75,bt_z75⟩:=OS.js_ (x:="is_text") (st:=OS.s_z75) (ps:=["text"]) KX G (by exact rfl) (by exact rfl) (by exact rfl) (by exact rfl) (fun _ _ _ _ _ _ us hl=>match us,hl with|[_],_=>rfl)
  obtain⟨fd_z77,F_z77,b_z77,m_z77,bt_z77⟩:=OS.js_ (x:="check") (st:=OS.s_z77) (ps:=["text"]) KX G (by exact rfl) (by exact rfl) (by exact rfl) (by exact rfl) (fun _ _ _ _ _ _ us hl=>match us,hl with|[_],_=>rfl)
  have T:OS.Txt _ mg ⟨_,fd_z8,_,fd_z23,_,fd_z24,_,fd_z13,_,fd_z14,_,fd_z9,_,fd_z33,_,fd_z34,_,fd_z35,_,fd_z41,_,fd_z25,_,fd_z4,_,fd_z15,_,fd_z16,_,fd_z36,_,fd_z26,_,fd_z5,_,fd_z17,_,fd_z18,_,fd_z66,_,fd_z58,_,fd_z42,_,fd_z67,_,fd_z50,_,fd_z59,_,fd_z51,_,fd_z27,_,fd_z43,_,fd_z60,_,fd_z10,_,fd_z19,_,fd_z44,_,fd_z45,_,fd_z28,_,fd_z6,_,fd_z20,_,fd_z1,_,fd_z46,_,fd_z29,_,fd_z37,_,fd_z7,_,fd_z2,_,fd_z0,_,fd_z38,_,fd_z30,_,fd_z76,_,fd_z68,_,fd_z47,_,fd_z52,_,fd_z53,_,fd_z39,_,fd_z31,_,fd_z69,_,fd_z61,_,fd_z48,_,fd_z54,_,fd_z70,_,fd_z55,_,fd_z56,_,fd_z71,_,fd_z11,_,fd_z21,_,fd_z62,_,fd_z49,_,fd_z22,_,fd_z72,_,fd_z32,_,fd_z73,_,fd_z74,_,fd_z63,_,fd_z64,_,fd_z3,_,fd_z65,_,fd_z57,_,fd_z40,_,fd_z12,_,fd_z75,_,fd_z77,_,_,_,_,_,_,_,_,_,_,_,_,_,_,_,_,_,_,_,_,_,_,_,_,_⟩:=⟨F_z8,
   b_z8,
   F_z23,
   b_z23,
   F_z24,
   b_z24,
   F_z13,
   b_z13,
   F_z14,
   b_z14,
   F_z9,
   b_z9,
   F_z33,
   b_z33,
   F_z34,
   b_z34,
   F_z35,
   b_z35,
   F_z41,
   b_z41,
   F_z25,
   b_z25,
   F_z4,
   b_z4,
   F_z15,
   b_z15,
   F_z16,
   b_z16,
   F_z36,
   b_z36,
   F_z26,
   b_z26,
   F_z5,
   b_z5,
   F_z17,
   b_z17,
   F_z18,
   b_z18,
   F_z66,
   b_z66,
   m_z66,
   F_z58,
   b_z58,
   m_z58,
   F_z42,
   b_z42,
   m_z42,
   F_z67,
   b_z67,
   m_z67,
   F_z50,
   b_z50,
   m_z50,
   F_z59,
   b_z59,
   m_z59,
   F_z51,
   b_z51,
   m_z51,
   F_z27,
   b_z27,
   m_z27,
   F_z43,
   b_z43,
   m_z43,
   F_z60,
   b_z60,
   m_z60,
   F_z10,
   b_z10,
   F_z19,
   b_z19,
   me_z19,
   F_z44,
   b_z44,
   me_z44,
   F_z45,
   b_z45,
   me_z45,
   F_z28,
   b_z28,
   me_z28,
   F_z6,
   b_z6,
   me_z6,
   F_z20,
   b_z20,
   me_z20,
   F_z1,
   b_z1,
   me_z1,
   F_z46,
   b_z46,
   me_z46,
   F_z29,
   b_z29,
   me_z29,
   F_z37,
   b_z37,
   me_z37,
   F_z7,
   b_z7,
   me_z7,
   F_z2,
   b_z2,
   me_z2,
   F_z0,
   b_z0,
   me_z0,
   F_z38,
   b_z38,
   me_z38,
   F_z30,
   b_z30,
   me_z30,
   F_z76,
   b_z76,
   m_z76,
   F_z68,
   b_z68,
   m_z68,
   F_z47,
   b_z47,
   m_z47,
   F_z52,
   b_z52,
   m_z52,
   F_z53,
   b_z53,
   m_z53,
   F_z39,
   b_z39,
   m_z39,
   F_z31,
   b_z31,
   m_z31,
   F_z69,
   b_z69,
   m_z69,
   F_z61,
   b_z61,
   m_z61,
   F_z48,
   b_z48,
   m_z48,
   F_z54,
   b_z54,
   m_z54,
   F_z70,
   b_z70,
   m_z70,
   F_z55,
   b_z55,
   m_z55,
   F_z56,
   b_z56,
   m_z56,
   F_z71,
   b_z71,
   m_z71,
   F_z11,
   b_z11,
   m_z11,
   F_z21,
   b_z21,
   m_z21,
   F_z62,
   b_z62,
   m_z62,
   F_z49,
   b_z49,
   m_z49,
   F_z22,
   b_z22,
   m_z22,
   F_z72,
   b_z72,
   m_z72,
   F_z32,
   b_z32,
   m_z32,
   F_z73,
   b_z73,
   m_z73,
   F_z74,
   b_z74,
   m_z74,
   F_z63,
   b_z63,
   m_z63,
   F_z64,
   b_z64,
   m_z64,
   F_z3,
   b_z3,
   m_z3,
   F_z65,
   b_z65,
   m_z65,
   F_z57,
   b_z57,
   m_z57,
   F_z40,
   b_z40,
   m_z40,
   F_z12,
   b_z12,
   m_z12,
   F_z75,
   b_z75,
   m_z75,
   F_z77,
   b_z77,
   m_z77,
   gC_Number,
   gC_Name,
   gC_Call,
   gC_Unary,
   gC_Chain,
   gC_Choice,
   gC_Sum,
   gC_Let,
   gC_For,
   gC_If,
   gC_Step,
   gC_Amounts,
   gC_Block,
   gC_Const,
   gC_Fun,
   gC_Desk,
   gC_Refusal,
   gC_Fault,
   gC_Token,
   gC_Reader,
   ⟨(by exact rfl),(by exact rfl),(by exact rfl),(by exact rfl)⟩,
   ⟨(by kernel_rfl),(by exact rfl),(by exact rfl),(by exact rfl)⟩,
   (by exact rfl),
   ⟨(by exact rfl),(by exact rfl),(by exact rfl),(by exact rfl)⟩,
   ⟨(by kernel_rfl),(by exact rfl),(by exact rfl),(by exact rfl)⟩,
   (by exact rfl),
   ⟨(by exact rfl),(by exact rfl),(by exact rfl),(by exact rfl)⟩,
   ⟨(by kernel_rfl),(by exact rfl),(by exact rfl),(by exact rfl)⟩,
   (by exact rfl),
   (by exact rfl),
   ⟨(by exact rfl),(by exact rfl),(by exact rfl),(by exact rfl)⟩,
   ⟨(by kernel_rfl),(by exact rfl),(by exact rfl),(by exact rfl)⟩,
   (by exact rfl),
   (by exact rfl),
   ⟨(by exact rfl),(by exact rfl),(by exact rfl),(by exact rfl)⟩,
   ⟨(by kernel_rfl),(by exact rfl),(by exact rfl),(by exact rfl)⟩,
   (by exact rfl),
   (by exact rfl),
   (by exact rfl),
   ⟨(by exact rfl),(by exact rfl),(by exact rfl),(by exact rfl)⟩,
   ⟨(by kernel_rfl),(by exact rfl),(by exact rfl),(by exact rfl)⟩,
   (by exact rfl),
   (by exact rfl),
   (by exact rfl),
   ⟨(by exact rfl),(by exact rfl),(by exact rfl),(by exact rfl)⟩,
   ⟨(by kernel_rfl),(by exact rfl),(by exact rfl),(by exact rfl)⟩,
   (by exact rfl),
   (by exact rfl),
   (by exact rfl),
   (by exact rfl),
   ⟨(by exact rfl),(by exact rfl),(by exact rfl),(by exact rfl)⟩,
   ⟨(by kernel_rfl),(by exact rfl),(by exact rfl),(by exact rfl)⟩,
   (by exact rfl),
   (by exact rfl),
   ⟨(by exact rfl),(by exact rfl),(by exact rfl),(by exact rfl)⟩,
   ⟨(by kernel_rfl),(by exact rfl),(by exact rfl),(by exact rfl)⟩,
   (by exact rfl),
   (by exact rfl),
   (by exact rfl),
   (by exact rfl),
   ⟨(by exact rfl),(by exact rfl),(by exact rfl),(by exact rfl)⟩,
   ⟨(by kernel_rfl),(by exact rfl),(by exact rfl),(by exact rfl)⟩,
   (by exact rfl),
   (by exact rfl),
   (by exact rfl),
   ⟨(by exact rfl),(by exact rfl),(by exact rfl),(by exact rfl)⟩,
   ⟨(by kernel_rfl),(by exact rfl),(by exact rfl),(by exact rfl)⟩,
   (by exact rfl),
   (by exact rfl),
   (by exact rfl),
   (by exact rfl),
   (by exact rfl),
   (by exact rfl),
   ⟨(by exact rfl),(by exact rfl),(by exact rfl),(by exact rfl)⟩,
   ⟨(by kernel_rfl),(by exact rfl),(by exact rfl),(by exact rfl)⟩,
   (by exact rfl),
   (by exact rfl),
   ⟨(by exact rfl),(by exact rfl),(by exact rfl),(by exact rfl)⟩,
   ⟨(by kernel_rfl),(by exact rfl),(by exact rfl),(by exact rfl)⟩,
   (by exact rfl),
   (by exact rfl),
   (by exact rfl),
   (by exact rfl),
   (by exact rfl),
   (by exact rfl),
   (by exact rfl),
   ⟨(by exact rfl),(by exact rfl),(by exact rfl),(by exact rfl)⟩,
   ⟨(by kernel_rfl),(by exact rfl),(by exact rfl),(by exact rfl)⟩,
   (by exact rfl),
   (by exact rfl),
   ⟨(by exact rfl),(by exact rfl),(by exact rfl),(by exact rfl)⟩,
   ⟨(by kernel_rfl),(by exact rfl),(by exact rfl),(by exact rfl)⟩,
   (by exact rfl),
   (by exact rfl),
   (by exact rfl),
   ⟨(by exact rfl),(by exact rfl),(by exact rfl),(by exact rfl)⟩,
   ⟨(by kernel_rfl),(by exact rfl),(by exact rfl),(by exact rfl)⟩,
   (by exact rfl),
   (by exact rfl),
   ⟨(by exact rfl),(by exact rfl),(by exact rfl),(by exact rfl)⟩,
   ⟨(by kernel_rfl),(by exact rfl),(by exact rfl),(by exact rfl)⟩,
   (by exact rfl),
   (by exact rfl),
   (by exact rfl),
   (by exact rfl),
   ⟨(by exact rfl),(by exact rfl),(by exact rfl),(by exact rfl)⟩,
   ⟨(by kernel_rfl),(by exact rfl),(by exact rfl),(by exact rfl)⟩,
   (by exact rfl),
   (by exact rfl),
   (by exact rfl),
   (by exact rfl),
   (by exact rfl),
   (by exact rfl),
   ⟨_,PySem.W.mg_of KX G (by exact rfl)⟩,
   ⟨_,PySem.W.mg_of KX G (by exact rfl)⟩,
   ⟨_,PySem.W.mg_of KX G (by exact rfl)⟩,
   ⟨_,PySem.W.mg_of KX G (by exact rfl)⟩,
   ⟨_,PySem.W.mg_of KX G (by exact rfl)⟩,
   ⟨_,PySem.W.mg_of KX G (by exact rfl)⟩,
   ⟨_,PySem.W.mg_of KX G (by exact rfl)⟩,
   ⟨_,PySem.W.mg_of KX G (by exact rfl)⟩,
   ⟨_,PySem.W.mg_of KX G (by exact rfl)⟩,
   ⟨_,PySem.W.mg_of KX G (by exact rfl)⟩,
   (PySem.W.mg_of KX G (by exact rfl)),
   (PySem.W.mg_of KX G (by exact rfl)),
   ⟨_,PySem.W.mg_of KX G (by exact rfl)⟩,
   ⟨_,PySem.W.mg_of KX G (by exact rfl)⟩,
   ⟨_,PySem.W.mg_of KX G (by exact rfl)⟩,
   ⟨_,PySem.W.mg_of KX G (by exact rfl)⟩,
   ⟨_,PySem.W.mg_of KX G (by exact rfl)⟩,
   ⟨_,PySem.W.mg_of KX G (by exact rfl)⟩,
   ⟨_,PySem.W.mg_of KX G (by exact rfl)⟩,
   ⟨_,PySem.W.mg_of KX G (by exact rfl)⟩,
   (PySem.W.mg_of KX G (by exact rfl)),
   (PySem.W.mg_of KX G (by exact rfl)),
   ⟨_,PySem.W.mg_of KX G (by exact rfl)⟩,
   (PySem.W.mg_of KX G (by exact rfl)),
   ⟨_,PySem.W.mg_of KX G (by exact rfl)⟩,
   ⟨_,PySem.W.mg_of KX G (by exact rfl)⟩,
   ⟨_,PySem.W.mg_of KX G (by exact rfl)⟩,
   ⟨_,PySem.W.mg_of KX G (by exact rfl)⟩,
   (OS.ktup_int (l:=[9,10,13,32]) (by kernel_rfl)),
   (OS.ktup_str (l:=["const","fun","desk","let","for","in","if","then","else","sell","buy","zone","quarter","price","to","amount","block","under","group","sum"]) (by kernel_rfl)),
   (PySem.W.mg_none_of KX G (by exact rfl)),
   (PySem.W.mg_none_of KX G (by exact rfl)),
   (PySem.W.mg_none_of KX G (by exact rfl)),
   (PySem.W.mg_none_of KX G (by exact rfl)),
   (PySem.W.mg_none_of KX G (by exact rfl)),
   (PySem.W.mg_none_of KX G (by exact rfl))⟩
  have kS:=OS.signs_k T (P:=PySem.Challenge.rw_ordersheets_s01_check.prog) (w:=w) (by kernel_rfl) rfl
  have kF:=OS.first_k T (P:=PySem.Challenge.rw_ordersheets_s01_check.prog) (w:=w) (by kernel_rfl) rfl
  have KT:=OS.chain_k T (by kernel_rfl)
  have IL:OS.IsLet _ _:=⟨⟨T.cl_Let,(by exact rfl),(by exact rfl),(by exact rfl),(by exact rfl)⟩,⟨T.cl_For,(by exact rfl),(by exact rfl),(by exact rfl),(by exact rfl)⟩,⟨T.cl_If,(by exact rfl),(by exact rfl),(by exact rfl),(by exact rfl)⟩,⟨T.cl_Step,(by exact rfl),(by exact rfl),(by exact rfl),(by exact rfl)⟩,⟨T.cl_Block,(by exact rfl),(by exact rfl),(by exact rfl),(by exact rfl)⟩,(by kernel_rfl),(by kernel_rfl),(by kernel_rfl),(by kernel_rfl),(by kernel_rfl)⟩
  have XC:=OS.xt_of T KX (by exact rfl) (by kernel_rfl) (by kernel_rfl) (by kernel_rfl) (by kernel_rfl) (by kernel_rfl) (by exact rfl) (by kernel_rfl) (by kernel_rfl) ⟨by kernel_rfl,by kernel_rfl,by kernel_rfl,by kernel_rfl,by kernel_rfl⟩
  cases hmg.symm.trans m_z77
  exact⟨fd_z77,bt_z77,fun base _ _=>OS.ok_all T XC kS kF KT IL⟩
 case S=>
  intro K H xs a hO hwi hask hx
  cases hx with
  |cons h1 h2=>
   cases h2
   cases h1 with
   |lst hs ha=>
    have e:=L2.ints_dw a.1 _ ha
    subst e
    have q:((Codec.inLen 0 4000 a.1&&a.1.all (Codec.inInt (-1000000000000000000) 1000000000000000000))&&true)=true:=hwi
    rw[Bool.and_eq_true,Bool.and_eq_true] at q
    exact⟨_,a.1,rfl,hs,(Codec.inNat_iff.mp q.1.1).2,fun H' p hp=> .lst (L2.SqL.of hp) (L2.dw_ints _)⟩
#print axioms PySem.Challenge.cw_ordersheets_s01_check_holds

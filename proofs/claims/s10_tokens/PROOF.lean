import PyProof.Rows.All
import Wide.All
import OpenK.AllK
import Wide.FinOn
import PyProof.EqAt
import PyProof.EqKinds
import PyProof.TupleCall
import KE.BitLaws
import Open.SpecLaws
import KE.OsHead
import KE.OsGo
import VbemacSpec
import PySem.Str
import PySem.Challenge.RW_ordersheets_s10_tokens
import PyVbemac
set_option Elab.async false
set_option linter.all false
set_option maxRecDepth 100000
namespace L2
open PySem PySem.Spec PyProof.Rows
abbrev Key := Sum Int Str
def keyIs : Key -> Value -> Bool
 | .inl k, v => Value.isInt k v
 | .inr x, v => Value.isStrOf x v
def keyH (w : World) : Key -> Int
 | .inl k => hashInt k
 | .inr x => hashStr w x
theorem jf_ : ∀ {k : Key} {v : Value}, keyIs k v = true -> (∃ i t, k = Sum.inl i /\ v = Value.int i t) \/ (∃ x t, k = Sum.inr x /\ v = Value.str x t)
 | .inl i, v, h => by
  obtain ⟨t, e⟩ := Value.isInt_shape (k := i) (v := v) h
  exact .inl ⟨i, t, rfl, e⟩
 | .inr x, v, h => by
  obtain ⟨t, e⟩ := Value.isStrOf_shape (x := x) (v := v) h
  exact .inr ⟨x, t, rfl, e⟩
theorem keyIs_int (i : Int) (t : Tok) : keyIs (.inl i) (.int i t) = true := by simp [keyIs, Value.isInt]
theorem keyIs_str (x : Str) (t : Tok) : keyIs (.inr x) (.str x t) = true := by simp [keyIs, Value.isStrOf]
theorem key_ll (a b : Int) : decide ((Sum.inl a : Key) = Sum.inl b) = (a == b) := by
 by_cases e : a = b
 ·subst e; simp
 ·have h : ¬ (Sum.inl a : Key) = Sum.inl b := fun q => e (Sum.inl.inj q)
  rw [decide_eq_false h]
  exact (beq_eq_false_iff_ne.mpr e).symm
theorem key_rr (a b : Str) : decide ((Sum.inr a : Key) = Sum.inr b) = decide (a = b) := by
 by_cases e : a = b
 ·subst e; simp
 ·have h : ¬ (Sum.inr a : Key) = Sum.inr b := fun q => e (Sum.inr.inj q)
  rw [decide_eq_false h, decide_eq_false e]
theorem key_lr (a : Int) (b : Str) : decide ((Sum.inl a : Key) = Sum.inr b) = false := decide_eq_false (fun q => nomatch q)
theorem key_rl (a : Str) (b : Int) : decide ((Sum.inr a : Key) = Sum.inl b) = false := decide_eq_false (fun q => nomatch q)
def jn_ (prog : Program) (w : World) : PySem.KeyKind prog w Key where
 is := keyIs
 hash := keyH w
 inj := fun v a b ha hb => by
  rcases jf_ ha with ⟨i, t, rfl, rfl⟩ | ⟨x, t, rfl, rfl⟩
  ·rcases jf_ hb with ⟨j, u, rfl, e⟩ | ⟨y, u, rfl, e⟩
   ·injection e with e1 _; rw [e1]
   ·exact nomatch e
  ·rcases jf_ hb with ⟨j, u, rfl, e⟩ | ⟨y, u, rfl, e⟩
   ·exact nomatch e
   ·injection e with e1 _; rw [e1]
 byValue := fun k v h => by
  rcases jf_ h with ⟨i, t, rfl, rfl⟩ | ⟨x, t, rfl, rfl⟩ <;> rfl
 pyHash := fun hv h => by
  rcases jf_ hv with ⟨i, t, rfl, rfl⟩ | ⟨x, t, rfl, rfl⟩
  ·exact wpAny_pyHash_int h
  ·exact wpAny_pyHash_str h
 eqBool := fun hu hv h => by
  rcases jf_ hu with ⟨i, t, rfl, rfl⟩ | ⟨x, t, rfl, rfl⟩
  ·rcases jf_ hv with ⟨j, u, rfl, rfl⟩ | ⟨y, u, rfl, rfl⟩
   ·rw [key_ll] at h; exact wpAny_eqBool_int h
   ·rw [key_lr] at h; exact SeqAt.EqAt.int_str i t y u _ _ _ _ h
  ·rcases jf_ hv with ⟨j, u, rfl, rfl⟩ | ⟨y, u, rfl, rfl⟩
   ·rw [key_rl] at h; exact SeqAt.EqAt.str_int x t j u _ _ _ _ h
   ·rw [key_rr] at h; exact wpAny_eqBool_str h
 «strs» := fun k x t v h => by
  rcases jf_ h with ⟨i, u, rfl, e⟩ | ⟨y, u, rfl, e⟩
  ·exact nomatch e
  ·injection e with e1 _
   subst e1
   cases v <;> rfl
theorem mixKind_int (prog : Program) (w : World) (i : Int) (t : Tok) : (jn_ prog w).is (.inl i) (.int i t) = true := keyIs_int i t
theorem mixKind_str (prog : Program) (w : World) (x : Str) (t : Tok) : (jn_ prog w).is (.inr x) (.str x t) = true := keyIs_str x t
end L2
namespace L2
open PySem PySem.Spec PyProof.Rows
inductive V where
 | non | bl (b : Bool) | int (i : Int) | str (x : Str) | byt (b : Array UInt8) | flt (b : UInt64) | ref (a : Addr) | ty (n : String)
 deriving DecidableEq
def jq_ : V -> Value -> Prop
 | .non, u => u = Value.none
 | .bl b, u => u = Value.bool b
 | .int i, u => ∃ t, u = Value.int i t
 | .str x, u => ∃ t, u = Value.str x t
 | .byt b, u => ∃ t, u = Value.bytes b t
 | .flt b, u => ∃ t, u = Value.float b t
 | .ref a, u => u = Value.ref a
 | .ty n, u => u = Value.type n
abbrev jk_ : List V -> List Value -> Prop := Paired jq_
theorem jk_.length {xs : List V} {us : List Value} (r : jk_ xs us) : xs.length = us.length := Paired.length r
theorem jk_.get : ∀ {xs : List V} {us : List Value} {i : Nat} {x : V}, jk_ xs us -> xs[i]? = some x -> ∃ u, us[i]? = some u /\ jq_ x u
 | _, _, _, _, .nil, e => by simp at e
 | _, _, 0, _, .cons r _, e => by simp at e; subst e; exact ⟨_, rfl, r⟩
 | _, _, i + 1, x, .cons _ t, e => by
  obtain ⟨u, h1, h2⟩ := jk_.get (i := i) (x := x) t (by simpa using e)
  exact ⟨u, by simpa using h1, h2⟩
theorem jk_.append : ∀ {xs ys : List V} {us ws : List Value}, jk_ xs us -> jk_ ys ws -> jk_ (xs ++ ys) (us ++ ws)
 | _, _, _, _, .nil, s => s
 | _, _, _, _, .cons r t, s => .cons r (jk_.append t s)
theorem jk_.take : ∀ {xs : List V} {us : List Value} (n : Nat), jk_ xs us -> jk_ (xs.take n) (us.take n)
 | _, _, 0, _ => .nil
 | _, _, _ + 1, .nil => .nil
 | _, _, n + 1, .cons r t => .cons r (jk_.take n t)
theorem jk_.drop : ∀ {xs : List V} {us : List Value} (n : Nat), jk_ xs us -> jk_ (xs.drop n) (us.drop n)
 | _, _, 0, r => r
 | _, _, _ + 1, .nil => .nil
 | _, _, n + 1, .cons _ t => jk_.drop n t
def RelO : Option V -> Option Value -> Prop
 | some v, some u => jq_ v u
 | none, none => True
 | _, _ => False
def KV {κ : Type} : List (κ × V) -> List (κ × Value) -> Prop := Paired fun (p : κ × V) (q : κ × Value) => p.1 = q.1 /\ jq_ p.2 q.2
def kV : Key -> V
 | .inl i => .int i
 | .inr x => .str x
inductive HO where
  | lst (xs : List V)
  | tup (xs : List V)
  | dK (kvs : List (Key × V)) | dT (kvs : List (List Key × V))
  | set (S : Int -> Bool) (n : Nat)
  | ins (C dx : Addr) (fs : List (Str × V))
  | own (x : Addr)
  | xd (fs : List (Str × V))
  | met (f x : Addr)
  | rng (lo hi : Int)
  | frz (o : Obj) (u : HO)
  | tbl (ps : Array Value)
  | ext (φ : Heap -> Prop)
abbrev Hp := Addr -> Option HO
def upd (H : Hp) (a : Addr) (o : HO) : Hp := fun b => if b = a then some o else H b
theorem j3_ {H : Hp} {a : Addr} {o : HO} : upd H a o a = some o := by unfold upd; rw [if_pos rfl]
theorem ja_ {H : Hp} {a b : Addr} {o : HO} (h : b ≠ a) : upd H a o b = H b := by unfold upd; rw [if_neg h]
theorem j6_ {H : Hp} {a b : Addr} {o : HO} (h : H a = some o) (h' : H b = none) : a ≠ b := by
 intro e; subst e; rw [h] at h'; cases h'
section
variable (P : Program) (w : World)
def yg_ (H : Hp) (h : Heap) (a : Addr) : HO -> Prop
 | .lst xs => xs.length <= sizeLine /\ ∃ (its : List Value) (n : Nat), jk_ xs its /\ h.get? a = some { cls := .type "list", data := .seq its.toArray n }
 | .tup xs => xs.length <= sizeLine /\ ∃ its : List Value, jk_ xs its /\ IsTup h a its.toArray
 | .dK kvs => kvs.length <= sizeLine /\ (a == sysModules) = false /\ ∃ vs, KV kvs vs /\ h.DictOf (jn_ P w) a vs
 | .dT kvs => kvs.length <= sizeLine /\ (a == sysModules) = false /\ ∃ xs : List (List Key × Addr × Value),
   Paired (fun (p : List Key × V) (q : List Key × Addr × Value) => p.1 = q.1 /\ H q.2.1 = some (.tup (p.1.map kV)) /\ jq_ p.2 q.2.2) kvs xs /\
   ∃ o es ep, h.get? a = some o /\ o.ExactDict /\ o.data = .dict es ep /\ es.toList = xs.map (entryOfKey (tupleKind (jn_ P w))) /\ (xs.map (·.1)).Nodup
 | .set S n => h.SetOf (intKind P w) a S n
 | .ins C dx fs => H dx = some (.own a) /\ fs.length <= 1000 /\ dx ≠ a /\ h.get? a = some (PySem.W.instObj C dx) /\
   ∃ mA, h.Ns1 dx mA /\ (∀ f, RelO (fs.lookup f) (mA f)) /\ PySem.Within mA (fs.map (·.1))
 | .own _ => ∃ o, h.get? a = some o
 | .xd fs => ∃ mA, h.Ns1 a mA /\ ∀ f, RelO (fs.lookup f) (mA f)
 | .rng lo hi => ∃ t u v, h.get? a = some { cls := .type "range", data := .fields #[.int lo t, .int hi u, .int 1 v] }
 | .frz o u => h.get? a = some o /\ yg_ H h a u
 | .tbl ps => h.get? a = some { cls := .none, data := .fields ps }
 | .met f x => h.get? a = some (PySem.W.methodObj (.ref f) (.ref x))
 | .ext φ => φ h /\ (∃ o, h.get? a = some o) /\ ∀ h1 h2 : Heap, φ h1 -> (∀ o, h1.get? a = some o -> h2.get? a = some o) -> φ h2
def HOk (H : Hp) (h : Heap) : Prop := ∀ a o, H a = some o -> yg_ P w H h a o
end
section
variable {P : Program} {w : World} {H H' : Hp} {h h' : Heap} {a : Addr} {o : HO}
theorem yg_.lt (x : yg_ P w H h a o) : a < h.objs.size := by
 cases o with
 | lst xs => obtain ⟨_, _, _, _, e⟩ := x; exact Heap.lt_size e
 | tup xs => obtain ⟨_, _, _, p⟩ := x; exact p.lt
 | dK kvs => obtain ⟨_, _, _, _, o, _, _, e, _⟩ := x; exact Heap.lt_size e
 | dT kvs => obtain ⟨_, _, _, _, o, _, _, e, _⟩ := x; exact Heap.lt_size e
 | set S n => obtain ⟨o, _, _, _, e, _⟩ := x; exact Heap.lt_size e
 | ins C dx fs => obtain ⟨_, _, _, e, _⟩ := x; exact Heap.lt_size e
 | own y => obtain ⟨_, e⟩ := x; exact Heap.lt_size e
 | xd fs => obtain ⟨_, ⟨_, _, _, e, _⟩, _⟩ := x; exact Heap.lt_size e
 | rng lo hi => obtain ⟨_, _, _, e⟩ := x; exact Heap.lt_size e
 | frz ob u => obtain ⟨e, _⟩ := x; exact Heap.lt_size e
 | tbl ps => exact Heap.lt_size (show h.get? a = some _ from x)
 | met f y => exact Heap.lt_size (show h.get? a = some _ from x)
 | ext φ => obtain ⟨_, ⟨_, e⟩, _⟩ := x; exact Heap.lt_size e
theorem Paired.mapP {α β : Type} {F G : α -> β -> Prop} : ∀ {l₁ : List α} {l₂ : List β}, Paired F l₁ l₂ -> (∀ a b, F a b -> G a b) -> Paired G l₁ l₂
 | _, _, .nil, _ => .nil
 | _, _, .cons r t, f => .cons (f _ _ r) (Paired.mapP t f)
theorem yg_.stay (x : yg_ P w H h a o) (k : ∀ b u, (b = a \/ H b = some (.own a)) -> h.get? b = some u -> h'.get? b = some u)
  (ho : ∀ b, H b = some (.own a) -> H' b = some (.own a)) (ht : ∀ b xs, H b = some (.tup xs) -> H' b = some (.tup xs)) : yg_ P w H' h' a o := by
 induction o with
 | lst xs => obtain ⟨z, its, n, r, e⟩ := x; exact ⟨z, its, n, r, k _ _ (.inl rfl) e⟩
 | tup xs => obtain ⟨z, its, r, ob, e, c⟩ := x; exact ⟨z, its, r, ob, k _ _ (.inl rfl) e, c⟩
 | dK kvs => obtain ⟨z, y, vs, r, ob, es, ep, e, c⟩ := x; exact ⟨z, y, vs, r, ob, es, ep, k _ _ (.inl rfl) e, c⟩
 | dT kvs =>
  obtain ⟨z, y, xs, r, ob, es, ep, e, c⟩ := x
  exact ⟨z, y, xs, Paired.mapP r fun p q z => ⟨z.1, ht _ _ z.2.1, z.2.2⟩, ob, es, ep, k _ _ (.inl rfl) e, c⟩
 | set S n => obtain ⟨ob, es, ep, t, e, c⟩ := x; exact ⟨ob, es, ep, t, k _ _ (.inl rfl) e, c⟩
 | ins C dx fs =>
  obtain ⟨d, z, ne, e, mA, ⟨od, es, ep, e2, c⟩, r⟩ := x
  exact ⟨ho _ d, z, ne, k _ _ (.inl rfl) e, mA, ⟨od, es, ep, k _ _ (.inr d) e2, c⟩, r⟩
 | own y => obtain ⟨ob, e⟩ := x; exact ⟨ob, k _ _ (.inl rfl) e⟩
 | xd fs => obtain ⟨mA, ⟨od, es, ep, e, c⟩, r⟩ := x; exact ⟨mA, ⟨od, es, ep, k _ _ (.inl rfl) e, c⟩, r⟩
 | rng lo hi => obtain ⟨t, u, v, e⟩ := x; exact ⟨t, u, v, k _ _ (.inl rfl) e⟩
 | frz ob u ih => obtain ⟨e, q⟩ := x; exact ⟨k _ _ (.inl rfl) e, ih q⟩
 | tbl ps =>
  have e : h.get? a = some { cls := .none, data := .fields ps } := x
  show h'.get? a = some { cls := .none, data := .fields ps }
  exact k a _ (.inl rfl) e
 | met f y =>
  have e : h.get? a = some (PySem.W.methodObj (.ref f) (.ref y)) := x
  show h'.get? a = some (PySem.W.methodObj (.ref f) (.ref y))
  exact k a _ (.inl rfl) e
 | ext φ => obtain ⟨p, ⟨o, e⟩, st⟩ := x; exact ⟨st _ _ p fun o q => k _ _ (.inl rfl) q, ⟨o, k _ _ (.inl rfl) e⟩, st⟩
theorem HOk.lt (x : HOk P w H h) (e : H a = some o) : a < h.objs.size := (x a o e).lt
theorem HOk.fresh (x : HOk P w H h) (e : h.objs.size <= a) : H a = none := by
 cases q : H a with
 | none => rfl
 | some u => exact absurd (Nat.lt_of_lt_of_le (x.lt q) e) (Nat.lt_irrefl _)
theorem HOk.kept (x : HOk P w H h) (k : ∀ b u, h.get? b = some u -> h'.get? b = some u) : HOk P w H h' := fun a o e =>
 (x a o e).stay (fun b u _ q => k b u q) (fun _ q => q) fun _ _ q => q
theorem HOk.laid (x : HOk P w H h) (k : ∀ b u, h.get? b = some u -> h'.get? b = some u) (hp : h.objs.size <= a) (new : yg_ P w (upd H a o) h' a o) : HOk P w (upd H a o) h' := fun b u e => by
 have hn := x.fresh hp
 by_cases hb : b = a
 ·subst hb; rw [j3_] at e; cases e; exact new
 ·rw [ja_ hb] at e
  exact (x b u e).stay (fun c v _ q => k c v q) (fun c q => by rw [ja_ (j6_ q hn)]; exact q) fun c xs q => by rw [ja_ (j6_ q hn)]; exact q
end
def Rd (H : Hp) (a : Addr) (u : HO) : Prop := H a = some u \/ ∃ o, H a = some (.frz o u)
theorem Rd.ok {P : Program} {w : World} {H : Hp} {h : Heap} {a : Addr} {u : HO} (r : Rd H a u) (x : HOk P w H h) : yg_ P w H h a u := by
 rcases r with r | ⟨o, r⟩
 ·exact x a u r
 ·obtain ⟨_, q⟩ := x a _ r
  exact q
def Mut : Option HO -> Prop
 | some (.lst _) => True
 | some (.dK _) => True
 | some (.dT _) => True
 | some (.set _ _) => True
 | some (.ins _ _ _) => True
 | some (.ext _) => True
 | _ => False
section
variable {P : Program} {w : World} {H : Hp} {h h' : Heap} {x e : Addr} {o' : HO}
theorem HOk.write (ok : HOk P w H h) (mu : Mut (H x)) (he : e = x \/ H e = some (.own x)) (k : ∀ b u, b ≠ e -> h.get? b = some u -> h'.get? b = some u) (heo : ∃ u, h'.get? e = some u)
  (new : yg_ P w (upd H x o') h' x o') : HOk P w (upd H x o') h' := fun b u q => by
 have nown : ∀ c y, H c = some (.own y) -> c ≠ x := fun c y r z => by subst z; rw [r] at mu; exact mu
 have ntup : ∀ c xs, H c = some (.tup xs) -> c ≠ x := fun c xs r z => by subst z; rw [r] at mu; exact mu
 by_cases hb : b = x
 ·subst hb; rw [j3_] at q; cases q; exact new
 ·rw [ja_ hb] at q
  by_cases hbe : b = e
  ·have q' : H b = some (.own x) := by
    rcases he with z | z
    ·exact absurd (hbe.trans z) hb
    ·rw [hbe]; exact z
   rw [q] at q'; cases q'
   obtain ⟨v, hv⟩ := heo
   exact ⟨v, by rw [hbe]; exact hv⟩
  ·refine (ok b u q).stay (fun c v hc r => k c v ?_ r) (fun c r => by rw [ja_ (nown c b r)]; exact r) fun c xs r => by rw [ja_ (ntup c xs r)]; exact r
   rcases hc with rfl | hc
   ·exact hbe
   ·rintro rfl
    rcases he with z | z
    ·exact nown c b hc z
    ·rw [hc] at z; cases z; exact hb rfl
end
structure Un (fs ex : List Addr) (H H' : Hp) (h h' : Heap) : Prop where
 keep : ∀ b o, h.get? b = some o -> H b = none -> b ∉ fs -> b ∉ ex -> h'.get? b = some o
 slot : ∀ b o, h.get? b = some o -> H b = none -> b ∈ fs -> b ∉ ex -> ∃ sl, h'.get? b = some { o with slots := sl }
 free : ∀ b o, h.get? b = some o -> H b = none -> b ∉ ex -> H' b = none
 there : ∀ b o, h.get? b = some o -> b ∉ ex -> ∃ o', h'.get? b = some o'
 tups : ∀ b xs, H b = some (.tup xs) -> H' b = some (.tup xs)
 frzs : ∀ b o u, H b = some (.frz o u) -> H' b = some (.frz o u)
 tbls : ∀ b ps, H b = some (.tbl ps) -> ∃ more, H' b = some (.tbl (ps ++ more))
section
variable {fs fs' ex ex' : List Addr} {H H1 H2 : Hp} {h h1 h2 h' : Heap} {a x e : Addr} {o : HO}
theorem Un.any (u : Un fs ex H H1 h h1) {b : Addr} {ob : Obj} (q : h.get? b = some ob) (n : H b = none) (hx : b ∉ ex) : ∃ sl, h1.get? b = some { ob with slots := sl } := by
 by_cases hb : b ∈ fs
 ·exact u.slot b ob q n hb hx
 ·exact ⟨ob.slots, u.keep b ob q n hb hx⟩
theorem Un.kept (k : ∀ b u, h.get? b = some u -> h'.get? b = some u) : Un fs ex H H h h' :=
 ⟨fun b ob q _ _ _ => k b ob q, fun b ob q _ _ _ => ⟨ob.slots, k b ob q⟩, fun _ _ _ n _ => n, fun b ob q _ => ⟨ob, k b ob q⟩, fun _ _ q => q, fun _ _ _ q => q, fun _ ps q => ⟨#[], by rw [q]; simp⟩⟩
theorem Un.refl : Un fs ex H H h h := Un.kept fun _ _ q => q
theorem Un.laid (k : ∀ b u, h.get? b = some u -> h'.get? b = some u) (hp : h.objs.size <= a) (hn : H a = none) : Un fs ex H (upd H a o) h h' where
 keep := fun b u q _ _ _ => k b u q
 slot := fun b u q _ _ _ => ⟨u.slots, k b u q⟩
 free := fun b u q n _ => by rw [ja_ (Nat.ne_of_lt (Nat.lt_of_lt_of_le (Heap.lt_size q) hp))]; exact n
 there := fun b u q _ => ⟨u, k b u q⟩
 tups := fun b xs q => by rw [ja_ (j6_ q hn)]; exact q
 frzs := fun b u xs q => by rw [ja_ (j6_ q hn)]; exact q
 tbls := fun b ps q => ⟨#[], by rw [ja_ (j6_ q hn), q]; simp⟩
theorem Un.write (mu : Mut (H x)) (he : e = x \/ H e = some (.own x)) (k : ∀ b u, b ≠ e -> h.get? b = some u -> h'.get? b = some u) (heo : ∃ u, h'.get? e = some u) : Un fs ex H (upd H x o) h h' := by
 have hx : ∀ b, H b = none -> b ≠ x := fun b n z => by subst z; rw [n] at mu; exact mu
 have hb : ∀ b, H b = none -> b ≠ e := fun b n z => by
  subst z
  rcases he with r | r
  ·exact hx b n r
  ·rw [n] at r; cases r
 have hm : ∀ b u, H b = some u -> ¬ Mut (some u) -> b ≠ x := fun b u q nm z => by subst z; rw [q] at mu; exact nm mu
 refine ⟨fun b u q n _ _ => k b u (hb b n) q, fun b u q n _ _ => ⟨u.slots, k b u (hb b n) q⟩, fun b u q n _ => by rw [ja_ (hx b n)]; exact n, fun b u q _ => ?_,
  fun b xs q => by rw [ja_ (hm b _ q fun z => z)]; exact q, fun b u xs q => by rw [ja_ (hm b _ q fun z => z)]; exact q, fun b ps q => ⟨#[], by rw [ja_ (hm b _ q fun z => z), q]; simp⟩⟩
 by_cases hbe : b = e
 ·subst hbe; exact heo
 ·exact ⟨u, k b u hbe q⟩
end
def trk (h : Heap) (H : Hp) : List Addr := (List.range h.objs.size).filter fun a => (H a).isSome
def hidT (h : Heap) (H : Hp) : Heap := PySem.W.hideAll h (trk h H)
theorem hidT_size (h : Heap) (H : Hp) : (hidT h H).objs.size = h.objs.size := PySem.W.hideAll_size _ _
theorem hidT_get {h : Heap} {H : Hp} {b : Addr} {o : Obj} (e : h.get? b = some o) (n : H b = none) : (hidT h H).get? b = some o :=
 PySem.W.hideAll_get _ e fun hm => by
  have q : (H b).isSome = true := (List.mem_filter.mp hm).2
  rw [n] at q; simp at q
theorem of_hidT {h : Heap} {H : Hp} {b : Addr} {o : Obj} (e : (hidT h H).get? b = some o) : h.get? b = some o /\ H b = none := by
 have e' : h.get? b = some o := PySem.W.of_hideAll (trk h H) e
 refine ⟨e', ?_⟩
 cases q : H b with
 | none => rfl
 | some x =>
  have hm : b ∈ trk h H := List.mem_filter.mpr ⟨List.mem_range.mpr (Heap.lt_size e'), by simp [q]⟩
  have z : (hidT h H).get? b = none := PySem.W.hideAll_none (trk h H) hm
  rw [z] at e; cases e
end L2
namespace L2
open PySem PySem.Spec PyProof.Rows
structure Mod (K : PySem.W.Frag) (mg : Str -> Option Value) (base : Heap) : Prop where
 kin : K.In base
 glob : base.Ns mainGlobals mg
 blt : ∃ mb, base.Ns builtinsNs mb /\ ∀ x : Str, x ≠ "__name__" -> mb x = bootBuiltins x
 nolimit : base.NoLimit
structure Cx where
 prog : Program
 w : World
 K : PySem.W.Frag
 mg : Str -> Option Value
 base : Heap
 A : Around
 N : List Str
 s_0 : Shared
 H_0 : Hp
 env : Env
 outer : List Env
 stack : List Env
 ex : List Addr
 fn : Str -> Bool
 calm : Bool
 pn : List (Addr × Obj)
 xe : Value -> Shared -> Prop
def frs (l : List Env) : List Addr := l.filterMap (·.frame)
abbrev Cx.fs (X : Cx) : List Addr := frs X.outer
def Vis (sc : Scope) (x : Str) : Prop := sc.names.lookup x = some .local \/ sc.names.lookup x = some .cell \/ sc.names.lookup x = some .free
def Loc (sc : Scope) (x : Str) : Prop := sc.names.lookup x = some .local \/ sc.names.lookup x = some .cell
def Look (env : Env) (h : Heap) (m : Str -> Option Value) (x : Str) (u : Value) : Prop :=
 (env.kindOf x = some .local /\ m x = some u) \/ ((env.kindOf x = some .cell \/ env.kindOf x = some .free) /\ ∃ c, env.cells.lookup x = some c /\ h.IsCell c (some u))
structure Cx.Ok (X : Cx) : Prop where
 mod : Mod X.K X.mg X.base
 kind : X.env.scope.kind = .function
 glob : X.env.globals = mainGlobals
 blt : X.env.builtins = builtinsNs
 above : X.s_0.heap.objs.size <= X.env.locals
 inj : ∀ x y c, X.env.cells.lookup x = some c -> X.env.cells.lookup y = some c -> x = y
 has : ∀ x, (X.env.kindOf x = some .cell \/ X.env.kindOf x = some .free) -> ∃ c, X.env.cells.lookup x = some c
 cab : ∀ x c, X.fn x = true -> X.env.cells.lookup x = some c -> X.s_0.heap.objs.size <= c
 hd : X.calm = true -> X.A.handled = none
 frames : X.A.frames = some X.stack
 stk : X.stack = X.outer \/ (X.stack = X.env :: X.outer /\ X.env.frame = some X.env.locals)
 exf : ∀ b ∈ X.ex, b ≠ X.env.locals /\ ∀ x c, X.env.cells.lookup x = some c -> c ≠ b
 bs : ∀ b o, X.base.get? b = some o -> X.s_0.heap.get? b = some o /\ X.H_0 b = none
 bsz : X.base.objs.size <= X.s_0.heap.objs.size
 noex : ∀ b o, X.base.get? b = some o -> b ∉ X.ex
 exfs : ∀ b ∈ X.ex, b ∉ X.fs
 funs : X.s_0.heap.FunFrames X.base X.outer
 frf : ∀ b ∈ X.fs, X.H_0 b = none
structure Inv (X : Cx) (pins : List (Addr × Obj)) (σ : List (Option V)) (H : Hp) (s : Shared) : Prop where
 ok : X.Ok
 os : s.os = X.s_0.os
 bare : AllBare s.gens
 base : Un X.fs X.ex X.H_0 H X.s_0.heap s.heap
 loc : ∃ m, s.heap.Ns X.env.locals m /\ ∀ (i : Nat) (x : Str) (v : V), X.N[i]? = some x -> σ[i]? = some (some v) -> Vis X.env.scope x -> ∃ u, jq_ v u /\ Look X.env s.heap m x u
 cell : ∀ x c, X.env.cells.lookup x = some c -> ∃ v, s.heap.IsCell c v
 free : H X.env.locals = none
 freeC : ∀ x c, X.env.cells.lookup x = some c -> H c = none
 pin : ∀ p ∈ X.pn ++ pins, s.heap.get? p.1 = some p.2 /\ H p.1 = none /\ p.1 ≠ X.env.locals /\ p.1 ∉ X.fs /\ ∀ v, p.2.data ≠ .cell v
 hok : HOk X.prog X.w H s.heap
 len : σ.length = X.N.length
section
variable {X : Cx} {pins : List (Addr × Obj)} {σ : List (Option V)} {H H' : Hp} {s : Shared} {h' : Heap}
theorem Cx.Ok.nofr (ok : X.Ok) {b : Addr} {o : Obj} (e : X.base.get? b = some o) : b ∉ X.fs := fun hb => by
 have := (ok.funs.mem hb).1
 rw [e] at this; cases this
theorem Inv.bs (I : Inv X pins σ H s) : ∀ b o, X.base.get? b = some o -> s.heap.get? b = some o /\ H b = none := fun b o e =>
 ⟨I.base.keep b o (I.ok.bs b o e).1 (I.ok.bs b o e).2 (I.ok.nofr e) (I.ok.noex b o e), I.base.free b o (I.ok.bs b o e).1 (I.ok.bs b o e).2 (I.ok.noex b o e)⟩
theorem Inv.bk (I : Inv X pins σ H s) : ∀ b o, X.base.get? b = some o -> s.heap.get? b = some o := fun b o e => (I.bs b o e).1
theorem Inv.mod (I : Inv X pins σ H s) : Mod X.K X.mg X.base := I.ok.mod
theorem Inv.kIn (I : Inv X pins σ H s) : X.K.In s.heap := I.ok.mod.kin.keeps I.bk
theorem Inv.lt (I : Inv X pins σ H s) : X.env.locals < s.heap.objs.size := let ⟨_, hn, _⟩ := I.loc; hn.lt
theorem Inv.sz (I : Inv X pins σ H s) : X.s_0.heap.objs.size <= s.heap.objs.size := Nat.le_trans I.ok.above (Nat.le_of_lt I.lt)
theorem Inv.nofs (I : Inv X pins σ H s) {a : Addr} (h : s.heap.objs.size <= a) : a ∉ X.fs := fun hb => by
 obtain ⟨_, o, ho, _⟩ := I.ok.funs.mem hb
 exact absurd (Nat.lt_of_lt_of_le (Heap.lt_size ho) (Nat.le_trans I.sz h)) (Nat.lt_irrefl _)
theorem Inv.cne (I : Inv X pins σ H s) : ∀ x c, X.env.cells.lookup x = some c -> c ≠ X.env.locals := fun x c e z => by
 obtain ⟨v, o, ho, hd⟩ := I.cell x c e
 obtain ⟨m, ⟨o', es, ep, ho', hd', _⟩, _⟩ := I.loc
 rw [z, ho'] at ho; cases ho; rw [hd'] at hd; cases hd
theorem Inv.funs (I : Inv X pins σ H s) : s.heap.FunFrames X.base X.outer := by
 have all : ∀ (l : List Env), (∀ b ∈ frs l, b ∈ X.fs) -> X.s_0.heap.FunFrames X.base l -> s.heap.FunFrames X.base l := by
  intro l
  induction l with
  | nil => intro _ _; trivial
  | cons env r ih =>
   intro hs hl
   obtain ⟨hk, ⟨L, o, hf, hn, ho, hd⟩, hr⟩ := hl
   have hL : L ∈ X.fs := hs L (by unfold frs; rw [List.filterMap_cons, hf]; exact List.mem_cons_self)
   obtain ⟨sl, e⟩ := I.base.slot L o ho (I.ok.frf L hL) hL fun z => I.ok.exfs L z hL
   exact ⟨hk, ⟨L, _, hf, hn, e, hd⟩, ih (fun b hb => hs b (by unfold frs; rw [List.filterMap_cons, hf]; exact List.mem_cons_of_mem _ hb)) hr⟩
 exact all X.outer (fun _ hb => hb) I.ok.funs
theorem Inv.stack (I : Inv X pins σ H s) : s.heap.FunFrames X.base X.stack := by
 rcases I.ok.stk with e | ⟨e, hf⟩
 ·rw [e]; exact I.funs
 ·rw [e]
  obtain ⟨m, hn, _⟩ := I.loc
  refine .cons (by rw [I.ok.kind]; decide) hf hn ?_ I.funs
  exact Heap.get?_none_of_le (Nat.le_trans I.ok.bsz I.ok.above)
theorem Inv.stkSub (I : Inv X pins σ H s) : ∀ b ∈ frs X.stack, b ∈ X.env.locals :: X.fs := fun b hb => by
 rcases I.ok.stk with e | ⟨e, hf⟩
 ·rw [e] at hb; exact List.mem_cons_of_mem _ hb
 ·rw [e] at hb
  unfold frs at hb
  rw [List.filterMap_cons, hf] at hb
  exact hb
theorem Inv.stkFree (I : Inv X pins σ H s) : ∀ b ∈ frs X.stack, H b = none := fun b hb => by
 rcases List.mem_cons.mp (I.stkSub b hb) with e | hb
 ·rw [e]; exact I.free
 ·obtain ⟨_, o, ho, _⟩ := I.ok.funs.mem hb
  exact I.base.free b o ho (I.ok.frf b hb) fun z => I.ok.exfs b z hb
theorem Inv.step {g' : Array GenState} {t' : Nat} {d' : Drawn} {ch : List Addr} (I : Inv X pins σ H s)
  (hch : ∀ b ∈ ch, (b ∈ X.ex \/ X.s_0.heap.objs.size <= b) /\ b ≠ X.env.locals /\ (∀ x c, X.env.cells.lookup x = some c -> c ≠ b) /\ ∀ p ∈ X.pn ++ pins, p.1 ≠ b)
  (keep : ∀ b o, b ≠ X.env.locals -> b ∉ X.fs -> b ∉ ch -> s.heap.get? b = some o -> H b = none -> h'.get? b = some o)
  (slot : ∀ b o, b ≠ X.env.locals -> b ∈ X.fs -> b ∉ ch -> s.heap.get? b = some o -> H b = none -> ∃ sl, h'.get? b = some { o with slots := sl }) (free : ∀ b o, b ∉ ch -> s.heap.get? b = some o -> H b = none -> H' b = none)
  (there : ∀ b o, b ∉ ch -> s.heap.get? b = some o -> ∃ o', h'.get? b = some o')
  (tups : ∀ b xs, H b = some (.tup xs) -> H' b = some (.tup xs)) (frzs : ∀ b o u, H b = some (.frz o u) -> H' b = some (.frz o u)) (tbls : ∀ b ps, H b = some (.tbl ps) -> ∃ more, H' b = some (.tbl (ps ++ more)))
  (ns : ∀ m, s.heap.Ns X.env.locals m -> h'.Ns X.env.locals m) (hok : HOk X.prog X.w H' h') (hg : AllBare g') :
  Inv X pins σ H' { s with heap := h', gens := g', drawn := d', toks := t' } := by
 have neL : ∀ b o, X.s_0.heap.get? b = some o -> b ≠ X.env.locals := fun b o e => Nat.ne_of_lt (Nat.lt_of_lt_of_le (Heap.lt_size e) I.ok.above)
 have neC : ∀ b o, X.s_0.heap.get? b = some o -> b ∉ X.ex -> b ∉ ch := fun b o e hx hb => by
  rcases (hch b hb).1 with z | z
  ·exact hx z
  ·exact absurd (Nat.lt_of_lt_of_le (Heap.lt_size e) z) (Nat.lt_irrefl _)
 have cellK : ∀ x c, X.env.cells.lookup x = some c -> ∀ v, s.heap.IsCell c v -> h'.IsCell c v := fun x c e v ⟨o, ho, hd⟩ => by
  have nch : c ∉ ch := fun z => (hch c z).2.2.1 x c e rfl
  by_cases hc : c ∈ X.fs
  ·obtain ⟨sl, q⟩ := slot c o (I.cne x c e) hc nch ho (I.freeC x c e)
   exact ⟨_, q, hd⟩
  ·exact ⟨o, keep c o (I.cne x c e) hc nch ho (I.freeC x c e), hd⟩
 refine ⟨I.ok, I.os, hg, ⟨fun b o e n hb hx => ?_, fun b o e n hb hx => ?_, fun b o e n hx => ?_, fun b o e hx => ?_, fun b xs e => tups b xs (I.base.tups b xs e), fun b o xs e => frzs b o xs (I.base.frzs b o xs e), fun b ps e => ?_⟩, ?_, fun x c e => ?_, ?_, fun x c e => ?_, fun p hp => ?_, hok, I.len⟩
 ·exact keep b o (neL b o e) hb (neC b o e hx) (I.base.keep b o e n hb hx) (I.base.free b o e n hx)
 ·obtain ⟨sl, e1⟩ := I.base.slot b o e n hb hx
  obtain ⟨sl', e2⟩ := slot b _ (neL b o e) hb (neC b o e hx) e1 (I.base.free b o e n hx)
  exact ⟨sl', e2⟩
 ·obtain ⟨o', e1⟩ := I.base.there b o e hx
  exact free b o' (neC b o e hx) e1 (I.base.free b o e n hx)
 ·obtain ⟨o', e1⟩ := I.base.there b o e hx
  exact there b o' (neC b o e hx) e1
 ·obtain ⟨m1, e1⟩ := I.base.tbls b ps e
  obtain ⟨m2, e2⟩ := tbls b _ e1
  exact ⟨m1 ++ m2, by rw [e2, Array.append_assoc]⟩
 ·obtain ⟨m, hn, hl⟩ := I.loc
  refine ⟨m, ns m hn, fun i x v e1 e2 e3 => ?_⟩
  obtain ⟨u, r, l⟩ := hl i x v e1 e2 e3
  refine ⟨u, r, ?_⟩
  rcases l with l | ⟨k, c, e, z⟩
  ·exact .inl l
  ·exact .inr ⟨k, c, e, cellK x c e _ z⟩
 ·obtain ⟨v, z⟩ := I.cell x c e
  exact ⟨v, cellK x c e v z⟩
 ·obtain ⟨m, ⟨o, _, _, ho, _⟩, _⟩ := I.loc
  exact free _ o (fun z => (hch _ z).2.1 rfl) ho I.free
 ·obtain ⟨v, o, ho, hd⟩ := I.cell x c e
  exact free c o (fun z => (hch c z).2.2.1 x c e rfl) ho (I.freeC x c e)
 ·obtain ⟨e, n, ne, nf, d⟩ := I.pin p hp
  have nch : p.1 ∉ ch := fun z => (hch p.1 z).2.2.2 p hp rfl
  exact ⟨keep p.1 p.2 ne nf nch e n, free p.1 p.2 nch e n, ne, nf, d⟩
theorem Inv.un {t' : Nat} (I : Inv X pins σ H s) (u : Un X.fs [] H H' s.heap h') (hok : HOk X.prog X.w H' h') : Inv X pins σ H' { s with heap := h', toks := t' } := by
 obtain ⟨m, ⟨o, es, ep, ho, r⟩, _⟩ := id I.loc
 obtain ⟨sl, hL⟩ := u.any ho I.free (by simp)
 exact I.step (g' := s.gens) (d' := s.drawn) (ch := []) (fun _ z => nomatch z) (fun b o _ hb _ e n => u.keep b o e n hb (by simp)) (fun b o _ hb _ e n => u.slot b o e n hb (by simp)) (fun b o _ e n => u.free b o e n (by simp)) (fun b o _ e => u.there b o e (by simp)) u.tups u.frzs u.tbls (fun m' hm => by
  obtain ⟨o', es', ep', ho', r'⟩ := hm
  rw [ho] at ho'; cases ho'
  exact ⟨_, es', ep', hL, r'⟩) hok I.bare
theorem Inv.call {g' : Array GenState} {t' : Nat} {d' : Drawn} {ch : List Addr} (I : Inv X pins σ H s) (u : Un (frs X.stack) ch H H' s.heap h') (hok : HOk X.prog X.w H' h') (hg : AllBare g')
  (hch : ∀ b ∈ ch, (b ∈ X.ex \/ X.s_0.heap.objs.size <= b) /\ b ≠ X.env.locals /\ (∀ x c, X.env.cells.lookup x = some c -> c ≠ b) /\ ∀ p ∈ X.pn ++ pins, p.1 ≠ b) :
  Inv X pins σ H' { s with heap := h', gens := g', drawn := d', toks := t' } := by
 obtain ⟨m, ⟨o, es, ep, ho, r⟩, _⟩ := id I.loc
 obtain ⟨sl, hL⟩ := u.any ho I.free fun z => (hch _ z).2.1 rfl
 exact I.step (ch := ch) hch (fun b o hL hb hc e n => u.keep b o e n (fun z => (List.mem_cons.mp (I.stkSub b z)).elim hL hb) hc) (fun b o _ _ hc e n => u.any e n hc) (fun b o hc e n => u.free b o e n hc) (fun b o hc e => u.there b o e hc) u.tups u.frzs u.tbls (fun m' hm => by
  obtain ⟨o', es', ep', ho', r'⟩ := hm
  rw [ho] at ho'; cases ho'
  exact ⟨_, es', ep', hL, r'⟩) hok hg
theorem Inv.turned {t' : Nat} {it : Addr} (I : Inv X pins σ H s) (k : ∀ b o, b ≠ it -> s.heap.get? b = some o -> h'.get? b = some o) (hn : H it = none) (hL : it ≠ X.env.locals)
  (h1 : it ∈ X.ex \/ X.s_0.heap.objs.size <= it) (h2 : ∀ x c, X.env.cells.lookup x = some c -> c ≠ it) (h3 : ∀ p ∈ X.pn ++ pins, p.1 ≠ it) : Inv X pins σ H { s with heap := h', toks := t' } := by
 have nit : ∀ b u, H b = some u -> b ≠ it := fun b u e z => by rw [z, hn] at e; cases e
 refine I.step (g' := s.gens) (d' := s.drawn) (ch := [it]) (fun b hb => ?_) (fun b o _ _ hc e _ => k b o (fun z => hc (by simp [z])) e) (fun b o _ _ hc e _ => ⟨o.slots, k b o (fun z => hc (by simp [z])) e⟩) (fun _ _ _ _ n => n)
  (fun b o hc e => ⟨o, k b o (fun z => hc (by simp [z])) e⟩) (fun _ _ e => e) (fun _ _ _ e => e) (fun b ps e => ⟨#[], by rw [e]; simp⟩) (fun m hm => ?_) (fun b u e => ?_) I.bare
 ·have e : b = it := by simpa using hb
  subst e
  exact ⟨h1, hL, h2, h3⟩
 ·obtain ⟨o, es, ep, ho, r⟩ := hm
  exact ⟨o, es, ep, k _ o (Ne.symm hL) ho, r⟩
 ·refine (I.hok b u e).stay (fun c v hc q => k c v ?_ q) (fun _ q => q) fun _ _ q => q
  rcases hc with z | z
  ·rw [z]; exact nit b u e
  ·exact nit c _ z
theorem Inv.tok (I : Inv X pins σ H s) (t : Nat) : Inv X pins σ H { s with toks := t } := I.un (h' := s.heap) (t' := t) Un.refl I.hok
theorem Inv.kept {t' : Nat} (I : Inv X pins σ H s) (k : ∀ b u, s.heap.get? b = some u -> h'.get? b = some u) : Inv X pins σ H { s with heap := h', toks := t' } := I.un (Un.kept k) (I.hok.kept k)
theorem Inv.laid {a : Addr} {o : HO} {t' : Nat} (I : Inv X pins σ H s) (k : ∀ b u, s.heap.get? b = some u -> h'.get? b = some u) (hp : s.heap.objs.size <= a) (new : yg_ X.prog X.w (upd H a o) h' a o) :
  Inv X pins σ (upd H a o) { s with heap := h', toks := t' } := I.un (Un.laid k hp (I.hok.fresh hp)) (I.hok.laid k hp new)
theorem Inv.write {x e : Addr} {o : HO} {t' : Nat} (I : Inv X pins σ H s) (mu : Mut (H x)) (he : e = x \/ H e = some (.own x)) (k : ∀ b u, b ≠ e -> s.heap.get? b = some u -> h'.get? b = some u) (heo : ∃ u, h'.get? e = some u)
  (new : yg_ X.prog X.w (upd H x o) h' x o) : Inv X pins σ (upd H x o) { s with heap := h', toks := t' } := I.un (Un.write mu he k heo) (I.hok.write mu he k heo new)
theorem Inv.weak {σ' : List (Option V)} (I : Inv X pins σ H s) (hl : σ'.length = σ.length) (w : ∀ (i : Nat) v, σ'[i]? = some (some v) -> σ[i]? = some (some v)) : Inv X pins σ' H s :=
 ⟨I.ok, I.os, I.bare, I.base, let ⟨m, hn, hl'⟩ := I.loc; ⟨m, hn, fun i x v e1 e2 e3 => hl' i x v e1 (w i v e2) e3⟩, I.cell, I.free, I.freeC, I.pin, I.hok, hl.trans I.len⟩
theorem Inv.pins_of {pins' : List (Addr × Obj)} (I : Inv X pins σ H s) (h : ∀ p ∈ pins', s.heap.get? p.1 = some p.2 /\ H p.1 = none /\ p.1 ≠ X.env.locals /\ p.1 ∉ X.fs /\ ∀ v, p.2.data ≠ .cell v) : Inv X pins' σ H s :=
 ⟨I.ok, I.os, I.bare, I.base, I.loc, I.cell, I.free, I.freeC, fun p hp => (List.mem_append.mp hp).elim (fun z => I.pin p (List.mem_append_left _ z)) (h p), I.hok, I.len⟩
theorem nodup_ix {N : List Str} (hN : N.Nodup) {i j : Nat} {x : Str} (a : N[i]? = some x) (b : N[j]? = some x) : i = j := by
 obtain ⟨h1, e1⟩ := List.getElem?_eq_some_iff.mp a
 obtain ⟨h2, e2⟩ := List.getElem?_eq_some_iff.mp b
 exact (List.getElem_inj hN).mp (e1.trans e2.symm)
theorem store_ok2 {M : Model} {A : Around} {E : Value -> Shared -> Prop} {i : Nat} {x : Str} {v : V} {u : Value} {Q : Unit -> Shared -> Prop} (I : Inv X pins σ H s) (hN : X.N.Nodup) (hi : X.N[i]? = some x) (hx : Loc X.env.scope x) (r : jq_ v u)
  (h : ∀ s', Inv X pins (σ.set i (some v)) H s' -> (∃ a, Heap.SameBut a s.heap s'.heap /\ (a = X.env.locals \/ X.env.cells.lookup x = some a)) -> Q () s') (hf : X.fn x = true \/ X.env.scope.names.lookup x = some .local := by first | exact .inl rfl | exact .inr rfl | assumption) : wpAny M A (storeName X.env x u) Q E s := by
 obtain ⟨m, hn, hl⟩ := id I.loc
 have hcls : (X.env.scope.kind == .class || (X.env.scope.kind == .module && X.env.locals != X.env.globals)) = false := by rw [I.ok.kind]; rfl
 have hiσ : i < σ.length := by rw [I.len]; exact (List.getElem?_eq_some_iff.mp hi).1
 have cne := I.cne
 have tracked : ∀ {a : Addr} {h' : Heap}, (∃ o, s.heap.get? a = some o /\ H a = none) -> Heap.SameBut a s.heap h' -> HOk X.prog X.w H h' := fun {a h'} ha hs b ob e => by
  obtain ⟨_, _, hfree⟩ := ha
  refine (I.hok b ob e).stay (fun c w' hc q => (hs.2 c ?_).trans q) (fun _ q => q) fun _ _ q => q
  rintro rfl
  rcases hc with rfl | hc
  ·rw [hfree] at e; cases e
  ·rw [hfree] at hc; cases hc
 rcases hx with hk | hk
 ·refine wpAny_storeName_local hk hn (fun h' hn' hs => ?_) hcls
  obtain ⟨oL, _, _, hoL, _⟩ := id hn
  refine h _ ⟨I.ok, I.os, I.bare, ⟨fun b o e n hb hx => ?_, fun b o e n hb hx => ?_, I.base.free, fun b o e hx => ?_, I.base.tups, I.base.frzs, I.base.tbls⟩, ⟨_, hn', fun j y v' e1 e2 e3 => ?_⟩, fun y c e => ?_, I.free, I.freeC, fun p hp => ?_, tracked ⟨oL, hoL, I.free⟩ hs, by simpa using I.len⟩ ⟨_, hs, .inl rfl⟩
  ·exact (hs.2 b (Nat.ne_of_lt (Nat.lt_of_lt_of_le (Heap.lt_size e) I.ok.above))).trans (I.base.keep b o e n hb hx)
  ·obtain ⟨sl, e1⟩ := I.base.slot b o e n hb hx
   exact ⟨sl, (hs.2 b (Nat.ne_of_lt (Nat.lt_of_lt_of_le (Heap.lt_size e) I.ok.above))).trans e1⟩
  ·obtain ⟨o', e1⟩ := I.base.there b o e hx
   exact ⟨o', (hs.2 b (Nat.ne_of_lt (Nat.lt_of_lt_of_le (Heap.lt_size e) I.ok.above))).trans e1⟩
  ·by_cases hj : j = i
   ·subst hj
    rw [hi] at e1; cases e1
    rw [List.getElem?_set_self hiσ] at e2
    cases e2
    exact ⟨u, r, .inl ⟨hk, by simp⟩⟩
   ·rw [List.getElem?_set_ne (Ne.symm hj)] at e2
    obtain ⟨u', r', q⟩ := hl j y v' e1 e2 e3
    refine ⟨u', r', ?_⟩
    rcases q with ⟨k, e⟩ | ⟨k, c, e, z⟩
    ·refine .inl ⟨k, ?_⟩
     have : y ≠ x := fun e => hj (nodup_ix hN e1 (e ▸ hi))
     simp [this, e]
    ·exact .inr ⟨k, c, e, z.sameBut hs (cne y c e)⟩
  ·obtain ⟨w', z⟩ := I.cell y c e
   exact ⟨w', z.sameBut hs (cne y c e)⟩
  ·obtain ⟨e, n, ne, nf, d⟩ := I.pin p hp
   exact ⟨(hs.2 p.1 ne).trans e, n, ne, nf, d⟩
 ·have hfn : X.fn x = true := by
   rcases hf with z | z
   ·exact z
   ·rw [z] at hk; cases hk
  obtain ⟨c, hc⟩ := I.ok.has x (.inl hk)
  obtain ⟨w', z⟩ := I.cell x c hc
  refine wpAny_storeName_cell I.ok.kind hk hc z (fun h' hc' hs => ?_)
  obtain ⟨oc, hoc, hocd⟩ := id z
  refine h { s with heap := h' } ⟨I.ok, I.os, I.bare, ⟨fun b o e n hb hx => ?_, fun b o e n hb hx => ?_, I.base.free, fun b o e hx => ?_, I.base.tups, I.base.frzs, I.base.tbls⟩, ⟨m, hn.sameBut hs (Ne.symm (cne x c hc)), fun j y v' e1 e2 e3 => ?_⟩, fun y c' e => ?_, I.free, I.freeC, fun p hp => ?_, tracked ⟨oc, hoc, I.freeC x c hc⟩ hs, by simpa using I.len⟩ ⟨c, hs, .inr hc⟩
  ·exact (hs.2 b (Nat.ne_of_lt (Nat.lt_of_lt_of_le (Heap.lt_size e) (I.ok.cab x c hfn hc)))).trans (I.base.keep b o e n hb hx)
  ·obtain ⟨sl, e1⟩ := I.base.slot b o e n hb hx
   exact ⟨sl, (hs.2 b (Nat.ne_of_lt (Nat.lt_of_lt_of_le (Heap.lt_size e) (I.ok.cab x c hfn hc)))).trans e1⟩
  ·obtain ⟨o', e1⟩ := I.base.there b o e hx
   exact ⟨o', (hs.2 b (Nat.ne_of_lt (Nat.lt_of_lt_of_le (Heap.lt_size e) (I.ok.cab x c hfn hc)))).trans e1⟩
  ·by_cases hj : j = i
   ·subst hj
    rw [hi] at e1; cases e1
    rw [List.getElem?_set_self hiσ] at e2
    cases e2
    exact ⟨u, r, .inr ⟨.inl hk, c, hc, hc'⟩⟩
   ·rw [List.getElem?_set_ne (Ne.symm hj)] at e2
    obtain ⟨u', r', q⟩ := hl j y v' e1 e2 e3
    refine ⟨u', r', ?_⟩
    rcases q with q | ⟨k, c', e, z'⟩
    ·exact .inl q
    ·refine .inr ⟨k, c', e, z'.sameBut hs ?_⟩
     rintro rfl
     exact hj (nodup_ix hN e1 (I.ok.inj _ _ _ e hc ▸ hi))
  ·by_cases hcc : c' = c
   ·subst hcc; exact ⟨_, hc'⟩
   ·obtain ⟨w2, z2⟩ := I.cell y c' e
    exact ⟨w2, z2.sameBut hs hcc⟩
  ·obtain ⟨e, n, ne, nf, d⟩ := I.pin p hp
   refine ⟨(hs.2 p.1 ?_).trans e, n, ne, nf, d⟩
   intro q
   rw [q, hoc] at e
   have q' : oc = p.2 := Option.some.inj e
   exact d w' (by rw [<- q']; exact hocd)
theorem store_ok {M : Model} {A : Around} {E : Value -> Shared -> Prop} {i : Nat} {x : Str} {v : V} {u : Value} {Q : Unit -> Shared -> Prop} (I : Inv X pins σ H s) (hN : X.N.Nodup) (hi : X.N[i]? = some x) (hx : Loc X.env.scope x) (r : jq_ v u)
  (h : ∀ s', Inv X pins (σ.set i (some v)) H s' -> Q () s') (hf : X.fn x = true \/ X.env.scope.names.lookup x = some .local := by first | exact .inl rfl | exact .inr rfl | assumption) : wpAny M A (storeName X.env x u) Q E s :=
 store_ok2 I hN hi hx r (fun s' I' _ => h s' I') hf
theorem Inv.call' {s' : Shared} {ch : List Addr} (I : Inv X pins σ H s) (ho : s'.os = s.os) (u : Un (frs X.stack) ch H H' s.heap s'.heap) (hok : HOk X.prog X.w H' s'.heap) (hg : AllBare s'.gens)
  (hch : ∀ b ∈ ch, (b ∈ X.ex \/ X.s_0.heap.objs.size <= b) /\ b ≠ X.env.locals /\ (∀ x c, X.env.cells.lookup x = some c -> c ≠ b) /\ ∀ p ∈ X.pn ++ pins, p.1 ≠ b) : Inv X pins σ H' s' := by
 obtain ⟨h', g', d', t', o'⟩ := s'
 have e : o' = s.os := ho
 subst e
 exact I.call (g' := g') (t' := t') (d' := d') u hok hg hch
end
abbrev XK := Value -> Option Addr -> Hp -> Prop
abbrev St := List (Option V)
abbrev VK := V -> Hp -> Prop
abbrev TE := St -> Hp -> VK -> Prop
abbrev TT := St -> Hp -> (Bool -> Hp -> Prop) -> Prop
abbrev TA := St -> Hp -> (List V -> Hp -> Prop) -> Prop
structure Ends where
 nx : St -> Hp -> Prop
 rt : VK
 bk : St -> Hp -> Prop := fun _ _ => False
 ct : St -> Hp -> Prop := fun _ _ => False
abbrev TS := Ends -> St -> Hp -> Prop
def EP (X : Cx) (pins : List (Addr × Obj)) (σ : St) (Q : VK) (u : Value) (s' : Shared) : Prop := ∃ v H', Inv X pins σ H' s' /\ jq_ v u /\ Q v H'
def TP (X : Cx) (pins : List (Addr × Obj)) (σ : St) (Q : Bool -> Hp -> Prop) (b : Bool) (s' : Shared) : Prop := ∃ H', Inv X pins σ H' s' /\ Q b H'
def AP (X : Cx) (pins : List (Addr × Obj)) (σ : St) (Q : List V -> Hp -> Prop) (us : List Value) (s' : Shared) : Prop := ∃ vs H', Inv X pins σ H' s' /\ jk_ vs us /\ Q vs H'
def SP (X : Cx) (pins : List (Addr × Obj)) (D : Ends) (f : Flow) (s' : Shared) : Prop :=
 match f with
 | .next => ∃ σ' H', Inv X pins σ' H' s' /\ D.nx σ' H'
 | .brk => ∃ σ' H', Inv X pins σ' H' s' /\ D.bk σ' H'
 | .cont => ∃ σ' H', Inv X pins σ' H' s' /\ D.ct σ' H'
 | .ret u => ∃ v σ' H', Inv X pins σ' H' s' /\ jq_ v u /\ D.rt v H'
def PE (X : Cx) (e : Expr) (t : TE) : Prop :=
 ∀ (pins : List (Addr × Obj)) (s : Shared) (σ : St) (H : Hp) (Q : VK), Inv X pins σ H s -> t σ H Q -> wpAny (model X.prog X.w) X.A (eval e X.env) (EP X pins σ Q) X.xe s
def PT (X : Cx) (e : Expr) (t : TT) : Prop :=
 ∀ (pins : List (Addr × Obj)) (s : Shared) (σ : St) (H : Hp) (Q : Bool -> Hp -> Prop), Inv X pins σ H s -> t σ H Q -> wpAny (model X.prog X.w) X.A (isTrue e X.env (eval e X.env)) (TP X pins σ Q) X.xe s
def PW (X : Cx) (e : Expr) (t : TT) : Prop :=
 ∀ (whole : Sem Value) (pins : List (Addr × Obj)) (s : Shared) (σ : St) (H : Hp) (Q : Bool -> Hp -> Prop), Inv X pins σ H s -> t σ H Q -> wpAny (model X.prog X.w) X.A (isTrue e X.env whole) (TP X pins σ Q) X.xe s
theorem PW.pt {X : Cx} {e : Expr} {t : TT} (h : PW X e t) : PT X e t := h _
def PA (X : Cx) (es : List Expr) (t : TA) : Prop :=
 ∀ (pos : Pos) (pins : List (Addr × Obj)) (s : Shared) (σ : St) (H : Hp) (Q : List V -> Hp -> Prop), Inv X pins σ H s -> t σ H Q -> wpAny (model X.prog X.w) X.A (spliced (backTo pos (starEach es X.env))) (AP X pins σ Q) X.xe s
def PS (X : Cx) (st : Stmt) (t : TS) : Prop :=
 ∀ (pins : List (Addr × Obj)) (s : Shared) (σ : St) (H : Hp) (D : Ends), Inv X pins σ H s -> t D σ H -> wpAny (model X.prog X.w) X.A (exec st X.env) (SP X pins D) X.xe s
def PSs (X : Cx) (st : List Stmt) (t : TS) : Prop :=
 ∀ (pins : List (Addr × Obj)) (s : Shared) (σ : St) (H : Hp) (D : Ends), Inv X pins σ H s -> t D σ H -> wpAny (model X.prog X.w) X.A (execs st X.env) (SP X pins D) X.xe s
theorem thn {α : Type} {t : Sem α} {Q Q' : α -> Shared -> Prop} {M : Model} {A : Around} {E : Value -> Shared -> Prop} {s : Shared} (h : wpAny M A t Q E s) (hQ : ∀ a s, Q a s -> Q' a s) : wpAny M A t Q' E s := wpAny_mono h hQ fun _ _ x => x
end L2
namespace L2
open PySem PySem.Spec PyProof.Rows
section
variable {X : Cx}
theorem bin {a b : Expr} {ta tb : TE} (ha : PE X a ta) (hb : PE X b tb) {pins : List (Addr × Obj)} {s : Shared} {σ : St} {H : Hp} {R : V -> V -> Hp -> Prop} (I : Inv X pins σ H s) (h : ta σ H fun x H1 => tb σ H1 fun y H2 => R x y H2)
  {α : Type} {Q : α -> Shared -> Prop} {f : Value -> Value -> Sem α}
  (hf : ∀ v u s2 x y H2, Inv X pins σ H2 s2 -> jq_ x v -> jq_ y u -> R x y H2 -> wpAny (model X.prog X.w) X.A (f v u) Q X.xe s2) :
  wpAny (model X.prog X.w) X.A (eval a X.env) (fun v s₁ => wpAny (model X.prog X.w) X.A (eval b X.env) (fun u s₂ => wpAny (model X.prog X.w) X.A (f v u) Q X.xe s₂) X.xe s₁) X.xe s := by
 refine thn (ha pins s σ H _ I h) fun v s1 ⟨x, H1, I1, r1, q1⟩ => ?_
 refine thn (hb pins s1 σ H1 _ I1 q1) fun u s2 ⟨y, H2, I2, r2, q2⟩ => ?_
 exact hf v u s2 x y H2 I2 r1 r2 q2
def tVar (i : Nat) : TE := fun σ H Q => ∃ v, σ[i]? = some (some v) /\ Q v H
def tC (v : V) : TE := fun _ H Q => Q v H
theorem pe_var {i : Nat} {x : Str} {pos : Pos} (hN : X.N[i]? = some x) (hv : Vis X.env.scope x) (hd : (x == ("__debug__" : Str)) = false := by decide) (hcd : (x == ("__classdict__" : Str)) = false := by decide) : PE X (.Name x pos) (tVar i) := by
 intro pins s σ H Q I h
 obtain ⟨v, e, h⟩ := h
 obtain ⟨m, hn, hl⟩ := I.loc
 obtain ⟨u, r, l⟩ := hl i x v hN e hv
 have fin : EP X pins σ Q u s := ⟨v, H, I, r, h⟩
 rcases l with ⟨hk, hm⟩ | ⟨hk, c, hc, hcell⟩
 ·exact wpAny_Name (wpAny_loadName_local I.ok.kind hk hn hm fin) hd
 ·rcases hk with hk | hk
  ·exact wpAny_Name (wpAny_loadName_cell I.ok.kind hk hc hcell fin) hd
  ·exact wpAny_Name (wpAny_loadName_free I.ok.kind hk hc hcell fin hcd) hd
theorem jd_ {i j pos} : PE X (.Constant (.int i) j pos) (tC (.int i)) := fun _ _ _ H _ I h => wpAny_Constant_int ⟨.int i, H, I.tok _, ⟨_, rfl⟩, h⟩
theorem pe_str {x j pos} : PE X (.Constant (.str x) j pos) (tC (.str x)) := fun _ _ _ H _ I h => Calls.Constant_str ⟨.str x, H, I.tok _, ⟨_, rfl⟩, h⟩
def Gl (X : Cx) (x : Str) : Prop := X.env.kindOf x = some .globalImplicit
theorem ld_glob {E : Value -> Shared -> Prop} {pins : List (Addr × Obj)} {s : Shared} {σ : St} {H : Hp} {x : Str} {u : Value} {pos : Pos} {Q : Value -> Shared -> Prop} (I : Inv X pins σ H s) (hg : Gl X x) (hm : X.mg x = some u) (h : Q u s)
  (hd : (x == ("__debug__" : Str)) = false := by decide) : wpAny (model X.prog X.w) X.A (eval (.Name x pos) X.env) Q E s :=
 Calls.Name_function_global I.ok.kind hg (Calls.loadGlobal_global (by rw [I.ok.glob]; exact I.mod.glob.keeps I.bk) hm h) hd
theorem ld_blt {E : Value -> Shared -> Prop} {pins : List (Addr × Obj)} {s : Shared} {σ : St} {H : Hp} {x : Str} {u : Value} {pos : Pos} {Q : Value -> Shared -> Prop} (I : Inv X pins σ H s) (hg : Gl X x) (hm : X.mg x = none) (hv : bootBuiltins x = some u) (h : Q u s)
  (hn : x ≠ "__name__" := by decide) (hd : (x == ("__debug__" : Str)) = false := by decide) : wpAny (model X.prog X.w) X.A (eval (.Name x pos) X.env) Q E s := by
 obtain ⟨mb, h1, h2⟩ := I.mod.blt
 exact Calls.Name_function_global I.ok.kind hg (Calls.loadGlobal_builtin (by rw [I.ok.glob]; exact I.mod.glob.keeps I.bk) hm (by rw [I.ok.blt]; exact h1.keeps I.bk) ((h2 x hn).trans hv) h) hd
theorem pe_glob {x : Str} {v : V} {u : Value} {pos : Pos} (hg : Gl X x) (hm : X.mg x = some u) (r : jq_ v u) (hd : (x == ("__debug__" : Str)) = false := by decide) : PE X (.Name x pos) (tC v) :=
 fun _ _ _ H _ I h => ld_glob I hg hm ⟨v, H, I, r, h⟩ hd
variable {a b : Expr} {ta tb : TE} {pos : Pos}
def PC (X : Cx) (op : CmpOp) (a b : Expr) (t : TE) : Prop :=
 ∀ (pins : List (Addr × Obj)) (s : Shared) (σ : St) (H : Hp) (Q : VK), Inv X pins σ H s -> t σ H Q ->
  wpAny (model X.prog X.w) X.A (eval a X.env) (fun v s₁ => wpAny (model X.prog X.w) X.A (eval b X.env) (fun u s₂ => wpAny (model X.prog X.w) X.A (compareOp op v u) (EP X pins σ Q) X.xe s₂) X.xe s₁) X.xe s
def tB (t : TE) : TT := fun σ H Q => t σ H fun x H1 => ∃ c, x = .bl c /\ Q c H1
theorem pt_cmp {op : CmpOp} {t : TE} (h : PC X op a b t) (h1 : behindInMarks op b = false := by first | exact nobehind _ (by decide) (by decide) | rfl) : PT X (.Compare a [op] [b] pos) (tB t) := by
 intro pins s σ H Q I hw
 refine wpAny_isTrue_Compare1 (thn (h pins s σ H _ I hw) fun v s1 h1 => thn h1 fun u s2 h2 => thn h2 fun c s3 ⟨x, H1, I1, r1, q1⟩ => ?_) h1
 obtain ⟨d, rfl, q⟩ := q1
 cases r1
 exact wpAny_truthy_bool ⟨H1, I1, q⟩
theorem yw_ {e : Expr} {t : TE} (h : PE X e t) (he : ∀ whole, isTrue e X.env whole = (do let v <- whole; standAt e.pos; holding [v] (truthy v)) := by intro _; rfl) : PT X e (tB t) := by
 intro pins s σ H Q I hw
 refine isTrue_plain (thn (h pins s σ H _ I hw) fun v s1 ⟨x, H1, I1, r1, q1⟩ => ?_) (he _)
 obtain ⟨d, rfl, q⟩ := q1
 cases r1
 exact wpAny_truthy_bool ⟨H1, I1, q⟩
variable {tA tB' : TT} {rest : List Expr}
def tAnd (t u : TT) : TT := fun σ H Q => t σ H fun c H1 => if c = true then u σ H1 Q else Q false H1
def tOr (t u : TT) : TT := fun σ H Q => t σ H fun c H1 => if c = true then Q true H1 else u σ H1 Q
def tNot (t : TT) : TT := fun σ H Q => t σ H fun c H1 => Q (!c) H1
theorem pw_and1 (ha : PT X a tA) : PW X (.BoolOp .And [a] pos) tA := by
 intro wh pins s σ H Q I h
 refine isTrue_and (thn (ha pins s σ H Q I h) fun c s1 e => ?_)
 cases c with
 | true => exact isTrue_and_nil e
 | false => exact e
theorem pw_or1 (ha : PT X a tA) : PW X (.BoolOp .Or [a] pos) tA := by
 intro wh pins s σ H Q I h
 refine isTrue_or (thn (ha pins s σ H Q I h) fun c s1 e => ?_)
 cases c with
 | false => exact isTrue_or_nil e
 | true => exact e
theorem pw_and (ha : PT X a tA) (hb : PW X (.BoolOp .And (b :: rest) pos) tB') : PW X (.BoolOp .And (a :: b :: rest) pos) (tAnd tA tB') := by
 intro wh pins s σ H Q I h
 refine isTrue_and (thn (ha pins s σ H _ I h) fun c s1 ⟨H1, I1, q1⟩ => ?_)
 cases c with
 | true => exact hb wh pins s1 σ H1 Q I1 q1
 | false => exact ⟨H1, I1, q1⟩
theorem pw_or (ha : PT X a tA) (hb : PW X (.BoolOp .Or (b :: rest) pos) tB') : PW X (.BoolOp .Or (a :: b :: rest) pos) (tOr tA tB') := by
 intro wh pins s σ H Q I h
 refine isTrue_or (thn (ha pins s σ H _ I h) fun c s1 ⟨H1, I1, q1⟩ => ?_)
 cases c with
 | true => exact ⟨H1, I1, q1⟩
 | false => exact hb wh pins s1 σ H1 Q I1 q1
theorem pt_not (ha : PT X a tA) : PT X (.UnaryOp .Not a pos) (tNot tA) := by
 intro pins s σ H Q I h
 exact isTrue_not (ha pins s σ H (fun c H1 => Q (!c) H1) I h)
def tAndV (ta tb : TE) : TE := fun σ H Q => ta σ H fun x H1 => ∃ c, x = .bl c /\ if c = true then tb σ H1 Q else Q (.bl false) H1
def tOrV (ta tb : TE) : TE := fun σ H Q => ta σ H fun x H1 => ∃ c, x = .bl c /\ if c = true then Q (.bl true) H1 else tb σ H1 Q
theorem pe_one {op} {t : TE} (h : PE X a t) : PE X (.BoolOp op [a] pos) t := fun pins s σ H Q I hw => BoolOp_one (h pins s σ H Q I hw)
theorem pe_and (ha : PE X a ta) (hb : PE X (.BoolOp .And (b :: rest) pos) tb) : PE X (.BoolOp .And (a :: b :: rest) pos) (tAndV ta tb) := by
 intro pins s σ H Q I h
 refine BoolOp_and (thn (ha pins s σ H _ I h) fun v s1 ⟨x, H1, I1, r1, q1⟩ => ?_)
 obtain ⟨c, rfl, q1⟩ := q1
 cases r1
 refine wpAny_truthy_bool ?_
 cases c with
 | true => exact hb pins s1 σ H1 Q I1 q1
 | false => exact ⟨.bl false, H1, I1, rfl, q1⟩
theorem pe_or (ha : PE X a ta) (hb : PE X (.BoolOp .Or (b :: rest) pos) tb) : PE X (.BoolOp .Or (a :: b :: rest) pos) (tOrV ta tb) := by
 intro pins s σ H Q I h
 refine BoolOp_or (thn (ha pins s σ H _ I h) fun v s1 ⟨x, H1, I1, r1, q1⟩ => ?_)
 obtain ⟨c, rfl, q1⟩ := q1
 cases r1
 refine wpAny_truthy_bool ?_
 cases c with
 | false => exact hb pins s1 σ H1 Q I1 q1
 | true => exact ⟨.bl true, H1, I1, rfl, q1⟩
def tIf (t : TT) (ta tb : TE) : TE := fun σ H Q => t σ H fun c H1 => if c = true then ta σ H1 Q else tb σ H1 Q
theorem pe_ifExp {c : Expr} (hc : PT X c tA) (ha : PE X a ta) (hb : PE X b tb) : PE X (.IfExp c a b pos) (tIf tA ta tb) := by
 intro pins s σ H Q I h
 refine wpAny_IfExp (thn (hc pins s σ H _ I h) fun d s1 ⟨H1, I1, q1⟩ => ?_)
 cases d with
 | true => exact ha pins s1 σ H1 Q I1 q1
 | false => exact hb pins s1 σ H1 Q I1 q1
end
end L2
namespace L2
open PySem PySem.Spec PyProof.Rows
def SqL (K : PySem.W.Frag) (H : Hp) (a : Addr) (xs : List V) : Prop :=
 Rd H a (.lst xs) \/
  ∃ (o : Obj) (its : Array Value) (n : Nat), K.lookup a = some o /\ o.cls = .type "list" /\ o.dict = none /\ o.data = .seq its n /\ its.size <= sizeLine /\ jk_ xs its.toList
def SqT (K : PySem.W.Frag) (H : Hp) (a : Addr) (xs : List V) : Prop :=
 Rd H a (.tup xs) \/
  ∃ (o : Obj) (its : Array Value) (n : Nat), K.lookup a = some o /\ o.cls = .type "tuple" /\ o.data = .seq its n /\ its.size <= sizeLine /\ jk_ xs its.toList
def absV : Value -> Option V
 | .none => some .non
 | .bool b => some (.bl b)
 | .int i _ => some (.int i)
 | .str x _ => some (.str x)
 | .bytes b _ => some (.byt b)
 | .float b _ => some (.flt b)
 | .ref a => some (.ref a)
 | .type n => some (.ty n)
 | _ => none
theorem jq_.abs {x : V} {u : Value} (r : jq_ x u) : absV u = some x := by
 cases x with
 | non => cases r; rfl
 | bl _ => cases r; rfl
 | int _ => obtain ⟨t, rfl⟩ := r; rfl
 | str _ => obtain ⟨t, rfl⟩ := r; rfl
 | byt _ => obtain ⟨t, rfl⟩ := r; rfl
 | flt _ => obtain ⟨t, rfl⟩ := r; rfl
 | ref _ => cases r; rfl
 | ty _ => cases r; rfl
theorem jq_.inj {x y : V} {u : Value} (r : jq_ x u) (q : jq_ y u) : x = y := Option.some.inj (r.abs.symm.trans q.abs)
theorem jk_.inj : ∀ {xs ys : List V} {us : List Value}, jk_ xs us -> jk_ ys us -> xs = ys
 | _, _, _, .nil, .nil => rfl
 | _, _, _, .cons r t, .cons r' t' => by rw [r.inj r', jk_.inj t t']
section
variable {X : Cx} {pins : List (Addr × Obj)} {σ : St} {H : Hp} {s : Shared} {a : Addr} {xs ys : List V}
theorem SqL.of {K : PySem.W.Frag} (h : H a = some (.lst xs)) : SqL K H a xs := .inl (.inl h)
theorem SqT.of {K : PySem.W.Frag} (h : H a = some (.tup xs)) : SqT K H a xs := .inl (.inl h)
theorem Inv.list (I : Inv X pins σ H s) (h : SqL X.K H a xs) : ∃ its : List Value, jk_ xs its /\ PlainL s.heap a its.toArray /\ xs.length <= sizeLine := by
 rcases h with h | ⟨o, its, n, hk, hc, hd, hs, hz, r⟩
 ·obtain ⟨z, its, n, r, e⟩ := h.ok I.hok
  exact ⟨its, r, ⟨_, n, e, rfl, rfl, rfl⟩, z⟩
 ·refine ⟨its.toList, r, ⟨o, n, I.kIn a o hk, hc, hd, by simpa using hs⟩, ?_⟩
  have e := r.length
  simp only [Array.length_toList] at e
  omega
theorem Inv.tuple (I : Inv X pins σ H s) (h : SqT X.K H a xs) : ∃ its : List Value, jk_ xs its /\ IsTup s.heap a its.toArray /\ xs.length <= sizeLine := by
 rcases h with h | ⟨o, its, n, hk, hc, hs, hz, r⟩
 ·obtain ⟨z, its, r, p⟩ := h.ok I.hok
  exact ⟨its, r, p, z⟩
 ·refine ⟨its.toList, r, ⟨o, I.kIn a o hk, hc, n, by simpa using hs⟩, ?_⟩
  have e := r.length
  simp only [Array.length_toList] at e
  omega
theorem Inv.list_inj (I : Inv X pins σ H s) (h : SqL X.K H a xs) (h' : SqL X.K H a ys) : xs = ys := by
 obtain ⟨its, r, ⟨o, n, e, _, _, d⟩, _⟩ := I.list h
 obtain ⟨its', r', ⟨o', n', e', _, _, d'⟩, _⟩ := I.list h'
 rw [e] at e'; cases e'
 rw [d] at d'
 injection d' with d1 _
 have : its = its' := by simpa using congrArg Array.toList d1
 subst this
 exact r.inj r'
end
abbrev Cx.wish (X : Cx) (E : Value -> Shared -> Prop) : Cx := { X with xe := E }
abbrev Cx.nox (X : Cx) : Cx := X.wish fun _ _ => False
theorem Cx.Ok.wish {X : Cx} (ok : X.Ok) (E : Value -> Shared -> Prop) : (X.wish E).Ok :=
 ⟨ok.mod, ok.kind, ok.glob, ok.blt, ok.above, ok.inj, ok.has, ok.cab, ok.hd, ok.frames, ok.stk, ok.exf, ok.bs, ok.bsz, ok.noex, ok.exfs, ok.funs, ok.frf⟩
theorem Cx.Ok.unwish {X : Cx} {E : Value -> Shared -> Prop} (ok : (X.wish E).Ok) : X.Ok :=
 ⟨ok.mod, ok.kind, ok.glob, ok.blt, ok.above, ok.inj, ok.has, ok.cab, ok.hd, ok.frames, ok.stk, ok.exf, ok.bs, ok.bsz, ok.noex, ok.exfs, ok.funs, ok.frf⟩
section
variable {X : Cx} {pins : List (Addr × Obj)} {σ : St} {H : Hp} {s : Shared} {E : Value -> Shared -> Prop}
theorem Inv.wish (I : Inv X pins σ H s) (E : Value -> Shared -> Prop) : Inv (X.wish E) pins σ H s := ⟨I.ok.wish E, I.os, I.bare, I.base, I.loc, I.cell, I.free, I.freeC, I.pin, I.hok, I.len⟩
theorem Inv.unwish (I : Inv (X.wish E) pins σ H s) : Inv X pins σ H s := ⟨I.ok.unwish, I.os, I.bare, I.base, I.loc, I.cell, I.free, I.freeC, I.pin, I.hok, I.len⟩
theorem SP.unwish {D : Ends} {f : Flow} {s' : Shared} (h : SP (X.wish E) pins D f s') : SP X pins D f s' := by
 cases f with
 | next => obtain ⟨σ', H', I, q⟩ := h; exact ⟨σ', H', I.unwish, q⟩
 | brk => obtain ⟨σ', H', I, q⟩ := h; exact ⟨σ', H', I.unwish, q⟩
 | cont => obtain ⟨σ', H', I, q⟩ := h; exact ⟨σ', H', I.unwish, q⟩
 | ret u => obtain ⟨v, σ', H', I, r, q⟩ := h; exact ⟨v, σ', H', I.unwish, r, q⟩
theorem PSs.nox {st : List Stmt} {t : TS} (h : PSs X.nox st t) : PSs X st t := fun pins s σ H D I hw =>
 wpAny_mono (h pins s σ H D (I.wish _) hw) (fun _ _ q => q.unwish) fun _ _ z => False.elim z
end
section
variable {X : Cx} {st : Stmt} {rest : List Stmt} {t u : TS} {e : Expr} {te : TE} {pos : Pos}
def tNext : TS := fun D σ H => D.nx σ H
def tSeq (t u : TS) : TS := fun D σ H => t { D with nx := u D } σ H
theorem y0_ : PSs X [] tNext := fun _ _ σ H _ I h => wpAny_execs_nil ⟨σ, H, I, h⟩
theorem j2_ (h1 : PS X st t) (h2 : PSs X rest u) : PSs X (st :: rest) (tSeq t u) := by
 intro pins s σ H D I h
 refine wpAny_execs_cons (thn (h1 pins s σ H { D with nx := u D } I h) fun f s1 q => ?_)
 cases f with
 | next =>
  obtain ⟨σ', H', I', q⟩ := q
  exact h2 pins s1 σ' H' D I' q
 | ret v => exact q
 | brk => exact q
 | cont => exact q
theorem j4_ (h1 : PS X st t) : PSs X [st] t := by
 intro pins s σ H D I h
 refine wpAny_execs_cons (thn (h1 pins s σ H D I h) fun f s1 q => ?_)
 cases f with
 | next => exact wpAny_execs_nil q
 | ret v => exact q
 | brk => exact q
 | cont => exact q
theorem Inv.quiet {pins : List (Addr × Obj)} {σ : St} {H : Hp} {s : Shared} (I : Inv X pins σ H s) : interactive X.env = false := by simp [interactive, I.ok.kind]
def tDrop (te : TE) : TS := fun D σ H => te σ H fun _ H1 => D.nx σ H1
theorem ps_expr (he : PE X e te) (hs : swapsWith e none pos.line X.env = pure false := by rfl) : PS X (.Expr e pos) (tDrop te) := by
 intro pins s σ H D I h
 exact wpAny_Expr_any (thn (he pins s σ H _ I h) fun v s1 ⟨x, H1, I1, r1, q1⟩ => ⟨σ, H1, I1, q1⟩) I.quiet hs
def tRet (te : TE) : TS := fun D σ H => te σ H D.rt
theorem jj_ (he : PE X e te) : PS X (.Return (some e) pos) (tRet te) := by
 intro pins s σ H D I h
 exact wpAny_Return_some (thn (he pins s σ H _ I h) fun v s1 ⟨x, H1, I1, r1, q1⟩ => ⟨x, σ, H1, I1, r1, q1⟩)
def tIfS (c : TT) (t u : TS) : TS := fun D σ H => c σ H fun b H1 => if b = true then t D σ H1 else u D σ H1
theorem ps_if {c : Expr} {a b : List Stmt} {tc : TT} (hc : PT X c tc) (ha : PSs X a t) (hb : PSs X b u) : PS X (.If c a b pos) (tIfS tc t u) := by
 intro pins s σ H D I h
 refine wpAny_If (thn (hc pins s σ H _ I h) fun d s1 ⟨H1, I1, q1⟩ => ?_)
 cases d with
 | true => exact ha pins s1 σ H1 D I1 q1
 | false => exact hb pins s1 σ H1 D I1 q1
end
abbrev TG := V -> St -> Hp -> (St -> Hp -> Prop) -> Prop
def PG (X : Cx) (target : Expr) (t : TG) : Prop :=
 ∀ (pins : List (Addr × Obj)) (s : Shared) (σ : St) (H : Hp) (v : V) (u : Value) (Q : St -> Hp -> Prop), Inv X pins σ H s -> jq_ v u -> t v σ H Q ->
  wpAny (model X.prog X.w) X.A (assign target X.env u) (fun _ s' => ∃ σ' H', Inv X pins σ' H' s' /\ Q σ' H') X.xe s
abbrev TIp := V -> V -> Hp -> VK -> Prop
def PIp (X : Cx) (op : Operator) (t : TIp) : Prop :=
 ∀ (pins : List (Addr × Obj)) (s : Shared) (σ : St) (H : Hp) (x y : V) (v u : Value) (Q : VK), Inv X pins σ H s -> jq_ x v -> jq_ y u -> t x y H Q ->
  wpAny (model X.prog X.w) X.A (inplaceOp op v u) (EP X pins σ Q) X.xe s
section
variable {X : Cx} {pos : Pos}
def gName (i : Nat) : TG := fun v σ H Q => Q (σ.set i (some v)) H
theorem pg_name {i : Nat} {x : Str} (hN : X.N.Nodup) (hi : X.N[i]? = some x) (hx : Loc X.env.scope x) (hf : X.fn x = true \/ X.env.scope.names.lookup x = some .local := by first | exact .inl rfl | exact .inr rfl | assumption) : PG X (.Name x pos) (gName i) := by
 intro pins s σ H v u Q I r h
 exact wpAny_assign_Name (store_ok I hN hi hx r (fun s' I' => ⟨_, H, I', h⟩) hf)
def tAsg (te : TE) (g : TG) : TS := fun D σ H => te σ H fun x H1 => g x σ H1 D.nx
theorem jy_ {i : Nat} {x : Str} {e : Expr} {te : TE} {pos' : Pos} (hN : X.N.Nodup) (hi : X.N[i]? = some x) (hx : Loc X.env.scope x) (he : PE X e te) (hs : swapsWith e (some (.Name x pos')) pos.line X.env = pure false := by rfl) (hf : X.fn x = true \/ X.env.scope.names.lookup x = some .local := by first | exact .inl rfl | exact .inr rfl | assumption) :
  PS X (.Assign [.Name x pos'] e pos) (tAsg te (gName i)) := by
 intro pins s σ H D I h
 refine wpAny_Assign_Name (thn (he pins s σ H _ I h) fun v s1 ⟨y, H1, I1, r1, q1⟩ => ?_) hs
 exact store_ok I1 hN hi hx r1 (fun s2 I2 => ⟨_, H1, I2, q1⟩) hf
def tAug (i : Nat) (te : TE) (ti : TIp) : TS := fun D σ H => ∃ x, σ[i]? = some (some x) /\ te σ H fun y H1 => ti x y H1 fun z H2 => D.nx (σ.set i (some z)) H2
theorem ps_aug {i : Nat} {x : Str} {e : Expr} {te : TE} {op : Operator} {ti : TIp} {pos' : Pos} (hN : X.N.Nodup) (hi : X.N[i]? = some x) (hx : Loc X.env.scope x) (he : PE X e te) (ho : PIp X op ti) (hf : X.fn x = true \/ X.env.scope.names.lookup x = some .local := by first | exact .inl rfl | exact .inr rfl | assumption) :
  PS X (.AugAssign (.Name x pos') op e pos) (tAug i te ti) := by
 intro pins s σ H D I h
 obtain ⟨v, e1, h⟩ := h
 obtain ⟨m, hn, hl⟩ := I.loc
 have vis : Vis X.env.scope x := by rcases hx with k | k; exact .inl k; exact .inr (.inl k)
 obtain ⟨u, r, l⟩ := hl i x v hi e1 vis
 refine wpAny_AugAssign_Name ?_
 have go : wpAny (model X.prog X.w) X.A (eval e X.env) (fun w s₂ => wpAny (model X.prog X.w) X.A (inplaceOp op u w) (fun r s₃ => wpAny (model X.prog X.w) X.A (storeName X.env x r) (fun _ => SP X pins D .next) X.xe s₃) X.xe s₂) X.xe s := by
  refine thn (he pins s σ H _ I h) fun w s1 ⟨y, H1, I1, r1, q1⟩ => ?_
  refine thn (ho pins s1 σ H1 v y u w _ I1 r r1 q1) fun z s2 ⟨zv, H2, I2, r2, q2⟩ => ?_
  exact store_ok I2 hN hi hx r2 (fun s3 I3 => ⟨_, H2, I3, q2⟩) hf
 rcases l with ⟨hk, hm⟩ | ⟨hk, c, hc, hcell⟩
 ·exact wpAny_loadName_local I.ok.kind hk hn hm go
 ·rcases hk with hk | hk
  ·exact wpAny_loadName_cell I.ok.kind hk hc hcell go
  ·rcases hx with k | k
   ·have : X.env.scope.names.lookup x = some .free := hk
    rw [k] at this; cases this
   ·have : X.env.scope.names.lookup x = some .free := hk
    rw [k] at this; cases this
def ipI (f : Int -> Int -> Int) : TIp := fun x y H Q => ∃ i j, x = .int i /\ y = .int j /\ Q (.int (f i j)) H
theorem ip_add : PIp X .Add (ipI fun i j => i + j) := by
 intro pins s σ H x y v u Q I r1 r2 h
 obtain ⟨i, j, e1, e2, q⟩ := h
 subst e1; subst e2
 obtain ⟨t, rfl⟩ := r1
 obtain ⟨t', rfl⟩ := r2
 exact iadd_int ⟨.int _, H, I.tok _, ⟨_, rfl⟩, q⟩
end
section
variable {X : Cx} {pos : Pos}
def tWhile (c : TT) (tb : TS) : TS := fun D σ H => ∃ W : Nat -> St -> Hp -> Prop, (∃ m, W m σ H) /\ ∀ m σ H, W m σ H ->
 c σ H fun b H1 => if b = true then ∃ N : St -> Hp -> Prop, (∀ σ' H', N σ' H' -> ∃ m', m' < m /\ W m' σ' H') /\ tb { D with nx := N, ct := N, bk := D.nx } σ H1 else D.nx σ H1
theorem ps_while {c : Expr} {body : List Stmt} {tc : TT} {tb : TS} (hp : PassesOwn (model X.prog X.w) X.A X.env X.xe) (hc : PT X c tc) (hb : PSs X body tb) : PS X (.While c body [] pos) (tWhile tc tb) := by
 intro pins s σ H D I h
 obtain ⟨W, ⟨m0, w0⟩, turn⟩ := h
 refine wpAny_While (codeAny_whileLoop (fun n s' => ∃ σ' H', Inv X pins σ' H' s' /\ W n σ' H') ?_ m0 ⟨σ, H, I, w0⟩)
 rintro n s1 ⟨σ1, H1, I1, w1⟩
 refine wpAny_passesOwn hp (thn (hc pins s1 σ1 H1 _ I1 (turn n σ1 H1 w1)) fun b s2 ⟨H2, I2, q2⟩ => ?_)
 cases b with
 | true =>
  obtain ⟨N, hN, q2⟩ := q2
  rw [if_pos rfl]
  refine wpAny_passesOwn hp (thn (hb pins s2 σ1 H2 _ I2 q2) fun f s3 q3 => ?_)
  cases f with
  | next =>
   obtain ⟨σ3, H3, I3, n3⟩ := q3
   obtain ⟨m', hm, w3⟩ := hN σ3 H3 n3
   exact ⟨m', hm, σ3, H3, I3, w3⟩
  | cont =>
   obtain ⟨σ3, H3, I3, n3⟩ := q3
   obtain ⟨m', hm, w3⟩ := hN σ3 H3 n3
   exact ⟨m', hm, σ3, H3, I3, w3⟩
  | brk => exact q3
  | ret v => exact q3
 | false =>
  rw [if_neg Bool.false_ne_true]
  exact wpAny_execs_nil ⟨σ1, H2, I2, q2⟩
end
structure It where
 go : Nat -> Hp -> Prop
 yld : Nat -> Hp -> V -> Hp -> Prop
 stop : Nat -> Hp -> Prop
def FpOk (X : Cx) (pins : List (Addr × Obj)) (H : Hp) (b : Addr) : Prop :=
 H b = none /\ b ≠ X.env.locals /\ b ∉ X.fs /\ (b ∈ X.ex \/ X.s_0.heap.objs.size <= b) /\ (∀ x c, X.env.cells.lookup x = some c -> c ≠ b) /\ ∀ p ∈ X.pn ++ pins, p.1 ≠ b
theorem Inv.fpOk {X : Cx} {pins : List (Addr × Obj)} {σ : St} {H H' : Hp} {s : Shared} {b : Addr} (I : Inv X pins σ H s) (hb : s.heap.objs.size <= b) (hn : H' b = none) : FpOk X pins H' b := by
 refine ⟨hn, Nat.ne_of_gt (Nat.lt_of_lt_of_le I.lt hb), I.nofs hb, .inr (Nat.le_trans I.sz hb), fun x c e z => ?_, fun p hp z => ?_⟩
 ·obtain ⟨v, q⟩ := I.cell x c e
  exact absurd (Nat.lt_of_lt_of_le q.lt (by rw [z]; exact hb)) (Nat.lt_irrefl _)
 ·exact absurd (Nat.lt_of_lt_of_le (Heap.lt_size (I.pin p hp).1) (by rw [z]; exact hb)) (Nat.lt_irrefl _)
structure Turn (P : Program) (w : World) (K : PySem.W.Frag) (tg : Expr) (J : It) (fp : List Addr) (it : Addr) (tn : Nat -> Heap -> Prop) : Prop where
 mem : it ∈ fp
 obj : ∀ i h, tn i h -> ∀ b ∈ fp, ∃ o, h.get? b = some o /\ ∀ v, o.data ≠ .cell v
 keep : ∀ i h h', tn i h -> (∀ b ∈ fp, ∀ o, h.get? b = some o -> h'.get? b = some o) -> tn i h'
 item : ∀ (X : Cx), X.prog = P -> X.w = w -> X.K = K -> X.calm = true -> ∀ (i : Nat) (pins : List (Addr × Obj)) (s : Shared) (σ : St) (H : Hp) (E : Value -> Shared -> Prop), Inv X pins σ H s -> (∀ b ∈ fp, FpOk X pins H b) -> tn i s.heap -> J.go i H ->
  wpAny (model P w) X.A (pyNext (.ref it)) (fun r s1 => ∃ u, r = some u /\
   wpAny (model P w) X.A (letOwnedTupleGo tg (.ref it) u) (fun _ s2 => ∃ x H', Inv X pins σ H' s2 /\ jq_ x u /\ J.yld i H x H' /\ tn (i + 1) s2.heap /\ ∀ b ∈ fp, H' b = none) E s1) E s
 done : ∀ (X : Cx), X.prog = P -> X.w = w -> X.K = K -> X.calm = true -> ∀ (i : Nat) (pins : List (Addr × Obj)) (s : Shared) (σ : St) (H : Hp) (E : Value -> Shared -> Prop), Inv X pins σ H s -> (∀ b ∈ fp, FpOk X pins H b) -> tn i s.heap -> J.stop i H ->
  wpAny (model P w) X.A (pyNext (.ref it)) (fun r s1 => r = none /\ Inv X pins σ H s1) E s
 self : ∀ (A : Around) (i : Nat) (s : Shared) (Q : Value -> Shared -> Prop) (E : Value -> Shared -> Prop), tn i s.heap -> Q (.ref it) s -> wpAny (model P w) A (pyIter (.ref it)) Q E s
abbrev TI := St -> Hp -> (It -> Hp -> Prop) -> Prop
def PIE (X : Cx) (pins : List (Addr × Obj)) (σ : St) (tg : Expr) (R : It -> Hp -> Prop) (itv : Value) (s2 : Shared) : Prop :=
 ∃ (it : Addr) (fp : List Addr) (tn : Nat -> Heap -> Prop) (J : It) (H' : Hp), itv = .ref it /\ Inv X pins σ H' s2 /\ Turn X.prog X.w X.K tg J fp it tn /\ tn 0 s2.heap /\ (∀ b ∈ fp, FpOk X pins H' b) /\ R J H'
def PI (X : Cx) (tg iter : Expr) (wi : TI) : Prop :=
 ∀ (pins : List (Addr × Obj)) (s : Shared) (σ : St) (H : Hp) (R : It -> Hp -> Prop), Inv X pins σ H s -> wi σ H R ->
  wpAny (model X.prog X.w) X.A (eval iter X.env) (fun v s1 => wpAny (model X.prog X.w) X.A (pyIter v) (PIE X pins σ tg R) X.xe s1) X.xe s
theorem go_of {M : Model} {A : Around} {E : Value -> Shared -> Prop} {s : Shared} {tg : Expr} {it : Addr} {u : Value} {o : Obj} {n : String} {vs : Array Value} {Q : Unit -> Shared -> Prop} (ho : s.heap.get? it = some o) (hc : o.cls = .type n) (hd : o.data = .fields vs)
  (hn : ["enumerate", "zip", "dict_itemiterator", "dict_reverseitemiterator", "odict_iterator", "itertools.zip_longest", "itertools.pairwise"].contains n = false) (hQ : Q () s) : wpAny M A (letOwnedTupleGo tg (.ref it) u) Q E s := by
 unfold letOwnedTupleGo
 cases tg <;> first
  | exact wpAny_pure hQ
  | (cases u <;> first
    | exact wpAny_pure hQ
    | (refine wpAny_bind (wpAny_load ho ?_)
       rw [hc, hd]
       show wpAny M A (if (["enumerate", "zip", "dict_itemiterator", "dict_reverseitemiterator", "odict_iterator", "itertools.zip_longest", "itertools.pairwise"].contains n && vs[0]? == some (rawInt _)) = true then _ else _) Q E s
       rw [if_neg (by intro h; rw [hn, Bool.false_and] at h; cases h)]
       exact wpAny_pure hQ))
def Itl (K : PySem.W.Frag) (a : Addr) : It :=
 ⟨fun i H => ∃ xs x, SqL K H a xs /\ xs[i]? = some x, fun i H x H' => H' = H /\ ∀ xs, SqL K H a xs -> xs[i]? = some x, fun i H => ∃ xs, SqL K H a xs /\ xs.length <= i⟩
theorem turn_list {P : Program} {w : World} {K : PySem.W.Frag} {tg : Expr} (a it : Addr) : Turn P w K tg (Itl K a) [it] it (fun i h => h.IsListIter it a i) where
 mem := by simp
 obj := fun i h st b hb => by
  have e : b = it := by simpa using hb
  subst e
  obtain ⟨o, e, c, d⟩ := st
  exact ⟨o, e, fun v z => by rw [d] at z; cases z⟩
 keep := fun i h h' st k => st.at fun o e => k it (by simp) o e
 item := by
  intro X hP hw hK hc i pins s σ H E I hf st hg
  subst hP hw hK
  obtain ⟨xs, x, hq, hx⟩ := hg
  obtain ⟨its, rv, p, hz⟩ := I.list hq
  obtain ⟨u, hu, ru⟩ := rv.get hx
  obtain ⟨f0, f1, f2, f3, f4, f5⟩ := hf it (by simp)
  refine wpAny_pyNext_list_item st p.isList (x := u) (by simpa using hu) fun h' st' sb => ?_
  have I1 : Inv X pins σ H { s with heap := h' } := I.turned (t' := s.toks) (fun b o hb e => (sb.2 b hb).trans e) f0 f1 f3 f4 f5
  obtain ⟨o, e, c, d⟩ := id st'
  exact ⟨u, rfl, go_of (s := { s with heap := h' }) e c d (by decide) ⟨x, H, I1, ru, ⟨rfl, fun ys hy => by rw [I.list_inj hy hq]; exact hx⟩, st', fun b hb => (hf b hb).1⟩⟩
 done := by
  intro X hP hw hK hc i pins s σ H E I hf st hg
  subst hP hw hK
  obtain ⟨xs, hq, hx⟩ := hg
  obtain ⟨its, rv, p, hz⟩ := I.list hq
  obtain ⟨f0, f1, f2, f3, f4, f5⟩ := hf it (by simp)
  have hl := rv.length
  exact wpAny_pyNext_list_end (I.ok.hd hc) st p.isList (by simp; omega) fun h' eb => ⟨rfl, I.turned (t' := s.toks) (fun b o hb e => eb b o hb e) f0 f1 f3 f4 f5⟩
 self := fun _ _ _ _ _ st h => wpAny_pyIter_listiter st h
end L2
namespace L2
open PySem PySem.Spec PyProof.Rows
section
variable {X : Cx} {tg : Expr}
def iList (K : PySem.W.Frag) (tl : TE) : TI := fun σ H R => tl σ H fun x H1 => ∃ a, x = .ref a /\ (∃ xs, SqL K H1 a xs) /\ R (Itl K a) H1
theorem pi_list {l : Expr} {tl : TE} (hl : PE X l tl) : PI X tg l (iList X.K tl) := by
 intro pins s σ H R I h
 refine thn (hl pins s σ H _ I h) fun v s1 ⟨x, H1, I1, r1, q1⟩ => ?_
 obtain ⟨a, e, ⟨xs, hq⟩, q⟩ := q1
 subst e
 cases r1
 obtain ⟨its, rv, p, hz⟩ := I1.list hq
 refine wpAny_pyIter_list p.isList ?_
 refine ⟨s1.heap.objs.size, [s1.heap.objs.size], _, _, H1, rfl, I1.kept (t' := s1.toks) fun b o e => Heap.get?_push_of_some _ e, turn_list a _, ⟨_, Heap.get?_push_size _ rfl, rfl, rfl⟩, fun b hb => ?_, q⟩
 have e : b = s1.heap.objs.size := by simpa using hb
 subst e
 exact I1.fpOk (Nat.le_refl _) (I1.hok.fresh (Nat.le_refl _))
def tFor (wi : TI) (g : TG) (tb : TS) : TS := fun D σ H => wi σ H fun J H1 => ∃ W : Nat -> Nat -> St -> Hp -> Prop, (∃ m, W 0 m σ H1) /\ ∀ i m σ H, W i m σ H ->
 (J.stop i H /\ D.nx σ H) \/ (J.go i H /\ ∃ N : St -> Hp -> Prop, (∀ σ' H', N σ' H' -> ∃ m', m' < m /\ W (i + 1) m' σ' H') /\ ∀ x H', J.yld i H x H' -> g x σ H' fun σ2 H2 => tb { D with nx := N, ct := N, bk := D.nx } σ2 H2)
def pinsAt (fp : List Addr) (h : Heap) : List (Addr × Obj) := fp.filterMap fun b => (h.get? b).map fun o => (b, o)
theorem mem_pinsAt {fp : List Addr} {h : Heap} {b : Addr} {o : Obj} (hb : b ∈ fp) (e : h.get? b = some o) : (b, o) ∈ pinsAt fp h := List.mem_filterMap.mpr ⟨b, hb, by rw [e]; rfl⟩
theorem of_pinsAt {fp : List Addr} {h : Heap} {p : Addr × Obj} (hp : p ∈ pinsAt fp h) : p.1 ∈ fp /\ h.get? p.1 = some p.2 := by
 obtain ⟨b, hb, e⟩ := List.mem_filterMap.mp hp
 cases q : h.get? b with
 | none => rw [q] at e; cases e
 | some o =>
  rw [q] at e
  have e' : (b, o) = p := Option.some.inj e
  subst e'
  exact ⟨hb, q⟩
theorem Inv.pinned {pins : List (Addr × Obj)} {σ : St} {H : Hp} {s : Shared} {fp : List Addr} (I : Inv X pins σ H s) (hf : ∀ b ∈ fp, FpOk X pins H b) (ho : ∀ b ∈ fp, ∃ o, s.heap.get? b = some o /\ ∀ v, o.data ≠ .cell v) : Inv X (pins ++ pinsAt fp s.heap) σ H s :=
 I.pins_of fun p hp => (List.mem_append.mp hp).elim (fun z => I.pin p (List.mem_append_right _ z)) fun z => by
  obtain ⟨hb, e⟩ := of_pinsAt z
  obtain ⟨f0, f1, f2, _⟩ := hf p.1 hb
  obtain ⟨o, e', d⟩ := ho p.1 hb
  rw [e] at e'; cases e'
  exact ⟨e, f0, f1, f2, d⟩
theorem Inv.unpinned {pins pl : List (Addr × Obj)} {σ : St} {H : Hp} {s : Shared} (I : Inv X (pins ++ pl) σ H s) : Inv X pins σ H s := I.pins_of fun p hp => I.pin p (List.mem_append_right _ (List.mem_append_left _ hp))
theorem ps_for {iter : Expr} {body : List Stmt} {wi : TI} {g : TG} {tb : TS} {pos : Pos} (hp : PassesOwn (model X.prog X.w) X.A X.env X.xe) (hc : X.calm = true) (hi : PI X tg iter wi) (hg : PG X tg g) (hb : PSs X body tb)
  (hs : ∀ x, foldedSetIterable iter X.env x = pure x := by intro _; rfl) : PS X (.For tg iter body [] pos) (tFor wi g tb) := by
 intro pins s σ H D I h
 refine wpAny_For (thn (hi pins s σ H _ I h) fun v s1 h1 => thn h1 fun itv s2 h2 => ?_) hs
 obtain ⟨it, fp, tn, J, H2, e, I2, T, st2, f2, W, ⟨m0, w0⟩, turn⟩ := h2
 subst e
 have stat : ∀ {H' : Hp}, (∀ b ∈ fp, H' b = none) -> ∀ b ∈ fp, FpOk X pins H' b := fun hn b hb => ⟨hn b hb, (f2 b hb).2⟩
 refine codeAny_forLoop_any (fun n s' => ∃ i σ' H', Inv X pins σ' H' s' /\ tn i s'.heap /\ (∀ b ∈ fp, H' b = none) /\ W i n σ' H') ?_ m0 ⟨0, σ, H2, I2, st2, fun b hb => (f2 b hb).1, w0⟩
 rintro n s3 ⟨i, σ3, H3, I3, st3, fr3, w3⟩
 rcases turn i n σ3 H3 w3 with ⟨stop, qn⟩ | ⟨go, N, hN, step⟩
 ·refine wpAny_passesOwn hp (thn (T.done X rfl rfl rfl hc i pins s3 σ3 H3 X.xe I3 (stat fr3) st3 stop) fun r s4 ⟨hr, I4⟩ => ?_)
  subst hr
  exact wpAny_execs_nil ⟨σ3, H3, I4, qn⟩
 ·refine wpAny_passesOwn hp (thn (T.item X rfl rfl rfl hc i pins s3 σ3 H3 X.xe I3 (stat fr3) st3 go) fun r s4 ⟨u, hr, h4⟩ => ?_)
  subst hr
  refine wpAny_passesOwn hp (thn h4 fun _ s5 ⟨x, H5, I5, r5, y5, st5, fr5⟩ => ?_)
  have I5' := I5.pinned (stat fr5) (T.obj _ _ st5)
  refine wpAny_passesOwn hp (thn (hg _ s5 σ3 H5 x u _ I5' r5 (step x H5 y5)) fun _ s6 ⟨σ6, H6, I6, q6⟩ => ?_)
  refine wpAny_passesOwn hp (thn (hb _ s6 σ6 H6 _ I6 q6) fun f s7 q7 => ?_)
  have again : ∀ {σ7 : St} {H7 : Hp}, Inv X (pins ++ pinsAt fp s5.heap) σ7 H7 s7 -> N σ7 H7 -> ∃ m, m < n /\ ∃ i σ' H', Inv X pins σ' H' s7 /\ tn i s7.heap /\ (∀ b ∈ fp, H' b = none) /\ W i m σ' H' := fun {σ7 H7} I7 n7 => by
   obtain ⟨m', hm, w7⟩ := hN σ7 H7 n7
   refine ⟨m', hm, i + 1, σ7, H7, I7.unpinned, T.keep _ _ _ st5 fun b hb o e => (I7.pin (b, o) (List.mem_append_right _ (List.mem_append_right _ (mem_pinsAt hb e)))).1, fun b hb => ?_, w7⟩
   obtain ⟨o, e, d⟩ := T.obj _ _ st5 b hb
   exact (I7.pin (b, o) (List.mem_append_right _ (List.mem_append_right _ (mem_pinsAt hb e)))).2.1
  cases f with
  | next => obtain ⟨σ7, H7, I7, n7⟩ := q7; exact again I7 n7
  | cont => obtain ⟨σ7, H7, I7, n7⟩ := q7; exact again I7 n7
  | brk => obtain ⟨σ7, H7, I7, q7⟩ := q7; exact ⟨σ7, H7, I7.unpinned, q7⟩
  | ret v => obtain ⟨x7, σ7, H7, I7, r7, q7⟩ := q7; exact ⟨x7, σ7, H7, I7.unpinned, r7, q7⟩
end
theorem for_list {K : PySem.W.Frag} {a : Addr} {xs : List V} {g : TG} {tb : TS} {D : Ends} {σ : St} {H : Hp} (Pv : Nat -> St -> Hp -> Prop) (h0 : Pv 0 σ H) (hl : ∀ i σ H, i <= xs.length -> Pv i σ H -> SqL K H a xs)
  (hs : ∀ i x σ H, xs[i]? = some x -> Pv i σ H -> g x σ H fun σ2 H2 => tb { D with nx := Pv (i + 1), ct := Pv (i + 1), bk := D.nx } σ2 H2) (hd : ∀ σ H, Pv xs.length σ H -> D.nx σ H) :
  ∃ W : Nat -> Nat -> St -> Hp -> Prop, (∃ m, W 0 m σ H) /\ ∀ i m σ H, W i m σ H ->
   ((Itl K a).stop i H /\ D.nx σ H) \/ ((Itl K a).go i H /\ ∃ N : St -> Hp -> Prop, (∀ σ' H', N σ' H' -> ∃ m', m' < m /\ W (i + 1) m' σ' H') /\ ∀ x H', (Itl K a).yld i H x H' -> g x σ H' fun σ2 H2 => tb { D with nx := N, ct := N, bk := D.nx } σ2 H2) := by
 refine ⟨fun i m σ H => m = xs.length - i /\ i <= xs.length /\ Pv i σ H, ⟨xs.length, by simp, Nat.zero_le _, h0⟩, ?_⟩
 rintro i m σ H ⟨rfl, hi, p⟩
 have q := hl i σ H hi p
 by_cases hlt : i < xs.length
 ·refine .inr ⟨⟨xs, xs[i], q, by simp [hlt]⟩, Pv (i + 1), fun σ' H' p' => ⟨xs.length - (i + 1), by omega, rfl, hlt, p'⟩, fun x H' y => ?_⟩
  obtain ⟨e, y⟩ := y
  subst e
  exact hs i x σ _ (y xs q) p
 ·have e : i = xs.length := by omega
  subst e
  exact .inl ⟨⟨xs, q, Nat.le_refl _⟩, hd σ H p⟩
end L2
namespace L2
open PySem PySem.Spec PyProof.Rows
abbrev R2 := V -> V -> Hp -> VK -> Prop
def OpR (X : Cx) (f : Value -> Value -> Sem Value) (r : R2) : Prop :=
 ∀ (pins : List (Addr × Obj)) (s : Shared) (σ : St) (H : Hp) (x y : V) (v u : Value) (Q : VK), Inv X pins σ H s -> jq_ x v -> jq_ y u -> r x y H Q ->
  wpAny (model X.prog X.w) X.A (f v u) (EP X pins σ Q) X.xe s
def UnR (X : Cx) (f : Value -> Sem Value) (r : V -> Hp -> VK -> Prop) : Prop :=
 ∀ (pins : List (Addr × Obj)) (s : Shared) (σ : St) (H : Hp) (x : V) (v : Value) (Q : VK), Inv X pins σ H s -> jq_ x v -> r x H Q ->
  wpAny (model X.prog X.w) X.A (f v) (EP X pins σ Q) X.xe s
def CallR (X : Cx) (f : Value) (r : List V -> Hp -> VK -> Prop) : Prop :=
 ∀ (pins : List (Addr × Obj)) (s : Shared) (σ : St) (H : Hp) (xs : List V) (us : List Value) (Q : VK), Inv X pins σ H s -> jk_ xs us -> r xs H Q ->
  wpAny (model X.prog X.w) X.A (call f us) (EP X pins σ Q) X.xe s
def tOp (r : R2) (ta tb : TE) : TE := fun σ H Q => ta σ H fun x H1 => tb σ H1 fun y H2 => r x y H2 Q
def tUn (r : V -> Hp -> VK -> Prop) (ta : TE) : TE := fun σ H Q => ta σ H fun x H1 => r x H1 Q
def rI (C : Int -> Int -> Prop) (g : Int -> Int -> V) : R2 := fun x y H Q => ∃ i j, x = .int i /\ y = .int j /\ C i j /\ Q (g i j) H
def rI0 (g : Int -> Int -> V) : R2 := fun x y H Q => ∃ i j, x = .int i /\ y = .int j /\ Q (g i j) H
def rU (g : Int -> V) : V -> Hp -> VK -> Prop := fun x H Q => ∃ i, x = .int i /\ Q (g i) H
section
variable {X : Cx} {a b c : Expr} {ta tb tc : TE} {pos : Pos}
theorem binT (ha : PE X a ta) (hb : PE X b tb) {pins : List (Addr × Obj)} {s : Shared} {σ : St} {H : Hp} {R : V -> V -> Hp -> Prop} (I : Inv X pins σ H s)
  (h : ta σ H fun x H1 => tb σ H1 fun y H2 => R x y H2) {Q : Value -> Shared -> Prop} {f : Value -> Value -> Sem Value}
  (hf : ∀ v u s2 x y H2, Inv X pins σ H2 s2 -> jq_ x v -> jq_ y u -> R x y H2 -> wpAny (model X.prog X.w) X.A (f v u) Q X.xe s2) :
  wpAny (model X.prog X.w) X.A (eval a X.env) (fun v s₁ => wpAny (model X.prog X.w) X.A (eval b X.env) (fun u s₂ => wpAny (model X.prog X.w) X.A (f v u) Q X.xe s₂) X.xe s₁) X.xe s := by
 refine thn (ha pins s σ H _ I h) fun v s1 ⟨x, H1, I1, r1, q1⟩ => ?_
 refine thn (hb pins s1 σ H1 _ I1 q1) fun u s2 ⟨y, H2, I2, r2, q2⟩ => ?_
 exact hf v u s2 x y H2 I2 r1 r2 q2
theorem v0_ {op : Operator} {r : R2} (ho : OpR X (binaryOp op) r) (ha : PE X a ta) (hb : PE X b tb) : PE X (.BinOp a op b pos) (tOp r ta tb) := by
 intro pins s σ H Q I h
 exact wpAny_BinOp (binT ha hb I h fun v u s2 x y H2 I2 rx ry q => ho pins s2 σ H2 x y v u Q I2 rx ry q)
theorem pe_un {op : UnaryOp} {r : V -> Hp -> VK -> Prop} (ho : UnR X (unaryOp op) r) (ha : PE X a ta) : PE X (.UnaryOp op a pos) (tUn r ta) := by
 intro pins s σ H Q I h
 exact UnaryOp_ (thn (ha pins s σ H _ I h) fun v s1 ⟨x, H1, I1, r1, q1⟩ => ho pins s1 σ H1 x v Q I1 r1 q1)
theorem opI {f : Value -> Value -> Sem Value} {C : Int -> Int -> Prop} {g : Int -> Int -> Int}
  (rule : ∀ (i j : Int) (t u : Tok) (s : Shared) (Q : Value -> Shared -> Prop) (E : Value -> Shared -> Prop), C i j -> Q (.int (g i j) s.toks) { s with toks := s.toks + 1 } -> wpAny (model X.prog X.w) X.A (f (.int i t) (.int j u)) Q E s) :
  OpR X f (rI C fun i j => .int (g i j)) := by
 intro pins s σ H x y v u Q I rx ry h
 obtain ⟨i, j, rfl, rfl, hc, q⟩ := h
 obtain ⟨t, rfl⟩ := rx
 obtain ⟨t', rfl⟩ := ry
 exact rule i j t t' s _ _ hc ⟨.int (g i j), H, I.tok _, ⟨_, rfl⟩, q⟩
theorem opI0 {f : Value -> Value -> Sem Value} {g : Int -> Int -> Int}
  (rule : ∀ (i j : Int) (t u : Tok) (s : Shared) (Q : Value -> Shared -> Prop) (E : Value -> Shared -> Prop), Q (.int (g i j) s.toks) { s with toks := s.toks + 1 } -> wpAny (model X.prog X.w) X.A (f (.int i t) (.int j u)) Q E s) :
  OpR X f (rI0 fun i j => .int (g i j)) := by
 intro pins s σ H x y v u Q I rx ry h
 obtain ⟨i, j, rfl, rfl, q⟩ := h
 obtain ⟨t, rfl⟩ := rx
 obtain ⟨t', rfl⟩ := ry
 exact rule i j t t' s _ _ ⟨.int (g i j), H, I.tok _, ⟨_, rfl⟩, q⟩
theorem opB0 {f : Value -> Value -> Sem Value} {g : Int -> Int -> Bool}
  (rule : ∀ (i j : Int) (t u : Tok) (s : Shared) (Q : Value -> Shared -> Prop) (E : Value -> Shared -> Prop), Q (.bool (g i j)) s -> wpAny (model X.prog X.w) X.A (f (.int i t) (.int j u)) Q E s) :
  OpR X f (rI0 fun i j => .bl (g i j)) := by
 intro pins s σ H x y v u Q I rx ry h
 obtain ⟨i, j, rfl, rfl, q⟩ := h
 obtain ⟨t, rfl⟩ := rx
 obtain ⟨t', rfl⟩ := ry
 exact rule i j t t' s _ _ ⟨.bl (g i j), H, I, rfl, q⟩
def CMul (i j : Int) : Prop := (-(2 ^ 64) < i /\ i < 2 ^ 64) \/ (-(2 ^ 64) < j /\ j < 2 ^ 64)
theorem CMul.ok {i j : Int} (h : CMul i j) : IntMulOk i j := by
 rcases h with ⟨h1, h2⟩ | ⟨h1, h2⟩
 ·exact .of_left (intBits_le_64 h1 h2)
 ·exact .of_right (intBits_le_64 h1 h2)
theorem op_add : OpR X (binaryOp .Add) (rI0 fun i j => .int (i + j)) := opI0 fun _ _ _ _ _ _ _ q => add_int q
theorem op_sub : OpR X (binaryOp .Sub) (rI0 fun i j => .int (i - j)) := opI0 fun _ _ _ _ _ _ _ q => sub_int q
theorem op_mul : OpR X (binaryOp .Mult) (rI CMul fun i j => .int (i * j)) := opI fun _ _ _ _ _ _ _ hc q => mul_int q hc.ok
theorem unI {f : Value -> Sem Value} {g : Int -> Int}
  (rule : ∀ (i : Int) (t : Tok) (s : Shared) (Q : Value -> Shared -> Prop) (E : Value -> Shared -> Prop), Q (.int (g i) s.toks) { s with toks := s.toks + 1 } -> wpAny (model X.prog X.w) X.A (f (.int i t)) Q E s) :
  UnR X f (rU fun i => .int (g i)) := by
 intro pins s σ H x v Q I rx h
 obtain ⟨i, rfl, q⟩ := h
 obtain ⟨t, rfl⟩ := rx
 exact rule i t s _ _ ⟨.int (g i), H, I.tok _, ⟨_, rfl⟩, q⟩
theorem un_neg : UnR X (unaryOp .USub) (rU fun i => .int (-i)) := unI fun _ _ _ _ _ q => neg_int q
end
def scal : V -> V -> Bool
 | .non, .non => true | .non, .int _ => true | .int _, .non => true | .non, .bl _ => true | .bl _, .non => true | .non, .str _ => true | .str _, .non => true
 | .int _, .int _ => true | .bl _, .bl _ => true | .str _, .str _ => true | .byt _, .byt _ => true
 | .int _, .str _ => true | .str _, .int _ => true | .bl _, .str _ => true | .str _, .bl _ => true
 | _, _ => false
def rEq : R2 := fun x y H Q => scal x y = true /\ Q (.bl (decide (x = y))) H
def rNe : R2 := fun x y H Q => scal x y = true /\ Q (.bl (!decide (x = y))) H
theorem dec_int {i j : Int} : decide (V.int i = V.int j) = (i == j) := by
 rw [Bool.eq_iff_iff]
 simp
theorem dec_bl {i j : Bool} : decide (V.bl i = V.bl j) = (i == j) := by
 rw [Bool.eq_iff_iff]
 simp
theorem dec_str {i j : Str} : decide (V.str i = V.str j) = (i == j) := by
 rw [Bool.eq_iff_iff]
 simp
theorem dec_byt {i j : Array UInt8} : decide (V.byt i = V.byt j) = (i.toList == j.toList) := by
 rw [Bool.eq_iff_iff]
 cases i
 cases j
 simp
section
variable {X : Cx} {a b c : Expr} {ta tb tc : TE} {pos : Pos}
theorem jb_ {pins : List (Addr × Obj)} {σ : St} {H : Hp} {s : Shared} {Q : VK} {k k' : Bool} (I : Inv X pins σ H s) (q : Q (.bl k) H) (e : k = k') : EP X pins σ Q (.bool k') s := by
 subst e
 exact ⟨.bl k, H, I, rfl, q⟩
theorem op_eq : OpR X (compareOp .Eq) rEq := by
 intro pins s σ H x y v u Q I rx ry h
 obtain ⟨hs, q⟩ := h
 cases x with
 | non =>
  cases rx
  cases y with
  | non => cases ry; exact PySem.EqNone.eq_none_none (jb_ I q (by simp))
  | bl j => cases ry; exact PySem.EqNone.eq_none_bool (jb_ I q (by simp))
  | int j => obtain ⟨t', rfl⟩ := ry; exact PySem.EqNone.eq_none_int (jb_ I q (by simp))
  | str j => obtain ⟨t', rfl⟩ := ry; exact PySem.EqNone.eq_none_str (jb_ I q (by simp))
  | _ => exact absurd (show false = true from hs) Bool.false_ne_true
 | bl i =>
  cases rx
  cases y with
  | non => cases ry; exact PySem.EqNone.eq_bool_none (jb_ I q (by simp))
  | bl j => cases ry; exact eq_bool (jb_ I q dec_bl)
  | str j => obtain ⟨t', rfl⟩ := ry; exact PySem.EqMixed.eq_bool_str (jb_ I q (by simp))
  | _ => exact absurd (show false = true from hs) Bool.false_ne_true
 | int i =>
  obtain ⟨t, rfl⟩ := rx
  cases y with
  | non => cases ry; exact PySem.EqNone.eq_int_none (jb_ I q (by simp))
  | int j => obtain ⟨t', rfl⟩ := ry; exact eq_int (jb_ I q dec_int)
  | str j => obtain ⟨t', rfl⟩ := ry; exact PySem.EqMixed.eq_int_str (jb_ I q (by simp))
  | _ => exact absurd (show false = true from hs) Bool.false_ne_true
 | str i =>
  obtain ⟨t, rfl⟩ := rx
  cases y with
  | non => cases ry; exact PySem.EqNone.eq_str_none (jb_ I q (by simp))
  | bl j => cases ry; exact PySem.EqMixed.eq_str_bool (jb_ I q (by simp))
  | int j => obtain ⟨t', rfl⟩ := ry; exact PySem.EqMixed.eq_str_int (jb_ I q (by simp))
  | str j => obtain ⟨t', rfl⟩ := ry; exact eq_str (jb_ I q dec_str)
  | _ => exact absurd (show false = true from hs) Bool.false_ne_true
 | byt i =>
  obtain ⟨t, rfl⟩ := rx
  cases y with
  | byt j => obtain ⟨t', rfl⟩ := ry; exact PySem.W.eq_bytes (jb_ I q dec_byt)
  | _ => exact absurd (show false = true from hs) Bool.false_ne_true
 | _ => cases y <;> exact absurd (show false = true from hs) Bool.false_ne_true
theorem op_ne : OpR X (compareOp .NotEq) rNe := by
 intro pins s σ H x y v u Q I rx ry h
 obtain ⟨hs, q⟩ := h
 cases x with
 | non =>
  cases rx
  cases y with
  | non => cases ry; exact PySem.EqNone.ne_none_none (jb_ I q (by simp))
  | bl j => cases ry; exact PySem.EqNone.ne_none_bool (jb_ I q (by simp))
  | int j => obtain ⟨t', rfl⟩ := ry; exact PySem.EqNone.ne_none_int (jb_ I q (by simp))
  | str j => obtain ⟨t', rfl⟩ := ry; exact PySem.EqNone.ne_none_str (jb_ I q (by simp))
  | _ => exact absurd (show false = true from hs) Bool.false_ne_true
 | bl i =>
  cases rx
  cases y with
  | non => cases ry; exact PySem.EqNone.ne_bool_none (jb_ I q (by simp))
  | bl j => cases ry; exact ne_bool (jb_ I q (congrArg not dec_bl))
  | str j => obtain ⟨t', rfl⟩ := ry; exact PySem.EqMixed.ne_bool_str (jb_ I q (by simp))
  | _ => exact absurd (show false = true from hs) Bool.false_ne_true
 | int i =>
  obtain ⟨t, rfl⟩ := rx
  cases y with
  | non => cases ry; exact PySem.EqNone.ne_int_none (jb_ I q (by simp))
  | int j => obtain ⟨t', rfl⟩ := ry; exact ne_int (jb_ I q (congrArg not dec_int))
  | str j => obtain ⟨t', rfl⟩ := ry; exact PySem.EqMixed.ne_int_str (jb_ I q (by simp))
  | _ => exact absurd (show false = true from hs) Bool.false_ne_true
 | str i =>
  obtain ⟨t, rfl⟩ := rx
  cases y with
  | non => cases ry; exact PySem.EqNone.ne_str_none (jb_ I q (by simp))
  | bl j => cases ry; exact PySem.EqMixed.ne_str_bool (jb_ I q (by simp))
  | int j => obtain ⟨t', rfl⟩ := ry; exact PySem.EqMixed.ne_str_int (jb_ I q (by simp))
  | str j => obtain ⟨t', rfl⟩ := ry; exact ne_str (jb_ I q (congrArg not dec_str))
  | _ => exact absurd (show false = true from hs) Bool.false_ne_true
 | byt i =>
  obtain ⟨t, rfl⟩ := rx
  cases y with
  | byt j => obtain ⟨t', rfl⟩ := ry; exact PySem.W.ne_bytes (jb_ I q (congrArg not dec_byt))
  | _ => exact absurd (show false = true from hs) Bool.false_ne_true
 | _ => cases y <;> exact absurd (show false = true from hs) Bool.false_ne_true
theorem op_lt : OpR X (compareOp .Lt) (rI0 fun i j => .bl (decide (i < j))) := opB0 fun _ _ _ _ _ _ _ q => lt_int q
theorem op_le : OpR X (compareOp .LtE) (rI0 fun i j => .bl (decide (i <= j))) := opB0 fun _ _ _ _ _ _ _ q => le_int q
theorem op_gt : OpR X (compareOp .Gt) (rI0 fun i j => .bl (decide (j < i))) := opB0 fun _ _ _ _ _ _ _ q => gt_int q
theorem ju_ (b : Expr) {op : CmpOp} (h : op ≠ .In := by decide) (h2 : op ≠ .NotIn := by decide) : behindInMarks op b = false := by
 have e1 : (op == CmpOp.In) = false := by cases op <;> first | rfl | exact absurd rfl h
 have e2 : (op == CmpOp.NotIn) = false := by cases op <;> first | rfl | exact absurd rfl h2
 cases b <;> simp [behindInMarks, e1, e2]
theorem pe_cmpR {op : CmpOp} {r : R2} (ho : OpR X (compareOp op) r) (ha : PE X a ta) (hb : PE X b tb) (hm : behindInMarks op b = false) : PE X (.Compare a [op] [b] pos) (tOp r ta tb) := by
 intro pins s σ H Q I h
 exact wpAny_Compare1 (binT ha hb I h fun v u s2 x y H2 I2 rx ry q => ho pins s2 σ H2 x y v u Q I2 rx ry q) hm
def tTest (t : TE) : TT := fun σ H Q => t σ H fun x H' => ∃ k, x = .bl k /\ Q k H'
theorem jm_ {op : CmpOp} {r : R2} (ho : OpR X (compareOp op) r) (ha : PE X a ta) (hb : PE X b tb) (hm : behindInMarks op b = false) : PT X (.Compare a [op] [b] pos) (tTest (tOp r ta tb)) := by
 intro pins s σ H Q I h
 refine wpAny_isTrue_Compare1 (thn (ha pins s σ H _ I h) fun v s1 ⟨x, H1, I1, r1, q1⟩ => thn (hb pins s1 σ H1 _ I1 q1) fun u s2 ⟨y, H2, I2, r2, q2⟩ =>
  thn (ho pins s2 σ H2 x y v u _ I2 r1 r2 q2) fun c s3 ⟨z, H3, I3, r3, k, e, q3⟩ => ?_) hm
 subst e
 cases r3
 exact wpAny_truthy_bool ⟨H3, I3, q3⟩
def tChain (r r' : R2) (ta tb tc : TE) : TE := fun σ H Q => ta σ H fun x H1 => tb σ H1 fun y H2 => r x y H2 fun z H3 => ∃ k, z = .bl k /\
 (if k = true then tc σ H3 fun w' H4 => r' y w' H4 Q else Q (.bl false) H3)
theorem pe_chain {op op' : CmpOp} {r r' : R2} (ho : OpR X (compareOp op) r) (ho' : OpR X (compareOp op') r') (ha : PE X a ta) (hb : PE X b tb) (hc : PE X c tc)
  (hm : lastMarks [op, op'] [b, c] = false := by with_unfolding_all rfl) : PE X (.Compare a [op, op'] [b, c] pos) (tChain r r' ta tb tc) := by
 intro pins s σ H Q I h
 refine Compare_chain (thn (ha pins s σ H _ I h) fun v s1 ⟨x, H1, I1, r1, q1⟩ => chain_link (thn (hb pins s1 σ H1 _ I1 q1) fun u s2 ⟨y, H2, I2, r2, q2⟩ =>
  thn (ho pins s2 σ H2 x y v u _ I2 r1 r2 q2) fun d s3 ⟨z, H3, I3, r3, k, e, q3⟩ => ?_)) hm
 subst e
 cases r3
 refine wpAny_truthy_bool ?_
 cases k with
 | false => exact ite_ff ⟨.bl false, H3, I3, rfl, q3⟩
 | true => exact ite_tt (chain_last (thn (hc pins s3 σ H3 _ I3 q3) fun w' s4 ⟨z', H4, I4, r4, q4⟩ => ho' pins s4 σ H4 y z' u w' Q I4 r2 r4 q4))
theorem line63 : (sizeLine : Nat) < 2 ^ 63 := by rw [sizeLine_eq]; decide
theorem vals1 {x : V} {us : List Value} (r : jk_ [x] us) : ∃ u, us = [u] /\ jq_ x u := by
 cases r with
 | cons r1 r2 => cases r2; exact ⟨_, rfl, r1⟩
end
end L2
namespace L2
open PySem PySem.Spec PyProof.Rows
structure ObjM (h : Heap) (x dx C : Addr) (mA : Str -> Option Value) : Prop where
 obj : h.get? x = some (PySem.W.instObj C dx)
 ns : h.Ns1 dx mA
 ne : dx ≠ x
theorem lookIn_ns {h : Heap} {dx : Addr} {mA : Str -> Option Value} (n : h.Ns1 dx mA) : ∃ od, h.get? dx = some od /\ ∀ name, PySem.W.lookIn name od = some (mA name) := by
 obtain ⟨o, es, ep, ho, hd, hk, _, hm⟩ := n
 refine ⟨o, ho, fun name => ?_⟩
 have e := hm name
 unfold nsFind findBy at e
 rw [<- Array.find?_toList] at e
 unfold PySem.W.lookIn
 rw [hd]
 dsimp only
 split
 ·rename_i y q
  rw [q] at e
  exact congrArg some e
 ·rename_i q
  rw [q] at e
  have a : es.toList.any (·.refKey) = false := by
   rw [List.any_eq_false]
   intro y hy
   obtain ⟨z, t, hkey⟩ := hk y (Array.mem_toList_iff.mp hy)
   simp [DictEntry.refKey, hkey]
  have a' : ¬ es.toList.any (·.refKey) = true := by rw [a]; exact Bool.false_ne_true
  rw [if_neg a']
  exact congrArg some e
theorem ObjM.look {h : Heap} {x dx C : Addr} {mA : Str -> Option Value} (I : ObjM h x dx C mA) : ∃ od, PySem.W.InstAt h x (PySem.W.instObj C dx) C (some od) /\ ∀ name, PySem.W.lookIn name od = some (mA name) :=
 let ⟨od, ho, hl⟩ := lookIn_ns I.ns
 ⟨od, ⟨I.obj, rfl, rfl, ho⟩, hl⟩
section
variable {prog : Program} {w : World} {A : Around} {E : Value -> Shared -> Prop} {s : Shared} {K : PySem.W.Frag} {x dx C f : Addr} {mA : Str -> Option Value} {name : Str} {v : Value}
theorem get_map {expr : Bool} {Q : Value -> Shared -> Prop} (X : K.In s.heap) (I : ObjM s.heap x dx C mA) (hg : PySem.W.plainGet K C name = true) (hh : PySem.W.hasDictIn K C = true)
  (ha : PySem.W.findIn K (.ref C) name = some none) (hv : mA name = some v) (hv' : PySem.W.handedIn v = true) (h : Q v { s with toks := s.toks + 1 }) :
  wpAny (model prog w) A (getAttr (.ref x) name expr) Q E s := by
 obtain ⟨od, J, hl⟩ := I.look
 exact PySem.W.get_value X J (PySem.W.plainGet_of hg).1 (PySem.W.findObj_own hh ha rfl (by rw [hl, hv])) hv' h
theorem set_map {ns : List Str} {Q : Unit -> Shared -> Prop} (X : K.In s.heap) (I : ObjM s.heap x dx C mA)
  (hs : PySem.W.findIn K (.ref C) "__setattr__" = some (some (.builtin "object.__setattr__"))) (hp : PySem.W.plainOver K C = true) (ht : PySem.W.takerIn K C name = some none) (hh : PySem.W.hasDictIn K C = true)
  (hw : PySem.Within mA ns) (hsz : ns.length <= sizeLine)
  (h : ∀ h', ObjM h' x dx C (fun y => if y = name then some v else mA y) -> Heap.SameBut dx s.heap h' -> Q () { s with heap := h', toks := s.toks + 2 }) :
  wpAny (model prog w) A (setAttr (.ref x) name v) Q E s := by
 obtain ⟨od, J, hl⟩ := I.look
 refine PySem.W.set_plain X J hs (PySem.W.osa_open (s := { s with toks := s.toks + 1 }) (r := none) X J hp ht fun b => ?_)
 obtain ⟨cd, hc, hd'⟩ := PySem.W.any_some hh
 have hx : s.heap.get? x = some ⟨.ref C, some dx, .plain, #[]⟩ := I.obj
 refine wpAny_bind (wpAny_pure (wpAny_bind (wpAny_bind (wpAny_loadPart hx (wpAny_bind (PySem.W.Looks.here (s := { s with toks := s.toks + 1 }) (PySem.W.looks_clsIn X hc) ?_))))))
 rw [hd']
 refine wpAny_pure (a := some dx) (wpAny_bind (wpAny_pure (wpAny_bind ?_)))
 refine wpAny_nsSet1 (s := { s with toks := s.toks + 1 }) I.ns fun h' hn2 hs2 => ?_
 obtain ⟨oD, esD, epD, hoD, hdD, hcD⟩ := hn2.count (PySem.Within.cons name v hw)
 refine wpAny_bind (wpAny_lookBehind hoD (by rw [hdD]; exact pastItsLine_dict (Nat.le_trans hcD (by rw [List.length_cons]; omega))) ?_)
 exact wpAny_pure (h _ ⟨(hs2.2 _ (Ne.symm I.ne)).trans I.obj, hn2, I.ne⟩ hs2)
theorem make_map {R : Result -> Shared -> Prop} {vs : List Value} {kw : List (Str × Value)} (X : K.In s.heap) (hm : PySem.W.makesIn K C = true)
  (hi : PySem.W.findIn K (.ref C) "__init__" = some (some (.ref f))) (hf : PySem.W.typeIn K (.ref f) = some (.type "function"))
  (h : codeAny (model prog w) (A.under (.builtin "type.__call__" ⟨.ref C :: vs, kw⟩)) (.call (.ref f) ⟨.ref (s.heap.objs.size + 1) :: vs, kw⟩) (PySem.W.InitBack (s.heap.objs.size + 1) R)
   { s with heap := (s.heap.push PySem.W.emptyDict).push (PySem.W.instObj C s.heap.objs.size) }) :
  codeAny (model prog w) A (.call (.ref C) ⟨vs, kw⟩) R s := by
 obtain ⟨hh, g, d, t, os⟩ := s
 exact PySem.W.make_core (PySem.W.makes_of X hm) (PySem.W.looks_findIn X hi) (fun self => PySem.W.bind_fn X self hf) (.inl rfl) h
end
def putF (f : Str) (v : V) : List (Str × V) -> List (Str × V)
 | [] => [(f, v)]
 | (g, x) :: r => if g = f then (g, v) :: r else (g, x) :: putF f v r
theorem lookup_putF (f g : Str) (v : V) : ∀ fs : List (Str × V), (putF f v fs).lookup g = if g = f then some v else fs.lookup g
 | [] => by
  show List.lookup g [(f, v)] = _
  by_cases h : g = f
  ·have hb : (g == f) = true := beq_iff_eq.mpr h
   simp only [List.lookup, hb, if_pos h]
  ·have hb : (g == f) = false := beq_eq_false_iff_ne.mpr h
   simp only [List.lookup, hb, if_neg h]
 | (k, x) :: r => by
  have ih := lookup_putF f g v r
  rw [show putF f v ((k, x) :: r) = (if k = f then (k, v) :: r else (k, x) :: putF f v r) from rfl]
  by_cases hk : k = f
  ·rw [if_pos hk]
   by_cases h : g = k
   ·have hb : (g == k) = true := beq_iff_eq.mpr h
    simp only [List.lookup, hb, if_pos (h.trans hk)]
   ·have hb : (g == k) = false := beq_eq_false_iff_ne.mpr h
    simp only [List.lookup, hb, if_neg (fun e : g = f => h (e.trans hk.symm))]
  ·rw [if_neg hk]
   by_cases h : g = k
   ·have hb : (g == k) = true := beq_iff_eq.mpr h
    simp only [List.lookup, hb, if_neg (fun e : g = f => hk (h.symm.trans e))]
   ·have hb : (g == k) = false := beq_eq_false_iff_ne.mpr h
    simp only [List.lookup, hb]
    exact ih
theorem keys_putF (f : Str) (v : V) : ∀ fs : List (Str × V), f ∈ (putF f v fs).map (·.1) /\ ∀ g, g ∈ fs.map (·.1) -> g ∈ (putF f v fs).map (·.1)
 | [] => ⟨by simp [putF], fun g h => by simp at h⟩
 | (k, x) :: r => by
  obtain ⟨i1, i2⟩ := keys_putF f v r
  rw [show putF f v ((k, x) :: r) = (if k = f then (k, v) :: r else (k, x) :: putF f v r) from rfl]
  by_cases hk : k = f
  ·rw [if_pos hk]
   subst hk
   exact ⟨by simp, fun g h => by simpa using h⟩
  ·rw [if_neg hk]
   refine ⟨?_, fun g h => ?_⟩
   ·rw [List.map_cons]
    exact List.mem_cons_of_mem _ i1
   ·rw [List.map_cons] at h ⊢
    rcases List.mem_cons.mp h with e | e
    ·exact List.mem_cons.mpr (.inl e)
    ·exact List.mem_cons_of_mem _ (i2 g e)
theorem jg_ (f : Str) (v : V) : ∀ fs : List (Str × V), (putF f v fs).length <= fs.length + 1
 | [] => by simp [putF]
 | (k, x) :: r => by
  have ih := jg_ f v r
  rw [show putF f v ((k, x) :: r) = (if k = f then (k, v) :: r else (k, x) :: putF f v r) from rfl]
  by_cases hk : k = f
  ·rw [if_pos hk, List.length_cons, List.length_cons]; omega
  ·rw [if_neg hk, List.length_cons, List.length_cons]; omega
theorem RelO.some_of {v : V} {o : Option Value} (r : RelO (some v) o) : ∃ u, o = some u /\ jq_ v u := by
 cases o with
 | none => exact (show False from r).elim
 | some u => exact ⟨u, rfl, r⟩
theorem handed_of {v : V} {u : Value} (r : jq_ v u) : PySem.W.handedIn u = true := by
 cases v with
 | non => cases (show u = Value.none from r); rfl
 | bl b => cases (show u = Value.bool b from r); rfl
 | int i => obtain ⟨t, e⟩ := (show ∃ t, u = Value.int i t from r); cases e; rfl
 | str x => obtain ⟨t, e⟩ := (show ∃ t, u = Value.str x t from r); cases e; rfl
 | byt b => obtain ⟨t, e⟩ := (show ∃ t, u = Value.bytes b t from r); cases e; rfl
 | flt b => obtain ⟨t, e⟩ := (show ∃ t, u = Value.float b t from r); cases e; rfl
 | ref a => cases (show u = Value.ref a from r); rfl
 | ty n => cases (show u = Value.type n from r); rfl
section
variable {P : Program} {w : World} {H H' : Hp} {h h' : Heap} {a C dx : Addr} {fs fs' : List (Str × V)}
theorem ins_get (hok : HOk P w H h) (e : H a = some (.ins C dx fs)) : ∃ mA, ObjM h a dx C mA /\ (∀ f, RelO (fs.lookup f) (mA f)) /\ PySem.Within mA (fs.map (·.1)) /\ fs.length <= 1000 /\ H dx = some (.own a) := by
 obtain ⟨d, z, ne, ob, mA, n, r, q⟩ := (show yg_ P w H h a (.ins C dx fs) from hok a _ e)
 exact ⟨mA, ⟨ob, n, ne⟩, r, q, z, d⟩
end
structure Cls (K : PySem.W.Frag) (C : Addr) : Prop where
 pg : PySem.W.plainGet K C Str.empty = true
 hd : PySem.W.hasDictIn K C = true
 po : PySem.W.plainOver K C = true
 sa : PySem.W.findIn K (.ref C) "__setattr__" = some (some (.builtin "object.__setattr__"))
theorem Cls.get {K : PySem.W.Frag} {C : Addr} (c : Cls K C) (f : Str) : PySem.W.plainGet K C f = true := c.pg
def yo_ (K : PySem.W.Frag) (C : Addr) (f : Str) : Prop := PySem.W.findIn K (.ref C) f = some none
theorem yo_.taker {K : PySem.W.Frag} {C : Addr} {f : Str} (n : yo_ K C f) : PySem.W.takerIn K C f = some none := by
 unfold PySem.W.takerIn
 rw [show PySem.W.findIn K (.ref C) f = some none from n]
 rfl
structure Meth (K : PySem.W.Frag) (C : Addr) (m : Str) (f : Addr) : Prop where
 at_ : PySem.W.findIn K (.ref C) m = some (some (.ref f))
 fn : PySem.W.isFn K (.ref f) = true
 kp : PySem.W.keepIn K (.ref f) = true
section
variable {X : Cx} {pins : List (Addr × Obj)} {σ : St} {H : Hp} {s : Shared} {a C dx : Addr} {fs : List (Str × V)} {f : Str} {v : V} {A : Around} {E : Value -> Shared -> Prop}
theorem getattr_ok {b : Bool} {Q : Value -> Shared -> Prop} (I : Inv X pins σ H s) (e : H a = some (.ins C dx fs)) (c : Cls X.K C) (n : yo_ X.K C f) (l : fs.lookup f = some v)
  (h : ∀ u s', Inv X pins σ H s' -> jq_ v u -> Q u s') : wpAny (model X.prog X.w) A (getAttr (.ref a) f b) Q E s := by
 obtain ⟨mA, O, r, _, _, _⟩ := ins_get I.hok e
 obtain ⟨u, hu, ru⟩ := RelO.some_of (v := v) (o := mA f) (by rw [<- l]; exact r f)
 exact get_map I.kIn O (c.get f) c.hd n hu (handed_of ru) (h u _ (I.tok _) ru)
theorem setattr_ok {y : V} {u : Value} {Q : Unit -> Shared -> Prop} (I : Inv X pins σ H s) (e : H a = some (.ins C dx fs)) (c : Cls X.K C) (n : yo_ X.K C f) (hl : fs.length < 1000) (ry : jq_ y u)
  (h : ∀ s', Inv X pins σ (upd H a (.ins C dx (putF f y fs))) s' -> Q () s') : wpAny (model X.prog X.w) A (setAttr (.ref a) f u) Q E s := by
 obtain ⟨mA, O, r, wi, _, ho⟩ := ins_get I.hok e
 have hz : (fs.map (·.1)).length <= sizeLine := by rw [List.length_map, sizeLine_eq]; omega
 refine set_map I.kIn O c.sa c.po n.taker c.hd wi hz fun h' O' sb => h _ ?_
 have hd : ∃ o, h'.get? dx = some o := let ⟨o, _, _, e', _⟩ := O'.ns; ⟨o, e'⟩
 refine I.write (x := a) (e := dx) (by rw [e]; exact True.intro) (.inr ho) (fun b q hb z => (sb.2 b hb).trans z) hd ?_
 refine ⟨by rw [ja_ O.ne]; exact ho, ?_, O.ne, O'.obj, _, O'.ns, fun g => ?_, fun g hg => ?_⟩
 ·have := jg_ f y fs; omega
 ·show RelO ((putF f y fs).lookup g) (if g = f then some u else mA g)
  rw [lookup_putF]
  by_cases q : g = f
  ·rw [if_pos q, if_pos q]; exact ry
  ·rw [if_neg q, if_neg q]; exact r g
 ·by_cases q : g = f
  ·rw [q]; exact (keys_putF f y fs).1
  ·refine (keys_putF f y fs).2 g (wi g fun z => hg ?_)
   show (if g = f then some u else mA g) = none
   rw [if_neg q]; exact z
theorem Inv.made (I : Inv X pins σ H s) : Inv X pins σ (upd (upd H s.heap.objs.size (.own (s.heap.objs.size + 1))) (s.heap.objs.size + 1) (.ins C s.heap.objs.size []))
  { s with heap := (s.heap.push PySem.W.emptyDict).push (PySem.W.instObj C s.heap.objs.size) } := by
 have e1 : (s.heap.push PySem.W.emptyDict).get? s.heap.objs.size = some PySem.W.emptyDict := Heap.get?_push_size s.heap rfl
 have e2 : ((s.heap.push PySem.W.emptyDict).push (PySem.W.instObj C s.heap.objs.size)).get? (s.heap.objs.size + 1) = some (PySem.W.instObj C s.heap.objs.size) := by
  have := Heap.get?_push_size (s.heap.push PySem.W.emptyDict) (o := PySem.W.instObj C s.heap.objs.size) rfl
  rwa [Heap.size_push] at this
 have e3 : (s.heap.push PySem.W.emptyDict).Ns s.heap.objs.size (fun _ => none) := ⟨PySem.W.emptyDict, #[], _, e1, rfl, (fun e he => absurd he (by simp)), fun _ => rfl⟩
 have I1 := I.laid (a := s.heap.objs.size) (o := .own (s.heap.objs.size + 1)) (h' := s.heap.push PySem.W.emptyDict) (t' := s.toks) (fun b u q => Heap.get?_push_of_some _ q) (Nat.le_refl _) ⟨_, e1⟩
 refine I1.laid (a := s.heap.objs.size + 1) (o := .ins C s.heap.objs.size []) (t' := s.toks) (fun b u q => Heap.get?_push_of_some _ q) (Nat.le_of_eq (Heap.size_push _ _)) ?_
 have ne : s.heap.objs.size ≠ s.heap.objs.size + 1 := Nat.ne_of_lt (Nat.lt_succ_self _)
 refine ⟨by rw [ja_ ne, j3_], Nat.zero_le _, ne, e2, fun _ => none, (Heap.Ns1.of_empty e3).at fun o q => Heap.get?_push_of_some _ q, fun _ => True.intro, fun y hy => absurd rfl hy⟩
theorem attr_of {prog : Program} {w : World} {env : Env} {e : Expr} {f : Str} {pos : Pos} {s : Shared} {Q : Value -> Shared -> Prop} (hb : attributeBase e f env (eval e env) = eval e env)
  (h : wpAny (model prog w) A (eval e env) (fun o s₁ => wpAny (model prog w) A (getAttr o f true) Q E s₁) E s) : wpAny (model prog w) A (eval (.Attribute e f pos) env) Q E s :=
 Attribute_any_ h (by rw [arm_eval_Attribute, hb])
end
def tFld (K : PySem.W.Frag) (ta : TE) (f : Str) : TE := fun σ H Q => ta σ H fun x H1 => ∃ a C dx fs v, x = .ref a /\ H1 a = some (.ins C dx fs) /\ Cls K C /\ yo_ K C f /\ fs.lookup f = some v /\ Q v H1
def sFld (K : PySem.W.Frag) (ta tv : TE) (f : Str) : TS := fun D σ H => tv σ H fun y H1 => ta σ H1 fun x H2 => ∃ a C dx fs, x = .ref a /\ H2 a = some (.ins C dx fs) /\ Cls K C /\ yo_ K C f /\ fs.length < 1000 /\
 D.nx σ (upd H2 a (.ins C dx (putF f y fs)))
section
variable {X : Cx} {o e value : Expr} {f : Str} {pos pos' tpos : Pos} {ta tv : TE}
theorem pe_fld (he : PE X e ta) (hb : attributeBase e f X.env (eval e X.env) = eval e X.env) : PE X (.Attribute e f pos) (tFld X.K ta f) := by
 intro pins s σ H Q I h
 refine attr_of hb (thn (he pins s σ H _ I h) fun u s1 ⟨x, H1, I1, rx, a, C, dx, fs, v, ex, ea, c, n, l, q⟩ => ?_)
 subst ex
 obtain rfl : u = Value.ref a := rx
 exact getattr_ok I1 ea c n l fun u' s2 I2 ru => ⟨v, H1, I2, ru, q⟩
theorem ps_fld (ha : PE X o ta) (hv : PE X value tv) (hs : swapsWith value (some (.Attribute o f pos')) pos.line X.env = pure false) : PS X (.Assign [.Attribute o f pos'] value pos) (sFld X.K ta tv f) := by
 intro pins s σ H D I h
 refine plainObj_wpAny_Assign_Attribute (thn (hv pins s σ H _ I h) fun u s1 ⟨y, H1, I1, ry, q⟩ => thn (ha pins s1 σ H1 _ I1 q) fun ov s2 ⟨x, H2, I2, rx, a, C, dx, fs, ex, ea, c, n, l, q2⟩ => ?_) hs
 subst ex
 obtain rfl : ov = Value.ref a := rx
 exact setattr_ok I2 ea c n l ry fun s3 I3 => ⟨σ, _, I3, q2⟩
end
end L2
namespace L2
open PySem PySem.Spec PyProof.Rows
structure Room (k : Nat) (A : Around) : Prop where
 hd : A.handled = none
 dp : A.depth + 3 * k + 5 < recursionLimit
 un : A.units + 16 * k + 200 < cLine
theorem Room.mono {j k : Nat} {A : Around} (r : Room k A) (h : j <= k) : Room j A := ⟨r.hd, by have := r.dp; omega, by have := r.un; omega⟩
theorem Room.deeper {k : Nat} {A : Around} (r : Room (k + 1) A) (env : Env) : Room k (A.deeper env) :=
 ⟨r.hd, by have := r.dp; show A.depth + 1 + 3 * k + 5 < _; omega, by have := r.un; show A.units + 3 + 16 * k + 200 < _; omega⟩
theorem make_depth {A : Around} {C : Addr} {us : List Value} {kw : List (Str × Value)} : (A.under (.builtin "type.__call__" ⟨.ref C :: us, kw⟩)).depth = A.depth + 1 := by
 first | rfl | simp [Around.under, Code.weight, Code.isCreation, Code.isGuard, Code.isCaller, Code.frames, Code.isFrame, guardIds]
theorem make_units {A : Around} {C : Addr} {us : List Value} {kw : List (Str × Value)} : (A.under (.builtin "type.__call__" ⟨.ref C :: us, kw⟩)).units = A.units + 1 := by
 first | rfl | simp [Around.under, Code.cUnits, Code.frames, Code.isFrame]
theorem Room.make {k : Nat} {A : Around} (r : Room (k + 1) A) (C : Addr) (us : List Value) (kw : List (Str × Value)) : Room k (A.under (.builtin "type.__call__" ⟨.ref C :: us, kw⟩)) :=
 ⟨r.hd, by have := r.dp; rw [make_depth]; omega, by have := r.un; rw [make_units]; omega⟩
theorem Room.depth {k : Nat} {A : Around} (r : Room k A) : A.depth < recursionLimit := by have := r.dp; omega
theorem Room.units {k : Nat} {A : Around} (r : Room k A) : A.units + 64 < cLine := by have := r.un; omega
def tNil : TA := fun _ H Q => Q [] H
def tCons (ta : TE) (tr : TA) : TA := fun σ H Q => ta σ H fun x H1 => tr σ H1 fun xs H2 => Q (x :: xs) H2
section
variable {X : Cx} {e : Expr} {es : List Expr} {te : TE} {t : TA} {pos : Pos}
theorem j7_ : PA X [] tNil := fun _ _ _ _ H Q I h => Calls.spliced_nil ⟨[], H, I, .nil, h⟩
theorem j0_ (ha : PE X e te) (hr : PA X es t) (hs : starEach (e :: es) X.env = (false, eval e X.env) :: starEach es X.env := by rfl) : PA X (e :: es) (tCons te t) := by
 intro pos pins s σ H Q I h
 rw [hs]
 show wpAny _ _ (spliced ((false, eval e X.env) :: backTo pos (starEach es X.env))) _ _ s
 refine Calls.spliced_cons (thn (ha pins s σ H _ I h) fun u s1 ⟨x, H1, I1, r1, q1⟩ => ?_)
 exact thn (hr pos pins s1 σ H1 _ I1 q1) fun us s2 ⟨xs, H2, I2, r2, q2⟩ => ⟨x :: xs, H2, I2, .cons r1 r2, q2⟩
def tLst (t : TA) : TE := fun σ H Q => t σ H fun xs H1 => xs.length <= sizeLine /\ ∀ p, H1 p = none -> Q (.ref p) (upd H1 p (.lst xs))
theorem pe_lst (h : PA X es t) : PE X (.List es pos) (tLst t) := by
 intro pins s σ H Q I hq
 refine wpAny_List_spliced (thn (h pos pins s σ H _ I hq) fun us s1 ⟨xs, H1, I1, r, z, q⟩ => ⟨by rw [<- r.length]; exact z, ?_⟩)
 have hf : H1 s1.heap.objs.size = none := I1.hok.fresh (Nat.le_refl _)
 refine ⟨.ref s1.heap.objs.size, upd H1 s1.heap.objs.size (.lst xs), I1.laid (t' := s1.toks) (fun b u e => Heap.get?_push_of_some _ e) (Nat.le_refl _) ?_, rfl, q _ hf⟩
 exact ⟨z, us, 0, r, Heap.get?_push_size _ rfl⟩
end
abbrev Sp := List V -> Hp -> VK -> XK -> Prop
abbrev CXT := List Env -> Hp -> Shared -> XK -> Value -> Shared -> Prop
structure Env0 (P : Program) (w : World) (K : PySem.W.Frag) (mg : Str -> Option Value) (base : Heap) (A : Around) (outer : List Env) (s : Shared) (H : Hp) : Prop where
 frames : A.frames = some outer
 mod : Mod K mg base
 bs : ∀ b o, base.get? b = some o -> s.heap.get? b = some o /\ H b = none
 bsz : base.objs.size <= s.heap.objs.size
 funs : s.heap.FunFrames base outer
 frf : ∀ b ∈ frs outer, H b = none
 hok : HOk P w H s.heap
 bare : AllBare s.gens
def CE (outer : List Env) (P : Program) (w : World) (H : Hp) (s : Shared) (Q : VK) (u : Value) (s' : Shared) : Prop :=
 ∃ v H', s'.os = s.os /\ AllBare s'.gens /\ Un (frs outer) [] H H' s.heap s'.heap /\ HOk P w H' s'.heap /\ jq_ v u /\ Q v H'
def CR (CX : CXT) (outer : List Env) (P : Program) (w : World) (H : Hp) (s : Shared) (Q : VK) (E : XK) (r : Result) (s' : Shared) : Prop :=
 match r with
 | .ok (.ret u) => CE outer P w H s Q u s'
 | .ok _ => False
 | .error e => CX outer H s E e s'
structure FnOk (P : Program) (w : World) (K : PySem.W.Frag) (mg : Str -> Option Value) (base : Heap) (CX : CXT) (k : Nat) (f : Addr) (fd : FuncData) (ps : List Str) (sp : Sp) : Prop where
 len : ∀ vs H Q E, sp vs H Q E -> vs.length = ps.length
 run : ∀ (A : Around) (outer : List Env) (s : Shared) (H : Hp) (args : Args) (us : List Value) (vs : List V) (Q : VK) (E : XK), Room k A -> Env0 P w K mg base A outer s H -> BindsTo s fd args (ps.zip us) -> jk_ vs us -> sp vs H Q E ->
  codeAny (model P w) A (.call (.ref f) args) (CR CX outer P w H s Q E) s
theorem Env0.make {P : Program} {w : World} {K : PySem.W.Frag} {mg : Str -> Option Value} {base : Heap} {A : Around} {outer : List Env} {s : Shared} {H : Hp} (e : Env0 P w K mg base A outer s H) (C : Addr) (us : List Value) (kw : List (Str × Value)) :
  Env0 P w K mg base (A.under (.builtin "type.__call__" ⟨.ref C :: us, kw⟩)) outer s H := ⟨by first | exact e.frames | (simpa [Around.under, Code.envs, Code.isFrame, pushEnvs] using e.frames), e.mod, e.bs, e.bsz, e.funs, e.frf, e.hok, e.bare⟩
section
variable {X : Cx} {pins : List (Addr × Obj)} {σ : St} {H : Hp} {s s' : Shared}
theorem Inv.env0 (I : Inv X pins σ H s) : Env0 X.prog X.w X.K X.mg X.base X.A X.stack s H :=
 ⟨I.ok.frames, I.ok.mod, I.bs, Nat.le_trans I.ok.bsz I.sz, I.stack, I.stkFree, I.hok, I.bare⟩
theorem Inv.after {Q : VK} {u : Value} (I : Inv X pins σ H s) (h : CE X.stack X.prog X.w H s Q u s') : EP X pins σ Q u s' := by
 obtain ⟨v, H', os, bare, un, hok, r, q⟩ := h
 obtain ⟨hh, g, d, t, os'⟩ := s'
 obtain rfl : os' = s.os := os
 exact ⟨v, H', I.call (h' := hh) (g' := g) (d' := d) (t' := t) (ch := []) un hok bare (fun b z => absurd z (by simp)), r, q⟩
end
def tCall (sp : Sp) (dvs : List V) (E : XK) (t : TA) : TE := fun σ H Q => t σ H fun vs H1 => sp (vs ++ dvs) H1 Q E
def tMake (C : Addr) (sp : Sp) (dvs : List V) (E : XK) (t : TA) : TE := fun σ H Q => t σ H fun vs H1 => ∀ x dx, H1 x = none -> H1 dx = none -> dx ≠ x ->
 sp (.ref x :: (vs ++ dvs)) (upd (upd H1 dx (.own x)) x (.ins C dx [])) (fun v H2 => v = .non /\ Q (.ref x) H2) E
def jz_ (K : PySem.W.Frag) (fd : FuncData) (ps : List Str) (ds : List Value) : Prop :=
 ∀ (s : Shared) (us : List Value), K.In s.heap -> (us ++ ds).length = ps.length -> BindsTo s fd ⟨us, []⟩ (ps.zip (us ++ ds))
theorem jz_.all {K : PySem.W.Frag} {fd : FuncData} {ps : List Str} (h : ∀ us : List Value, us.length = ps.length -> bindArgs fd ⟨us, []⟩ = pure (ps.zip us)) : jz_ K fd ps [] := fun s us _ hl => by
 rw [List.append_nil] at hl ⊢
 exact .of_eq (h us hl)
def Passes (CX : CXT) (X : Cx) (E : XK) : Prop := ∀ (pins : List (Addr × Obj)) (σ : St) (H : Hp) (s : Shared) (e : Value) (s' : Shared), Inv X pins σ H s -> CX X.stack H s E e s' -> X.xe e s'
section
variable {X : Cx} {CX : CXT} {k : Nat} {f C : Addr} {fd : FuncData} {ps : List Str} {sp : Sp} {dvs : List V} {ds : List Value} {E : XK} {x m : Str} {p pos apos : Pos} {e o : Expr} {es : List Expr} {ta : TE} {t : TA}
theorem run_fn {pins : List (Addr × Obj)} {σ : St} {H : Hp} {s : Shared} {Q : VK} {us : List Value} {vs : List V} (F : FnOk X.prog X.w X.K X.mg X.base CX k f fd ps sp) (hr : Room k X.A) (hb : jz_ X.K fd ps ds) (hd : jk_ dvs ds) (hx : Passes CX X E)
  (I : Inv X pins σ H s) (r : jk_ vs us) (h : sp (vs ++ dvs) H Q E) : wpAny (model X.prog X.w) X.A (call (.ref f) us) (EP X pins σ Q) X.xe s := by
 have r2 : jk_ (vs ++ dvs) (us ++ ds) := r.append hd
 have hl : (us ++ ds).length = ps.length := by rw [<- r2.length]; exact F.len _ _ _ _ h
 refine wpAny_call (codeAny_mono (F.run X.A X.stack s H ⟨us, []⟩ (us ++ ds) (vs ++ dvs) Q E hr I.env0 (hb s us I.kIn hl) r2 h) fun r s' hq => ?_)
 cases r with
 | error e => exact hx pins σ H s e s' I hq
 | ok fl =>
  cases fl with
  | ret u => exact I.after hq
  | next => exact False.elim hq
  | brk => exact False.elim hq
  | cont => exact False.elim hq
theorem jh_ (F : FnOk X.prog X.w X.K X.mg X.base CX k f fd ps sp) (hr : Room k X.A) (hg : Gl X x) (hm : X.mg x = some (.ref f)) (hk : PySem.W.keepIn X.K (.ref f) = true) (hb : jz_ X.K fd ps ds) (hd : jk_ dvs ds) (hx : Passes CX X E)
  (ha : PA X (e :: es) t) (hdb : (x == ("__debug__" : Str)) = false := by decide) (he : starEach (e :: es) X.env = (false, eval e X.env) :: starEach es X.env := by rfl) (hpl : (backTo pos (starEach es X.env)).any (·.1) = false := by rfl) :
  PE X (.Call (.Name x p) (e :: es) [] pos) (tCall sp dvs E t) := by
 intro pins s σ H Q I h
 refine wpAny_Call_Name_kw (ld_glob I hg hm ?_ hdb)
 refine PySem.W.callWith_K (h₀ := X.base) I.ok.mod.kin hk (thn (ha pos pins s σ H _ I h) fun us s1 ⟨vs, H1, I1, r, q⟩ => ⟨I1.kIn, ?_⟩) he hpl
 exact run_fn F hr hb hd hx I1 r q
structure Mk (K : PySem.W.Frag) (C f : Addr) : Prop where
 makes : PySem.W.makesIn K C = true
 init : PySem.W.findIn K (.ref C) "__init__" = some (some (.ref f))
 fn : PySem.W.isFn K (.ref f) = true
 kp : PySem.W.keepIn K (.ref C) = true
theorem run_make {pins : List (Addr × Obj)} {σ : St} {H : Hp} {s : Shared} {Q : VK} {us : List Value} {vs : List V} (M : Mk X.K C f) (F : FnOk X.prog X.w X.K X.mg X.base CX k f fd ps sp) (hr : Room (k + 1) X.A) (hb : jz_ X.K fd ps ds) (hd : jk_ dvs ds)
  (hx : Passes CX X E) (I : Inv X pins σ H s) (r : jk_ vs us)
  (h : ∀ x dx, H x = none -> H dx = none -> dx ≠ x -> sp (.ref x :: (vs ++ dvs)) (upd (upd H dx (.own x)) x (.ins C dx [])) (fun v H2 => v = .non /\ Q (.ref x) H2) E) :
  wpAny (model X.prog X.w) X.A (call (.ref C) us) (EP X pins σ Q) X.xe s := by
 have hq := h (s.heap.objs.size + 1) s.heap.objs.size (I.hok.fresh (Nat.le_succ _)) (I.hok.fresh (Nat.le_refl _)) (Nat.ne_of_lt (Nat.lt_succ_self _))
 have I2 := Inv.made (C := C) I
 have r2 : jk_ (V.ref (s.heap.objs.size + 1) :: (vs ++ dvs)) (Value.ref (s.heap.objs.size + 1) :: (us ++ ds)) := .cons rfl (r.append hd)
 have hl : (Value.ref (s.heap.objs.size + 1) :: us ++ ds).length = ps.length := by
  have e := r2.length
  rw [F.len _ _ _ _ hq] at e
  exact e.symm
 refine wpAny_call (make_map (f := f) I.kIn M.makes M.init (beq_iff_eq.mp M.fn) (codeAny_mono (F.run _ X.stack _ _ ⟨Value.ref (s.heap.objs.size + 1) :: us, []⟩ (Value.ref (s.heap.objs.size + 1) :: (us ++ ds)) _ _ E (hr.make C us [])
  (I2.env0.make C us []) (hb _ (Value.ref (s.heap.objs.size + 1) :: us) I2.kIn hl) r2 hq) fun r s' hq' => ?_))
 cases r with
 | error e => exact hx pins σ _ _ e s' I2 hq'
 | ok fl =>
  cases fl with
  | ret u =>
   obtain ⟨v, H', I3, rv, ev, q3⟩ := I2.after hq'
   subst ev
   exact ⟨rv, ⟨V.ref (s.heap.objs.size + 1), H', I3, rfl, q3⟩⟩
  | next => exact False.elim hq'
  | brk => exact False.elim hq'
  | cont => exact False.elim hq'
theorem pe_make (M : Mk X.K C f) (F : FnOk X.prog X.w X.K X.mg X.base CX k f fd ps sp) (hr : Room (k + 1) X.A) (hg : Gl X x) (hm : X.mg x = some (.ref C)) (hb : jz_ X.K fd ps ds) (hd : jk_ dvs ds) (hx : Passes CX X E)
  (ha : PA X (e :: es) t) (hdb : (x == ("__debug__" : Str)) = false := by decide) (he : starEach (e :: es) X.env = (false, eval e X.env) :: starEach es X.env := by rfl) (hpl : (backTo pos (starEach es X.env)).any (·.1) = false := by rfl) :
  PE X (.Call (.Name x p) (e :: es) [] pos) (tMake C sp dvs E t) := by
 intro pins s σ H Q I h
 refine wpAny_Call_Name_kw (ld_glob I hg hm ?_ hdb)
 refine PySem.W.callWith_K (h₀ := X.base) I.ok.mod.kin M.kp (thn (ha pos pins s σ H _ I h) fun us s1 ⟨vs, H1, I1, r, q⟩ => ⟨I1.kIn, ?_⟩) he hpl
 exact run_make M F hr hb hd hx I1 r q
end
structure ji_ (N P : List Str) (sc : Scope) : Prop where
 kind : sc.kind = .function
 co : sc.isCoroutine = false
 gen : sc.isGenerator = false
 nd : N.Nodup
 pre : N.take P.length = P
 par : ∀ x ∈ P, sc.names.lookup x = some .local \/ sc.names.lookup x = some .cell
 nofree : ∀ y ∈ sc.names, y.2 ≠ .free
theorem bindL_out {kindOf : Str -> Option NameKind} {x : Str} : ∀ {binds : List (Str × Value)} {m : Str -> Option Value}, (∀ v, (x, v) ∉ binds) -> bindL kindOf binds m x = m x
 | [], _, _ => rfl
 | (n, v) :: r, m, h => by
  unfold bindL
  rw [bindL_out fun w hw => h w (List.mem_cons_of_mem _ hw)]
  split
  ·have : x ≠ n := by rintro rfl; exact h v List.mem_cons_self
   simp [this]
  ·rfl
theorem bindC_out {kindOf : Str -> Option NameKind} {x : Str} : ∀ {binds : List (Str × Value)} {m : Str -> Option Value}, (∀ v, (x, v) ∉ binds) -> bindC kindOf binds m x = m x
 | [], _, _ => rfl
 | (n, v) :: r, m, h => by
  unfold bindC
  rw [bindC_out fun w hw => h w (List.mem_cons_of_mem _ hw)]
  split
  ·rfl
  ·have : x ≠ n := by rintro rfl; exact h v List.mem_cons_self
   simp [this]
theorem bindL_get {kindOf : Str -> Option NameKind} {x : Str} {v : Value} : ∀ {P : List Str} {vs : List Value} {i : Nat} {m : Str -> Option Value}, P.Nodup -> P[i]? = some x -> vs[i]? = some v -> kindOf x = some .local ->
  bindL kindOf (P.zip vs) m x = some v
 | [], _, _, _, _, h, _, _ => by simp at h
 | _ :: _, [], _, _, _, _, h, _ => by simp at h
 | p :: P, w :: vs, 0, m, nd, h1, h2, hk => by
  simp at h1 h2; subst h1; subst h2
  show bindL kindOf ((p, w) :: P.zip vs) m p = _
  unfold bindL
  rw [bindL_out fun v hv => (List.nodup_cons.mp nd).1 (List.of_mem_zip hv).1, if_pos hk]
  simp
 | p :: P, w :: vs, i + 1, m, nd, h1, h2, hk => by
  show bindL kindOf ((p, w) :: P.zip vs) m x = _
  unfold bindL
  exact bindL_get (i := i) (List.nodup_cons.mp nd).2 (by simpa using h1) (by simpa using h2) hk
theorem bindC_get {kindOf : Str -> Option NameKind} {x : Str} {v : Value} : ∀ {P : List Str} {vs : List Value} {i : Nat} {m : Str -> Option Value}, P.Nodup -> P[i]? = some x -> vs[i]? = some v -> kindOf x ≠ some .local ->
  bindC kindOf (P.zip vs) m x = some v
 | [], _, _, _, _, h, _, _ => by simp at h
 | _ :: _, [], _, _, _, _, h, _ => by simp at h
 | p :: P, w :: vs, 0, m, nd, h1, h2, hk => by
  simp at h1 h2; subst h1; subst h2
  show bindC kindOf ((p, w) :: P.zip vs) m p = _
  unfold bindC
  rw [bindC_out fun v hv => (List.nodup_cons.mp nd).1 (List.of_mem_zip hv).1, if_neg hk]
  simp
 | p :: P, w :: vs, i + 1, m, nd, h1, h2, hk => by
  show bindC kindOf ((p, w) :: P.zip vs) m x = _
  unfold bindC
  exact bindC_get (i := i) (List.nodup_cons.mp nd).2 (by simpa using h1) (by simpa using h2) hk
def start (N : List Str) (vs : List V) : St := vs.map some ++ List.replicate (N.length - vs.length) none
def cxOf (CX : CXT) (P : Program) (w : World) (K : PySem.W.Frag) (mg : Str -> Option Value) (base : Heap) (N : List Str) (qual : Str) (scope : Scope) (f : Addr) (cd : Value) (A : Around) (outer : List Env) (s : Shared) (H : Hp) (E : XK) : Cx where
 prog := P
 w := w
 K := K
 mg := mg
 base := base
 A := A.deeper (envOfC qual scope s.heap.objs.size f cd)
 N := N
 s_0 := s
 H_0 := H
 env := envOfC qual scope s.heap.objs.size f cd
 outer := outer
 stack := envOfC qual scope s.heap.objs.size f cd :: outer
 ex := []
 calm := true
 fn := fun _ => true
 pn := []
 xe := fun e s' => wpAny (model P w) (A.deeper (envOfC qual scope s.heap.objs.size f cd)) (leaving (envOfC qual scope s.heap.objs.size f cd) e) (fun _ s'' => CX outer H s E e s'') (fun e' s'' => CX outer H s E e' s'') s'
theorem cell_has {sc : Scope} {n : Nat} {x : Str} (h : sc.names.lookup x = some .cell) : ∃ c, (cellsFrom n sc.names []).lookup x = some c := by
 have q := PySem.W.cellsFrom_some sc.names n [] (.inl h)
 exact Option.isSome_iff_exists.mp q
theorem inv_start {CX : CXT} {P : Program} {w : World} {K : PySem.W.Frag} {mg : Str -> Option Value} {base : Heap} {N ps : List Str} {qual : Str} {scope : Scope} {f : Addr} {cd : Value} {A : Around} {outer : List Env} {s s1 : Shared} {H : Hp} {E : XK} {us : List Value} {vs : List V}
  (S : ji_ N ps scope) (hd : A.handled = none) (e0 : Env0 P w K mg base A outer s H) (hl : vs.length = ps.length) (r : jk_ vs us)
  (x : InCallC s s.heap.objs.size (bindL (envOfC qual scope s.heap.objs.size f cd).kindOf (ps.zip us) fun _ => none) (cellsFrom (s.heap.objs.size + 1) scope.names []) (bindC (envOfC qual scope s.heap.objs.size f cd).kindOf (ps.zip us) fun _ => none) s1) :
  Inv (cxOf CX P w K mg base N qual scope f cd A outer s H E) [] (start N vs) H s1 := by
 have hpl : ps.length <= N.length := by have := congrArg List.length S.pre; rw [List.length_take] at this; omega
 obtain ⟨h1, tk, rfl, hk⟩ := x.done
 have noA : ∀ b : Addr, b ∉ (cxOf CX P w K mg base N qual scope f cd A outer s H E).ex := fun b z => absurd (show b ∈ ([] : List Addr) from z) (by simp)
 refine ⟨⟨e0.mod, S.kind, rfl, rfl, Nat.le_refl _, fun y z c h1 h2 => ?_, fun y hy => ?_, fun y c _ h => ?_, fun _ => hd, Around.frames_deeper e0.frames, .inr ⟨rfl, rfl⟩, fun b z => absurd z (noA b), e0.bs, e0.bsz, fun b _ _ => noA b, fun b z => absurd z (noA b), e0.funs, e0.frf⟩,
  rfl, e0.bare, Un.kept hk, ⟨_, x.toInCall.ns, fun i y v h1 h2 h3 => ?_⟩, fun y c h => ⟨_, x.cell y c h⟩, e0.hok.fresh (Nat.le_refl _), fun y c h => ?_, fun p hp => absurd (show p ∈ ([] : List (Addr × Obj)) from hp) (by simp), e0.hok.kept hk, ?_⟩
 ·exact name_of_addr x.apart (PySem.mem_of_lookup h1) (PySem.mem_of_lookup h2)
 ·have hy : scope.names.lookup y = some .cell \/ scope.names.lookup y = some .free := hy
  rcases hy with hy | hy
  ·exact cell_has hy
  ·exact absurd rfl (S.nofree _ (PySem.mem_of_lookup hy))
 ·exact Nat.le_of_lt (x.above y c (PySem.mem_of_lookup h))
 ·have hi : i < vs.length := by
   unfold start at h2
   by_cases hi : i < vs.length
   ·exact hi
   ·rw [List.getElem?_append_right (by simpa using hi)] at h2
    rw [List.getElem?_replicate] at h2
    split at h2 <;> cases h2
  have ha : vs[i]? = some v := by
   unfold start at h2
   rw [List.getElem?_append_left (by simpa using hi), List.getElem?_map] at h2
   cases e : vs[i]? with
   | none => rw [e] at h2; cases h2
   | some a => rw [e] at h2; cases h2; rfl
  obtain ⟨u, hu, rv⟩ := r.get ha
  have hp : ps[i]? = some y := by
   rw [<- S.pre, List.getElem?_take_of_lt (by omega)]; exact h1
  have ndP : ps.Nodup := by rw [<- S.pre]; exact S.nd.sublist (List.take_sublist _ _)
  refine ⟨u, rv, ?_⟩
  rcases S.par y (List.mem_of_getElem? hp) with k | k
  ·exact .inl ⟨k, bindL_get ndP hp hu k⟩
  ·obtain ⟨c, e⟩ := cell_has (n := s.heap.objs.size + 1) k
   refine .inr ⟨.inl k, c, e, ?_⟩
   have q := x.cell y c e
   rw [bindC_get ndP hp hu (by show scope.names.lookup y ≠ _; rw [k]; decide)] at q
   exact q
 ·exact e0.hok.fresh (Nat.le_of_lt (x.above y c (PySem.mem_of_lookup h)))
 ·unfold start
  show _ = N.length
  rw [List.length_append, List.length_map, List.length_replicate]
  omega
theorem fn_of {CX : CXT} {P : Program} {w : World} {K : PySem.W.Frag} {mg : Str -> Option Value} {base : Heap} {k : Nat} {f : Addr} {name qual : Str} {params : Arguments} {body : List Stmt} {scope : Scope} {dV kV doc pm cdv ct oc : Value} {an od : Option Addr}
  {osl : Array (Option Value)} {N ps : List Str} {sp : Sp} (lk : K.lookup f = some ⟨oc, od, .func (PySem.W.fnOf name qual params body scope dV kV doc pm an cdv ct), osl⟩) (hcd : PySem.W.codeIn K cdv qual = true) (S : ji_ N ps scope)
  (len : ∀ vs H Q E, sp vs H Q E -> vs.length = ps.length)
  (hbody : ∀ (A : Around) (outer : List Env) (s : Shared) (H : Hp) (vs : List V) (Q : VK) (E : XK), Room k (A.deeper (envOfC qual scope s.heap.objs.size f cdv)) -> sp vs H Q E ->
   ∃ t, PSs (cxOf CX P w K mg base N qual scope f cdv A outer s H E) body t /\ t { nx := fun _ H' => Q .non H', rt := Q } (start N vs) H) :
  FnOk P w K mg base CX (k + 1) f (PySem.W.fnOf name qual params body scope dV kV doc pm an cdv ct) ps sp := by
 refine ⟨len, fun A outer s H args us vs Q E hr e0 hb r hsp => ?_⟩
 have hl := len _ _ _ _ hsp
 have KX : K.In s.heap := e0.mod.kin.keeps fun b o e => (e0.bs b o e).1
 have lim : s.heap.NoLimit := e0.mod.nolimit.keeps fun b o e => (e0.bs b o e).1
 have hkind : ∀ y ∈ ps.zip us, scope.names.lookup y.1 = some .local \/ (scope.names.lookup y.1 = some .cell /\ ((cellsFrom (s.heap.objs.size + 1) scope.names []).lookup y.1).isSome = true) := fun ⟨n, v⟩ hy => by
  rcases S.par n (List.of_mem_zip hy).1 with q | q
  ·exact .inl q
  ·exact .inr ⟨q, PySem.W.cellsFrom_some _ _ _ (.inl q)⟩
 refine codeAny_call_function hr.depth (KX _ _ lk) rfl S.co S.gen rfl (PySem.W.codeRec_of KX hcd) (hb _ _ _ _ ?_)
 refine wpAny_newFunctionEnv_cells S.kind hkind fun env he s1 x => ?_
 subst he
 refine ⟨lim.keeps x.toInCall.keep, codeAny_func ?_⟩
 obtain ⟨t, ht, hq⟩ := hbody A outer s H vs Q E (hr.deeper _) hsp
 have I : Inv (cxOf CX P w K mg base N qual scope f cdv A outer s H E) [] (start N vs) H s1 := inv_start S hr.hd e0 hl r x
 refine wpAny_mono (ht [] s1 (start N vs) H _ I hq) (fun fl s' hs => ?_) fun e s' hs => hs
 have fin : ∀ {σ' : St} {H' : Hp} {v : V} {u : Value}, Inv (cxOf CX P w K mg base N qual scope f cdv A outer s H E) [] σ' H' s' -> jq_ v u -> Q v H' -> CE outer P w H s Q u s' :=
  fun {σ' H' v u} J rv q => ⟨v, H', J.os, J.bare, J.base, J.hok, rv, q⟩
 cases fl with
 | ret u =>
  obtain ⟨v, σ', H', J, rv, q⟩ := hs
  exact fin J rv q
 | next =>
  obtain ⟨σ', H', J, q⟩ := hs
  exact fin (v := V.non) (u := Value.none) J rfl q
 | brk =>
  obtain ⟨_, _, _, q⟩ := hs
  exact False.elim q
 | cont =>
  obtain ⟨_, _, _, q⟩ := hs
  exact False.elim q
end L2
namespace L2
open PySem PySem.Spec PyProof.Rows
section
variable {X : Cx} {x : Str} {p pos : Pos} {e : Expr} {es : List Expr} {t : TA} {id T : String} {r : List V -> Hp -> VK -> Prop}
def tCB (r : List V -> Hp -> VK -> Prop) (t : TA) : TE := fun σ H Q => t σ H fun vs H1 => r vs H1 Q
theorem jv_ (hc : CallR X (.builtin id) r) (hg : Gl X x) (hm : X.mg x = none) (hv : bootBuiltins x = some (.builtin id)) (ha : PA X (e :: es) t) (hn : x ≠ "__name__" := by decide) (hdb : (x == ("__debug__" : Str)) = false := by decide)
  (he : starEach (e :: es) X.env = (false, eval e X.env) :: starEach es X.env := by rfl) (hpl : (backTo pos (starEach es X.env)).any (·.1) = false := by rfl) : PE X (.Call (.Name x p) (e :: es) [] pos) (tCB r t) := by
 intro pins s σ H Q I h
 refine wpAny_Call_Name_kw (ld_blt I hg hm hv ?_ hn hdb)
 exact PyProof.Rows.callWith_builtin1 (thn (ha pos pins s σ H _ I h) fun us s1 ⟨vs, H1, I1, r1, q1⟩ => hc pins s1 σ H1 vs us Q I1 r1 q1) he hpl
theorem pe_callTy (hc : CallR X (.type T) r) (hg : Gl X x) (hm : X.mg x = none) (hv : bootBuiltins x = some (.type T)) (ha : PA X (e :: es) t) (hn : x ≠ "__name__" := by decide) (hdb : (x == ("__debug__" : Str)) = false := by decide)
  (he : starEach (e :: es) X.env = (false, eval e X.env) :: starEach es X.env := by rfl) (hpl : (backTo pos (starEach es X.env)).any (·.1) = false := by rfl) : PE X (.Call (.Name x p) (e :: es) [] pos) (tCB r t) := by
 intro pins s σ H Q I h
 refine wpAny_Call_Name_kw (ld_blt I hg hm hv ?_ hn hdb)
 exact PyProof.Rows.callWith_type1 (thn (ha pos pins s σ H _ I h) fun us s1 ⟨vs, H1, I1, r1, q1⟩ => hc pins s1 σ H1 vs us Q I1 r1 q1) he hpl
end
end L2
namespace HT
open PySem PyProof.Rows
section
open PySem.SeqAt
open PySem.AutoSeq1 (wpAny_loadPart')
open PySem.MeetsSeq PySem.MeetsSeq2 PySem.MeetsSeq3
end
section
variable {prog : Program} {w : World} {A : Around} {E : Value -> Shared -> Prop} {s : Shared}
def sIx (n d : Nat) : Option Int -> Nat
 | none => d
 | some v => if v < 0 then (v + (n : Int)).toNat else min v.toNat n
theorem sIx_nat (n d k : Nat) : sIx n d (some (k : Int)) = min k n := by
 show (if (k : Int) < 0 then ((k : Int) + (n : Int)).toNat else min (k : Int).toNat n) = min k n
 rw [if_neg (by omega), Int.toNat_natCast]
end
end HT
namespace L2
open PySem PySem.Spec PyProof.Rows
abbrev TO := St -> Hp -> (Option Int -> Hp -> Prop) -> Prop
def PO (X : Cx) (e : Option Expr) (t : TO) : Prop :=
 ∀ (pins : List (Addr × Obj)) (s : Shared) (σ : St) (H : Hp) (Q : Option Int -> Hp -> Prop), Inv X pins σ H s -> t σ H Q ->
  wpAny (model X.prog X.w) X.A (evalPart e X.env) (fun u s' => ∃ o H', Inv X pins σ H' s' /\ IsPart u o /\ Q o H') X.xe s
def tPart (t : TE) : TO := fun σ H Q => t σ H fun x H1 => ∃ i, x = .int i /\ Q (some i) H1
section
variable {X : Cx} {e : Expr} {te : TE} {lo hi : Option Expr} {tl th : TO} {pos p2 : Pos}
theorem po_some (h : PE X e te) : PO X (some e) (tPart te) := by
 intro pins s σ H Q I hw
 rw [evalPart_some]
 refine thn (h pins s σ H _ I hw) fun u s1 ⟨x, H1, I1, r1, q1⟩ => ?_
 obtain ⟨i, rfl, q⟩ := q1
 obtain ⟨t, rfl⟩ := r1
 exact ⟨some i, H1, I1, .int i t, q⟩
def SlR (X : Cx) (r : V -> Option Int -> Option Int -> Hp -> VK -> Prop) : Prop :=
 ∀ (pins : List (Addr × Obj)) (s : Shared) (σ : St) (H : Hp) (x : V) (v vl vu : Value) (lo hi : Option Int) (sl : Addr) (Q : VK), Inv X pins σ H s -> jq_ x v -> s.heap.IsSliceOf sl vl vu .none -> IsPart vl lo -> IsPart vu hi -> r x lo hi H Q ->
  ∃ T id, typeLookup (.type T) "__getitem__" = pure (some (.builtin id)) /\ s.TypeIs v T /\ wpAny (model X.prog X.w) X.A (getItem v (.ref sl)) (EP X pins σ Q) X.xe s
def tSl (r : V -> Option Int -> Option Int -> Hp -> VK -> Prop) (te : TE) (tl th : TO) : TE := fun σ H Q => te σ H fun x H1 => tl σ H1 fun l H2 => th σ H2 fun u H3 => r x l u H3 Q
theorem pe_slice {r : V -> Option Int -> Option Int -> Hp -> VK -> Prop} (hr : SlR X r) (he : PE X e te) (hl : PO X lo tl) (hu : PO X hi th) : PE X (.Subscript e (.Slice lo hi none p2) pos) (tSl r te tl th) := by
 intro pins s σ H Q I h
 refine Subscript_ (thn (he pins s σ H _ I h) fun v s1 ⟨x, H1, I1, r1, q1⟩ => ?_)
 refine wpAny_Slice (thn (hl pins s1 σ H1 _ I1 q1) fun vl s2 ⟨l, H2, I2, pl, q2⟩ => thn (hu pins s2 σ H2 _ I2 q2) fun vu s3 ⟨u, H3, I3, pu, q3⟩ => ?_)
 rw [evalPart_none]
 refine wpAny_pure ?_
 have I4 : Inv X pins σ H3 { s3 with heap := s3.heap.push { cls := .type "slice", data := .fields #[vl, vu, .none] } } := I3.kept (t' := s3.toks) fun b ob q => Heap.get?_push_of_some _ q
 obtain ⟨T, id, hT, ht, hg⟩ := hr pins { s3 with heap := s3.heap.push { cls := .type "slice", data := .fields #[vl, vu, .none] } } σ H3 x v vl vu l u s3.heap.objs.size Q I4 r1 (Heap.IsSliceOf.new ..) pl pu q3
 show wpAny (model X.prog X.w) X.A (subscriptTail e (.Slice lo hi none p2) v (.ref s3.heap.objs.size)) (EP X pins σ Q) X.xe { s3 with heap := s3.heap.push { cls := .type "slice", data := .fields #[vl, vu, .none] } }
 exact tail_any (ops := [.ref s3.heap.objs.size, v]) ht hT hg (by with_unfolding_all rfl)
def cutV (xs : List V) (lo hi : Option Int) : List V := (xs.drop (HT.sIx xs.length 0 lo)).take (HT.sIx xs.length xs.length hi - HT.sIx xs.length 0 lo)
theorem cutV_length (xs : List V) (lo hi : Option Int) : (cutV xs lo hi).length <= xs.length := by
 unfold cutV
 rw [List.length_take, List.length_drop]
 omega
end
end L2
namespace L2
open PySem PySem.Spec PyProof.Rows
def ixN (n : Nat) (i : Int) : Option Nat := if 0 <= i then (if i < n then some i.toNat else none) else if -(n : Int) <= i then some (i + n).toNat else none
def atI {α : Type} (xs : List α) (i : Int) : Option α := (ixN xs.length i).bind fun j => xs[j]?
theorem ixN_seq {n : Nat} {i : Int} {j : Nat} (h : ixN n i = some j) : seqIndex? i n = some j /\ j < n /\ -(n : Int) <= i /\ i < n := by
 unfold ixN at h
 by_cases h0 : 0 <= i
 ·rw [if_pos h0] at h
  by_cases h1 : i < n
  ·rw [if_pos h1] at h
   have e : i.toNat = j := Option.some.inj h
   exact ⟨by rw [seqIndex_of h0 h1, e], by omega, by omega, h1⟩
  ·rw [if_neg h1] at h; cases h
 ·rw [if_neg h0] at h
  by_cases h1 : -(n : Int) <= i
  ·rw [if_pos h1] at h
   have e : (i + n).toNat = j := Option.some.inj h
   exact ⟨by rw [seqIndex_neg (by omega) h1, e], by omega, h1, by omega⟩
  ·rw [if_neg h1] at h; cases h
theorem atI_get {α : Type} {xs : List α} {i : Int} {v : α} (h : atI xs i = some v) : ∃ j, seqIndex? i xs.length = some j /\ xs[j]? = some v /\ j < xs.length /\ -(xs.length : Int) <= i /\ i < xs.length := by
 unfold atI at h
 cases e : ixN xs.length i with
 | none => rw [e] at h; cases h
 | some j =>
  rw [e] at h
  obtain ⟨h1, h2, h3, h4⟩ := ixN_seq e
  exact ⟨j, h1, h, h2, h3, h4⟩
theorem jr_ {α : Type} {xs : List α} {j : Nat} {v : α} (h : xs[j]? = some v) : atI xs (j : Int) = some v := by
 have hj : j < xs.length := (List.getElem?_eq_some_iff.mp h).1
 have e : ixN xs.length (j : Int) = some j := by
  unfold ixN
  rw [if_pos (by omega), if_pos (by omega)]; simp
 unfold atI; rw [e]; exact h
def PlainIx (b : Expr) : Prop := ∀ o i, subscripted b false o i = operate [o, i] (getItem o i)
def IxR (X : Cx) (r : R2) : Prop :=
 ∀ (value slice : Expr) (pins : List (Addr × Obj)) (s : Shared) (σ : St) (H : Hp) (x y : V) (v u : Value) (Q : VK), Inv X pins σ H s -> jq_ x v -> jq_ y u -> r x y H Q ->
  subscripted slice false v u = operate [v, u] (getItem v u) -> wpAny (model X.prog X.w) X.A (subscriptTail value slice v u) (EP X pins σ Q) X.xe s
def MtR (X : Cx) (id : String) (r : V -> List V -> Hp -> VK -> Prop) : Prop :=
 ∀ (pins : List (Addr × Obj)) (s : Shared) (σ : St) (H : Hp) (x : V) (xs : List V) (v : Value) (us : List Value) (Q : VK), Inv X pins σ H s -> jq_ x v -> jk_ xs us -> r x xs H Q ->
  wpAny (model X.prog X.w) X.A (call (.builtin id) (v :: us)) (EP X pins σ Q) X.xe s
section
variable {X : Cx} {a b : Expr} {ta tb : TE} {pos : Pos}
theorem pe_ix {r : R2} (hr : IxR X r) (ha : PE X a ta) (hb : PE X b tb) (hs : PlainIx b) : PE X (.Subscript a b pos) (tOp r ta tb) := by
 intro pins s σ H Q I h
 exact Subscript_ (binT ha hb I h fun v u s2 x y H2 I2 rx ry q => hr a b pins s2 σ H2 x y v u Q I2 rx ry q (hs _ _))
def rIxL (K : PySem.W.Frag) : R2 := fun x y H Q => ∃ p xs i v, x = .ref p /\ y = .int i /\ SqL K H p xs /\ atI xs i = some v /\ Q v H
def rIxS : R2 := fun x y H Q => ∃ z i c, x = .str z /\ y = .int i /\ z.length <= sizeLine /\ atI z.cps.toList i = some c /\ Q (.str ⟨#[c]⟩) H
theorem jt_ : IxR X (rIxL X.K) := by
 intro value slice pins s σ H x y v u Q I rx ry h hs
 obtain ⟨p, xs, i, z, rfl, rfl, hq, he, q⟩ := h
 cases rx
 obtain ⟨t, rfl⟩ := ry
 obtain ⟨its, r, pl, hz⟩ := I.list hq
 obtain ⟨j, h1, h2, h3, h4, h5⟩ := atI_get he
 obtain ⟨w, ew, rw'⟩ := r.get h2
 have hl := r.length
 have hn := line63
 have fin : EP X pins σ Q w s := ⟨z, H, I, rw', q⟩
 by_cases h0 : 0 <= i
 ·have hj : i.toNat = j := by
   rw [seqIndex_of h0 h5] at h1
   exact Option.some.inj h1
  exact item_listR pl.isList h0 (by omega) (by rw [hj]; simpa using ew) fin hs
 ·have hj : (i + (its.toArray.size : Int)).toNat = j := by
   rw [seqIndex_neg (by omega) h4] at h1
   rw [List.size_toArray, <- hl]
   exact Option.some.inj h1
  exact subscriptTail_builtinR (x := w) pl.isList.typeIs slot_list_getitem.lookup
   (wpAny_getItem_list_neg (Q := fun r s' => r = w /\ EP X pins σ Q r s') pl.isList (by omega) (by rw [List.size_toArray] <;> omega) (by omega) (by rw [hj]; simpa using ew) ⟨rfl, fin⟩) hs
theorem ix_str : IxR X rIxS := by
 intro value slice pins s σ H x y v u Q I rx ry h hs
 obtain ⟨z, i, c, rfl, rfl, hz, he, q⟩ := h
 obtain ⟨t, rfl⟩ := rx
 obtain ⟨t', rfl⟩ := ry
 obtain ⟨j, h1, h2, h3, h4, h5⟩ := atI_get he
 have hl : z.cps.toList.length = z.length := by simp [Str.length]
 rw [hl] at h1 h4 h5
 have hn := line63
 exact tail_any (typeIs_str s z t) slot_str_getitem.lookup (getItem_str (c := c) (by
  have e1 : decide (i < -(2 ^ 63 : Int)) = false := decide_eq_false (by omega)
  have e2 : decide (i ≥ 2 ^ 63) = false := decide_eq_false (by omega)
  rw [e1, e2, Bool.or_false]) (by rw [h1]; simpa using h2) ⟨.str ⟨#[c]⟩, H, I.tok _, ⟨_, rfl⟩, q⟩) hs
theorem slice_bounds (lo hi : Option Int) (n : Nat) : (sliceBounds lo hi none n).1 = ((HT.sIx n 0 lo : Nat) : Int) /\ (sliceBounds lo hi none n).2.1 = ((HT.sIx n n hi : Nat) : Int) /\ (sliceBounds lo hi none n).2.2 = 1 := by
 refine ⟨?_, ?_, rfl⟩
 ·cases lo with
  | none => simp [sliceBounds, HT.sIx]
  | some i =>
   simp only [sliceBounds, HT.sIx, Option.getD_none, show (1 : Int) > 0 by decide, if_true]
   by_cases h : i < 0
   ·simp only [h, if_true] <;> omega
   ·simp only [h, if_false] <;> omega
 ·cases hi with
  | none => simp [sliceBounds, HT.sIx]
  | some i =>
   simp only [sliceBounds, HT.sIx, Option.getD_none, show (1 : Int) > 0 by decide, if_true]
   by_cases h : i < 0
   ·simp only [h, if_true] <;> omega
   ·simp only [h, if_false] <;> omega
theorem slicePick_cut (its : List Value) (lo hi : Option Int) : slicePick its.toArray lo hi none = ((its.drop (HT.sIx its.length 0 lo)).take (HT.sIx its.length its.length hi - HT.sIx its.length 0 lo)).toArray := by
 obtain ⟨h1, h2, h3⟩ := slice_bounds lo hi its.toArray.size
 unfold slicePick
 rw [h1, h2, h3]
 simp only [sliceRange_one, pick_run, List.size_toArray] <;> rfl
def rSlL (K : PySem.W.Frag) : V -> Option Int -> Option Int -> Hp -> VK -> Prop := fun x lo hi H Q => ∃ a xs, x = .ref a /\ SqL K H a xs /\ ∀ p, H p = none -> Q (.ref p) (upd H p (.lst (cutV xs lo hi)))
theorem sl_list : SlR X (rSlL X.K) := by
 intro pins s σ H x v vl vu lo hi sl Q I rx hs pl pu h
 obtain ⟨a, xs, rfl, hx, q⟩ := h
 cases rx
 obtain ⟨its, r, ht, hz⟩ := I.list hx
 have hlen := r.length
 refine ⟨"list", _, slot_list_getitem.lookup, ht.isList.typeIs, ?_⟩
 refine wpAny_getItem_list_slice ht.isList hs pl pu .none (by simp) ?_ (by rw [List.size_toArray] <;> omega)
 rw [slicePick_cut, <- hlen]
 refine ⟨.ref s.heap.objs.size, _, I.laid (t' := s.toks) (o := .lst (cutV xs lo hi)) (fun b ob q => Heap.get?_push_of_some _ q) (Nat.le_refl _) ?_, rfl, q _ (I.hok.fresh (Nat.le_refl _))⟩
 exact ⟨Nat.le_trans (cutV_length xs lo hi) hz, _, 0, (r.drop (HT.sIx xs.length 0 lo)).take (HT.sIx xs.length xs.length hi - HT.sIx xs.length 0 lo), Heap.get?_push_size _ rfl⟩
def flatV : V -> Bool
 | .non => true
 | .bl _ => true
 | .int _ => true
 | .str _ => true
 | _ => false
def eqV : V -> V -> Bool
 | .non, .non => true
 | .bl a, .bl b => a == b
 | .bl a, .int b => (if a then 1 else 0) == b
 | .int a, .bl b => a == (if b then 1 else 0)
 | .int a, .int b => a == b
 | .str a, .str b => a == b
 | _, _ => false
theorem eqAt_V {A : Around} {s : Shared} {y x : V} {u v : Value} (ry : jq_ y u) (rx : jq_ x v) (fy : flatV y = true) (fx : flatV x = true) : SeqAt.EqAt A s u v (eqV y x) := by
 cases y with
 | non =>
  cases ry
  cases x with
  | non => cases rx; exact SeqAt.EqAt.same _
  | bl b => cases rx; exact SeqAt.EqAt.none_bool b
  | int b => obtain ⟨t, rfl⟩ := rx; exact SeqAt.EqAt.none_int b t
  | str b => obtain ⟨t, rfl⟩ := rx; exact SeqAt.EqAt.none_str b t
  | _ => exact absurd (show false = true from fx) Bool.false_ne_true
 | bl a =>
  cases ry
  cases x with
  | non => cases rx; exact SeqAt.EqAt.bool_none a
  | bl b => cases rx; exact SeqAt.EqAt.bool_bool a b
  | int b => obtain ⟨t, rfl⟩ := rx; exact SeqAt.EqAt.bool_int a b t
  | str b => obtain ⟨t, rfl⟩ := rx; exact SeqAt.EqAt.bool_str a b t
  | _ => exact absurd (show false = true from fx) Bool.false_ne_true
 | int a =>
  obtain ⟨t', rfl⟩ := ry
  cases x with
  | non => cases rx; exact SeqAt.EqAt.int_none a t'
  | bl b => cases rx; exact SeqAt.EqAt.int_bool a t' b
  | int b => obtain ⟨t, rfl⟩ := rx; exact SeqAt.EqAt.int_int a t' b t
  | str b => obtain ⟨t, rfl⟩ := rx; exact SeqAt.EqAt.int_str a t' b t
  | _ => exact absurd (show false = true from fx) Bool.false_ne_true
 | str a =>
  obtain ⟨t', rfl⟩ := ry
  cases x with
  | non => cases rx; exact SeqAt.EqAt.str_none a t'
  | bl b => cases rx; exact SeqAt.EqAt.str_bool a t' b
  | int b => obtain ⟨t, rfl⟩ := rx; exact SeqAt.EqAt.str_int a t' b t
  | str b => obtain ⟨t, rfl⟩ := rx; exact SeqAt.EqAt.str_str a t' b t
  | _ => exact absurd (show false = true from fx) Bool.false_ne_true
 | _ => exact absurd (show false = true from fy) Bool.false_ne_true
def eqU (x : V) (u : Value) : Bool := match u with
 | .none => eqV .non x
 | .bool b => eqV (.bl b) x
 | .int i _ => eqV (.int i) x
 | .str z _ => eqV (.str z) x
 | _ => false
theorem eqU_of {x y : V} {u : Value} (r : jq_ y u) (f : flatV y = true) : eqU x u = eqV y x := by
 cases y with
 | non => cases r; rfl
 | bl b => cases r; rfl
 | int i => obtain ⟨t, rfl⟩ := r; rfl
 | str z => obtain ⟨t, rfl⟩ := r; rfl
 | _ => exact absurd (show false = true from f) Bool.false_ne_true
theorem any_eqU {x : V} : ∀ {xs : List V} {us : List Value}, jk_ xs us -> xs.all flatV = true -> us.any (eqU x) = xs.any fun y => eqV y x
 | _, _, .nil, _ => rfl
 | y :: xs, u :: us, .cons r t, f => by
  rw [List.all_cons, Bool.and_eq_true] at f
  rw [List.any_cons, List.any_cons, eqU_of r f.1, any_eqU t f.2]
theorem mem_eqAt {A : Around} {s : Shared} {x : V} {v : Value} (rx : jq_ x v) (fx : flatV x = true) : ∀ {xs : List V} {us : List Value}, jk_ xs us -> xs.all flatV = true -> ∀ u ∈ us, SeqAt.EqAt A s u v (eqU x u)
 | _, _, .nil, _ => fun u hu => by cases hu
 | y :: xs, u :: us, .cons r t, f => fun u' hu => by
  rw [List.all_cons, Bool.and_eq_true] at f
  rcases List.mem_cons.mp hu with rfl | hu
  ·rw [eqU_of r f.1]; exact eqAt_V r rx f.1 fx
  ·exact mem_eqAt rx fx t f.2 u' hu
def inV (x : V) (xs : List V) : Bool := xs.any fun y => eqV y x
def rIn (K : PySem.W.Frag) (neg : Bool) : R2 := fun x y H Q => ∃ p xs, y = .ref p /\ (SqL K H p xs \/ SqT K H p xs) /\ flatV x = true /\ xs.all flatV = true /\ Q (.bl (if neg then !inV x xs else inV x xs)) H
theorem op_in_seq : OpR X (compareOp .In) (rIn X.K false) := by
 intro pins s σ H x y v u Q I rx ry h
 obtain ⟨p, xs, rfl, hq, fx, fs, q⟩ := h
 cases ry
 rcases hq with hq | hq
 ·obtain ⟨its, r, pl, hz⟩ := I.list hq
  refine SeqAt.in_listAt (eqU x) pl.isList (fun w hw => mem_eqAt rx fx r fs w (by simpa using hw)) ⟨.bl _, H, I, rfl, ?_⟩
  rw [show its.toArray.any (eqU x) = its.any (eqU x) by simp, any_eqU r fs]
  exact q
 ·obtain ⟨its, r, pl, hz⟩ := I.tuple hq
  refine SeqAt.in_tupleAt (eqU x) pl (fun w hw => mem_eqAt rx fx r fs w (by simpa using hw)) ⟨.bl _, H, I, rfl, ?_⟩
  rw [show its.toArray.any (eqU x) = its.any (eqU x) by simp, any_eqU r fs]
  exact q
theorem je_ : CallR X (.builtin "len") (fun xs H Q => ∃ p ys, xs = [.ref p] /\ (SqL X.K H p ys \/ SqT X.K H p ys) /\ Q (.int ys.length) H) := by
 intro pins s σ H xs us Q I r h
 obtain ⟨p, ys, rfl, hq, q⟩ := h
 obtain ⟨u, rfl, rx⟩ := vals1 r
 cases rx
 have hn := line63
 rcases hq with hq | hq
 ·obtain ⟨its, r', pl, hz⟩ := I.list hq
  have hlen := r'.length
  exact Calls.call_len_list pl.isList (by simp only [List.size_toArray] <;> omega) ⟨.int ys.length, H, I.tok _, ⟨s.toks + 1, by rw [List.size_toArray, hlen]⟩, q⟩
 ·obtain ⟨its, r', pl, hz⟩ := I.tuple hq
  have hlen := r'.length
  exact len_tuple pl (by simp only [List.size_toArray] <;> omega) ⟨.int ys.length, H, I.tok _, ⟨s.toks + 1, by rw [List.size_toArray, hlen]⟩, q⟩
theorem y3_ : CallR X (.type "tuple") (fun xs H Q => ∃ p ys, xs = [.ref p] /\ ((SqL X.K H p ys /\ ∀ l, H l = none -> Q (.ref l) (upd H l (.tup ys))) \/ (SqT X.K H p ys /\ Q (.ref p) H))) := by
 intro pins s σ H xs us Q I r h
 obtain ⟨p, ys, rfl, h⟩ := h
 obtain ⟨u, rfl, rx⟩ := vals1 r
 cases rx
 rcases h with ⟨hq, q⟩ | ⟨hq, q⟩
 ·obtain ⟨its, r', pl, hz⟩ := I.list hq
  have hlen := r'.length
  refine call_tuple_list pl.isList (fun h' kp => ?_) (by simp only [List.size_toArray] <;> omega)
  have I1 : Inv X pins σ H { s with heap := h' } := I.kept (t' := s.toks) kp
  have I2 : Inv X pins σ (upd H h'.objs.size (.tup ys)) { s with heap := h'.push { cls := .type "tuple", data := .seq its.toArray } } :=
   I1.laid (t' := s.toks) (fun b o e => Heap.get?_push_of_some _ e) (Nat.le_refl _) (show yg_ X.prog X.w _ _ _ (.tup ys) from ⟨hz, its, r', IsTup.new _ _⟩)
  exact ⟨.ref h'.objs.size, _, I2, rfl, q _ (I1.hok.fresh (Nat.le_refl _))⟩
 ·obtain ⟨its, r', pl, hz⟩ := I.tuple hq
  exact call_tuple_same pl ⟨.ref p, H, I, rfl, q⟩
def tyV (K : PySem.W.Frag) (T : String) (x : V) (H : Hp) : Prop := match x with
 | .str _ => T = "str"
 | .int _ => T = "int"
 | .ref p => (T = "list" /\ ∃ xs, SqL K H p xs) \/ (T = "tuple" /\ ∃ o, K.lookup p = some o /\ o.cls = .type "tuple" /\ o.dict = none) \/
   (T = "dict" /\ ((∃ kvs, H p = some (.dK kvs)) \/ ∃ kvs, H p = some (.dT kvs))) \/ (T = "set" /\ ∃ S n, H p = some (.set S n))
 | _ => False
theorem tyV_is {pins : List (Addr × Obj)} {σ : St} {H : Hp} {s : Shared} {T : String} {x : V} {v : Value} (I : Inv X pins σ H s) (r : jq_ x v) (ty : tyV X.K T x H) :
  s.TypeIs v T /\ ∀ a, v = .ref a -> ∃ ob, s.heap.get? a = some ob /\ ob.dict = none := by
 cases x with
 | str z =>
  obtain ⟨t, rfl⟩ := r
  cases (show T = "str" from ty)
  exact ⟨typeIs_str s z t, fun _ e => nomatch e⟩
 | int i =>
  obtain ⟨t, rfl⟩ := r
  cases (show T = "int" from ty)
  exact ⟨typeIs_int s i t, fun _ e => nomatch e⟩
 | ref p =>
  cases r
  rcases ty with ⟨rfl, xs, hq⟩ | ⟨rfl, o, hk, hc, hd⟩ | ⟨rfl, hk⟩ | ⟨rfl, S, n, hk⟩
  ·obtain ⟨its, _, pl, _⟩ := I.list hq
   refine ⟨pl.isList.typeIs, fun a e => ?_⟩
   cases e
   obtain ⟨o, n, e, c, hd, _⟩ := pl
   exact ⟨o, e, hd⟩
  ·refine ⟨⟨o, I.kIn p o hk, hc⟩, fun a e => ?_⟩
   cases e
   exact ⟨o, I.kIn _ o hk, hd⟩
  ·have z : ∃ o, s.heap.get? p = some o /\ o.ExactDict := by
    rcases hk with ⟨kvs, hk⟩ | ⟨kvs, hk⟩
    ·obtain ⟨_, _, _, _, o, _, _, e, ex, _⟩ := I.hok p _ hk
     exact ⟨o, e, ex⟩
    ·obtain ⟨_, _, _, _, o, _, _, e, ex, _⟩ := I.hok p _ hk
     exact ⟨o, e, ex⟩
   obtain ⟨o, e, ex⟩ := z
   refine ⟨⟨o, e, ex.1⟩, fun a e2 => ?_⟩
   cases e2
   exact ⟨o, e, ex.2.1⟩
  ·obtain ⟨o, _, _, _, e, ex, _⟩ := I.hok p _ hk
   refine ⟨⟨o, e, ex.1⟩, fun a e2 => ?_⟩
   cases e2
   exact ⟨o, e, ex.2.1⟩
 | _ => exact False.elim ty
def tBM (K : PySem.W.Frag) (T : String) (r : V -> List V -> Hp -> VK -> Prop) (to : TE) (t : TA) : TE := fun σ H Q => to σ H fun x H1 => tyV K T x H1 /\ t σ H1 fun xs H2 => r x xs H2 Q
variable {o e : Expr} {es : List Expr} {to : TE} {t : TA} {name : Str} {apos cpos : Pos} {T id : String} {r : V -> List V -> Hp -> VK -> Prop}
theorem pe_bm (pa : PlainAttrs T) (slot : Slot T name id) (hty : typeOf (.builtin id) = pure (.type "method_descriptor")) (hm : MtR X id r) (ho : PE X o to) (ha : PA X (e :: es) t)
  (hbase : attributeBase o name X.env (eval o X.env) = eval o X.env := by rfl)
  (hfew : ((backTo cpos (starEach (e :: es) X.env)).all (fun x => !x.1) && (backToKw cpos (keywordEach [] X.env)).all (fun x => x.1.isSome)
   && decide ((e :: es).length + ([] : List Keyword).length + (if ([] : List Keyword).isEmpty then 0 else 1) < 30)) = true := by rfl)
  (hline : (apos.endLine == cpos.line) = true := by rfl) (hs : starEach (e :: es) X.env = (false, eval e X.env) :: starEach es X.env := by rfl) (hplain : (backTo cpos (starEach es X.env)).any (·.1) = false := by rfl) :
  PE X (.Call (.Attribute o name apos) (e :: es) [] cpos) (tBM X.K T r to t) := by
 intro pins s σ H Q I h
 refine wpAny_Call_method_late hbase hfew hline rfl (thn (ho pins s σ H _ I h) fun v s1 ⟨x, H1, I1, r1, ty, q1⟩ => ?_)
 obtain ⟨h1, h2⟩ := tyV_is I1 r1 ty
 refine ⟨T, id, pa, slot, hty, h1, h2, ?_⟩
 have hA := ha cpos pins s1 σ H1 _ I1 q1
 rw [hs] at hA ⊢
 refine Calls.callWith_builtin (by show (false || (backTo cpos (starEach es X.env)).any (·.1)) = false; rw [hplain] <;> rfl) (Calls.evalArgs_plain ?_)
 exact thn hA fun us s2 ⟨vs, H2, I2, r2, q2⟩ => hm pins s2 σ H2 x vs v us Q I2 r1 r2 q2
/- xs.append(e), list.index on a module's tuple .. are MtR facts of 06m -/
end
end L2
namespace L2
open PySem PySem.Spec PyProof.Rows
def MtM (X : Cx) (id : String) (r : V -> List V -> Hp -> VK -> Prop) : Prop :=
 ∀ (pins : List (Addr × Obj)) (s : Shared) (σ : St) (H : Hp) (x : V) (xs : List V) (v : Value) (us : List Value) (Q : VK), Inv X pins σ H s -> jq_ x v -> jk_ xs us -> r x xs H Q ->
  wpAny (model X.prog X.w) X.A (call (.builtin id) (v :: us)) (EP X pins σ Q) X.xe s
theorem jk_.one : ∀ {x : V} {us : List Value}, jk_ [x] us -> ∃ u, us = [u] /\ jq_ x u
 | _, _, .cons r .nil => ⟨_, rfl, r⟩
section
variable {X : Cx} {pins : List (Addr × Obj)} {σ : St} {H : Hp} {s : Shared} {l b : Addr} {xs ys zs : List V}
theorem Inv.lset {its its' : List Value} {n : Nat} {f : Array Value -> Array Value} {t' : Nat} (I : Inv X pins σ H s) (hH : H l = some (.lst xs))
  (e : s.heap.get? l = some { cls := .type "list", data := .seq its.toArray n }) (hf : f its.toArray = its'.toArray) (hv : jk_ ys its') (hz : ys.length <= sizeLine) :
  Inv X pins σ (upd H l (.lst ys)) { s with heap := s.heap.update l (Obj.mapSeq f), toks := t' } := by
 have q := PySem.IsL.update e f
 rw [hf] at q
 refine I.write (x := l) (e := l) (by rw [hH]; exact trivial) (.inl rfl) (fun b' u hb hu => (Heap.get?_update_other s.heap (Obj.mapSeq f) (Ne.symm hb)).trans hu) ⟨_, q⟩ ?_
 exact ⟨hz, its', _, hv, q⟩
theorem Inv.lstM (I : Inv X pins σ H s) (hH : H l = some (.lst xs)) : xs.length <= sizeLine /\ ∃ (its : List Value) (n : Nat), jk_ xs its /\ xs.length = its.length /\ s.heap.get? l = some { cls := .type "list", data := .seq its.toArray n } := by
 obtain ⟨z, its, n, r, e⟩ := I.hok l _ hH
 exact ⟨z, its, n, r, r.length, e⟩
theorem notLongL {n : Nat} (h : n <= sizeLine) : Builtin.List.listTooLong n = false := by
 unfold Builtin.List.listTooLong
 exact decide_eq_false (by omega)
end
section
variable {X : Cx}
def rAppend : V -> List V -> Hp -> VK -> Prop := fun x vs H Q => ∃ l xs y, x = .ref l /\ vs = [y] /\ H l = some (.lst xs) /\ xs.length < sizeLine /\ Q .non (upd H l (.lst (xs ++ [y])))
theorem mt_append : MtM X "list.append" rAppend := by
 intro pins s σ H x vs v us Q I rx rv h
 obtain ⟨l, xs, y, rfl, rfl, hH, hz, q⟩ := h
 cases rx
 obtain ⟨u, rfl, ru⟩ := rv.one
 obtain ⟨z, its, n, r, hl, e⟩ := I.lstM hH
 refine call_meets F.slot_list_append ⟨_, e, rfl⟩ F.entry_list_append (F.args_list_append_2 _ _) (PySem.list_append l its.toArray n u (by rw [List.size_toArray]; omega)) ⟨e, ?_⟩
 refine ⟨.non, _, I.lset (its' := its ++ [u]) hH e (by simp) (r.append (.cons ru .nil)) ?_, rfl, q⟩
 rw [List.length_append, List.length_singleton]
 omega
def rExtend : V -> List V -> Hp -> VK -> Prop := fun x vs H Q => ∃ l b xs zs, x = .ref l /\ vs = [.ref b] /\ H l = some (.lst xs) /\ H b = some (.lst zs) /\ xs.length + zs.length <= sizeLine /\ Q .non (upd H l (.lst (xs ++ zs)))
theorem mt_extend : MtM X "list.extend" rExtend := by
 intro pins s σ H x vs v us Q I rx rv h
 obtain ⟨l, b, xs, zs, rfl, rfl, hH, hB, hz, q⟩ := h
 cases rx
 obtain ⟨u, rfl, ru⟩ := rv.one
 cases ru
 obtain ⟨z, its, n, r, hl, e⟩ := I.lstM hH
 obtain ⟨z2, its2, n2, r2, hl2, e2⟩ := I.lstM hB
 have hsz : its.toArray.size + its2.toArray.size <= sizeLine := by rw [List.size_toArray, List.size_toArray]; omega
 have hlong : ¬ (!its.toArray.isEmpty && Builtin.List.listTooLong (its.toArray.size + its2.toArray.size)) = true := by
  rw [notLongL hsz, Bool.and_false]
  exact Bool.false_ne_true
 refine call_meets F.slot_list_extend ⟨_, e, rfl⟩ F.entry_list_extend (F.args_list_extend_2 _ _)
  (AutoSeq1.list_extend_list_list_0 l its.toArray n b its2.toArray n2 hlong (by rw [List.size_toArray]; omega) (by omega)) ⟨e, e2, ?_⟩
 refine ⟨.non, _, I.lset (its' := its ++ its2) hH e (by simp) (r.append r2) ?_, rfl, q⟩
 rw [List.length_append]
 omega
end
section
variable {prog : Program} {w : World} {A : Around} {E : Value -> Shared -> Prop} {s : Shared}
set_option maxRecDepth 100000 in
end
end L2
namespace L2
open PySem PySem.Spec PyProof.Rows
theorem jk_.bls : ∀ {bs : List Bool} {us : List Value}, jk_ (bs.map V.bl) us -> us = bs.map Value.bool
 | [], us, h => by
  rw [List.map_nil] at h
  cases h
  rfl
 | b :: bs, us, h => by
  rw [List.map_cons] at h
  cases h with
  | cons r t =>
   cases r
   rw [jk_.bls t, List.map_cons]
theorem jk_.ref1 {a : Addr} {us : List Value} (r : jk_ [V.ref a] us) : us = [Value.ref a] := by
 cases r with
 | cons r t =>
  cases t
  cases r
  rfl
theorem iter_any {prog : Program} {w : World} {A : Around} {E : Value -> Shared -> Prop} {s : Shared} {l : Addr} {items : Array Value} {Q : Value -> Shared -> Prop} (hl : s.heap.IsList l items)
  (h : ∀ s₂ : Shared, s₂ = { s with heap := s.heap.push { cls := .type "list_iterator", data := .fields #[.ref l, .int 0 0] } } ->
   (s₂.heap.IsListIter s.heap.objs.size l 0 /\ s₂.heap.IsList l items) -> l ≠ s.heap.objs.size -> Q (.ref s.heap.objs.size) s₂) : wpAny (model prog w) A (pyIter (.ref l)) Q E s := by
 have hlt : l < s.heap.objs.size := by obtain ⟨_, e, _⟩ := hl; exact Heap.lt_size e
 exact wpAny_pyIter_list hl (h _ rfl ⟨⟨_, Heap.get?_push_size _ rfl, rfl, rfl⟩, hl.push _⟩ (Nat.ne_of_lt hlt))
theorem truth_bools {prog : Program} {w : World} {A : Around} {bs : List Bool} {its : List Value} (e : its = bs.map Value.bool) :
  TruthOf prog w A (fun i v => its.toArray[i]? = some v) (fun i => bs.getD i false) := fun i v s Q E hv hq => by
 have hv' : its[i]? = some v := by simpa using hv
 rw [e, List.getElem?_map] at hv'
 obtain ⟨b, hb, rfl⟩ := Option.map_eq_some_iff.mp hv'
 have hg : bs.getD i false = b := by rw [List.getD_eq_getElem?_getD, hb] <;> rfl
 have hq' : Q (bs.getD i false) s := hq
 rw [hg] at hq'
 exact wpAny_truthy_bool hq'
theorem all_range : ∀ bs : List Bool, (List.range bs.length).all (fun i => bs.getD i false) = bs.all id
 | [] => rfl
 | b :: bs => by
  rw [List.length_cons, List.range_succ_eq_map, List.all_cons, List.all_map, List.all_cons, <- all_range bs]
  all_goals rfl
section
variable {X : Cx}
def rAll (K : PySem.W.Frag) : List V -> Hp -> VK -> Prop := fun vs H Q => ∃ (a : Addr) (bs : List Bool), vs = [V.ref a] /\ SqL K H a (bs.map V.bl) /\ Q (.bl (bs.all id)) H
theorem cr_all (hc : X.calm = true) : CallR X (.builtin "all") (rAll X.K) := by
 intro pins s σ H vs us Q I r h
 obtain ⟨a, bs, rfl, hs, q⟩ := h
 obtain ⟨its, rv, hl, _⟩ := I.list hs
 rw [jk_.ref1 r]
 have hb := rv.bls
 refine call_all_walk (iter_any hl.isList fun s₂ e2 st hne => ?_)
 subst e2
 refine ⟨_, _, _, _, _, _, _, rfl, Walks.list (A := X.A.in1) (I.ok.hd hc) _ a hne its.toArray, st, truth_bools hb, fun h' tk hk => ?_⟩
 refine ⟨.bl _, H, I.kept fun b o eo => hk b o (fun hmem => ?_) (Heap.get?_push_of_some _ eo), ?_, q⟩
 ·rcases List.mem_cons.mp hmem with e1 | hmem
  ·exact absurd (e1 ▸ Heap.lt_size eo) (Nat.lt_irrefl _)
  ·cases hmem
 ·show Value.bool _ = Value.bool _
  rw [<- all_range, hb, List.size_toArray, List.length_map]
end
end L2
namespace L2
open PySem PySem.Spec PyProof.Rows
abbrev CellAt (h : Heap) (c : Addr) (v : Option Value) : Prop := h.IsCell c v
def relS (scope sc : Scope) : Scope :=
 { scope with names := scope.names.map fun (n, k) => if (k == .free && sc.kind == .function && sc.names.lookup n == some .cell) then (n, .cell) else (n, k) }
def jc_ (cells : List (Str × Addr)) : List (Str × NameKind) -> List (Str × Addr) -> List (Str × Addr)
 | [], acc => acc
 | (n, k) :: r, acc => if k == .free then jc_ cells r ((n, (cells.lookup n).getD 0) :: acc) else jc_ cells r acc
theorem closure_loop (env : Env) (f : Str × NameKind -> List (Str × Addr) -> Sem (ForInStep (List (Str × Addr))))
  (hf : ∀ n k c, f (n, k) c = if k == .free then (do let a <- cellOf env n; pure (.yield ((n, a) :: c))) else pure (.yield c)) :
  ∀ (names : List (Str × NameKind)) (acc : List (Str × Addr)), (∀ y ∈ names, y.2 = .free -> ∃ c, env.cells.lookup y.1 = some c) -> forIn names acc f = pure (jc_ env.cells names acc)
 | [], acc, _ => by rw [List.forIn_nil]; rfl
 | (n, k) :: r, acc, h => by
  rw [List.forIn_cons, hf]
  have ih := fun acc => closure_loop env f hf r acc fun y hy => h y (List.mem_cons_of_mem _ hy)
  unfold jc_
  by_cases hk : (k == NameKind.free) = true
  ·rw [if_pos hk, if_pos hk]
   obtain ⟨c, hc⟩ := h (n, k) List.mem_cons_self (by simpa using hk)
   have e : cellOf env n = pure c := by unfold cellOf; rw [hc]
   rw [e]
   have e2 : (env.cells.lookup n).getD 0 = c := by rw [hc]; rfl
   rw [e2]
   exact ih _
  ·rw [if_neg hk, if_neg hk]
   exact ih _
theorem closure_ok {scope : Scope} {env : Env} (h : ∀ y ∈ scope.names, y.2 = .free -> ∃ c, env.cells.lookup y.1 = some c) : closureFor scope env = pure (jc_ env.cells scope.names []) := by
 simp only [closureFor]
 rw [closure_loop env _ (fun n k c => rfl) scope.names [] h]
 rfl
theorem mem_lookup {α : Type} : ∀ {l : List (Str × α)} {n : Str} {c : α}, (n, c) ∈ l -> ∃ c', l.lookup n = some c'
 | (k, v) :: r, n, c, h => by
  rw [List.lookup_cons]
  cases hb : n == k with
  | true => exact ⟨_, rfl⟩
  | false =>
   rcases List.mem_cons.mp h with e | h
   ·cases e; simp at hb
   ·exact mem_lookup h
theorem y9_ {cells : List (Str × Addr)} : ∀ {names : List (Str × NameKind)} {acc : List (Str × Addr)} {n : Str} {c : Addr}, (n, c) ∈ jc_ cells names acc -> (n, c) ∈ acc \/ ((n, .free) ∈ names /\ c = (cells.lookup n).getD 0)
 | [], _, _, _, h => .inl h
 | (m, k) :: r, acc, n, c, h => by
  unfold jc_ at h
  split at h
  ·rename_i hk
   have hk : k = .free := by simpa using hk
   rcases y9_ h with h | ⟨h1, h2⟩
   ·rcases List.mem_cons.mp h with e | h
    ·cases e; exact .inr ⟨hk ▸ List.mem_cons_self, rfl⟩
    ·exact .inl h
   ·exact .inr ⟨List.mem_cons_of_mem _ h1, h2⟩
  ·rcases y9_ h with h | ⟨h1, h2⟩
   ·exact .inl h
   ·exact .inr ⟨List.mem_cons_of_mem _ h1, h2⟩
theorem yq_ {cells : List (Str × Addr)} : ∀ {names : List (Str × NameKind)} {acc : List (Str × Addr)} {p : Str × Addr}, p ∈ acc -> p ∈ jc_ cells names acc
 | [], _, _, h => h
 | (m, k) :: r, acc, p, h => by
  unfold jc_
  split
  ·exact yq_ (List.mem_cons_of_mem _ h)
  ·exact yq_ h
theorem yr_ {cells : List (Str × Addr)} : ∀ {names : List (Str × NameKind)} {acc : List (Str × Addr)} {n : Str}, (n, .free) ∈ names -> (n, (cells.lookup n).getD 0) ∈ jc_ cells names acc
 | (m, k) :: r, acc, n, h => by
  unfold jc_
  rcases List.mem_cons.mp h with e | h
  ·cases e
   exact yq_ List.mem_cons_self
  ·split
   ·exact yr_ h
   ·exact yr_ h
theorem yi_ : ∀ {names : List (Str × NameKind)} {h : Heap} {acc : List (Str × Addr)} {x : Str} {c : Addr}, (x, c) ∈ cellsFrom h.objs.size names acc ->
  (x, c) ∈ acc \/ ((x, .cell) ∈ names /\ h.objs.size <= c /\ CellAt (pushCells h names) c none)
 | [], _, _, _, _, h => .inl h
 | (n, k) :: r, h, acc, x, c, hm => by
  unfold cellsFrom at hm
  unfold pushCells
  split at hm
  ·rename_i hk
   rw [if_pos hk]
   have hk : k = .cell := by simpa using hk
   rw [<- Heap.size_push h { cls := .type "cell", data := .cell none }] at hm
   rcases yi_ hm with hm | ⟨h1, h2, h3⟩
   ·rcases List.mem_cons.mp hm with e | hm
    ·cases e
     exact .inr ⟨hk ▸ List.mem_cons_self, Nat.le_refl _, _, pushCells_keeps r _ _ _ (Heap.get?_push_size _ rfl), rfl⟩
    ·exact .inl hm
   ·rw [Heap.size_push] at h2
    exact .inr ⟨List.mem_cons_of_mem _ h1, Nat.le_of_succ_le h2, h3⟩
  ·rename_i hk
   rw [if_neg hk]
   rcases yi_ hm with hm | ⟨h1, h2, h3⟩
   ·exact .inl hm
   ·exact .inr ⟨List.mem_cons_of_mem _ h1, h2, h3⟩
theorem yy_ : ∀ {names : List (Str × NameKind)} {n : Nat} {acc : List (Str × Addr)} {p : Str × Addr}, p ∈ acc -> p ∈ cellsFrom n names acc
 | [], _, _, _, h => h
 | (m, k) :: r, n, acc, p, h => by
  unfold cellsFrom
  split
  ·exact yy_ (List.mem_cons_of_mem _ h)
  ·exact yy_ h
theorem cells_has : ∀ {names : List (Str × NameKind)} {n : Nat} {acc : List (Str × Addr)} {x : Str}, (x, .cell) ∈ names -> ∃ c, (x, c) ∈ cellsFrom n names acc
 | (m, k) :: r, n, acc, x, h => by
  unfold cellsFrom
  rcases List.mem_cons.mp h with e | h
  ·cases e
   exact ⟨n, yy_ List.mem_cons_self⟩
  ·split
   ·exact cells_has h
   ·exact cells_has h
theorem cells_inj : ∀ {names : List (Str × NameKind)} {h : Heap} {acc : List (Str × Addr)} {x y : Str} {c : Addr}, (∀ p ∈ acc, p.2 < h.objs.size) -> (∀ x y c, (x, c) ∈ acc -> (y, c) ∈ acc -> x = y) ->
  (x, c) ∈ cellsFrom h.objs.size names acc -> (y, c) ∈ cellsFrom h.objs.size names acc -> x = y
 | [], _, _, _, _, _, _, hi, h1, h2 => hi _ _ _ h1 h2
 | (n, k) :: r, h, acc, x, y, c, hl, hi, h1, h2 => by
  unfold cellsFrom at h1 h2
  split at h1
  ·rename_i hk
   rw [if_pos hk] at h2
   rw [<- Heap.size_push h { cls := .type "cell", data := .cell none }] at h1 h2
   refine cells_inj (h := h.push _) (fun p hp => ?_) (fun x y c a b => ?_) h1 h2
   ·rw [Heap.size_push]
    rcases List.mem_cons.mp hp with rfl | hp
    ·exact Nat.lt_succ_self _
    ·exact Nat.lt_succ_of_lt (hl p hp)
   ·rcases List.mem_cons.mp a with e | a <;> rcases List.mem_cons.mp b with e' | b
    ·cases e; cases e'; rfl
    ·cases e; exact absurd (hl _ b) (Nat.lt_irrefl _)
    ·cases e'; exact absurd (hl _ a) (Nat.lt_irrefl _)
    ·exact hi _ _ _ a b
  ·rename_i hk
   rw [if_neg hk] at h2
   exact cells_inj hl hi h1 h2
theorem newEnv_comp {M : Model} {A : Around} {E : Value -> Shared -> Prop} {s : Shared} {scope : Scope} {globals : Addr} {closure : List (Str × Addr)} {qual : Str} {func : Option Addr} {code : Value} {around : Env} {builtins : Addr} {Q : Env -> Shared -> Prop}
  (h : Q (newEnv scope s.heap.objs.size globals (cellsFrom (s.heap.objs.size + 1) scope.names closure) qual func code (some around) builtins)
   { s with heap := pushCells (s.heap.push { cls := .type "dict", data := .dict #[] }) scope.names }) :
  wpAny M A (newFunctionEnv scope globals closure [] qual func code (some around) builtins) Q E s := by
 simp only [newFunctionEnv, Option.isSome_some, if_true]
 refine wpAny_bind (wpAny_alloc ?_)
 refine wpAny_bind (wpAny_layCells _ (fun n k c => rfl) scope.names closure _ _ ?_)
 rw [show ({ s with heap := s.heap.push { cls := .type "dict", data := .dict #[] } } : Shared).heap.objs.size = s.heap.objs.size + 1 from Heap.size_push ..]
 rw [List.forIn_nil]
 exact wpAny_bind (wpAny_pure (wpAny_pure h))
theorem yu_ {sc : Scope} : ∀ {names : List (Str × NameKind)} {x : Str} {k : NameKind},
  (names.map fun (n, k) => if (k == NameKind.free && sc.kind == .function && sc.names.lookup n == some .cell) then (n, NameKind.cell) else (n, k)).lookup x = some k ->
  ∃ k', names.lookup x = some k' /\ (k = k' \/ (k' = .free /\ k = .cell))
 | [], _, _, h => by simp at h
 | (n, k₀) :: r, x, k, h => by
  have ih := @yu_ sc r x k
  have h' : List.lookup x ((if (k₀ == NameKind.free && sc.kind == .function && sc.names.lookup n == some .cell) = true then (n, NameKind.cell) else (n, k₀)) :: (r.map _)) = some k := h
  cases hx : x == n with
  | true =>
   simp only [List.lookup_cons, hx]
   by_cases hc : (k₀ == NameKind.free && sc.kind == .function && sc.names.lookup n == some .cell) = true
   ·rw [if_pos hc] at h'
    simp only [List.lookup_cons, hx] at h'
    cases h'
    simp only [Bool.and_eq_true, beq_iff_eq] at hc
    exact ⟨k₀, rfl, .inr ⟨hc.1.1, rfl⟩⟩
   ·rw [if_neg hc] at h'
    simp only [List.lookup_cons, hx] at h'
    cases h'
    exact ⟨_, rfl, .inl rfl⟩
  | false =>
   simp only [List.lookup_cons, hx]
   by_cases hc : (k₀ == NameKind.free && sc.kind == .function && sc.names.lookup n == some .cell) = true
   ·rw [if_pos hc] at h'
    simp only [List.lookup_cons, hx] at h'
    exact ih h'
   ·rw [if_neg hc] at h'
    simp only [List.lookup_cons, hx] at h'
    exact ih h'
structure BlkOk (N : List Str) (sc scope : Scope) (own : List (Str × Nat)) : Prop where
 kind : scope.kind = .function
 uniq : ∀ y ∈ scope.names, scope.names.lookup y.1 = some y.2
 ix : ∀ p ∈ own, N[p.2]? = some p.1
 free : ∀ y ∈ scope.names, y.2 = .free -> sc.names.lookup y.1 = some .cell \/ sc.names.lookup y.1 = some .free
 own : ∀ y ∈ scope.names, y.2 = .local \/ y.2 = .cell -> y.1 ∈ own.map (·.1) \/ y.1 ∉ N
def wipe (σ : St) : List Nat -> St
 | [] => σ
 | v :: vs => (wipe σ vs).set v none
theorem yt_ (σ : St) : ∀ vs : List Nat, (wipe σ vs).length = σ.length
 | [] => rfl
 | v :: vs => by unfold wipe; rw [List.length_set, yt_ σ vs]
theorem wipe_some {σ : St} {i : Nat} {x : V} : ∀ {vs : List Nat}, (wipe σ vs)[i]? = some (some x) -> σ[i]? = some (some x) /\ i ∉ vs
 | [], h => ⟨h, by simp⟩
 | v :: vs, h => by
  unfold wipe at h
  by_cases hi : v = i
  ·subst hi
   by_cases hv : v < (wipe σ vs).length
   ·rw [List.getElem?_set_self hv] at h; cases h
   ·rw [List.getElem?_eq_none (by simpa using hv)] at h; cases h
  ·rw [List.getElem?_set_ne hi] at h
   obtain ⟨h1, h2⟩ := wipe_some h
   exact ⟨h1, by simp only [List.mem_cons, not_or]; exact ⟨fun e => hi e.symm, h2⟩⟩
abbrev Cx.blk (X : Cx) (s : Shared) (H : Hp) (scope : Scope) (cenv : Env) (fp : List Addr) : Cx := { X with s_0 := s, H_0 := H, env := cenv, outer := X.stack, ex := fp, fn := fun x => scope.names.lookup x == some .cell, pn := [], xe := fun _ _ => False }
section
variable {X : Cx} {pins : List (Addr × Obj)} {σ : St} {H : Hp} {s : Shared}
theorem block_start {scope : Scope} {own : List (Str × Nat)} {fp : List Addr} (I : Inv X pins σ H s) (ok : BlkOk X.N X.env.scope scope own) (hN : X.N.Nodup) (hfp : ∀ b ∈ fp, FpOk X pins H b /\ b < s.heap.objs.size) :
  Inv (X.blk s H scope (compEnvC scope (cellsFrom (s.heap.objs.size + 1) scope.names (jc_ X.env.cells scope.names [])) s.heap.objs.size X.env) fp) [] (wipe σ (own.map (·.2))) H { s with heap := pushCells (s.heap.push { cls := .type "dict", data := .dict #[] }) scope.names } := by
 have hfree : ∀ y ∈ scope.names, y.2 = .free -> ∃ c, X.env.cells.lookup y.1 = some c := fun y hy e => by
  rcases ok.free y hy e with k | k
  ·exact I.ok.has _ (.inl k)
  ·exact I.ok.has _ (.inr k)
 generalize hcenv : compEnvC scope (cellsFrom (s.heap.objs.size + 1) scope.names (jc_ X.env.cells scope.names [])) s.heap.objs.size X.env = cenv
 have kp : ∀ b o, s.heap.get? b = some o -> (pushCells (s.heap.push { cls := .type "dict", data := .dict #[] }) scope.names).get? b = some o := fun b o e => pushCells_keeps _ _ _ _ (Heap.get?_push_of_some _ e)
 have hL : cenv.locals = s.heap.objs.size := by rw [<- hcenv]; rfl
 have hcl : cenv.cells = cellsFrom (s.heap.objs.size + 1) scope.names (jc_ X.env.cells scope.names []) := by rw [<- hcenv]; rfl
 have hsc : cenv.scope = relS scope X.env.scope := by rw [<- hcenv]; rfl
 rw [<- Heap.size_push s.heap { cls := .type "dict", data := .dict #[] }] at hcl
 have cm : ∀ {y c}, (y, c) ∈ jc_ X.env.cells scope.names [] -> X.env.cells.lookup y = some c /\ c < s.heap.objs.size := fun {y c} hm => by
  rcases y9_ hm with hm | ⟨h1, rfl⟩
  ·cases hm
  ·obtain ⟨c, hc⟩ := hfree _ h1 rfl
   rw [hc]
   obtain ⟨w, z⟩ := I.cell _ _ hc
   exact ⟨rfl, z.lt⟩
 have mem : ∀ {y c}, cenv.cells.lookup y = some c -> (X.env.cells.lookup y = some c /\ c < s.heap.objs.size) \/ (s.heap.objs.size + 1 <= c /\ CellAt (pushCells (s.heap.push { cls := .type "dict", data := .dict #[] }) scope.names) c none) := fun {y c} e => by
  rw [hcl] at e
  rcases yi_ (PySem.mem_of_lookup e) with hm | ⟨_, h2, h3⟩
  ·exact .inl (cm hm)
  ·rw [Heap.size_push] at h2; exact .inr ⟨h2, h3⟩
 have look : ∀ {y}, scope.names.lookup y = some .free -> ∃ c, cenv.cells.lookup y = some c /\ X.env.cells.lookup y = some c := fun {y} hl => by
  have hy : (y, NameKind.free) ∈ scope.names := PySem.mem_of_lookup hl
  obtain ⟨c', e'⟩ := mem_lookup (yy_ (names := scope.names) (n := (s.heap.push { cls := .type "dict", data := .dict #[] }).objs.size) (yr_ (cells := X.env.cells) (acc := []) hy))
  rw [<- hcl] at e'
  refine ⟨c', e', ?_⟩
  rw [hcl] at e'
  rcases yi_ (PySem.mem_of_lookup e') with hm | ⟨h1, _, _⟩
  ·exact (cm hm).1
  ·have := ok.uniq _ h1
   rw [hl] at this; cases this
 have okB : (X.blk s H scope cenv fp).Ok := by
  refine ⟨I.ok.mod, by show cenv.scope.kind = _; rw [hsc]; exact ok.kind, by show cenv.globals = _; rw [<- hcenv]; exact I.ok.glob, by show cenv.builtins = _; rw [<- hcenv]; exact I.ok.blt, by show s.heap.objs.size <= cenv.locals; rw [hL]; exact Nat.le_refl _,
   fun y z c e1 e2 => ?_, fun y hy => ?_, fun y c z e => ?_, I.ok.hd, I.ok.frames, .inl rfl, fun b hb => ⟨?_, fun y c e z => ?_⟩, I.bs, Nat.le_trans I.ok.bsz I.sz, fun b o e hb => ?_, fun b hb z => ?_, I.stack, I.stkFree⟩
  ·have e1 : cenv.cells.lookup y = some c := e1
   have e2 : cenv.cells.lookup z = some c := e2
   rw [hcl] at e1 e2
   refine cells_inj (fun p hp => ?_) (fun y z c a b => I.ok.inj y z c (cm a).1 (cm b).1) (PySem.mem_of_lookup e1) (PySem.mem_of_lookup e2)
   rw [Heap.size_push]
   exact Nat.lt_succ_of_lt (cm (y := p.1) (c := p.2) hp).2
  ·show ∃ c, cenv.cells.lookup y = some c
   have key : ∀ k, cenv.kindOf y = some k -> (k = .cell \/ k = .free) -> ∃ c, cenv.cells.lookup y = some c := fun k hk hk' => by
    unfold Env.kindOf at hk
    rw [hsc] at hk
    obtain ⟨k', e, r⟩ := yu_ hk
    have : k' = .cell \/ k' = .free := by
     rcases r with rfl | ⟨rfl, _⟩
     ·exact hk'
     ·exact .inr rfl
    rcases this with rfl | rfl
    ·obtain ⟨c, hm⟩ := cells_has (n := (s.heap.push { cls := .type "dict", data := .dict #[] }).objs.size) (acc := jc_ X.env.cells scope.names []) (PySem.mem_of_lookup e)
     obtain ⟨c', e'⟩ := mem_lookup hm
     exact ⟨c', by rw [hcl]; exact e'⟩
    ·obtain ⟨c, h1, _⟩ := look e
     exact ⟨c, h1⟩
   rcases hy with hy | hy
   ·exact key _ hy (.inl rfl)
   ·exact key _ hy (.inr rfl)
  ·have z : (scope.names.lookup y == some NameKind.cell) = true := z
   have z : scope.names.lookup y = some .cell := by simpa using z
   have e : cenv.cells.lookup y = some c := e
   rw [hcl] at e
   rcases yi_ (PySem.mem_of_lookup e) with hm | ⟨_, h2, _⟩
   ·rcases y9_ hm with hm | ⟨h1, _⟩
    ·cases hm
    ·have q := ok.uniq _ h1
     rw [z] at q; cases q
   ·rw [Heap.size_push] at h2
    exact Nat.le_of_succ_le h2
  ·show b ≠ cenv.locals
   rw [hL]; exact Nat.ne_of_lt (hfp b hb).2
  ·have e : cenv.cells.lookup y = some c := e
   rcases mem e with ⟨h1, _⟩ | ⟨h1, _⟩
   ·exact (hfp b hb).1.2.2.2.2.1 y c h1 z
   ·have h2 : s.heap.objs.size + 1 <= b := by rw [<- z]; exact h1
    exact absurd (Nat.lt_of_lt_of_le (hfp b hb).2 (Nat.le_of_succ_le h2)) (Nat.lt_irrefl _)
  ·rcases (hfp b hb).1.2.2.2.1 with z | z
   ·exact I.ok.noex b o e z
   ·exact absurd (Nat.lt_of_lt_of_le (Heap.lt_size e) (Nat.le_trans I.ok.bsz z)) (Nat.lt_irrefl _)
  ·rcases List.mem_cons.mp (I.stkSub b z) with z | z
   ·exact (hfp b hb).1.2.1 z
   ·exact (hfp b hb).1.2.2.1 z
 refine ⟨okB, rfl, I.bare, Un.kept kp, ⟨fun _ => none, ?_, fun i y av e1 e2 e3 => ?_⟩, fun y c e => ?_, ?_, fun y c e => ?_, fun p hp => ?_, I.hok.kept kp, by rw [yt_]; exact I.len⟩
 ·show Heap.Ns _ cenv.locals _
  rw [hL]
  exact Heap.Ns.keeps (Heap.Ns.new ..) fun b o e => pushCells_keeps _ _ _ _ e
 ·obtain ⟨e2, hne⟩ := wipe_some e2
  have hfr : scope.names.lookup y = some .free /\ (cenv.kindOf y = some .cell \/ cenv.kindOf y = some .free) := by
   have key : ∀ k, cenv.scope.names.lookup y = some k -> k = .local \/ k = .cell \/ k = .free -> scope.names.lookup y = some .free /\ (cenv.kindOf y = some .cell \/ cenv.kindOf y = some .free) := fun k hk hk' => by
    have hk0 := hk
    rw [hsc] at hk
    obtain ⟨k', e, r⟩ := yu_ hk
    have no : ¬ (k' = .local \/ k' = .cell) := fun hh => by
     rcases ok.own _ (PySem.mem_of_lookup e) hh with e' | e'
     ·obtain ⟨p, hp, hpy⟩ := List.mem_map.mp e'
      have e3 := ok.ix p hp
      have : p.1 = y := hpy
      rw [this] at e3
      exact hne (List.mem_map.mpr ⟨p, hp, nodup_ix hN e3 e1⟩)
     ·exact e' (List.mem_of_getElem? e1)
    rcases r with rfl | ⟨rfl, rfl⟩
    ·rcases hk' with rfl | rfl | rfl
     ·exact absurd (.inl rfl) no
     ·exact absurd (.inr rfl) no
     ·exact ⟨e, .inr hk0⟩
    ·exact ⟨e, .inl hk0⟩
   have e3 : Vis cenv.scope y := e3
   rcases e3 with e3 | e3 | e3
   ·exact key _ e3 (.inl rfl)
   ·exact key _ e3 (.inr (.inl rfl))
   ·exact key _ e3 (.inr (.inr rfl))
  obtain ⟨m, hn, hl⟩ := I.loc
  have hvis : Vis X.env.scope y := (ok.free _ (PySem.mem_of_lookup hfr.1) rfl).elim (fun k => .inr (.inl k)) (fun k => .inr (.inr k))
  obtain ⟨w, r, q⟩ := hl i y av e1 e2 hvis
  refine ⟨w, r, .inr ⟨hfr.2, ?_⟩⟩
  obtain ⟨c, h1, h2⟩ := look hfr.1
  rcases q with ⟨k, _⟩ | ⟨_, c', e', z⟩
  ·have k : X.env.scope.names.lookup y = some .local := k
   rcases ok.free _ (PySem.mem_of_lookup hfr.1) rfl with k' | k' <;> rw [show X.env.scope.names.lookup y = _ from k'] at k <;> cases k
  ·rw [h2] at e'; cases e'
   exact ⟨c, h1, z.keeps kp⟩
 ·have e : cenv.cells.lookup y = some c := e
  rcases mem e with ⟨h1, _⟩ | ⟨_, z⟩
  ·obtain ⟨w, z⟩ := I.cell y c h1
   exact ⟨w, z.keeps kp⟩
  ·exact ⟨_, z⟩
 ·show H cenv.locals = none
  rw [hL]; exact I.hok.fresh (Nat.le_refl _)
 ·have e : cenv.cells.lookup y = some c := e
  rcases mem e with ⟨h1, _⟩ | ⟨h1, _⟩
  ·exact I.freeC y c h1
  ·exact I.hok.fresh (Nat.le_of_succ_le h1)
 ·exact absurd (show p ∈ ([] : List (Addr × Obj)) ++ [] from hp) (by simp)
theorem app_ok {E : Value -> Shared -> Prop} {D : Addr} {xs : List V} {y : V} {v : Value} {Q : Value -> Shared -> Prop} (I : Inv X pins σ H s) (hD : H D = some (.lst xs)) (hz : xs.length < sizeLine) (r : jq_ y v)
  (h : ∀ s', Inv X pins σ (upd H D (.lst (xs ++ [y]))) s' -> Q .none s') : wpAny (model X.prog X.w) X.A (call (.builtin "list.append") [.ref D, v]) Q E s := by
 obtain ⟨hz', its, n, ri, e⟩ := I.hok D _ hD
 have hl := ri.length
 refine append_at (hsz := by rw [List.size_toArray]; omega) e fun h' sb ho' => ?_
 refine h { s with heap := h' } (I.write (t' := s.toks) (by rw [hD]; trivial) (.inl rfl) (fun b u hb q => (sb.2 b hb).trans q) ⟨_, ho'⟩ ⟨by rw [List.length_append]; exact hz, its ++ [v], n + 1, ri.append (.cons r .nil), ?_⟩)
 rw [ho']
 simp
def PTs (X : Cx) (ifs : List Expr) (t : TT) : Prop :=
 ∀ (pins : List (Addr × Obj)) (s : Shared) (σ : St) (H : Hp) (Q : Bool -> Hp -> Prop), Inv X pins σ H s -> t σ H Q ->
  wpAny (model X.prog X.w) X.A (forIn ifs true fun c r => if r = true then do let ok <- isTrue c X.env (eval c X.env); pure (ForInStep.yield ok) else pure (ForInStep.yield r)) (TP X pins σ Q) X.xe s
def tYes : TT := fun _ H Q => Q true H
theorem pts_nil : PTs X [] tYes := fun _ _ _ H _ I h => wpAny_tests_nil ⟨H, I, h⟩
end
theorem thnF {α : Type} {t : Sem α} {Q Q' : α -> Shared -> Prop} {M : Model} {A : Around} {E : Value -> Shared -> Prop} {s : Shared} (h : wpAny M A t Q (fun _ _ => False) s) (hQ : ∀ a s, Q a s -> Q' a s) : wpAny M A t Q' E s := wpAny_mono h hQ fun _ _ z => False.elim z
theorem compLoop_any {prog : Program} {w : World} {A : Around} {R : Result -> Shared -> Prop} {s : Shared} {elt target iter : Expr} {ifs : List Expr} {scope : Scope} {pos : Pos} {it acc : Value} {env : Env} (I : Nat -> Shared -> Prop)
  (turn : ∀ n s, I n s -> wpAny (model prog w) A (pyNext it) (fun r s₁ => match r with
   | none => R (.ok .next) s₁
   | some v => wpAny (model prog w) A (letOwnedTupleGo target it v) (fun _ s₁' => wpAny (model prog w) A (assign target env v) (fun _ s₂ =>
     wpAny (model prog w) A (forIn ifs true fun c r => if r = true then do let ok <- isTrue c env (eval c env); pure (ForInStep.yield ok) else pure (ForInStep.yield r)) (fun ok s₃ =>
      if ok = true then wpAny (model prog w) A (eval elt env) (fun x s₄ =>
       wpAny (model prog w) A (call (.builtin "list.append") [acc, x]) (fun _ s₅ => ∃ m, m < n /\ I m s₅) (notedBy (model prog w) A env fun e s' => R (.error e) s') s₄) (notedBy (model prog w) A env fun e s' => R (.error e) s') s₃
      else ∃ m, m < n /\ I m s₃) (notedBy (model prog w) A env fun e s' => R (.error e) s') s₂) (notedBy (model prog w) A env fun e s' => R (.error e) s') s₁') (notedBy (model prog w) A env fun e s' => R (.error e) s') s₁) (notedBy (model prog w) A env fun e s' => R (.error e) s') s)
  (n : Nat) (h : I n s) :
  codeAny (model prog w) A (.compLoop (.ListComp elt [⟨target, iter, ifs, 0⟩] scope pos) 0 it acc env) R s := by
 refine codeAny_loop rfl I (fun n s hI => ?_) n h
 show wpAny _ A ((compTurn (.ListComp elt [⟨target, iter, ifs, 0⟩] scope pos) 0 it acc env).onRaise (fun x => do noteFrame x env; theTreesLotGoes x)) _ _ s
 refine wpAny_noted ?_
 rw [compTurn_list]
 refine wpAny_bind (wpAny_standAt (wpAny_bind (wpAny_mono (turn n s hI) (fun r s₁ h₁ => ?_) fun _ _ h' => h')))
 cases r with
 | none => exact wpAny_pure h₁
 | some v =>
  refine wpAny_bind (wpAny_mono h₁ (fun _ s₁' h₁' => ?_) fun _ _ h' => h')
  refine wpAny_bind (wpAny_mono h₁' (fun _ s₂ h₂ => wpAny_bind (wpAny_mono h₂ (fun ok s₃ h₃ => ?_) fun _ _ h' => h')) fun _ _ h' => h')
  cases ok with
  | false => exact wpAny_pure ⟨rfl, h₃⟩
  | true =>
   exact wpAny_bind (wpAny_bind (wpAny_mono h₃ (fun x s₄ h₄ => wpAny_bind (wpAny_mono h₄ (fun _ s₅ h₅ => wpAny_pure (wpAny_pure ⟨rfl, h₅⟩)) fun _ _ h' => h')) fun _ _ h' => h'))
section
variable {X : Cx}
def tLc (wi : TI) (g : TG) (tt : TT) (te : TE) (vs : List Nat) : TE := fun σ H Q => wi σ H fun J H1 => ∀ D, H1 D = none -> ∃ W : Nat -> Nat -> Hp -> Prop, (∃ m, W 0 m (upd H1 D (.lst []))) /\ ∀ i m H, W i m H ->
 (J.stop i H /\ Q (.ref D) H) \/ (J.go i H /\ ∃ Nx : Hp -> Prop, (∀ H', Nx H' -> ∃ m', m' < m /\ W (i + 1) m' H') /\ ∀ x H', J.yld i H x H' -> g x (wipe σ vs) H' fun σ2 H2 => wipe σ2 vs = wipe σ vs /\ tt σ2 H2 fun b H3 =>
  if b = true then te σ2 H3 fun y H4 => ∃ acc, H4 D = some (.lst acc) /\ acc.length < sizeLine /\ Nx (upd H4 D (.lst (acc ++ [y]))) else Nx H3)
theorem lc_core {pins : List (Addr × Obj)} {s : Shared} {σ : St} {H : Hp} {Q : VK} {elt tg iter : Expr} {ifs : List Expr} {scope : Scope} {own : List (Str × Nat)} {pos pos' : Pos} {wi : TI} {g : TG} {tt : TT} {te : TE} {use : Option (Value -> Sem Unit)} {Qf : Value -> Shared -> Prop}
  (hc : X.calm = true) (hN : X.N.Nodup) (I : Inv X pins σ H s) (hi : PI X tg iter wi) (ok : BlkOk X.N X.env.scope scope own)
  (hg : ∀ (s : Shared) (H : Hp) (C : Addr) (cl : List (Str × Addr)) (fp : List Addr), PG (X.blk s H scope (compEnvC scope cl C X.env) fp) tg g) (ht : ∀ (s : Shared) (H : Hp) (C : Addr) (cl : List (Str × Addr)) (fp : List Addr), PTs (X.blk s H scope (compEnvC scope cl C X.env) fp) ifs tt)
  (he : ∀ (s : Shared) (H : Hp) (C : Addr) (cl : List (Str × Addr)) (fp : List Addr), PE (X.blk s H scope (compEnvC scope cl C X.env) fp) elt te) (hs : ∀ x, foldedSetIterable iter X.env x = pure x)
  (h : tLc wi g tt te (own.map (·.2)) σ H Q)
  (hRR : ∀ D C s' m H', Inv X pins σ H' s' -> Q (.ref D) H' -> s'.heap.Ns C m -> FpOk X pins H' C -> compPost (model X.prog X.w) X.A X.xe use Qf (.ref D) C (.ok .next) s') :
  wpAny (model X.prog X.w) X.A (comprehension (.ListComp elt [⟨tg, iter, ifs, 0⟩] scope pos) scope X.env pos' (newList []) false (eval iter X.env) use) Qf X.xe s := by
 have hfree : ∀ y ∈ scope.names, y.2 = .free -> ∃ c, X.env.cells.lookup y.1 = some c := fun y hy e => by
  rcases ok.free y hy e with k | k
  ·exact I.ok.has _ (.inl k)
  ·exact I.ok.has _ (.inr k)
 refine wpAny_comprehension_free (use := use) rfl hs (closure_ok hfree) ok.kind (fun y hy e => by rw [ok.uniq y hy, e])
  (thn (hi pins s σ H _ I h) fun xv s1 hx => thn hx fun itv s2 h2 => ?_)
 obtain ⟨it, fp, tn, J, H2, e, I2, T, st2, f2, q⟩ := h2
 subst e
 refine wpAny_newObj_type (newEnv_comp ?_) (by show 0 <= sizeLine; decide)
 generalize hD : s2.heap.objs.size = D
 have hDn : H2 D = none := I2.hok.fresh (Nat.le_of_eq hD)
 obtain ⟨W, ⟨m0, w0⟩, turn⟩ := q D hDn
 generalize hs3 : ({ s2 with heap := s2.heap.push { cls := .type "list", data := .seq ([] : List Value).toArray } } : Shared) = s3
 have I3 : Inv X pins σ (upd H2 D (.lst [])) s3 := by
  rw [<- hs3]
  refine I2.laid (t' := s2.toks) (fun b o e => Heap.get?_push_of_some _ e) (Nat.le_of_eq hD) ⟨Nat.zero_le _, [], 0, .nil, ?_⟩
  rw [<- hD]
  exact Heap.get?_push_size _ rfl
 have h3 : s3.heap = s2.heap.push { cls := .type "list", data := .seq ([] : List Value).toArray } := by rw [<- hs3]
 have sz : ∀ b ∈ fp, b < s2.heap.objs.size := fun b hb => by
  obtain ⟨o, e, _⟩ := T.obj _ _ st2 b hb
  exact Heap.lt_size e
 have f3 : ∀ b ∈ fp, FpOk X pins (upd H2 D (.lst [])) b /\ b < s3.heap.objs.size := fun b hb => by
  have hlt := sz b hb
  refine ⟨⟨?_, (f2 b hb).2⟩, by rw [h3, Heap.size_push]; exact Nat.lt_succ_of_lt hlt⟩
  rw [ja_ (by rw [<- hD]; exact Nat.ne_of_lt hlt)]
  exact (f2 b hb).1
 have st3 : tn 0 s3.heap := T.keep _ _ _ st2 fun b _ o e => by rw [h3]; exact Heap.get?_push_of_some _ e
 have I4 := block_start I3 ok hN f3
 have pg := hg s3 (upd H2 D (.lst [])) s3.heap.objs.size (cellsFrom (s3.heap.objs.size + 1) scope.names (jc_ X.env.cells scope.names [])) fp
 have pt := ht s3 (upd H2 D (.lst [])) s3.heap.objs.size (cellsFrom (s3.heap.objs.size + 1) scope.names (jc_ X.env.cells scope.names [])) fp
 have pe := he s3 (upd H2 D (.lst [])) s3.heap.objs.size (cellsFrom (s3.heap.objs.size + 1) scope.names (jc_ X.env.cells scope.names [])) fp
 show codeAny _ _ (.compStart (.ListComp elt [⟨tg, iter, ifs, 0⟩] scope pos) 0 (.ref it) (.ref D) (compEnvC scope (cellsFrom (s3.heap.objs.size + 1) scope.names (jc_ X.env.cells scope.names [])) s3.heap.objs.size X.env)) (compPost (model X.prog X.w) X.A X.xe use Qf (.ref D) s3.heap.objs.size) { s3 with heap := pushCells (s3.heap.push { cls := .type "dict", data := .dict #[] }) scope.names }
 have nfp : ∀ b ∈ fp, (upd H2 D (.lst [])) b = none := fun b hb => (f3 b hb).1.1
 generalize hce : compEnvC scope (cellsFrom (s3.heap.objs.size + 1) scope.names (jc_ X.env.cells scope.names [])) s3.heap.objs.size X.env = ce at I4 pg pt pe ⊢
 have cL : ce.locals = s3.heap.objs.size := by subst hce; rfl
 generalize hH3 : upd H2 D (.lst []) = H3 at I3 I4 pg pt pe w0 nfp f3
 generalize hs4 : ({ s3 with heap := pushCells (s3.heap.push { cls := .type "dict", data := .dict #[] }) scope.names } : Shared) = s4 at I4 ⊢
 have st4 : tn 0 s4.heap := T.keep _ _ _ st3 fun b _ o e => by rw [<- hs4]; exact pushCells_keeps _ _ _ _ (Heap.get?_push_of_some _ e)
 have stat : ∀ {σ' : St} {H' : Hp} {s' : Shared}, Inv (X.blk s3 H3 scope ce fp) [] σ' H' s' -> (∀ b ∈ fp, H' b = none) -> ∀ b ∈ fp, FpOk (X.blk s3 H3 scope ce fp) [] H' b := fun {σ' H' s'} I' hn b hb =>
  ⟨hn b hb, (I'.ok.exf b hb).1, I'.ok.exfs b hb, .inl hb, fun x c e => (I'.ok.exf b hb).2 x c e, fun p hp => absurd (show p ∈ ([] : List (Addr × Obj)) ++ [] from hp) (by simp)⟩
 have loop : codeAny (model X.prog X.w) X.A (.compLoop (.ListComp elt [⟨tg, iter, ifs, 0⟩] scope pos) 0 (.ref it) (.ref D) ce) (compPost (model X.prog X.w) X.A X.xe use Qf (.ref D) s3.heap.objs.size) s4 := by
  refine compLoop_any (fun n s' => ∃ i H', Inv (X.blk s3 H3 scope ce fp) [] (wipe σ (own.map (·.2))) H' s' /\ tn i s'.heap /\ (∀ b ∈ fp, H' b = none) /\ W i n H') ?_ m0 ⟨0, H3, I4, st4, nfp, w0⟩
  rintro n s5 ⟨i, H5, I5, st5, n5, w5⟩
  rcases turn i n H5 w5 with ⟨stop, qq⟩ | ⟨go, Nx, hNx, step⟩
  ·have td := T.done (X.blk s3 H3 scope ce fp) rfl rfl rfl hc i [] s5 _ H5 (fun _ _ => False) I5 (stat I5 n5) st5 stop
   refine thnF td fun r s6 ⟨hr, I6⟩ => ?_
   subst hr
   have I7 : Inv X pins σ H5 s6 := I3.call' (ch := fp) I6.os I6.base I6.hok I6.bare fun b hb => ⟨(f3 b hb).1.2.2.2.1, (f3 b hb).1.2.1, (f3 b hb).1.2.2.2.2.1, (f3 b hb).1.2.2.2.2.2⟩
   have nC : H5 s3.heap.objs.size = none := by
    have z : H5 ce.locals = none := I6.free
    rw [cL] at z
    exact z
   obtain ⟨m, hn, _⟩ := I6.loc
   have hn : s6.heap.Ns ce.locals m := hn
   rw [cL] at hn
   exact hRR D s3.heap.objs.size s6 m H5 I7 qq hn (I3.fpOk (Nat.le_refl _) nC)
  ·have ti := T.item (X.blk s3 H3 scope ce fp) rfl rfl rfl hc i [] s5 _ H5 (fun _ _ => False) I5 (stat I5 n5) st5 go
   refine thnF ti fun r s6 ⟨u, hr, h6⟩ => ?_
   subst hr
   refine thnF h6 fun _ s7 ⟨x, H7, I7, r7, y7, st7, n7⟩ => ?_
   have I7' := I7.pinned (stat I7 n7) (T.obj _ _ st7)
   refine thnF (pg _ s7 _ H7 x u _ I7' r7 (step x H7 y7)) fun _ s8 ⟨σ8, H8, I8, hw8, q8⟩ => ?_
   refine thnF (pt _ s8 σ8 H8 _ I8 q8) fun b s9 ⟨H9, I9, q9⟩ => ?_
   have fin : ∀ {s' : Shared} {H' : Hp}, Inv (X.blk s3 H3 scope ce fp) ([] ++ pinsAt fp s7.heap) σ8 H' s' -> Nx H' -> ∃ m, m < n /\ ∃ i H', Inv (X.blk s3 H3 scope ce fp) [] (wipe σ (own.map (·.2))) H' s' /\ tn i s'.heap /\ (∀ b ∈ fp, H' b = none) /\ W i m H' := fun {s' H'} I' nx => by
    obtain ⟨m', hm, w'⟩ := hNx H' nx
    have pin' : ∀ b ∈ fp, ∀ o, s7.heap.get? b = some o -> s'.heap.get? b = some o /\ H' b = none := fun b hb o e =>
     let z := I'.pin (b, o) (List.mem_append_right _ (List.mem_append_right _ (mem_pinsAt hb e)))
     ⟨z.1, z.2.1⟩
    have hl : (wipe σ (own.map (·.2))).length = σ8.length := by rw [<- hw8, yt_]
    refine ⟨m', hm, i + 1, H', (I'.unpinned (pins := [])).weak hl (fun j v e => ?_), T.keep _ _ _ st7 fun b hb o e => (pin' b hb o e).1, fun b hb => ?_, w'⟩
    ·rw [<- hw8] at e
     exact (wipe_some e).1
    ·obtain ⟨o, e, _⟩ := T.obj _ _ st7 b hb
     exact (pin' b hb o e).2
   cases b with
   | false =>
    simp only [Bool.false_eq_true, if_false] at q9 ⊢
    exact fin I9 q9
   | true =>
    simp only [if_true] at q9 ⊢
    refine thnF (pe _ s9 σ8 H9 _ I9 q9) fun z s10 ⟨yv, H10, I10, r10, acc, hD10, hz10, nx⟩ => ?_
    exact app_ok (X := X.blk s3 H3 scope ce fp) I10 hD10 hz10 r10 fun s11 I11 => fin I11 nx
 exact codeAny_compStart_list loop (T.self X.A 0 _ _ _ st4 loop)
theorem pe_lc {elt tg iter : Expr} {ifs : List Expr} {scope : Scope} {own : List (Str × Nat)} {pos : Pos} {wi : TI} {g : TG} {tt : TT} {te : TE} (hc : X.calm = true) (hN : X.N.Nodup) (hi : PI X tg iter wi) (ok : BlkOk X.N X.env.scope scope own)
  (hg : ∀ (s : Shared) (H : Hp) (C : Addr) (cl : List (Str × Addr)) (fp : List Addr), PG (X.blk s H scope (compEnvC scope cl C X.env) fp) tg g) (ht : ∀ (s : Shared) (H : Hp) (C : Addr) (cl : List (Str × Addr)) (fp : List Addr), PTs (X.blk s H scope (compEnvC scope cl C X.env) fp) ifs tt)
  (he : ∀ (s : Shared) (H : Hp) (C : Addr) (cl : List (Str × Addr)) (fp : List Addr), PE (X.blk s H scope (compEnvC scope cl C X.env) fp) elt te) (hs : ∀ x, foldedSetIterable iter X.env x = pure x := by intro _; rfl) :
  PE X (.ListComp elt [⟨tg, iter, ifs, 0⟩] scope pos) (tLc wi g tt te (own.map (·.2))) := by
 intro pins s σ H Q I h
 rw [eval_ListComp]
 refine lc_core hc hN I hi ok hg ht he hs h fun D C s' m H' I' q hn f => ⟨m, hn, fun h'' sb => ?_⟩
 obtain ⟨f0, f1, f2, f3, f4, f5⟩ := f
 exact ⟨.ref D, H', I'.turned (t' := s'.toks) (fun b o hb e => (sb.2 b hb).trans e) f0 f1 f3 f4 f5, rfl, q⟩
end
theorem lc_list {K : PySem.W.Frag} {a : Addr} {xs : List V} {g : TG} {tt : TT} {te : TE} {vs : List Nat} {σ : St} {H1 : Hp} {D : Addr} {Qd : Hp -> Prop} (Pv : Nat -> Hp -> Prop) (h0 : Pv 0 (upd H1 D (.lst []))) (hl : ∀ i H, i <= xs.length -> Pv i H -> SqL K H a xs)
  (hs : ∀ i x H, xs[i]? = some x -> Pv i H -> g x (wipe σ vs) H fun σ2 H2 => wipe σ2 vs = wipe σ vs /\ tt σ2 H2 fun b H3 =>
   if b = true then te σ2 H3 fun y H4 => ∃ acc, H4 D = some (.lst acc) /\ acc.length < sizeLine /\ Pv (i + 1) (upd H4 D (.lst (acc ++ [y]))) else Pv (i + 1) H3) (hd : ∀ H, Pv xs.length H -> Qd H) :
  ∃ W : Nat -> Nat -> Hp -> Prop, (∃ m, W 0 m (upd H1 D (.lst []))) /\ ∀ i m H, W i m H ->
   ((Itl K a).stop i H /\ Qd H) \/ ((Itl K a).go i H /\ ∃ Nx : Hp -> Prop, (∀ H', Nx H' -> ∃ m', m' < m /\ W (i + 1) m' H') /\ ∀ x H', (Itl K a).yld i H x H' -> g x (wipe σ vs) H' fun σ2 H2 => wipe σ2 vs = wipe σ vs /\ tt σ2 H2 fun b H3 =>
    if b = true then te σ2 H3 fun y H4 => ∃ acc, H4 D = some (.lst acc) /\ acc.length < sizeLine /\ Nx (upd H4 D (.lst (acc ++ [y]))) else Nx H3) := by
 refine ⟨fun i m H => m = xs.length - i /\ i <= xs.length /\ Pv i H, ⟨xs.length, by simp, Nat.zero_le _, h0⟩, ?_⟩
 rintro i m H ⟨rfl, hi, p⟩
 have q := hl i H hi p
 by_cases hlt : i < xs.length
 ·refine .inr ⟨⟨xs, xs[i], q, by simp [hlt]⟩, Pv (i + 1), fun H' p' => ⟨xs.length - (i + 1), by omega, rfl, hlt, p'⟩, fun x H' y => ?_⟩
  obtain ⟨e, y⟩ := y
  subst e
  exact hs i x _ (y xs q) p
 ·have e : i = xs.length := by omega
  subst e
  exact .inl ⟨⟨xs, q, Nat.le_refl _⟩, hd H p⟩
def blkC (N : List Str) (sc scope : Scope) (own : List (Str × Nat)) : Bool :=
 (match scope.kind with | .function => true | _ => false) && (scope.names.all fun y => decide (scope.names.lookup y.1 = some y.2)) && (own.all fun p => decide (N[p.2]? = some p.1)) &&
  (scope.names.all fun y => match y.2 with
   | .free => (match sc.names.lookup y.1 with | some .cell => true | some .free => true | _ => false)
   | .local => decide (y.1 ∈ own.map (·.1)) || decide (y.1 ∉ N)
   | .cell => decide (y.1 ∈ own.map (·.1)) || decide (y.1 ∉ N)
   | _ => true)
theorem blkOk_by {N : List Str} {sc scope : Scope} {own : List (Str × Nat)} (h : blkC N sc scope own = true) : BlkOk N sc scope own := by
 unfold blkC at h
 simp only [Bool.and_eq_true, List.all_eq_true, decide_eq_true_eq] at h
 obtain ⟨⟨⟨h1, h2⟩, h3⟩, h4⟩ := h
 refine ⟨?_, h2, h3, fun y hy e => ?_, fun y hy e => ?_⟩
 ·split at h1
  ·assumption
  ·cases h1
 ·have q := h4 y hy
  simp only [e] at q
  split at q <;> first | exact .inl (by assumption) | exact .inr (by assumption) | cases q
 ·have q := h4 y hy
  rcases e with e | e <;> (simp only [e, Bool.or_eq_true, decide_eq_true_eq] at q; exact q)
end L2
namespace L2
open PySem PySem.Spec PyProof.Rows
end L2
namespace L2
open PySem PySem.Spec PyProof.Rows
section
variable {κ : Type} [DecidableEq κ]
def valV (kvs : List (κ × V)) (k : κ) : Option V := (kvs.find? fun kv => decide (kv.1 = k)).map (·.2)
theorem valV_pos {p : κ × V} {r : List (κ × V)} {k : κ} (e : p.1 = k) : valV (p :: r) k = some p.2 := by simp [valV, List.find?_cons, e]
theorem valV_neg {p : κ × V} {r : List (κ × V)} {k : κ} (e : ¬ p.1 = k) : valV (p :: r) k = valV r k := by simp [valV, List.find?_cons, e]
theorem RelO.isSome_eq {o : Option V} {u : Option Value} (r : RelO o u) : o.isSome = u.isSome := by
 cases o with
 | none => cases u with
  | none => rfl
  | some _ => exact (show False from r).elim
 | some _ => cases u with
  | none => exact (show False from r).elim
  | some _ => rfl
end
theorem kV_is {P : Program} {w : World} {k : Key} {u : Value} (r : jq_ (kV k) u) : (jn_ P w).is k u = true := by
 cases k with
 | inl i => obtain ⟨t, e⟩ := (show ∃ t, u = Value.int i t from r); subst e; exact mixKind_int P w i t
 | inr x => obtain ⟨t, e⟩ := (show ∃ t, u = Value.str x t from r); subst e; exact mixKind_str P w x t
theorem items_are {P : Program} {w : World} : ∀ {ks : List Key} {us : List Value}, jk_ (ks.map kV) us -> ItemsAre (jn_ P w) ks us
 | [], _, r => by rw [List.map_nil] at r; cases r; exact .nil
 | k :: ks, _, r => by
  rw [List.map_cons] at r
  cases r with
  | cons h t => exact .cons (kV_is h) (items_are t)
section
variable {P : Program} {w : World} {H : Hp} {h : Heap} {a : Addr}
theorem key_of {ks : List Key} (ok : HOk P w H h) (e : H a = some (.tup (ks.map kV))) : (tupleKind (jn_ P w)).is h ks a := by
 obtain ⟨_, its, r, o, h1, h2, n, h3⟩ := (show yg_ P w H h a (.tup (ks.map kV)) from ok a _ e)
 exact ⟨o, its.toArray, n, h1, h2, h3, by simpa using items_are r⟩
end
def NoSl (i : Expr) : Prop := ∀ ov iv, subscripted i false ov iv = operate [ov, iv] (getItem ov iv)
theorem subD_of {prog : Program} {w : World} {A : Around} {E : Value -> Shared -> Prop} {s : Shared} {env : Env} {value slice : Expr} {pos : Pos} {T id : String} {Q : Value -> Shared -> Prop}
  (hl : typeLookup (.type T) "__getitem__" = pure (some (.builtin id))) (hs : NoSl slice)
  (h : wpAny (model prog w) A (eval value env) (fun o s₁ => wpAny (model prog w) A (eval slice env) (fun i s₂ => s₂.TypeIs o T /\ wpAny (model prog w) A (getItem o i) Q E s₂) E s₁) E s) :
  wpAny (model prog w) A (eval (.Subscript value slice pos) env) Q E s := by
 refine Subscript_ (wpAny_mono h (fun o s₁ h₁ => wpAny_mono h₁ (fun i s₂ h₂ => ?_) fun _ _ x => x) fun _ _ x => x)
 obtain ⟨hT, h₂⟩ := h₂
 unfold subscriptTail
 refine wpAny_bind ?_
 rw [getitemInPython_of_ne hT.not_modules]
 refine wpAny_bind (wpAny_specialOf hT hl ?_)
 have fin : wpAny (model prog w) A (subscripted slice false o i) (fun r s₃ => wpAny (model prog w) A (letTemporaryGo value o r >>= fun _ => pure r) Q E s₃) E s₂ := by
  rw [hs o i]
  exact wpAny_operating (wpAny_mono h₂ (fun r s₃ h₃ => wpAny_bind (wpAny_letTemporaryGo (wpAny_pure h₃))) fun _ _ x => x)
 first
  | exact wpAny_pure (wpAny_bind fin)
  | exact wpAny_bind (wpAny_pure (wpAny_bind fin))
  | exact wpAny_bind fin
end L2
namespace L2
open PySem PySem.Spec PyProof.Rows
end L2
namespace L2
open PySem PySem.Spec PyProof.Rows
end L2
section 
namespace Bits
open PySem PyProof.Rows
end Bits
end 
section 
namespace TL
open PySem PySem.Builtin PySem.Builtin.Str PySem.StrLaws
abbrev tl (x : Str) : List Nat := x.cps.toList
theorem ext_tl {x y : Str} (h : tl x = tl y) : x = y := Str.ext' (Array.toList_inj.mp h)
theorem tl_append (x y : Str) : tl (x ++ y) = tl x ++ tl y := by
 show (x ++ y).cps.toList = _
 rw [Str.cps_append, Array.toList_append]
def joinL (S : List Nat) : List (List Nat) -> List Nat
 | [] => []
 | [p] => p
 | p :: q :: r => p ++ (S ++ joinL S (q :: r))
theorem tl_join (y : Str) : ∀ parts : List Str, tl (Str.join y parts) = joinL (tl y) (parts.map tl)
 | [] => rfl
 | [_] => rfl
 | x :: z :: r => by
  show tl (x ++ y ++ Str.join y (z :: r)) = tl x ++ (tl y ++ joinL (tl y) ((z :: r).map tl))
  rw [tl_append, tl_append, tl_join y (z :: r), List.append_assoc]
theorem join_eq (y : Str) (parts : List Str) : Txt.join y parts = Str.join y parts := glued_eq_join y parts
end TL
end 
namespace L2
open PySem PySem.Spec PyProof.Rows
theorem ym_ : ∀ {ys : List Str} {us : List Value}, jk_ (ys.map V.str) us -> StrsAre us ys
 | [], _, .nil => .nil
 | y :: ys, _, .cons r t => by
  obtain ⟨k, rfl⟩ := r
  exact .cons y k (ym_ t)
section
variable {X : Cx}
theorem mt_join : MtR X "str.join" (fun x xs H Q => ∃ a p, ∃ ys : List Str, x = .str a /\ xs = [.ref p] /\ (SqL X.K H p (ys.map V.str) \/ SqT X.K H p (ys.map V.str)) /\
  (ys.map (·.length)).sum + ys.length * a.length <= 16777216 /\ Q (.str (Txt.join a ys)) H) := by
 intro pins s σ H x xs v us Q I rx rs h
 obtain ⟨a, p, ys, rfl, rfl, hp, hz, h⟩ := h
 obtain ⟨t, rfl⟩ := rx
 cases rs with
 | cons r1 rs =>
  cases rs
  cases r1
  rcases hp with hp | hp
  ·obtain ⟨its, r, ⟨o, n, ho, hc, _, hd⟩, _⟩ := I.list hp
   exact PyProof.Rows.join_list (items := its.toArray) ⟨o, ho, hc, n, hd⟩ (by rw [List.toList_toArray]; exact ym_ r) hz fun t' k => ⟨.str _, H, I.tok k, ⟨t', rfl⟩, h⟩
  ·obtain ⟨its, r, ht, _⟩ := I.tuple hp
   exact PyProof.Rows.join_tuple (items := its.toArray) ht (by rw [List.toList_toArray]; exact ym_ r) hz fun t' k => ⟨.str _, H, I.tok k, ⟨t', rfl⟩, h⟩
end
section
variable {X : Cx} {o e : Expr} {to te : TE}
def tM1 (r : V -> List V -> Hp -> VK -> Prop) (to te : TE) : TE := fun σ H Q => to σ H fun x H1 => (∃ a, x = .str a) /\ te σ H1 fun y H2 => r x [y] H2 Q
theorem pe_m1 {id : String} {name : Str} {apos pos : Pos} {r : V -> List V -> Hp -> VK -> Prop} (slot : Slot "str" name id) (ty : typeOf (.builtin id) = pure (.type "method_descriptor")) (rule : MtR X id r) (ho : PE X o to) (he : PE X e te)
  (hs : starEach [e] X.env = [(false, eval e X.env)] := by rfl) (hbase : attributeBase o name X.env (eval o X.env) = eval o X.env := by rfl) (hline : (apos.endLine == pos.line) = true := by rfl) :
  PE X (.Call (.Attribute o name apos) [e] [] pos) (tM1 r to te) := by
 intro pins s σ H Q I h
 refine PySem.Call_method1 hbase hs hline (thn (ho pins s σ H _ I h) fun v s1 ⟨x, H1, I1, r1, q1⟩ => ?_)
 obtain ⟨⟨a, rfl⟩, q1⟩ := q1
 obtain ⟨t, rfl⟩ := _root_.id r1
 refine ⟨"str", _, F.plainAttrs_str, slot, ty, typeIs_str _ _ _, (fun _ e => nomatch e), Calls.callWith_builtin rfl (Calls.evalArgs_plain (Calls.spliced_cons ?_))⟩
 exact thn (he pins s1 σ H1 _ I1 q1) fun u s2 ⟨y, H2, I2, r2, q2⟩ => Calls.spliced_nil (rule pins s2 σ H2 _ [y] _ [u] Q I2 r1 (.cons r2 .nil) q2)
theorem pe_join {apos pos : Pos} (ho : PE X o to) (he : PE X e te) (hs : starEach [e] X.env = [(false, eval e X.env)] := by rfl) (hbase : attributeBase o "join" X.env (eval o X.env) = eval o X.env := by rfl) (hline : (apos.endLine == pos.line) = true := by rfl) :
  PE X (.Call (.Attribute o "join" apos) [e] [] pos) (tM1 (fun x xs H Q => ∃ a p, ∃ ys : List Str, x = .str a /\ xs = [.ref p] /\ (SqL X.K H p (ys.map V.str) \/ SqT X.K H p (ys.map V.str)) /\
   (ys.map (·.length)).sum + ys.length * a.length <= 16777216 /\ Q (.str (Txt.join a ys)) H) to te) :=
 pe_m1 F.slot_str_join F.type_str_join mt_join ho he hs hbase hline
end
end L2
namespace L2
open PySem PySem.Spec PyProof.Rows
end L2
namespace Att
open PySem PySem.W PySem.Calls PyProof.Rows
end Att
namespace L2
open PySem PySem.Spec PyProof.Rows
end L2
namespace L2
open PySem PySem.Spec PyProof.Rows
end L2
/- THE LAST THEOREM (shape; LID, My.* are yours):
   My.Adr: a structure of the addresses that your layer names (classes, functions); My.Txt K t: a structure (Prop) of the equations over K;
   My.txt_mk : {K} {implicit addresses ..} (e1 : nsIn K mainGlobals "law" = some (some (.ref f))) (e2 : K.lookup f = some ⟨oc, od, .func (fnOf "law" "law" params body scope dV kV doc pm an cdv ct), sl⟩) (e3 : codeIn K cdv "law" = true) .. : ∃ t, My.Txt K t
set_option maxRecDepth 100000 in
set_option maxHeartbeats 0 in
theorem PySem.Challenge.cw_LID_holds : PySem.Challenge.rw_LID.Holds := by
 w_on; o_law; k_head; (case hw => w_witness2)
 k_fill
 refine L2.walk_of (l := PySem.Challenge.rw_LID) (n := 63) (k := 40) (x := "script") (CX := fun w => ..) (sp := fun _ => My.sp_law) rfl (by decide) rfl ⟨rfl, by decide, by decide⟩ (fun w h Y => PySem.W.kIn_of Y) ?F ?S ?C
 case F =>
  intro w mg fa h KX G hmg
  have T : ∃ t, My.Txt (L2.KOf KX) t := by
   dsimp only [L2.KOf]                          -- K must stand as «<heap const> w.params» for k_is
   refine' My.txt_mk ?e1 ?e2 ?e3 ..
   (case e1 => PySem.W.k_is)                    -- in the order: a name -> its address -> its object -> its parts
   (case e2 => PySem.W.k_is)
   ..
  obtain ⟨t, T⟩ := T
  have e0 := hmg.symm.trans (PySem.W.mg_of KX G T.law)
  cases e0                                       -- fa is the law's own address
  exact ⟨_, fun s u => .of_eq rfl, fun base kb nb => My.law_fn T kb nb⟩     -- if «.of_eq rfl» comes too early: refine' ⟨_, ?b, fun base kb nb => My.law_fn T kb nb⟩; exact fun s u => .of_eq rfl
 case S => exact fun w H a ns hl hO hS => ..
 case C => exact ..
(the tactic k_is has no namespace: write k_is) -/
namespace L2
open PySem PySem.Spec PyProof.Rows
def inClass (s : Stmt) (j : Nat) : Stmt := match s with
 | .ClassDef _ _ _ body _ _ _ _ _ _ _ => body.getD j (.Pass ⟨0, 0, 0, 0⟩)
 | _ => .Pass ⟨0, 0, 0, 0⟩
def yk_ (s : Stmt) : Arguments := match s with
 | .FunctionDef _ a _ _ _ _ _ _ _ _ => a
 | _ => { posonlyargs := [], args := [], vararg := none, kwonlyargs := [], kw_defaults := [], kwarg := none, defaults := [] }
def y8_ (s : Stmt) : List Stmt := match s with
 | .FunctionDef _ _ b _ _ _ _ _ _ _ => b
 | _ => []
def j5_ (s : Stmt) : Scope := match s with
 | .FunctionDef _ _ _ _ _ _ sc _ _ _ => sc
 | _ => { kind := .function, names := [], isGenerator := false, isCoroutine := false }
abbrev CX0 : CXT := fun _ _ _ _ _ _ => False
abbrev E0 : XK := fun _ _ _ => False
theorem yb_ {X : Cx} : Passes CX0 X E0 := fun _ _ _ _ _ _ _ h => h.elim
structure Fun (K : PySem.W.Frag) (x qual : Str) (st : Stmt) (f : Addr) (fd : FuncData) : Prop where
 ex : ∃ (oc : Value) (od : Option Addr) (kV doc pm : Value) (an : Option Addr) (cdv ct : Value) (osl : Array (Option Value)),
  fd = PySem.W.fnOf x qual (yk_ st) (y8_ st) (j5_ st) .none kV doc pm an cdv ct /\ K.lookup f = some ⟨oc, od, .func fd, osl⟩ /\ PySem.W.codeIn K cdv qual = true
 kp : PySem.W.keepIn K (.ref f) = true
section
variable {P : Program} {w : World} {K : PySem.W.Frag} {mg : Str -> Option Value} {base : Heap}
theorem Fun.ok {x qual : Str} {st : Stmt} {f : Addr} {fd : FuncData} {N ps : List Str} {k : Nat} {sp : Sp} (F : Fun K x qual st f fd) (S : ji_ N ps (j5_ st)) (len : ∀ vs H Q E, sp vs H Q E -> vs.length = ps.length)
  (hbody : ∀ (cdv : Value) (A : Around) (outer : List Env) (s : Shared) (H : Hp) (vs : List V) (Q : VK) (E : XK), Room k (A.deeper (envOfC qual (j5_ st) s.heap.objs.size f cdv)) -> sp vs H Q E ->
   ∃ t, PSs (cxOf CX0 P w K mg base N qual (j5_ st) f cdv A outer s H E).nox (y8_ st) t /\ t { nx := fun _ H' => Q .non H', rt := Q } (start N vs) H) : FnOk P w K mg base CX0 (k + 1) f fd ps sp := by
 obtain ⟨oc, od, kV, doc, pm, an, cdv, ct, osl, rfl, lk, hcd⟩ := F.ex
 refine fn_of lk hcd S len fun A outer s H vs Q E hr hsp => ?_
 obtain ⟨t, h, q⟩ := hbody cdv A outer s H vs Q E hr hsp
 exact ⟨t, h.nox, q⟩
theorem Fun.binds {x qual : Str} {st : Stmt} {f : Addr} {fd : FuncData} {ps : List Str} (F : Fun K x qual st f fd)
  (h : ∀ (kV doc pm : Value) (an : Option Addr) (cdv ct : Value) (us : List Value), us.length = ps.length -> bindArgs (PySem.W.fnOf x qual (yk_ st) (y8_ st) (j5_ st) .none kV doc pm an cdv ct) ⟨us, []⟩ = pure (ps.zip us)) : jz_ K fd ps [] := by
 obtain ⟨oc, od, kV, doc, pm, an, cdv, ct, osl, rfl, lk, hcd⟩ := F.ex
 exact .all (h kV doc pm an cdv ct)
theorem fun_mk {x qual : Str} {st : Stmt} {f : Addr} {oc : Value} {od an : Option Addr} {osl : Array (Option Value)} {kV doc pm cdv ct : Value} (l : K.lookup f = some ⟨oc, od, .func (PySem.W.fnOf x qual (yk_ st) (y8_ st) (j5_ st) .none kV doc pm an cdv ct), osl⟩)
  (c : PySem.W.codeIn K cdv qual = true) (k : PySem.W.keepIn K (.ref f) = true) : Fun K x qual st f (PySem.W.fnOf x qual (yk_ st) (y8_ st) (j5_ st) .none kV doc pm an cdv ct) := ⟨⟨oc, od, kV, doc, pm, an, cdv, ct, osl, rfl, l, c⟩, k⟩
end
theorem hu_of {A : Around} {k : Nat} (hr : Room k A) : A.units + 1 < cLine := Nat.lt_of_le_of_lt (Nat.add_le_add_left (by decide : 1 <= 64) _) hr.units
section
variable {X : Cx}
theorem pv (i : Nat) {x : Str} {pos : Pos} (hN : X.N[i]? = some x := by rfl) (hv : Vis X.env.scope x := by first | exact Or.inl rfl | exact Or.inr (Or.inl rfl) | exact Or.inr (Or.inr rfl)) (hd : (x == ("__debug__" : Str)) = false := by decide)
  (hcd : (x == ("__classdict__" : Str)) = false := by decide) : PE X (.Name x pos) (tVar i) := pe_var hN hv hd hcd
end
theorem iteF {A B : Prop} (h : B) : if false = true then A else B := by
 rw [if_neg Bool.false_ne_true]
 exact h
theorem iteT {A B : Prop} (h : A) : if true = true then A else B := by
 rw [if_pos rfl]
 exact h
def ye_ (H H' : Hp) : Prop := ∀ b o, H b = some o -> H' b = some o
theorem ye_.refl (H : Hp) : ye_ H H := fun _ _ h => h
theorem ye_.trans {H H1 H2 : Hp} (a : ye_ H H1) (b : ye_ H1 H2) : ye_ H H2 := fun c o h => b c o (a c o h)
theorem ye_.seq {K : PySem.W.Frag} {H H' : Hp} {a : Addr} {xs : List V} (e : ye_ H H') (h : SqL K H a xs) : SqL K H' a xs := by
 rcases h with (h | ⟨o, h⟩) | h
 ·exact .inl (.inl (e _ _ h))
 ·exact .inl (.inr ⟨o, e _ _ h⟩)
 ·exact .inr h
end L2
section
set_option Elab.async false
set_option linter.all false
set_option maxRecDepth 100000
set_option maxHeartbeats 2000000
namespace L2
open PySem PySem.Spec PyProof.Rows
open PySem.W (WData Codec OpenSpec Well WellAll ReadsW ReadsAllW)
mutual
inductive Dw (K : PySem.W.Frag) (H : Hp) : V -> WData -> Prop
 | non : Dw K H .non .none
 | bl (b : Bool) : Dw K H (.bl b) (.bool b)
 | int (i : Int) : Dw K H (.int i) (.int i)
 | str (x : Str) : Dw K H (.str x) (.str x)
 | byt (b : Array UInt8) : Dw K H (.byt b) (.bytes b.toList)
 | lst {a : Addr} {xs : List V} {ds : List WData} : SqL K H a xs -> DwAll K H xs ds -> Dw K H (.ref a) (.list ds)
 | tup {a : Addr} {xs : List V} {ds : List WData} : SqT K H a xs -> DwAll K H xs ds -> Dw K H (.ref a) (.tuple ds)
inductive DwAll (K : PySem.W.Frag) (H : Hp) : List V -> List WData -> Prop
 | nil : DwAll K H [] []
 | cons {v : V} {vs : List V} {d : WData} {ds : List WData} : Dw K H v d -> DwAll K H vs ds -> DwAll K H (v :: vs) (d :: ds)
end
theorem dw_ints {K : PySem.W.Frag} {H : Hp} : ∀ ns : List Int, DwAll K H (ns.map V.int) (ns.map WData.int)
 | [] => .nil
 | n :: r => .cons (.int n) (dw_ints r)
theorem ints_dw {K : PySem.W.Frag} {H : Hp} : ∀ (ns : List Int) (xs : List V), DwAll K H xs (ns.map WData.int) -> xs = ns.map V.int
 | [], xs, h => by
  cases h
  rfl
 | n :: r, xs, h => by
  cases h with
  | cons h1 h2 =>
   cases h1
   rw [ints_dw r _ h2] <;> rfl
section
variable {P : Program} {w : World} {K : PySem.W.Frag} {H : Hp} {h : Heap} {R : PySem.W.WRecords} {cl : Str -> Option Addr}
theorem sqL_at {a : Addr} {xs : List V} (hok : HOk P w H h) (KX : K.In h) (q : SqL K H a xs) : ∃ (its : List Value) (o : Obj) (n : Nat), jk_ xs its /\ h.get? a = some o /\ o.cls = .type "list" /\ o.data = .seq its.toArray n := by
 rcases q with q | ⟨o, its, n, e, hc, _, hd, _, hv⟩
 ·obtain ⟨_, its, n, hv, e⟩ := (show yg_ P w H h a (.lst xs) from q.ok hok)
  exact ⟨its, _, n, hv, e, rfl, rfl⟩
 ·exact ⟨its.toList, o, n, hv, KX _ _ e, hc, by simp [hd]⟩
theorem sqT_at {a : Addr} {xs : List V} (hok : HOk P w H h) (KX : K.In h) (q : SqT K H a xs) : ∃ (its : List Value) (o : Obj) (n : Nat), jk_ xs its /\ h.get? a = some o /\ o.cls = .type "tuple" /\ o.data = .seq its.toArray n := by
 rcases q with q | ⟨o, its, n, e, hc, hd, _, hv⟩
 ·obtain ⟨_, its, hv, o, e, hc, n, hd⟩ := (show yg_ P w H h a (.tup xs) from q.ok hok)
  exact ⟨its, o, n, hv, e, hc, hd⟩
 ·exact ⟨its.toList, o, n, hv, KX _ _ e, hc, by simp [hd]⟩
mutual
theorem Dw.reads (hok : HOk P w H h) (KX : K.In h) : ∀ (d : WData) (v : V) (u : Value), Dw K H v d -> jq_ v u -> ∃ as, ReadsW R cl h u d as
 | .none, _, _, x, r => by
  cases x
  cases r
  exact ⟨_, ReadsW.none⟩
 | .bool b, _, _, x, r => by
  cases x
  cases r
  exact ⟨_, ReadsW.bool b⟩
 | .int i, _, _, x, r => by
  cases x
  obtain ⟨t, rfl⟩ := r
  exact ⟨_, ReadsW.int i t⟩
 | .str s, _, _, x, r => by
  cases x
  obtain ⟨t, rfl⟩ := r
  exact ⟨_, ReadsW.str s t⟩
 | .bytes b, _, _, x, r => by
  cases x
  obtain ⟨t, rfl⟩ := r
  exact ⟨_, ReadsW.bytes _ t⟩
 | .list ds, _, _, x, r => by
  cases x with
  | lst hs ha =>
   cases r
   obtain ⟨its, o, n, rv, ho, hc, hd⟩ := sqL_at hok KX hs
   obtain ⟨as, hr⟩ := Dw.readsAll hok KX ds _ its ha rv
   exact ⟨_, ReadsW.list ho hc hd hr⟩
 | .tuple ds, _, _, x, r => by
  cases x with
  | tup hs ha =>
   cases r
   obtain ⟨its, o, n, rv, ho, hc, hd⟩ := sqT_at hok KX hs
   obtain ⟨as, hr⟩ := Dw.readsAll hok KX ds _ its ha rv
   exact ⟨_, ReadsW.tuple ho hc hd hr⟩
 | .float _, _, _, x, _ => by cases x
 | .dict _, _, _, x, _ => by cases x
 | .bytearray _, _, _, x, _ => by cases x
 | .set _, _, _, x, _ => by cases x
 | .frozenset _, _, _, x, _ => by cases x
 | .obj _ _, _, _, x, _ => by cases x
theorem Dw.readsAll (hok : HOk P w H h) (KX : K.In h) : ∀ (ds : List WData) (vs : List V) (us : List Value), DwAll K H vs ds -> jk_ vs us -> ∃ as, ReadsAllW R cl h us ds as
 | [], _, _, x, r => by
  cases x
  cases r
  exact ⟨_, ReadsAllW.nil⟩
 | d :: ds, _, _, x, r => by
  cases x with
  | cons h1 h2 =>
   cases r with
   | cons r1 r2 =>
    obtain ⟨as, q1⟩ := Dw.reads hok KX d _ _ h1 r1
    obtain ⟨bs, q2⟩ := Dw.readsAll hok KX ds _ _ h2 r2
    exact ⟨_, ReadsAllW.cons q1 q2⟩
end
end
mutual
def plW : WData -> Bool
 | .none => true
 | .bool _ => true
 | .int _ => true
 | .str _ => true
 | .bytes _ => true
 | .list xs => plWs xs
 | .tuple xs => plWs xs
 | _ => false
def plWs : List WData -> Bool
 | [] => true
 | x :: r => plW x && plWs r
end
theorem plWs_map {α : Type} {f : α -> WData} (h : ∀ a, plW (f a) = true) : ∀ l : List α, plWs (l.map f) = true
 | [] => rfl
 | x :: r => by
  show (plW (f x) && plWs (r.map f)) = true
  rw [h x, plWs_map h r] <;> rfl
theorem pl_enc : ∀ (c : Codec) (a : c.denote), plW (c.enc a) = true
 | .unit, _ => rfl
 | .bool, _ => rfl
 | .int _ _, _ => rfl
 | .nat _ _, _ => rfl
 | .u8, _ => rfl
 | .bytes _ _, _ => rfl
 | .text _ _ _ _, _ => rfl
 | .list _ _ c, a => plWs_map (fun x => pl_enc c x) a
 | .pair c d, a => by
  show (plW (c.enc a.1) && (plW (d.enc a.2) && true)) = true
  rw [pl_enc c a.1, pl_enc d a.2] <;> rfl
 | .triple c d e, a => by
  show (plW (c.enc a.1) && (plW (d.enc a.2.1) && (plW (e.enc a.2.2) && true))) = true
  rw [pl_enc c a.1, pl_enc d a.2.1, pl_enc e a.2.2] <;> rfl
 | .option c, none => rfl
 | .option c, some x => pl_enc c x
theorem pl_encAll : ∀ (cs : List Codec) (a : Codec.denoteAll cs), plWs (Codec.encAll cs a) = true
 | [], _ => rfl
 | c :: cs, a => by
  show (plW (c.enc a.1) && plWs (Codec.encAll cs a.2)) = true
  rw [pl_enc c a.1, pl_encAll cs a.2] <;> rfl
theorem weight_mem : ∀ {xs : List WData} {d : WData}, d ∈ xs -> d.weight <= WData.weightAll xs
 | [], d, h => absurd h (by simp)
 | x :: r, d, h => by
  show d.weight <= x.weight + 1 + WData.weightAll r
  rcases List.mem_cons.mp h with e | m
  ·rw [e]
   omega
  ·have z := weight_mem m
   omega
def toV : Value -> V
 | .none => .non
 | .bool b => .bl b
 | .int i _ => .int i
 | .str x _ => .str x
 | .bytes b _ => .byt b
 | .ref a => .ref a
 | _ => .non
def OkU (A : List Addr) : Value -> Prop
 | .none => True
 | .bool _ => True
 | .int _ _ => True
 | .str _ _ => True
 | .bytes _ _ => True
 | .ref a => a ∈ A
 | _ => False
theorem OkU.mono {A B : List Addr} (h : ∀ a ∈ A, a ∈ B) : ∀ {u : Value}, OkU A u -> OkU B u := fun {u} x => by
 cases u with
 | ref a => exact h a x
 | none => trivial
 | bool b => trivial
 | int i t => trivial
 | str s t => trivial
 | bytes b t => trivial
 | _ => exact False.elim x
theorem relV_toV {A : List Addr} {u : Value} (x : OkU A u) : jq_ (toV u) u := by
 cases u with
 | ref a => rfl
 | none => rfl
 | bool b => rfl
 | int i t => exact ⟨t, rfl⟩
 | str s t => exact ⟨t, rfl⟩
 | bytes b t => exact ⟨t, rfl⟩
 | _ => exact False.elim x
theorem yn_ {A : List Addr} : ∀ {vs : List Value}, (∀ u ∈ vs, OkU A u) -> jk_ (vs.map toV) vs
 | [], _ => .nil
 | u :: r, h => .cons (relV_toV (h u (List.mem_cons_self ..))) (yn_ fun x hx => h x (List.mem_cons_of_mem _ hx))
def ArgOb (h : Heap) (A : List Addr) (a : Addr) : Prop := ∃ vs : List Value, vs.length <= sizeLine /\ (∀ u ∈ vs, OkU A u) /\
 (h.get? a = some { cls := .type "list", data := .seq vs.toArray } \/ h.get? a = some { cls := .type "tuple", data := .seq vs.toArray })
theorem ArgOb.mono {h : Heap} {A B : List Addr} {a : Addr} (k : ∀ a ∈ A, a ∈ B) (x : ArgOb h A a) : ArgOb h B a := by
 obtain ⟨vs, h1, h2, h3⟩ := x
 exact ⟨vs, h1, fun u hu => (h2 u hu).mono k, h3⟩
theorem y6_ {P : Params} {h : Heap} : ∀ {vs : List Value} {ds : List WData}, WellAll P h vs ds -> vs.length = ds.length
 | _, _, .nil => rfl
 | _, _, .cons _ b => by
  show _ + 1 = _ + 1
  rw [y6_ b]
theorem well_list {P : Params} {h : Heap} {v : Value} {ds : List WData} (x : Well P h v (.list ds)) : ∃ (a : Addr) (vs : List Value), v = .ref a /\ h.get? a = some { cls := .type "list", data := .seq vs.toArray } /\ WellAll P h vs ds := by
 cases x with
 | list ho hall => exact ⟨_, _, rfl, ho, hall⟩
theorem well_tuple {P : Params} {h : Heap} {v : Value} {ds : List WData} (x : Well P h v (.tuple ds)) : ∃ (a : Addr) (vs : List Value), v = .ref a /\ h.get? a = some { cls := .type "tuple", data := .seq vs.toArray } /\ WellAll P h vs ds := by
 cases x with
 | tuple ho hall => exact ⟨_, _, rfl, ho, hall⟩
theorem well_cons {P : Params} {h : Heap} {us : List Value} {d : WData} {ds : List WData} (x : WellAll P h us (d :: ds)) : ∃ (v : Value) (vs : List Value), us = v :: vs /\ Well P h v d /\ WellAll P h vs ds := by
 cases x with
 | cons a b => exact ⟨_, _, rfl, a, b⟩
theorem line_of {n : Nat} (h : n <= 1048576) : n <= sizeLine := Nat.le_trans h (by decide)
section
variable {P : Params} {h : Heap}
mutual
theorem area_one : ∀ (d : WData) (v : Value), Well P h v d -> plW d = true -> d.weight <= 1048576 -> ∃ A : List Addr, OkU A v /\ ∀ a ∈ A, ArgOb h A a
 | .none, _, x, _, _ => by
  cases x
  exact ⟨[], trivial, fun a m => absurd m (by simp)⟩
 | .bool b, _, x, _, _ => by
  cases x
  exact ⟨[], trivial, fun a m => absurd m (by simp)⟩
 | .int i, _, x, _, _ => by
  cases x
  exact ⟨[], trivial, fun a m => absurd m (by simp)⟩
 | .str s, _, x, _, _ => by
  cases x
  exact ⟨[], trivial, fun a m => absurd m (by simp)⟩
 | .bytes b, _, x, _, _ => by
  cases x
  exact ⟨[], trivial, fun a m => absurd m (by simp)⟩
 | .list ds, _, x, p, z => by
  obtain ⟨a, vs, rfl, ho, hall⟩ := well_list x
  have z2 : WData.weightAll ds <= 1048576 := z
  obtain ⟨A, h1, h2⟩ := area_all ds _ hall p fun d hd => Nat.le_trans (weight_mem hd) z2
  have k : ∀ b ∈ A, b ∈ a :: A := fun b hb => List.mem_cons_of_mem _ hb
  refine ⟨a :: A, List.mem_cons_self .., fun b hb => ?_⟩
  rcases List.mem_cons.mp hb with e | m
  ·rw [e]
   exact ⟨vs, line_of (by rw [y6_ hall]; exact Nat.le_trans (PySem.W.length_le_weightAllW ds) z2), fun u hu => (h1 u hu).mono k, .inl ho⟩
  ·exact (h2 b m).mono k
 | .tuple ds, _, x, p, z => by
  obtain ⟨a, vs, rfl, ho, hall⟩ := well_tuple x
  have z2 : WData.weightAll ds <= 1048576 := z
  obtain ⟨A, h1, h2⟩ := area_all ds _ hall p fun d hd => Nat.le_trans (weight_mem hd) z2
  have k : ∀ b ∈ A, b ∈ a :: A := fun b hb => List.mem_cons_of_mem _ hb
  refine ⟨a :: A, List.mem_cons_self .., fun b hb => ?_⟩
  rcases List.mem_cons.mp hb with e | m
  ·rw [e]
   exact ⟨vs, line_of (by rw [y6_ hall]; exact Nat.le_trans (PySem.W.length_le_weightAllW ds) z2), fun u hu => (h1 u hu).mono k, .inr ho⟩
  ·exact (h2 b m).mono k
 | .float _, _, _, p, _ => Bool.noConfusion (show false = true from p)
 | .dict _, _, _, p, _ => Bool.noConfusion (show false = true from p)
 | .bytearray _, _, _, p, _ => Bool.noConfusion (show false = true from p)
 | .set _, _, _, p, _ => Bool.noConfusion (show false = true from p)
 | .frozenset _, _, _, p, _ => Bool.noConfusion (show false = true from p)
 | .obj _ _, _, _, p, _ => Bool.noConfusion (show false = true from p)
theorem area_all : ∀ (ds : List WData) (vs : List Value), WellAll P h vs ds -> plWs ds = true -> (∀ d ∈ ds, d.weight <= 1048576) -> ∃ A : List Addr, (∀ u ∈ vs, OkU A u) /\ ∀ a ∈ A, ArgOb h A a
 | [], _, x, _, _ => by
  cases x
  exact ⟨[], fun u m => absurd m (by simp), fun a m => absurd m (by simp)⟩
 | d :: ds, _, x, p, z => by
  obtain ⟨v, vs, rfl, x1, x2⟩ := well_cons x
  have q : plW d = true /\ plWs ds = true := Bool.and_eq_true_iff.mp p
  obtain ⟨A, a1, a2⟩ := area_one d v x1 q.1 (z d (List.mem_cons_self ..))
  obtain ⟨B, b1, b2⟩ := area_all ds vs x2 q.2 fun e he => z e (List.mem_cons_of_mem _ he)
  have kA : ∀ b ∈ A, b ∈ A ++ B := fun b hb => List.mem_append.mpr (.inl hb)
  have kB : ∀ b ∈ B, b ∈ A ++ B := fun b hb => List.mem_append.mpr (.inr hb)
  refine ⟨A ++ B, fun u hu => ?_, fun b hb => ?_⟩
  ·rcases List.mem_cons.mp hu with e | m
   ·rw [e]
    exact a1.mono kA
   ·exact (b1 u m).mono kB
  ·rcases List.mem_append.mp hb with m | m
   ·exact (a2 b m).mono kA
   ·exact (b2 b m).mono kB
end
end
def hoOf (o : Obj) : Option HO := match o.data with
 | .seq vs _ => if (o.cls == Value.type "list") = true then some (.frz o (.lst (vs.toList.map toV))) else some (.frz o (.tup (vs.toList.map toV)))
 | _ => none
def argH (K : PySem.W.Frag) (h : Heap) (A : List Addr) : Hp := fun b => if b ∈ A then (if (K.lookup b).isNone = true then (h.get? b).bind hoOf else none) else none
def OnlyF (H : Hp) : Prop := ∀ b, H b = none \/ ∃ o u, H b = some (.frz o u)
theorem hoOf_lst (vs : List Value) : hoOf { cls := .type "list", data := .seq vs.toArray } = some (.frz { cls := .type "list", data := .seq vs.toArray } (.lst (vs.map toV))) := by
 show (if (Value.type "list" == Value.type "list") = true then some (HO.frz { cls := .type "list", data := .seq vs.toArray } (.lst (vs.toArray.toList.map toV))) else some (HO.frz { cls := .type "list", data := .seq vs.toArray } (.tup (vs.toArray.toList.map toV)))) = _
 rw [if_pos (beq_self_eq_true _)]
theorem hoOf_tup (vs : List Value) : hoOf { cls := .type "tuple", data := .seq vs.toArray } = some (.frz { cls := .type "tuple", data := .seq vs.toArray } (.tup (vs.map toV))) := by
 show (if (Value.type "tuple" == Value.type "list") = true then some (HO.frz { cls := .type "tuple", data := .seq vs.toArray } (.lst (vs.toArray.toList.map toV))) else some (HO.frz { cls := .type "tuple", data := .seq vs.toArray } (.tup (vs.toArray.toList.map toV)))) = _
 rw [if_neg (by decide)]
section
variable {P : Program} {w : World} {K : PySem.W.Frag} {h : Heap} {A : List Addr}
theorem argH_at {b : Addr} {o : Obj} (hb : b ∈ A) (hk : K.lookup b = none) (e : h.get? b = some o) : argH K h A b = hoOf o := by
 unfold argH
 rw [if_pos hb, hk, if_pos (show (none : Option Obj).isNone = true from rfl), e] <;> rfl
theorem of_argH {b : Addr} {u : HO} (q : argH K h A b = some u) : b ∈ A /\ K.lookup b = none := by
 unfold argH at q
 by_cases hb : b ∈ A
 ·rw [if_pos hb] at q
  cases hk : K.lookup b with
  | none => exact ⟨hb, rfl⟩
  | some o =>
   rw [hk, if_neg (by simp)] at q
   cases q
 ·rw [if_neg hb] at q
  cases q
theorem argH_is (ar : ∀ a ∈ A, ArgOb h A a) {b : Addr} {u : HO} (q : argH K h A b = some u) : K.lookup b = none /\ ∃ vs : List Value, vs.length <= sizeLine /\ (∀ u ∈ vs, OkU A u) /\
  ((h.get? b = some { cls := .type "list", data := .seq vs.toArray } /\ u = .frz { cls := .type "list", data := .seq vs.toArray } (.lst (vs.map toV))) \/
    (h.get? b = some { cls := .type "tuple", data := .seq vs.toArray } /\ u = .frz { cls := .type "tuple", data := .seq vs.toArray } (.tup (vs.map toV)))) := by
 obtain ⟨hb, hk⟩ := of_argH q
 obtain ⟨vs, h1, h2, h3⟩ := ar b hb
 refine ⟨hk, vs, h1, h2, ?_⟩
 rcases h3 with e | e
 ·rw [argH_at hb hk e, hoOf_lst] at q
  exact .inl ⟨e, (Option.some.inj q).symm⟩
 ·rw [argH_at hb hk e, hoOf_tup] at q
  exact .inr ⟨e, (Option.some.inj q).symm⟩
theorem argH_only (ar : ∀ a ∈ A, ArgOb h A a) : OnlyF (argH K h A) := fun b => by
 cases q : argH K h A b with
 | none => exact .inl rfl
 | some u =>
  obtain ⟨_, vs, _, _, ⟨_, e⟩ | ⟨_, e⟩⟩ := argH_is ar q
  ·exact .inr ⟨_, _, by rw [e]⟩
  ·exact .inr ⟨_, _, by rw [e]⟩
theorem argH_ok (ar : ∀ a ∈ A, ArgOb h A a) : HOk P w (argH K h A) h := fun b u q => by
 obtain ⟨_, vs, h1, h2, ⟨e, rfl⟩ | ⟨e, rfl⟩⟩ := argH_is ar q
 ·exact ⟨e, by rw [List.length_map]; exact h1, vs, _, yn_ h2, e⟩
 ·exact ⟨e, by rw [List.length_map]; exact h1, vs, yn_ h2, _, e, rfl, _, rfl⟩
theorem seq_inj {c c' : Value} {vs us : List Value} (e : (some { cls := c, data := .seq vs.toArray } : Option Obj) = some { cls := c', data := .seq us.toArray }) : c = c' /\ vs = us := by
 have e1 := Option.some.inj e
 have e2 : c = c' := congrArg Obj.cls e1
 have e3 : Data.seq vs.toArray = Data.seq us.toArray := congrArg Obj.data e1
 injection e3 with e4
 refine ⟨e2, ?_⟩
 have e5 := congrArg Array.toList e4
 simpa using e5
theorem argL (KX : K.In h) (ar : ∀ a ∈ A, ArgOb h A a) {a : Addr} {vs : List Value} (ha : a ∈ A) (e : h.get? a = some { cls := .type "list", data := .seq vs.toArray }) : (∀ u ∈ vs, OkU A u) /\ SqL K (argH K h A) a (vs.map toV) := by
 obtain ⟨us, h1, h2, h3⟩ := ar a ha
 have hu : us = vs := by
  rcases h3 with q | q
  ·rw [e] at q
   exact (seq_inj q).2.symm
  ·rw [e] at q
   exact absurd (Value.type.inj (seq_inj q).1) (by decide)
 subst hu
 refine ⟨h2, ?_⟩
 cases hk : K.lookup a with
 | none => exact .inl (.inr ⟨_, by rw [argH_at ha hk e, hoOf_lst]⟩)
 | some o =>
  have e2 := KX a o hk
  rw [e] at e2
  obtain rfl := Option.some.inj e2
  exact .inr ⟨_, us.toArray, _, hk, rfl, rfl, rfl, by rw [List.size_toArray]; exact h1, by simpa using yn_ h2⟩
theorem argT (KX : K.In h) (ar : ∀ a ∈ A, ArgOb h A a) {a : Addr} {vs : List Value} (ha : a ∈ A) (e : h.get? a = some { cls := .type "tuple", data := .seq vs.toArray }) : (∀ u ∈ vs, OkU A u) /\ SqT K (argH K h A) a (vs.map toV) := by
 obtain ⟨us, h1, h2, h3⟩ := ar a ha
 have hu : us = vs := by
  rcases h3 with q | q
  ·rw [e] at q
   exact absurd (Value.type.inj (seq_inj q).1) (by decide)
  ·rw [e] at q
   exact (seq_inj q).2.symm
 subst hu
 refine ⟨h2, ?_⟩
 cases hk : K.lookup a with
 | none => exact .inl (.inr ⟨_, by rw [argH_at ha hk e, hoOf_tup]⟩)
 | some o =>
  have e2 := KX a o hk
  rw [e] at e2
  obtain rfl := Option.some.inj e2
  exact .inr ⟨_, us.toArray, _, hk, rfl, rfl, by rw [List.size_toArray]; exact h1, by simpa using yn_ h2⟩
mutual
theorem dw_one {Pm : Params} (KX : K.In h) (ar : ∀ a ∈ A, ArgOb h A a) : ∀ (d : WData) (v : Value), Well Pm h v d -> plW d = true -> OkU A v -> Dw K (argH K h A) (toV v) d
 | .none, _, x, _, _ => by
  cases x
  exact .non
 | .bool b, _, x, _, _ => by
  cases x
  exact .bl b
 | .int i, _, x, _, _ => by
  cases x
  exact .int i
 | .str s, _, x, _, _ => by
  cases x
  exact .str s
 | .bytes b, _, x, _, _ => by
  cases x
  have z := Dw.byt (K := K) (H := argH K h A) b.toArray
  exact z
 | .list ds, _, x, p, hu => by
  obtain ⟨a, vs, rfl, ho, hall⟩ := well_list x
  obtain ⟨h2, hs⟩ := argL KX ar hu ho
  exact .lst hs (dw_all KX ar ds _ hall p h2)
 | .tuple ds, _, x, p, hu => by
  obtain ⟨a, vs, rfl, ho, hall⟩ := well_tuple x
  obtain ⟨h2, hs⟩ := argT KX ar hu ho
  exact .tup hs (dw_all KX ar ds _ hall p h2)
 | .float _, _, _, p, _ => Bool.noConfusion (show false = true from p)
 | .dict _, _, _, p, _ => Bool.noConfusion (show false = true from p)
 | .bytearray _, _, _, p, _ => Bool.noConfusion (show false = true from p)
 | .set _, _, _, p, _ => Bool.noConfusion (show false = true from p)
 | .frozenset _, _, _, p, _ => Bool.noConfusion (show false = true from p)
 | .obj _ _, _, _, p, _ => Bool.noConfusion (show false = true from p)
theorem dw_all {Pm : Params} (KX : K.In h) (ar : ∀ a ∈ A, ArgOb h A a) : ∀ (ds : List WData) (vs : List Value), WellAll Pm h vs ds -> plWs ds = true -> (∀ u ∈ vs, OkU A u) -> DwAll K (argH K h A) (vs.map toV) ds
 | [], _, x, _, _ => by
  cases x
  exact .nil
 | d :: ds, _, x, p, hu => by
  obtain ⟨v, vs, rfl, x1, x2⟩ := well_cons x
  have q : plW d = true /\ plWs ds = true := Bool.and_eq_true_iff.mp p
  exact .cons (dw_one KX ar d v x1 q.1 (hu _ (List.mem_cons_self ..))) (dw_all KX ar ds vs x2 q.2 fun u m => hu u (List.mem_cons_of_mem _ m))
end
end
theorem spec_call {P : Program} {w : World} {K : PySem.W.Frag} {mg mb : Str -> Option Value} {CX : CXT} {k : Nat} {fa : Addr} {fd : FuncData} {ps : List Str} {sp : Sp} {s₁ : Shared} {vals : List Value} {ds : List WData} {R : PySem.W.WRecords} {cl : Str -> Option Addr} {d0 : WData}
  (KX : K.In s₁.heap) (hns : s₁.heap.Ns mainGlobals mg) (hb : s₁.heap.Ns builtinsNs mb) (hbb : ∀ x : Str, x ≠ "__name__" -> mb x = bootBuiltins x) (hlim : s₁.heap.NoLimit) (hg : s₁.gens = #[])
  (hwl : WellAll w.params s₁.heap vals ds) (hpl : plWs ds = true) (hwt : ∀ d ∈ ds, d.weight <= 1048576) (hr : Room k callerA)
  (F : ∀ base : Heap, K.In base -> base.Ns mainGlobals mg -> FnOk P w K mg base CX k fa fd ps sp) (hbind : ∀ (s : Shared) (us : List Value), us.length = ps.length -> BindsTo s fd ⟨us, []⟩ (ps.zip us)) (hlen : ds.length = ps.length)
  (hsp : ∀ (H : Hp) (xs : List V), OnlyF H -> DwAll K H xs ds -> sp xs H (fun v H' => Dw K H' v d0) fun _ _ _ => False)
  (hCX : ∀ H e s', CX [] H s₁ (fun _ _ _ => False) e s' -> False) :
  codeAny (model P w) callerA (.call (.ref fa) ⟨vals, []⟩) (fun r s' => ∃ u as, r = .ok (.ret u) /\ ReadsW R cl s'.heap u d0 as /\ OldK s₁.heap s'.heap /\ s'.os = s₁.os /\ AllBare s'.gens) s₁ := by
 obtain ⟨A, ho, ar⟩ := area_all ds vals hwl hpl hwt
 have hO : OnlyF (argH K s₁.heap A) := argH_only ar
 have hok : HOk P w (argH K s₁.heap A) s₁.heap := argH_ok ar
 have hS := dw_all KX ar ds vals hwl hpl ho
 have hV := yn_ ho
 have hK : ∀ b u, argH K s₁.heap A b = some u -> K.lookup b = none := fun b u q => (argH_is ar q).1
 have noA : ∀ {b : Addr} {o : Obj} {es : Array DictEntry} {ep : Nat}, s₁.heap.get? b = some o -> o.data = .dict es ep -> argH K s₁.heap A b = none := fun {b o es ep} e d => by
  cases q : argH K s₁.heap A b with
  | none => rfl
  | some u =>
   obtain ⟨_, vs, _, _, ⟨e2, _⟩ | ⟨e2, _⟩⟩ := argH_is ar q
   ·rw [e2] at e
    cases e
    have d' : Data.seq vs.toArray _ = Data.dict es ep := d
    cases d'
   ·rw [e2] at e
    cases e
    have d' : Data.seq vs.toArray _ = Data.dict es ep := d
    cases d'
 generalize argH K s₁.heap A = H at hO hok hS hK noA
 have base_of : ∀ {b : Addr} {o : Obj}, s₁.heap.get? b = some o -> H b = none -> (hidT s₁.heap H).get? b = some o := fun e n => hidT_get e n
 have nsK : ∀ {b : Addr} {m : Str -> Option Value}, s₁.heap.Ns b m -> (hidT s₁.heap H).Ns b m := fun {b m} ⟨o, es, ep, e, d, r⟩ => ⟨o, es, ep, base_of e (noA e d), d, r⟩
 have nK : ∀ b o, K.lookup b = some o -> H b = none := fun b o e => by
  cases q : H b with
  | none => rfl
  | some u =>
   rw [hK b u q] at e
   cases e
 have hKb : K.In (hidT s₁.heap H) := fun b o e => base_of (KX b o e) (nK b o e)
 have hM : Mod K mg (hidT s₁.heap H) := ⟨hKb, nsK hns, ⟨mb, nsK hb, hbb⟩, let ⟨mc, h1, h2⟩ := hlim; ⟨mc, nsK h1, h2⟩⟩
 have e0 : Env0 P w K mg (hidT s₁.heap H) callerA [] s₁ H := ⟨rfl, hM, fun b o e => of_hidT e, Nat.le_of_eq (hidT_size _ _), trivial, fun b hb => absurd (show b ∈ ([] : List Addr) from hb) (by simp), hok, .of_eq hg⟩
 have hl : vals.length = ps.length := by rw [y6_ hwl]; exact hlen
 refine codeAny_mono ((F _ hKb (nsK hns)).run callerA [] s₁ H ⟨vals, []⟩ vals (vals.map toV) _ _ hr e0 (hbind s₁ vals hl) hV (hsp H _ hO hS)) fun r s' x => ?_
 cases r with
 | error e => exact (hCX H e s' x).elim
 | ok fl =>
  cases fl with
  | next => exact False.elim x
  | brk => exact False.elim x
  | cont => exact False.elim x
  | ret u =>
   obtain ⟨v, H', os, bare, un, hok', r', q⟩ := x
   have kept : ∀ b o, s₁.heap.get? b = some o -> s'.heap.get? b = some o := fun b o e => by
    cases q2 : H b with
    | none => exact un.keep b o e q2 (by intro z; exact absurd (show b ∈ ([] : List Addr) from z) (by simp)) (by simp)
    | some u2 =>
     rcases hO b with z | ⟨ob, u3, z⟩
     ·rw [q2] at z
      cases z
     ·have z2 := un.frzs b ob _ z
      obtain ⟨e1, _⟩ := hok b _ z
      obtain ⟨e2, _⟩ := hok' b _ z2
      rw [e] at e1
      cases e1
      exact e2
   have KX' : K.In s'.heap := fun b o e => kept b o (KX b o e)
   obtain ⟨as, hrd⟩ := Dw.reads (R := R) (cl := cl) hok' KX' d0 v u q r'
   exact ⟨u, as, rfl, hrd, OldK.of_keep kept, os, bare⟩
theorem layable_weight {ds : List WData} (h : WData.layableAll ds = true) : ∀ d ∈ ds, d.weight <= 1048576 := fun d hd =>
 (PySem.W.layableW_iff.mp (List.all_eq_true.mp h d hd)).2.2
theorem encAll_len : ∀ (cs : List Codec) (a : Codec.denoteAll cs), (Codec.encAll cs a).length = cs.length
 | [], _ => rfl
 | c :: cs, a => by
  show (Codec.encAll cs a.2).length + 1 = cs.length + 1
  rw [encAll_len cs a.2]
theorem walk_spec {r : OpenSpec} {k : Nat} {q : Program} {loose : List Str} {XP : (Str -> Option Value) -> Heap -> Prop} {YP : World -> Heap -> Prop} {d : DefRec} {K : Params -> PySem.W.Frag} {CX : World -> CXT} {ps : List Str} {sp : World -> Sp}
  (hwell : r.wellSaid = true) (hdf : d.params.defaults = []) (hlen : r.args.length = ps.length) (hr : Room k callerA)
  (hY : ∀ (w : World) (h : Heap), YP w h -> (K w.params).In h)
  (F : ∀ (w : World) (mg : Str -> Option Value) (fa : Addr) (h : Heap), YP w h -> (K w.params).In h -> h.Ns mainGlobals mg -> mg d.name = some (.ref fa) ->
   ∃ fd : FuncData, (∀ (s : Shared) (us : List Value), us.length = ps.length -> BindsTo s fd ⟨us, []⟩ (ps.zip us)) /\
    ∀ base : Heap, (K w.params).In base -> base.Ns mainGlobals mg -> FnOk r.prog w (K w.params) mg base (CX w) k fa fd ps (sp w))
  (hsp : ∀ (w : World) (H : Hp) (xs : List V) (a : Codec.denoteAll r.args), OnlyF H -> Codec.withinAll r.args a = true -> Codec.app r.args r.asked a = true -> DwAll (K w.params) H xs (Codec.encAll r.args a) ->
   sp w xs H (fun v H' => Dw (K w.params) H' v (r.ret.enc (Codec.app r.args r.f a))) fun _ _ _ => False)
  (hCX : ∀ (w : World) (H : Hp) (s : Shared) (e : Value) (s' : Shared), CX w [] H s (fun _ _ _ => False) e s' -> False) :
  PySem.W.WalkOS q loose XP YP r d [] (fun f vs => PySem.call f vs) := by
 intro w s_0 s₁ mg mb G Y fa o pm cd doc dV kV ho hd hcd hD hmg hg args vals as hpre hlay hrd hwl hlo
 obtain ⟨a, e1, e2⟩ := PySem.W.os_pre_some hpre
 obtain ⟨e3, hwi⟩ := Codec.encAll_of_decAll r.args args a e1
 subst e3
 have KX := hY w _ Y
 obtain ⟨fd, hb, hF⟩ := F w mg fa _ Y KX G.T.g hmg
 refine PySem.W.enter_call (codeAny_mono (spec_call (R := []) (cl := classAt s_0.heap) (d0 := r.ret.enc (Codec.app r.args r.f a)) KX G.T.g G.T.b G.T.builtins G.T.nolimit hg hwl (pl_encAll _ _) (layable_weight hlay) hr hF hb (by rw [encAll_len]; exact hlen)
  (fun H xs hO hS => hsp w H xs a hO hwi e2 hS) fun H e s' => hCX w H s₁ e s') fun r' s' hq => ?_)
 obtain ⟨u, as', rfl, h1, h2, h3, h4⟩ := hq
 exact ⟨.inl ⟨u, _, as', rfl, fun _ => rfl, h1, (OpenSpec.post_iff hwell hwi _ _).mpr rfl, fun z => Bool.noConfusion (show false = true from z)⟩, h2, h3, h4⟩
theorem walk_specK {r : OpenSpec} {k : Nat} {q : Program} {loose : List Str} {XP : (Str -> Option Value) -> Heap -> Prop} {YP : World -> Heap -> Prop} {d : DefRec} {K : Params -> PySem.W.Frag} {CX : CXT} {ps : List Str} {sp : PySem.W.Frag -> Sp}
  (hwell : r.wellSaid = true) (hdf : d.params.defaults = []) (hlen : r.args.length = ps.length) (hr : Room k callerA)
  (hY : ∀ (w : World) (h : Heap), YP w h -> (K w.params).In h)
  (F : ∀ (w : World) (mg : Str -> Option Value) (fa : Addr) (h : Heap), YP w h -> (K w.params).In h -> h.Ns mainGlobals mg -> mg d.name = some (.ref fa) ->
   ∃ fd : FuncData, (∀ (s : Shared) (us : List Value), us.length = ps.length -> BindsTo s fd ⟨us, []⟩ (ps.zip us)) /\
    ∀ base : Heap, (K w.params).In base -> base.Ns mainGlobals mg -> FnOk r.prog w (K w.params) mg base CX k fa fd ps (sp (K w.params)))
  (hsp : ∀ (K : PySem.W.Frag) (H : Hp) (xs : List V) (a : Codec.denoteAll r.args), OnlyF H -> Codec.withinAll r.args a = true -> Codec.app r.args r.asked a = true -> DwAll K H xs (Codec.encAll r.args a) ->
   sp K xs H (fun v H' => Dw K H' v (r.ret.enc (Codec.app r.args r.f a))) fun _ _ _ => False)
  (hCX : ∀ (H : Hp) (s : Shared) (e : Value) (s' : Shared), CX [] H s (fun _ _ _ => False) e s' -> False) :
  PySem.W.WalkOS q loose XP YP r d [] (fun f vs => PySem.call f vs) :=
 walk_spec (K := K) (CX := fun _ => CX) (sp := fun w => sp (K w.params)) hwell hdf hlen hr hY F (fun w H xs a h1 h2 h3 h4 => hsp (K w.params) H xs a h1 h2 h3 h4) fun _ H s e s' => hCX H s e s'
end L2
end
set_option Elab.async false
set_option linter.all false
set_option maxRecDepth 100000
set_option maxHeartbeats 4000000
namespace OS
open Vbemac
def jl_ (c : UInt8) : Bool := letter c || digit c
def yf_ (c : UInt8) : Bool := c != 10
def j9_ (p : UInt8 -> Bool) (bs : Bytes) (i : Nat) : Nat := i + ((bs.drop i).takeWhile p).length
theorem y1_ {bs : Bytes} {i : Nat} {c : UInt8} (h : bs[i]? = some c) : bs.drop i = c :: bs.drop (i + 1) := by
 obtain ⟨hi, e⟩ := List.getElem?_eq_some_iff.mp h
 rw [List.drop_eq_getElem_cons hi, e]
theorem endAt_go {p : UInt8 -> Bool} {bs : Bytes} {i : Nat} {c : UInt8} (h : bs[i]? = some c) (hp : p c = true) : j9_ p bs i = j9_ p bs (i + 1) := by
 unfold j9_
 rw [y1_ h, List.takeWhile_cons, if_pos hp, List.length_cons]
 omega
theorem endAt_no {p : UInt8 -> Bool} {bs : Bytes} {i : Nat} {c : UInt8} (h : bs[i]? = some c) (hp : p c = false) : j9_ p bs i = i := by
 unfold j9_
 rw [y1_ h, List.takeWhile_cons, if_neg (by rw [hp]; exact Bool.false_ne_true)]
 rfl
theorem endAt_out {p : UInt8 -> Bool} {bs : Bytes} {i : Nat} (h : bs.length <= i) : j9_ p bs i = i := by
 unfold j9_
 rw [List.drop_eq_nil_of_le h]
 rfl
theorem endAt_le {p : UInt8 -> Bool} {bs : Bytes} {i : Nat} (h : i <= bs.length) : j9_ p bs i <= bs.length := by
 unfold j9_
 have := (List.takeWhile_sublist p (l := bs.drop i)).length_le
 rw [List.length_drop] at this
 omega
def jx_ (bs : Bytes) (i j : Nat) : Bytes := (bs.drop i).take (j - i)
theorem tw_take {p : UInt8 -> Bool} : ∀ l : Bytes, l.takeWhile p = l.take (l.takeWhile p).length
 | [] => rfl
 | a :: l => by
  rw [List.takeWhile_cons]
  split
  ·rw [List.length_cons, List.take_succ_cons, <- tw_take l]
  ·rfl
theorem tw_part (p : UInt8 -> Bool) (bs : Bytes) (i : Nat) : (bs.drop i).takeWhile p = jx_ bs i (j9_ p bs i) := by
 unfold jx_ j9_
 rw [Nat.add_sub_cancel_left]
 exact tw_take _
theorem drop_end (p : UInt8 -> Bool) (bs : Bytes) (i : Nat) : (bs.drop i).drop ((bs.drop i).takeWhile p).length = bs.drop (j9_ p bs i) := by
 rw [List.drop_drop]
 rfl
theorem yp_ : ∀ (w : Bytes) (p : Pos), (∀ c ∈ w, c ≠ 10) -> moved p w = (p.1, p.2 + w.length)
 | [], p, _ => rfl
 | c :: w, p, h => by
  show moved (advance p c) w = _
  rw [yp_ w _ fun d hd => h d (List.mem_cons_of_mem _ hd)]
  unfold advance
  rw [if_neg (h c List.mem_cons_self), List.length_cons]
  show (p.1, p.2 + 1 + w.length) = _
  rw [Nat.add_assoc, Nat.add_comm 1]
theorem tw_all {p : UInt8 -> Bool} : ∀ (l : Bytes), ∀ c ∈ l.takeWhile p, p c = true
 | [], c, h => nomatch h
 | a :: l, c, h => by
  rw [List.takeWhile_cons] at h
  split at h
  ·rename_i q
   rcases List.mem_cons.mp h with e | h
   ·rw [e]; exact q
   ·exact tw_all l c h
  ·exact nomatch h
theorem moved_tw {p : UInt8 -> Bool} (hp : p 10 = false) (bs : Bytes) (i : Nat) (q : Pos) : moved q ((bs.drop i).takeWhile p) = (q.1, q.2 + (j9_ p bs i - i)) := by
 rw [yp_ _ _ fun c hc e => by
  have := tw_all _ c hc
  rw [e, hp] at this
  cases this]
 unfold j9_
 rw [Nat.add_sub_cancel_left]
section
variable {bs : Bytes} {i k : Nat} {c : UInt8} {q : Pos}
theorem lex_blank (h : bs[i]? = some c) (hb : blank c = true) : lex (k + 1) q (bs.drop i) = lex k (advance q c) (bs.drop (i + 1)) := by
 rw [y1_ h, lex, if_pos hb]
theorem lex_comment (h : bs[i]? = some c) (hb : blank c = false) (h35 : c = 35) :
  lex (k + 1) q (bs.drop i) = lex k (q.1, q.2 + (j9_ yf_ bs i - i)) (bs.drop (j9_ yf_ bs i)) := by
 have e := y1_ h
 have m := moved_tw (p := yf_) rfl bs i q
 have d := drop_end yf_ bs i
 rw [e] at m d
 rw [e, lex, if_neg (by rw [hb]; exact Bool.false_ne_true), if_pos h35]
 show lex k (moved q ((c :: bs.drop (i + 1)).takeWhile yf_)) ((c :: bs.drop (i + 1)).drop ((c :: bs.drop (i + 1)).takeWhile yf_).length) = _
 rw [m, d]
theorem lex_word (h : bs[i]? = some c) (hb : blank c = false) (h35 : ¬ c = 35) (hl : letter c = true) :
  lex (k + 1) q (bs.drop i) = if 24 < j9_ jl_ bs i - i then [(.bad, q)] else (.word (jx_ bs i (j9_ jl_ bs i)), q) :: lex k (q.1, q.2 + (j9_ jl_ bs i - i)) (bs.drop (j9_ jl_ bs i)) := by
 have e := y1_ h
 have m := moved_tw (p := jl_) (by decide) bs i q
 have d := drop_end jl_ bs i
 have t := tw_part jl_ bs i
 have n : ((bs.drop i).takeWhile jl_).length = j9_ jl_ bs i - i := by unfold j9_; rw [Nat.add_sub_cancel_left]
 rw [e] at m d t n
 rw [e, lex, if_neg (by rw [hb]; exact Bool.false_ne_true), if_neg h35, if_pos hl]
 show (if 24 < ((c :: bs.drop (i + 1)).takeWhile jl_).length then _ else (Tok.word ((c :: bs.drop (i + 1)).takeWhile jl_), q) :: lex k (moved q ((c :: bs.drop (i + 1)).takeWhile jl_)) ((c :: bs.drop (i + 1)).drop ((c :: bs.drop (i + 1)).takeWhile jl_).length)) = _
 rw [m, d, n, t]
def glued (bs : Bytes) (j : Nat) : Bool := (bs[j]?).any letter
theorem head_drop (bs : Bytes) (j : Nat) : (bs.drop j).head? = bs[j]? := List.head?_drop
theorem lex_num (h : bs[i]? = some c) (hb : blank c = false) (h35 : ¬ c = 35) (hl : letter c = false) (hd : digit c = true) :
  lex (k + 1) q (bs.drop i) = if 18 < j9_ digit bs i - i \/ glued bs (j9_ digit bs i) = true then [(.bad, q)] else (.num (valueOf (jx_ bs i (j9_ digit bs i))), q) :: lex k (q.1, q.2 + (j9_ digit bs i - i)) (bs.drop (j9_ digit bs i)) := by
 have e := y1_ h
 have m := moved_tw (p := digit) (by decide) bs i q
 have d := drop_end digit bs i
 have t := tw_part digit bs i
 have n : ((bs.drop i).takeWhile digit).length = j9_ digit bs i - i := by unfold j9_; rw [Nat.add_sub_cancel_left]
 rw [e] at m d t n
 rw [e, lex, if_neg (by rw [hb]; exact Bool.false_ne_true), if_neg h35, if_neg (by rw [hl]; exact Bool.false_ne_true), if_pos hd]
 show (if 18 < ((c :: bs.drop (i + 1)).takeWhile digit).length \/ ((((c :: bs.drop (i + 1)).drop ((c :: bs.drop (i + 1)).takeWhile digit).length).head?).any letter) = true then _
  else (Tok.num (valueOf ((c :: bs.drop (i + 1)).takeWhile digit)), q) :: lex k (moved q ((c :: bs.drop (i + 1)).takeWhile digit)) ((c :: bs.drop (i + 1)).drop ((c :: bs.drop (i + 1)).takeWhile digit).length)) = _
 rw [m, d, n, t, head_drop]
 rfl
theorem find_len {n : Nat} {x : Bytes} : ∀ (L : List Bytes), (∀ s ∈ L, s.length = n) -> L.find? (fun s => x.take s.length == s) = if x.take n ∈ L then some (x.take n) else none
 | [], _ => by simp
 | a :: L, h => by
  have ha := h a List.mem_cons_self
  have ih := find_len (n := n) (x := x) L fun s hs => h s (List.mem_cons_of_mem _ hs)
  rw [List.find?_cons, ha]
  by_cases e : x.take n = a
  ·rw [show (x.take n == a) = true from by rw [e]; exact beq_self_eq_true a, if_pos (by rw [e]; exact List.mem_cons_self), e]
  ·rw [show (x.take n == a) = false from beq_eq_false_iff_ne.mpr e]
   show L.find? _ = _
   rw [ih]
   by_cases m : x.take n ∈ L
   ·rw [if_pos m, if_pos (List.mem_cons_of_mem _ m)]
   ·rw [if_neg m, if_neg (fun z => (List.mem_cons.mp z).elim e m)]
def TWOS : List Bytes := SIGNS.take 7
def ONES : List Bytes := SIGNS.drop 7
theorem ya_ : SIGNS = TWOS ++ ONES := (List.take_append_drop 7 SIGNS).symm
theorem yz_ : ∀ s ∈ TWOS, s.length = 2 := by decide
theorem ones_len : ∀ s ∈ ONES, s.length = 1 := by decide
theorem signs_no10 : ∀ s ∈ SIGNS, ∀ d ∈ s, d ≠ 10 := by decide
def j8_ (bs : Bytes) (i : Nat) : Nat := if jx_ bs i (i + 2) ∈ SIGNS then i + (jx_ bs i (i + 2)).length else i + 1
theorem yj_ (x : Bytes) : x ∈ SIGNS ↔ x ∈ TWOS \/ x ∈ ONES := by rw [ya_]; exact List.mem_append
theorem find_sign (h : bs[i]? = some c) : (SIGNS.find? fun s => (bs.drop i).take s.length == s) = if jx_ bs i (j8_ bs i) ∈ SIGNS then some (jx_ bs i (j8_ bs i)) else none := by
 have e2 : (bs.drop i).take 2 = jx_ bs i (i + 2) := by unfold jx_; rw [Nat.add_sub_cancel_left]
 have e1 : (bs.drop i).take 1 = jx_ bs i (i + 1) := by unfold jx_; rw [Nat.add_sub_cancel_left]
 have l1 : (jx_ bs i (i + 1)).length = 1 := by rw [<- e1, y1_ h]; rfl
 rw [ya_, List.find?_append, find_len TWOS yz_, find_len ONES ones_len, e2, e1]
 by_cases m2 : jx_ bs i (i + 2) ∈ TWOS
 ·have n2 := yz_ _ m2
  have s2 : jx_ bs i (i + 2) ∈ SIGNS := (yj_ _).mpr (.inl m2)
  have se : j8_ bs i = i + 2 := by unfold j8_; rw [if_pos s2, n2]
  rw [if_pos m2, se, <- ya_, if_pos s2]
  rfl
 ·have se : j8_ bs i = i + 1 := by
   unfold j8_
   by_cases s2 : jx_ bs i (i + 2) ∈ SIGNS
   ·rw [if_pos s2, ones_len _ (((yj_ _).mp s2).resolve_left m2)]
   ·rw [if_neg s2]
  have n1 : ¬ jx_ bs i (i + 1) ∈ TWOS := fun z => by
   have := yz_ _ z
   omega
  rw [if_neg m2, se, <- ya_, Option.none_or]
  by_cases m1 : jx_ bs i (i + 1) ∈ ONES
  ·rw [if_pos m1, if_pos ((yj_ _).mpr (.inr m1))]
  ·rw [if_neg m1, if_neg fun z => ((yj_ _).mp z).elim n1 m1]
theorem part_len_sign (h : bs[i]? = some c) (m : jx_ bs i (j8_ bs i) ∈ SIGNS) : (jx_ bs i (j8_ bs i)).length = j8_ bs i - i := by
 have e1 : (jx_ bs i (i + 1)).length = 1 := by unfold jx_; rw [Nat.add_sub_cancel_left, y1_ h]; rfl
 unfold j8_ at m ⊢
 split
 ·rename_i s2
  rw [if_pos s2] at m
  rcases (yj_ _).mp s2 with z | z
  ·rw [yz_ _ z, yz_ _ z]; omega
  ·rw [ones_len _ z, e1]; omega
 ·rw [e1]; omega
theorem lex_sign (h : bs[i]? = some c) (hb : blank c = false) (h35 : ¬ c = 35) (hl : letter c = false) (hd : digit c = false) :
  lex (k + 1) q (bs.drop i) = if jx_ bs i (j8_ bs i) ∈ SIGNS then (.sign (jx_ bs i (j8_ bs i)), q) :: lex k (q.1, q.2 + (j8_ bs i - i)) (bs.drop (j8_ bs i)) else [(.bad, q)] := by
 have f := find_sign h
 have e := y1_ h
 have hle : i <= j8_ bs i := by unfold j8_; split <;> omega
 have dd : ∀ n, (bs.drop i).drop n = bs.drop (i + n) := fun n => List.drop_drop
 rw [e] at f
 rw [e, lex, if_neg (by rw [hb]; exact Bool.false_ne_true), if_neg h35, if_neg (by rw [hl]; exact Bool.false_ne_true), if_neg (by rw [hd]; exact Bool.false_ne_true), f]
 by_cases m : jx_ bs i (j8_ bs i) ∈ SIGNS
 ·rw [if_pos m, if_pos m]
  show _ :: lex k (moved q (jx_ bs i (j8_ bs i))) ((c :: bs.drop (i + 1)).drop (jx_ bs i (j8_ bs i)).length) = _
  rw [yp_ _ _ (signs_no10 _ m), part_len_sign h m, <- e, dd, show i + (j8_ bs i - i) = j8_ bs i by omega]
 ·rw [if_neg m, if_neg m]
theorem lex_end (h : bs.length <= i) : lex (k + 1) q (bs.drop i) = [(.eof, q)] := by
 rw [List.drop_eq_nil_of_le h, lex]
end
end OS
namespace OS
open Vbemac
open PySem (Str)
theorem jw_ : ∀ (k : Nat) (q : Pos) (b : Bytes), (lex k q b).length <= k + 1
 | 0, q, b => by rw [lex]; simp
 | k + 1, q, [] => by rw [lex]; simp
 | k + 1, q, c :: r => by
  have z : (c :: r)[0]? = some c := rfl
  have d0 : (c :: r).drop 0 = c :: r := rfl
  rw [<- d0]
  by_cases hb : blank c = true
  ·rw [lex_blank z hb]; exact Nat.le_trans (jw_ k _ _) (by omega)
  ·have hb : blank c = false := by simpa using hb
   by_cases h35 : c = 35
   ·rw [lex_comment z hb h35]; exact Nat.le_trans (jw_ k _ _) (by omega)
   ·by_cases hl : letter c = true
    ·rw [lex_word z hb h35 hl]
     split
     ·simp
     ·rw [List.length_cons]; exact Nat.succ_le_succ (jw_ k _ _)
    ·have hl : letter c = false := by simpa using hl
     by_cases hd : digit c = true
     ·rw [lex_num z hb h35 hl hd]
      split
      ·simp
      ·rw [List.length_cons]; exact Nat.succ_le_succ (jw_ k _ _)
     ·have hd : digit c = false := by simpa using hd
      rw [lex_sign z hb h35 hl hd]
      split
      ·rw [List.length_cons]; exact Nat.succ_le_succ (jw_ k _ _)
      ·simp
def sb (w : Bytes) : Str := ⟨(w.map UInt8.toNat).toArray⟩
def rest37 : Str := ⟨#[47, 114, 101, 115, 116]⟩
def sgn (s : Bytes) : Str := if s = [37] then rest37 else sb s
end OS
namespace OS
open PySem PySem.Spec L2
open PyProof.Rows hiding St
theorem yh_ {X : Cx} {x : Str} {i : Int} {pos : Pos} (hg : Gl X x) (hm : ∃ t, X.mg x = some (.int i t)) (hd : (x == ("__debug__" : Str)) = false := by decide) : PE X (.Name x pos) (tC (.int i)) := by
 obtain ⟨t, hm⟩ := hm
 exact pe_glob hg hm ⟨t, rfl⟩ hd
theorem pe_gs {X : Cx} {x : Str} {i : Str} {pos : Pos} (hg : Gl X x) (hm : ∃ t, X.mg x = some (.str i t)) (hd : (x == ("__debug__" : Str)) = false := by decide) : PE X (.Name x pos) (tC (.str i)) := by
 obtain ⟨t, hm⟩ := hm
 exact pe_glob hg hm ⟨t, rfl⟩ hd
def KTup (K : PySem.W.Frag) (a : Addr) (xs : List V) : Prop := ∃ (o : Obj) (its : Array Value) (n : Nat), K.lookup a = some o /\ o.cls = .type "tuple" /\ o.data = .seq its n /\ its.size <= sizeLine /\ jk_ xs its.toList
theorem KTup.sq {K : PySem.W.Frag} {a : Addr} {xs : List V} {H : Hp} (h : KTup K a xs) : SqT K H a xs := .inr h
structure KdT (P : Program) (w : World) (K : PySem.W.Frag) (a : Addr) (kvs : List (List Key × V)) : Prop where
 at_ : ∃ xs : List (List Key × Addr × Value), (∀ h : Heap, K.In h -> h.DictOfH (tupleKind (jn_ P w)) a xs) /\ Paired (fun (p : List Key × V) (q : List Key × Addr × Value) => p.1 = q.1 /\ jq_ p.2 q.2.2) kvs xs
 no : (a == sysModules) = false
theorem kdt_val {kvs : List (List Key × V)} {xs : List (List Key × Addr × Value)} (r : Paired (fun (p : List Key × V) (q : List Key × Addr × Value) => p.1 = q.1 /\ jq_ p.2 q.2.2) kvs xs) (k : List Key) : RelO (valV kvs k) ((atKey xs k).map (·.2)) := by
 induction r with
 | nil => exact True.intro
 | @cons p q ps qs hq t ih =>
  unfold valV atKey at *
  rw [List.find?_cons, List.find?_cons]
  by_cases e : q.1 = k
  ·rw [show decide (p.1 = k) = true from decide_eq_true (hq.1.trans e), show decide (q.1 = k) = true from decide_eq_true e]
   exact hq.2
  ·rw [show decide (p.1 = k) = false from decide_eq_false (fun z => e (hq.1.symm.trans z)), show decide (q.1 = k) = false from decide_eq_false e]
   exact ih
section
variable {X : Cx} {o i : Expr} {td ty : TE} {pos : Pos}
def tKdIn (P : Program) (w : World) (K : PySem.W.Frag) (ty td : TE) : TE := fun σ H Q => ty σ H fun y H1 => td σ H1 fun x H2 => ∃ a b k kvs, x = .ref a /\ KdT P w K a kvs /\ y = .ref b /\ H2 b = some (.tup (k.map kV)) /\ Q (.bl (valV kvs k).isSome) H2
def tKdGet (P : Program) (w : World) (K : PySem.W.Frag) (td ty : TE) : TE := fun σ H Q => td σ H fun x H1 => ty σ H1 fun y H2 => ∃ a b k kvs v, x = .ref a /\ KdT P w K a kvs /\ y = .ref b /\ H2 b = some (.tup (k.map kV)) /\ valV kvs k = some v /\ Q v H2
theorem pc_kdin (hu : X.A.units + 1 < cLine) (hi : PE X i ty) (ho : PE X o td) : PC X .In i o (tKdIn X.prog X.w X.K ty td) := by
 intro pins s σ H Q I h
 refine bin hi ho I h fun v u s2 x y H2 I2 rx ry q => ?_
 obtain ⟨a, b, k, kvs, ey, kd, ex, eb, q⟩ := q
 subst ex
 subst ey
 cases rx
 cases ry
 obtain ⟨xs, dd, rel⟩ := kd.at_
 refine wpAny_in_heap (tupleKind_room_in1 hu) (key_of I2.hok eb) kd.no (dd _ I2.kIn) ?_
 have z := (kdt_val rel k).isSome_eq
 rw [Option.isSome_map] at z
 rw [<- z]
 exact ⟨.bl _, H2, I2.tok _, rfl, q⟩
theorem pe_kdget (hu : X.A.units + 1 < cLine) (ho : PE X o td) (hi : PE X i ty) (hs : NoSl i) : PE X (.Subscript o i pos) (tKdGet X.prog X.w X.K td ty) := by
 intro pins s σ H Q I h
 refine subD_of PySem.F.slot_dict_getitem.lookup hs (thn (ho pins s σ H _ I h) fun u s1 ⟨x, H1, I1, rx, q1⟩ => thn (hi pins s1 σ H1 _ I1 q1) fun iv s2 ⟨y, H2, I2, ry, a, b, k, kvs, v', ex, kd, ey, eb, l, q⟩ => ?_)
 subst ex
 subst ey
 obtain rfl : u = Value.ref a := rx
 obtain rfl : iv = Value.ref b := ry
 obtain ⟨xs, dd, rel⟩ := kd.at_
 have z := kdt_val rel k
 rw [l] at z
 obtain ⟨w', hw, rw'⟩ := RelO.some_of z
 obtain ⟨p, hp, hp2⟩ := Option.map_eq_some_iff.mp hw
 have D := dd _ I2.kIn
 refine ⟨D.typeIs, wpAny_getItem_heap (tupleKind_room_in1 hu) (key_of I2.hok eb) D hp ?_⟩
 rw [hp2]
 exact ⟨v', H2, I2.tok _, rw', q⟩
end
end OS
namespace OS
open PySem PySem.Spec L2
open PyProof.Rows hiding St
def tp (i : Nat) : Stmt := PySem.Challenge.pw_ordersheets_s10_tokens.main.body.getD i (.Pass ⟨0, 0, 0, 0⟩)
abbrev s_z0 : Stmt := inClass (tp 13) 0
abbrev s_z9 : Stmt := tp 14
abbrev s_z6 : Stmt := tp 15
abbrev s_z2 : Stmt := tp 16
abbrev s_z10 : Stmt := tp 17
abbrev s_z4 : Stmt := tp 18
abbrev s_z7 : Stmt := tp 19
abbrev s_z5 : Stmt := tp 20
abbrev s_z1 : Stmt := tp 21
abbrev s_z3 : Stmt := tp 22
abbrev s_z8 : Stmt := tp 23
abbrev s_z11 : Stmt := tp 26
abbrev s_z12 : Stmt := tp 27
theorem sc_z0 : ji_ ["self", "kind", "value", "line", "column"] ["self", "kind", "value", "line", "column"] (j5_ s_z0) := ⟨rfl, rfl, rfl, by decide +kernel, rfl, by decide +kernel, by decide +kernel⟩
theorem sc_z9 : ji_ ["byte"] ["byte"] (j5_ s_z9) := ⟨rfl, rfl, rfl, by decide +kernel, rfl, by decide +kernel, by decide +kernel⟩
theorem sc_z6 : ji_ ["byte"] ["byte"] (j5_ s_z6) := ⟨rfl, rfl, rfl, by decide +kernel, rfl, by decide +kernel, by decide +kernel⟩
theorem sc_z2 : ji_ ["text", "at"] ["text", "at"] (j5_ s_z2) := ⟨rfl, rfl, rfl, by decide +kernel, rfl, by decide +kernel, by decide +kernel⟩
theorem sc_z10 : ji_ ["text", "at"] ["text", "at"] (j5_ s_z10) := ⟨rfl, rfl, rfl, by decide +kernel, rfl, by decide +kernel, by decide +kernel⟩
theorem sc_z4 : ji_ ["text", "at"] ["text", "at"] (j5_ s_z4) := ⟨rfl, rfl, rfl, by decide +kernel, rfl, by decide +kernel, by decide +kernel⟩
theorem sc_z7 : ji_ ["text", "at", "pair"] ["text", "at"] (j5_ s_z7) := ⟨rfl, rfl, rfl, by decide +kernel, rfl, by decide +kernel, by decide +kernel⟩
theorem sc_z5 : ji_ ["text", "at", "end", "glued"] ["text", "at", "end"] (j5_ s_z5) := ⟨rfl, rfl, rfl, by decide +kernel, rfl, by decide +kernel, by decide +kernel⟩
theorem sc_z1 : ji_ ["part", "worth", "byte"] ["part"] (j5_ s_z1) := ⟨rfl, rfl, rfl, by decide +kernel, rfl, by decide +kernel, by decide +kernel⟩
theorem sc_z3 : ji_ ["kind", "part", "byte"] ["kind", "part"] (j5_ s_z3) := ⟨rfl, rfl, rfl, by decide +kernel, rfl, by decide +kernel, by decide +kernel⟩
theorem sc_z8 : ji_ ["text", "found", "line", "line_start", "at", "end", "kind"] ["text"] (j5_ s_z8) := ⟨rfl, rfl, rfl, by decide +kernel, rfl, by decide +kernel, by decide +kernel⟩
theorem sc_z11 : ji_ ["text", "byte"] ["text"] (j5_ s_z11) := ⟨rfl, rfl, rfl, by decide +kernel, rfl, by decide +kernel, by decide +kernel⟩
theorem sc_z12 : ji_ ["text", "found", "answer", "token"] ["text"] (j5_ s_z12) := ⟨rfl, rfl, rfl, by decide +kernel, rfl, by decide +kernel, by decide +kernel⟩
structure Adr where
 f_z0 : Addr
 fd_z0 : FuncData
 f_z9 : Addr
 fd_z9 : FuncData
 f_z6 : Addr
 fd_z6 : FuncData
 f_z2 : Addr
 fd_z2 : FuncData
 f_z10 : Addr
 fd_z10 : FuncData
 f_z4 : Addr
 fd_z4 : FuncData
 f_z7 : Addr
 fd_z7 : FuncData
 f_z5 : Addr
 fd_z5 : FuncData
 f_z1 : Addr
 fd_z1 : FuncData
 f_z3 : Addr
 fd_z3 : FuncData
 f_z8 : Addr
 fd_z8 : FuncData
 f_z11 : Addr
 fd_z11 : FuncData
 f_z12 : Addr
 fd_z12 : FuncData
 c_Token : Addr
 k_BLANKS : Addr
 k_SIGNS : Addr
structure Txt (K : PySem.W.Frag) (mg : Str -> Option Value) (a : Adr) : Prop where
 F_z0 : Fun K "__init__" "Token.__init__" s_z0 a.f_z0 a.fd_z0
 b_z0 : jz_ K a.fd_z0 ["self", "kind", "value", "line", "column"] []
 F_z9 : Fun K "is_digit" "is_digit" s_z9 a.f_z9 a.fd_z9
 b_z9 : jz_ K a.fd_z9 ["byte"] []
 m_z9 : mg "is_digit" = some (.ref a.f_z9)
 F_z6 : Fun K "is_letter" "is_letter" s_z6 a.f_z6 a.fd_z6
 b_z6 : jz_ K a.fd_z6 ["byte"] []
 m_z6 : mg "is_letter" = some (.ref a.f_z6)
 F_z2 : Fun K "comment_end" "comment_end" s_z2 a.f_z2 a.fd_z2
 b_z2 : jz_ K a.fd_z2 ["text", "at"] []
 m_z2 : mg "comment_end" = some (.ref a.f_z2)
 F_z10 : Fun K "word_end" "word_end" s_z10 a.f_z10 a.fd_z10
 b_z10 : jz_ K a.fd_z10 ["text", "at"] []
 m_z10 : mg "word_end" = some (.ref a.f_z10)
 F_z4 : Fun K "digits_end" "digits_end" s_z4 a.f_z4 a.fd_z4
 b_z4 : jz_ K a.fd_z4 ["text", "at"] []
 m_z4 : mg "digits_end" = some (.ref a.f_z4)
 F_z7 : Fun K "token_end" "token_end" s_z7 a.f_z7 a.fd_z7
 b_z7 : jz_ K a.fd_z7 ["text", "at"] []
 m_z7 : mg "token_end" = some (.ref a.f_z7)
 F_z5 : Fun K "token_kind" "token_kind" s_z5 a.f_z5 a.fd_z5
 b_z5 : jz_ K a.fd_z5 ["text", "at", "end"] []
 m_z5 : mg "token_kind" = some (.ref a.f_z5)
 F_z1 : Fun K "decimal_worth" "decimal_worth" s_z1 a.f_z1 a.fd_z1
 b_z1 : jz_ K a.fd_z1 ["part"] []
 m_z1 : mg "decimal_worth" = some (.ref a.f_z1)
 F_z3 : Fun K "token_value" "token_value" s_z3 a.f_z3 a.fd_z3
 b_z3 : jz_ K a.fd_z3 ["kind", "part"] []
 m_z3 : mg "token_value" = some (.ref a.f_z3)
 F_z8 : Fun K "scan_text" "scan_text" s_z8 a.f_z8 a.fd_z8
 b_z8 : jz_ K a.fd_z8 ["text"] []
 m_z8 : mg "scan_text" = some (.ref a.f_z8)
 F_z11 : Fun K "is_text" "is_text" s_z11 a.f_z11 a.fd_z11
 b_z11 : jz_ K a.fd_z11 ["text"] []
 m_z11 : mg "is_text" = some (.ref a.f_z11)
 F_z12 : Fun K "tokens" "tokens" s_z12 a.f_z12 a.fd_z12
 b_z12 : jz_ K a.fd_z12 ["text"] []
 m_z12 : mg "tokens" = some (.ref a.f_z12)
 mg_Token : mg "Token" = some (.ref a.c_Token)
 cl_Token : Cls K a.c_Token
 mk_Token : Mk K a.c_Token a.f_z0
 no_Token_kind : yo_ K a.c_Token "kind"
 no_Token_value : yo_ K a.c_Token "value"
 no_Token_line : yo_ K a.c_Token "line"
 no_Token_column : yo_ K a.c_Token "column"
 g_WORD : ∃ t, mg "WORD" = some (.int 0 t)
 g_NUMBER : ∃ t, mg "NUMBER" = some (.int 1 t)
 g_SIGN : ∃ t, mg "SIGN" = some (.int 2 t)
 g_END : ∃ t, mg "END" = some (.int 3 t)
 g_WRONG : ∃ t, mg "WRONG" = some (.int 4 t)
 g_LONGEST_WORD : ∃ t, mg "LONGEST_WORD" = some (.int 24 t)
 g_LONGEST_NUMBER : ∃ t, mg "LONGEST_NUMBER" = some (.int 18 t)
 g_LINE_FEED : ∃ t, mg "LINE_FEED" = some (.int 10 t)
 g_COMMENT : ∃ t, mg "COMMENT" = some (.int 35 t)
 g_BLANKS : mg "BLANKS" = some (.ref a.k_BLANKS)
 g_SIGNS : mg "SIGNS" = some (.ref a.k_SIGNS)
 g_SPELLING : ∃ t, mg "SPELLING" = some (.str "0123456789:;<=>?@ABCDEFGHIJKLMNOPQRSTUVWXYZ[\\]^_`abcdefghijklmnopqrstuvwxyz" t)
 g_LONGEST_TEXT : ∃ t, mg "LONGEST_TEXT" = some (.int 3000 t)
 t_BLANKS : KTup K a.k_BLANKS [.int 9, .int 10, .int 13, .int 32]
 n_all : mg "all" = none
 n_len : mg "len" = none
 n_tuple : mg "tuple" = none
end OS
namespace OS
open PySem PySem.Spec L2
open PyProof.Rows hiding St
open Vbemac (Bytes letter digit blank SIGNS Tok Pos Toks lex tokens valueOf)
abbrev nb (c : UInt8) : Int := (c.toNat : Int)
def bsV (bs : Bytes) : List V := bs.map fun c => V.int (nb c)
theorem y4_ (bs : Bytes) : (bsV bs).length = bs.length := by unfold bsV; rw [List.length_map]
theorem yc_ {bs : Bytes} {i : Nat} {c : UInt8} (h : bs[i]? = some c) : (bsV bs)[i]? = some (V.int (nb c)) := by unfold bsV; rw [List.getElem?_map, h]; rfl
theorem all256 {p : UInt8 -> Prop} (h : ∀ n : Nat, n < 256 -> p (UInt8.ofNat n)) (c : UInt8) : p c := by
 have := h c.toNat (UInt8.toNat_lt c)
 rwa [UInt8.ofNat_toNat] at this
theorem digit_nb (c : UInt8) : digit c = (decide ((48 : Int) <= nb c) && decide (nb c <= 57)) := all256 (p := fun c => digit c = (decide ((48 : Int) <= nb c) && decide (nb c <= 57))) (by decide +kernel) c
theorem letter_nb (c : UInt8) : letter c = ((decide ((65 : Int) <= nb c) && decide (nb c <= 90)) || ((decide ((97 : Int) <= nb c) && decide (nb c <= 122)) || decide (nb c = 95))) :=
 all256 (p := fun c => letter c = ((decide ((65 : Int) <= nb c) && decide (nb c <= 90)) || ((decide ((97 : Int) <= nb c) && decide (nb c <= 122)) || decide (nb c = 95)))) (by decide +kernel) c
def spByte (p : UInt8 -> Bool) : Sp := fun vs H Q _ => ∃ c : UInt8, vs = [.int (nb c)] /\ Q (.bl (p c)) H
def spEnd (K : PySem.W.Frag) (p : UInt8 -> Bool) : Sp := fun vs H Q _ => ∃ (l : Addr) (bs : Bytes) (i : Nat), vs = [.ref l, .int i] /\ SqL K H l (bsV bs) /\ i <= bs.length /\ Q (.int (j9_ p bs i : Nat)) H
theorem stays_nb (c : UInt8) : yf_ c = !decide (V.int (nb c) = V.int 10) := all256 (p := fun c => yf_ c = !decide (V.int (nb c) = V.int 10)) (by decide +kernel) c
theorem rd_between {i : Nat} {lo hi n : Int} {σ : St} {H : Hp} {Q : VK} (hv : σ[i]? = some (some (.int n))) (q : Q (.bl (decide (lo <= n) && decide (n <= hi))) H) :
  tChain (rI0 fun i j => .bl (decide (i <= j))) (rI0 fun i j => .bl (decide (i <= j))) (tC (.int lo)) (tVar i) (tC (.int hi)) σ H Q := by
 refine ⟨_, hv, _, _, rfl, rfl, _, rfl, ?_⟩
 by_cases h1 : lo <= n
 ·rw [if_pos (decide_eq_true h1)]
  rw [decide_eq_true h1, Bool.true_and] at q
  exact ⟨_, _, rfl, rfl, q⟩
 ·rw [if_neg (by rw [decide_eq_false h1]; exact Bool.false_ne_true)]
  rw [decide_eq_false h1, Bool.false_and] at q
  exact q
theorem dec_V {i j : Int} : decide (V.int i = V.int j) = decide (i = j) := decide_eq_decide.mpr ⟨fun y => V.int.inj y, fun y => by rw [y]⟩
theorem jp_ {b : Bool} {A B : Prop} (h1 : b = true -> A) (h2 : b = false -> B) : if b = true then A else B := by
 cases b with
 | true => exact iteT (h1 rfl)
 | false => exact iteF (h2 rfl)
section
variable {P : Program} {w : World} {K : PySem.W.Frag} {mg : Str -> Option Value} {base : Heap} {a : Adr}
theorem ok_z9 (T : Txt K mg a) : FnOk P w K mg base CX0 1 a.f_z9 a.fd_z9 ["byte"] (spByte digit) := by
 refine T.F_z9.ok sc_z9 (fun vs H Q E h => ?_) (fun cdv A outer s H vs Q E hr h => ?_)
 ·obtain ⟨c, rfl, _⟩ := h
  rfl
 ·obtain ⟨c, rfl, q⟩ := h
  refine ⟨_, (j4_ (jj_ (pe_chain op_le op_le jd_ (pv 0) jd_))), ?_⟩
  rw [digit_nb] at q
  exact rd_between rfl q
theorem ok_z6 (T : Txt K mg a) : FnOk P w K mg base CX0 1 a.f_z6 a.fd_z6 ["byte"] (spByte letter) := by
 refine T.F_z6.ok sc_z6 (fun vs H Q E h => ?_) (fun cdv A outer s H vs Q E hr h => ?_)
 ·obtain ⟨c, rfl, _⟩ := h
  rfl
 ·obtain ⟨c, rfl, q⟩ := h
  refine ⟨_, (j4_ (jj_ (pe_or (pe_chain op_le op_le jd_ (pv 0) jd_) (pe_or (pe_chain op_le op_le jd_ (pv 0) jd_) (pe_one (pe_cmpR op_eq (pv 0) jd_ (ju_ _))))))), ?_⟩
  rw [letter_nb] at q
  refine rd_between rfl ⟨_, rfl, jp_ (fun e => ?_) fun e => ?_⟩
  ·rw [e, Bool.true_or] at q
   exact q
  ·rw [e, Bool.false_or] at q
   refine rd_between rfl ⟨_, rfl, jp_ (fun e => ?_) fun e => ?_⟩
   ·rw [e, Bool.true_or] at q
    exact q
   ·rw [e, Bool.false_or] at q
    refine ⟨_, rfl, rfl, ?_⟩
    rw [dec_V]
    exact q
theorem ok_z2 (T : Txt K mg a) : FnOk P w K mg base CX0 1 a.f_z2 a.fd_z2 ["text", "at"] (spEnd K yf_) := by
 refine T.F_z2.ok sc_z2 (fun vs H Q E h => ?_) (fun cdv A outer s H vs Q E hr h => ?_)
 ·obtain ⟨l, bs, i, rfl, _⟩ := h
  rfl
 ·obtain ⟨l, bs, i, rfl, hS, hi, q⟩ := h
  refine ⟨_, (j2_ (ps_while PassesOwn.never (pw_and (jm_ op_lt (pv 1) (jv_ je_ (by rfl) T.n_len PySem.boot_len (j0_ (pv 0) j7_)) (ju_ _)) (pw_and1 (jm_ op_ne (pe_ix jt_ (pv 0) (pv 1) (fun _ _ => rfl)) (yh_ (by rfl) T.g_LINE_FEED) (ju_ _)))).pt (j4_ (ps_aug (i := 1) sc_z2.nd rfl (Or.inl rfl) jd_ ip_add)))
    (j4_ (jj_ (pv 1)))), ?_⟩
  refine ⟨fun m σ H' => ∃ j : Nat, m = bs.length - j /\ σ = [some (.ref l), some (.int (j : Nat))] /\ H' = H /\ j <= bs.length /\ j9_ yf_ bs j = j9_ yf_ bs i, ⟨_, i, rfl, rfl, rfl, hi, rfl⟩, ?_⟩
  rintro m σ H' ⟨j, rfl, rfl, rfl, hj, ej⟩
  refine ⟨_, rfl, _, rfl, _, _, rfl, .inl hS, _, _, rfl, rfl, _, rfl, ?_⟩
  rw [y4_]
  refine jp_ (fun e => ?_) fun e => ?_
  ·have lt : j < bs.length := by have := of_decide_eq_true e; omega
   obtain ⟨c, hc⟩ : ∃ c, bs[j]? = some c := ⟨_, List.getElem?_eq_getElem lt⟩
   refine ⟨_, rfl, _, rfl, _, _, _, _, rfl, rfl, hS, jr_ (yc_ hc), rfl, _, rfl, ?_⟩
   have st : yf_ c = !decide (V.int (nb c) = V.int 10) := stays_nb c
   refine jp_ (fun e2 => ?_) fun e2 => ?_
   ·refine ⟨fun σ' H'' => σ' = [some (.ref l), some (.int ((j + 1 : Nat)))] /\ H'' = H', ?_, _, rfl, _, _, rfl, rfl, rfl, rfl⟩
    rintro σ' H'' ⟨rfl, rfl⟩
    exact ⟨_, by omega, j + 1, rfl, rfl, rfl, lt, by rw [<- ej, endAt_go hc (st.trans e2)]⟩
   ·refine ⟨_, rfl, ?_⟩
    rw [<- ej, endAt_no hc (st.trans e2)] at q
    exact q
  ·have ge : bs.length <= j := by have := of_decide_eq_false e; omega
   refine iteF ?_
   refine ⟨_, rfl, ?_⟩
   rw [<- ej, endAt_out ge] at q
   exact q
theorem ok_z10 (T : Txt K mg a) : FnOk P w K mg base CX0 2 a.f_z10 a.fd_z10 ["text", "at"] (spEnd K jl_) := by
 have G_z6 := ok_z6 (P := P) (w := w) (base := base) T
 have G_z9 := ok_z9 (P := P) (w := w) (base := base) T
 refine T.F_z10.ok sc_z10 (fun vs H Q E h => ?_) (fun cdv A outer s H vs Q E hr h => ?_)
 ·obtain ⟨l, bs, i, rfl, _⟩ := h
  rfl
 ·obtain ⟨l, bs, i, rfl, hS, hi, q⟩ := h
  refine ⟨_, (j2_ (ps_while PassesOwn.never (pw_and (jm_ op_lt (pv 1) (jv_ je_ (by rfl) T.n_len PySem.boot_len (j0_ (pv 0) j7_)) (ju_ _)) (pw_and1 (pw_or (yw_ (jh_ G_z6 hr (by rfl) T.m_z6 T.F_z6.kp T.b_z6 .nil yb_ (j0_ (pe_ix jt_ (pv 0) (pv 1) (fun _ _ => rfl)) j7_))) (pw_or1 (yw_ (jh_ G_z9 hr (by rfl) T.m_z9 T.F_z9.kp T.b_z9 .nil yb_ (j0_ (pe_ix jt_ (pv 0) (pv 1) (fun _ _ => rfl)) j7_))))).pt)).pt (j4_ (ps_aug (i := 1) sc_z10.nd rfl (Or.inl rfl) jd_ ip_add)))
    (j4_ (jj_ (pv 1)))), ?_⟩
  refine ⟨fun m σ H' => ∃ j : Nat, m = bs.length - j /\ σ = [some (.ref l), some (.int (j : Nat))] /\ H' = H /\ j <= bs.length /\ j9_ jl_ bs j = j9_ jl_ bs i, ⟨_, i, rfl, rfl, rfl, hi, rfl⟩, ?_⟩
  rintro m σ H' ⟨j, rfl, rfl, rfl, hj, ej⟩
  refine ⟨_, rfl, _, rfl, _, _, rfl, .inl hS, _, _, rfl, rfl, _, rfl, ?_⟩
  rw [y4_]
  refine jp_ (fun e => ?_) fun e => ?_
  ·have lt : j < bs.length := by have := of_decide_eq_true e; omega
   obtain ⟨c, hc⟩ : ∃ c, bs[j]? = some c := ⟨_, List.getElem?_eq_getElem lt⟩
   have go : jl_ c = true -> ∃ N : St -> Hp -> Prop, (∀ σ' H'', N σ' H'' -> ∃ m', m' < bs.length - j /\ ∃ j1 : Nat, m' = bs.length - j1 /\ σ' = [some (.ref l), some (.int (j1 : Nat))] /\ H'' = H' /\ j1 <= bs.length /\ j9_ jl_ bs j1 = j9_ jl_ bs i) /\
     N [some (.ref l), some (.int ((j + 1 : Nat)))] H' := fun y => by
    refine ⟨fun σ' H'' => σ' = [some (.ref l), some (.int ((j + 1 : Nat)))] /\ H'' = H', ?_, rfl, rfl⟩
    rintro σ' H'' ⟨rfl, rfl⟩
    exact ⟨_, by omega, j + 1, rfl, rfl, rfl, lt, by rw [<- ej, endAt_go hc y]⟩
   refine ⟨_, rfl, _, rfl, _, _, _, _, rfl, rfl, hS, jr_ (yc_ hc), c, rfl, _, rfl, jp_ (fun e2 => ?_) fun e2 => ?_⟩
   ·obtain ⟨N, n1, n2⟩ := go (by unfold jl_; rw [e2]; rfl)
    exact iteT ⟨N, n1, _, rfl, _, _, rfl, rfl, n2⟩
   ·refine ⟨_, rfl, _, rfl, _, _, _, _, rfl, rfl, hS, jr_ (yc_ hc), c, rfl, _, rfl, jp_ (fun e3 => ?_) fun e3 => ?_⟩
    ·obtain ⟨N, n1, n2⟩ := go (by unfold jl_; rw [e3, Bool.or_true])
     exact ⟨N, n1, _, rfl, _, _, rfl, rfl, n2⟩
    ·refine ⟨_, rfl, ?_⟩
     rw [<- ej, endAt_no hc (by unfold jl_; rw [e2, e3]; rfl)] at q
     exact q
  ·have ge : bs.length <= j := by have := of_decide_eq_false e; omega
   refine iteF ?_
   refine ⟨_, rfl, ?_⟩
   rw [<- ej, endAt_out ge] at q
   exact q
theorem ok_z4 (T : Txt K mg a) : FnOk P w K mg base CX0 2 a.f_z4 a.fd_z4 ["text", "at"] (spEnd K digit) := by
 have G_z9 := ok_z9 (P := P) (w := w) (base := base) T
 refine T.F_z4.ok sc_z4 (fun vs H Q E h => ?_) (fun cdv A outer s H vs Q E hr h => ?_)
 ·obtain ⟨l, bs, i, rfl, _⟩ := h
  rfl
 ·obtain ⟨l, bs, i, rfl, hS, hi, q⟩ := h
  refine ⟨_, (j2_ (ps_while PassesOwn.never (pw_and (jm_ op_lt (pv 1) (jv_ je_ (by rfl) T.n_len PySem.boot_len (j0_ (pv 0) j7_)) (ju_ _)) (pw_and1 (yw_ (jh_ G_z9 hr (by rfl) T.m_z9 T.F_z9.kp T.b_z9 .nil yb_ (j0_ (pe_ix jt_ (pv 0) (pv 1) (fun _ _ => rfl)) j7_))))).pt (j4_ (ps_aug (i := 1) sc_z4.nd rfl (Or.inl rfl) jd_ ip_add)))
    (j4_ (jj_ (pv 1)))), ?_⟩
  refine ⟨fun m σ H' => ∃ j : Nat, m = bs.length - j /\ σ = [some (.ref l), some (.int (j : Nat))] /\ H' = H /\ j <= bs.length /\ j9_ digit bs j = j9_ digit bs i, ⟨_, i, rfl, rfl, rfl, hi, rfl⟩, ?_⟩
  rintro m σ H' ⟨j, rfl, rfl, rfl, hj, ej⟩
  refine ⟨_, rfl, _, rfl, _, _, rfl, .inl hS, _, _, rfl, rfl, _, rfl, ?_⟩
  rw [y4_]
  refine jp_ (fun e => ?_) fun e => ?_
  ·have lt : j < bs.length := by have := of_decide_eq_true e; omega
   obtain ⟨c, hc⟩ : ∃ c, bs[j]? = some c := ⟨_, List.getElem?_eq_getElem lt⟩
   refine ⟨_, rfl, _, rfl, _, _, _, _, rfl, rfl, hS, jr_ (yc_ hc), c, rfl, _, rfl, jp_ (fun e2 => ?_) fun e2 => ?_⟩
   ·refine ⟨fun σ' H'' => σ' = [some (.ref l), some (.int ((j + 1 : Nat)))] /\ H'' = H', ?_, _, rfl, _, _, rfl, rfl, rfl, rfl⟩
    rintro σ' H'' ⟨rfl, rfl⟩
    exact ⟨_, by omega, j + 1, rfl, rfl, rfl, lt, by rw [<- ej, endAt_go hc e2]⟩
   ·refine ⟨_, rfl, ?_⟩
    rw [<- ej, endAt_no hc e2] at q
    exact q
  ·have ge : bs.length <= j := by have := of_decide_eq_false e; omega
   refine iteF ?_
   refine ⟨_, rfl, ?_⟩
   rw [<- ej, endAt_out ge] at q
   exact q
end
end OS
namespace OS
open PySem PySem.Spec L2
open PyProof.Rows hiding St
open Vbemac (Bytes letter digit blank SIGNS Tok Pos Toks lex tokens valueOf)
theorem pe_gr {X : Cx} {x : Str} {p : Addr} {pos : PySem.Pos} (hg : Gl X x) (hm : X.mg x = some (.ref p)) (hd : (x == ("__debug__" : Str)) = false := by decide) : PE X (.Name x pos) (tC (.ref p)) := pe_glob hg hm rfl hd
theorem cut_part {bs : Bytes} {i j : Nat} : cutV (bsV bs) (some (i : Int)) (some (j : Int)) = bsV (jx_ bs i j) := by
 unfold cutV jx_
 rw [HT.sIx_nat, HT.sIx_nat, y4_]
 unfold bsV
 rw [<- List.map_drop, <- List.map_take]
 congr 1
 by_cases hi : i <= bs.length
 ·rw [Nat.min_eq_left hi]
  by_cases hj : j <= bs.length
  ·rw [Nat.min_eq_left hj]
  ·rw [Nat.min_eq_right (show bs.length <= j by omega), List.take_of_length_le (by rw [List.length_drop]; omega), List.take_of_length_le (by rw [List.length_drop]; omega)]
 ·rw [Nat.min_eq_right (show bs.length <= i by omega), List.drop_of_length_le (Nat.le_refl _), List.drop_of_length_le (show bs.length <= i by omega)]
  simp
def kb (c : UInt8) : Key := Sum.inl (nb c)
theorem kb_inj {x y : UInt8} (h : kb x = kb y) : x = y := UInt8.toNat_inj.mp (Int.ofNat.inj (Sum.inl.inj h))
theorem kbs_inj {x y : Bytes} (h : x.map kb = y.map kb) : x = y := (List.map_inj_right fun _ _ z => kb_inj z).mp h
theorem kb_V (w : Bytes) : (w.map kb).map kV = bsV w := by unfold bsV; rw [List.map_map]; rfl
def yd_ : List (List Key × V) := SIGNS.map fun s => (s.map kb, V.str (sgn s))
theorem sign_at (w : Bytes) : ∀ L : List Bytes, valV (L.map fun s => (s.map kb, V.str (sgn s))) (w.map kb) = if w ∈ L then some (V.str (sgn w)) else none
 | [] => by simp [valV]
 | s :: L => by
  rw [List.map_cons]
  by_cases e : s = w
  ·subst e
   rw [valV_pos rfl, if_pos List.mem_cons_self]
  ·rw [valV_neg (fun z => e (kbs_inj z)), sign_at w L]
   by_cases m : w ∈ L
   ·rw [if_pos m, if_pos (List.mem_cons_of_mem _ m)]
   ·rw [if_neg m, if_neg fun z => (List.mem_cons.mp z).elim (fun y => e y.symm) m]
theorem sign_val (w : Bytes) : valV yd_ (w.map kb) = if w ∈ SIGNS then some (V.str (sgn w)) else none := sign_at w SIGNS
theorem yx_ (w : Bytes) : (valV yd_ (w.map kb)).isSome = decide (w ∈ SIGNS) := by
 rw [sign_val]
 by_cases m : w ∈ SIGNS
 ·rw [if_pos m, decide_eq_true m]; rfl
 ·rw [if_neg m, decide_eq_false m]; rfl
def y2_ (bs : Bytes) (i : Nat) (c : UInt8) : Nat := if letter c = true then j9_ jl_ bs i else if digit c = true then j9_ digit bs i else j8_ bs i
def spTokEnd (K : PySem.W.Frag) : Sp := fun vs H Q _ => ∃ (l : Addr) (bs : Bytes) (i : Nat) (c : UInt8), vs = [.ref l, .int i] /\ SqL K H l (bsV bs) /\ bs[i]? = some c /\ ∀ H', ye_ H H' -> Q (.int (y2_ bs i c : Nat)) H'
theorem jo_ {H : Hp} {p : Addr} {o : HO} (h : H p = Option.none) : ye_ H (upd H p o) := fun b u e => by rw [ja_ (j6_ e h)]; exact e
section
variable {P : Program} {w : World} {K : PySem.W.Frag} {mg : Str -> Option Value} {base : Heap} {a : Adr}
theorem ok_z7 (T : Txt K mg a) (kS : KdT P w K a.k_SIGNS yd_) : FnOk P w K mg base CX0 3 a.f_z7 a.fd_z7 ["text", "at"] (spTokEnd K) := by
 have G_z6 := ok_z6 (P := P) (w := w) (base := base) T
 have G_z9 := ok_z9 (P := P) (w := w) (base := base) T
 have G_z10 := ok_z10 (P := P) (w := w) (base := base) T
 have G_z4 := ok_z4 (P := P) (w := w) (base := base) T
 refine T.F_z7.ok sc_z7 (fun vs H Q E h => ?_) (fun cdv A outer s H vs Q E hr h => ?_)
 ·obtain ⟨l, bs, i, c, rfl, _⟩ := h
  rfl
 ·obtain ⟨l, bs, i, c, rfl, hS, hc, q⟩ := h
  have hi : i <= bs.length := Nat.le_of_lt (List.getElem?_eq_some_iff.mp hc).1
  refine ⟨_, (j2_ (ps_if (yw_ (jh_ G_z6 (hr.mono (by decide)) (by rfl) T.m_z6 T.F_z6.kp T.b_z6 .nil yb_ (j0_ (pe_ix jt_ (pv 0) (pv 1) (fun _ _ => rfl)) j7_))) (j4_ (jj_ (jh_ G_z10 (hr.mono (by decide)) (by rfl) T.m_z10 T.F_z10.kp T.b_z10 .nil yb_ (j0_ (pv 0) (j0_ (pv 1) j7_))))) y0_)
    (j2_ (ps_if (yw_ (jh_ G_z9 (hr.mono (by decide)) (by rfl) T.m_z9 T.F_z9.kp T.b_z9 .nil yb_ (j0_ (pe_ix jt_ (pv 0) (pv 1) (fun _ _ => rfl)) j7_))) (j4_ (jj_ (jh_ G_z4 (hr.mono (by decide)) (by rfl) T.m_z4 T.F_z4.kp T.b_z4 .nil yb_ (j0_ (pv 0) (j0_ (pv 1) j7_))))) y0_)
    (j2_ (jy_ (i := 2) sc_z7.nd rfl (Or.inl rfl) (pe_callTy y3_ (by rfl) T.n_tuple PyProof.Rows.boot_tuple (j0_ (pe_slice sl_list (pv 0) (po_some (pv 1)) (po_some (v0_ op_add (pv 1) jd_))) j7_)))
    (j4_ (jj_ (pe_ifExp (pt_cmp (pc_kdin (hu_of hr) (pv 2) (pe_gr (by rfl) T.g_SIGNS))) (v0_ op_add (pv 1) (jv_ je_ (by rfl) T.n_len PySem.boot_len (j0_ (pv 2) j7_))) (v0_ op_add (pv 1) jd_))))))), ?_⟩
  refine ⟨_, rfl, _, rfl, _, _, _, _, rfl, rfl, hS, jr_ (yc_ hc), c, rfl, _, rfl, jp_ (fun e => ?_) fun e => ?_⟩
  ·refine ⟨_, rfl, _, rfl, l, bs, i, rfl, hS, hi, ?_⟩
   have z := q H (ye_.refl H)
   unfold y2_ at z
   rw [if_pos e] at z
   exact z
  ·refine ⟨_, rfl, _, rfl, _, _, _, _, rfl, rfl, hS, jr_ (yc_ hc), c, rfl, _, rfl, jp_ (fun e2 => ?_) fun e2 => ?_⟩
   ·refine ⟨_, rfl, _, rfl, l, bs, i, rfl, hS, hi, ?_⟩
    have z := q H (ye_.refl H)
    unfold y2_ at z
    rw [if_neg (by rw [e]; exact Bool.false_ne_true), if_pos e2] at z
    exact z
   ·refine ⟨_, rfl, _, rfl, _, rfl, _, rfl, _, _, rfl, rfl, _, rfl, _, _, rfl, hS, fun p hp => ?_⟩
    refine ⟨p, _, rfl, .inl ⟨SqL.of j3_, fun t ht => ?_⟩⟩
    have cut : cutV (bsV bs) (some (i : Int)) (some ((i : Int) + 2)) = bsV (jx_ bs i (i + 2)) := cut_part (j := i + 2)
    rw [cut] at ht ⊢
    have sm : ye_ H (upd (upd H p (.lst (bsV (jx_ bs i (i + 2))))) t (.tup (bsV (jx_ bs i (i + 2))))) := (jo_ hp).trans (jo_ ht)
    have z := q _ sm
    unfold y2_ at z
    rw [if_neg (by rw [e]; exact Bool.false_ne_true), if_neg (by rw [e2]; exact Bool.false_ne_true)] at z
    unfold j8_ at z
    refine ⟨_, rfl, a.k_SIGNS, t, (jx_ bs i (i + 2)).map kb, yd_, rfl, kS, rfl, by rw [j3_, kb_V], _, rfl, jp_ (fun e3 => ?_) fun e3 => ?_⟩
    ·rw [yx_] at e3
     rw [if_pos (of_decide_eq_true e3)] at z
     refine ⟨_, rfl, _, rfl, _, _, rfl, .inr (SqT.of j3_), _, _, rfl, rfl, ?_⟩
     rw [y4_]
     exact z
    ·rw [yx_] at e3
     rw [if_neg (of_decide_eq_false e3)] at z
     exact ⟨_, rfl, _, _, rfl, rfl, z⟩
def tokKind (bs : Bytes) (i e : Nat) (c : UInt8) : Int := if letter c = true then (if e - i <= 24 then 0 else 4) else if digit c = true then (if 18 < e - i \/ glued bs e = true then 4 else 1) else if jx_ bs i e ∈ SIGNS then 2 else 4
def spTokKind (K : PySem.W.Frag) : Sp := fun vs H Q _ => ∃ (l : Addr) (bs : Bytes) (i e : Nat) (c : UInt8), vs = [.ref l, .int i, .int e] /\ SqL K H l (bsV bs) /\ bs[i]? = some c /\ i <= e /\ e <= bs.length /\ ∀ H', ye_ H H' -> Q (.int (tokKind bs i e c)) H'
theorem ok_z5 (T : Txt K mg a) (kS : KdT P w K a.k_SIGNS yd_) : FnOk P w K mg base CX0 2 a.f_z5 a.fd_z5 ["text", "at", "end"] (spTokKind K) := by
 have G_z6 := ok_z6 (P := P) (w := w) (base := base) T
 have G_z9 := ok_z9 (P := P) (w := w) (base := base) T
 refine T.F_z5.ok sc_z5 (fun vs H Q E h => ?_) (fun cdv A outer s H vs Q E hr h => ?_)
 ·obtain ⟨l, bs, i, e, c, rfl, _⟩ := h
  rfl
 ·obtain ⟨l, bs, i, e, c, rfl, hS, hc, hie, he, q⟩ := h
  refine ⟨_, (j2_ (ps_if (yw_ (jh_ G_z6 (hr.mono (by decide)) (by rfl) T.m_z6 T.F_z6.kp T.b_z6 .nil yb_ (j0_ (pe_ix jt_ (pv 0) (pv 1) (fun _ _ => rfl)) j7_))) (j4_ (jj_ (pe_ifExp (jm_ op_le (v0_ op_sub (pv 2) (pv 1)) (yh_ (by rfl) T.g_LONGEST_WORD) (ju_ _)) (yh_ (by rfl) T.g_WORD) (yh_ (by rfl) T.g_WRONG)))) y0_)
    (j2_ (ps_if (yw_ (jh_ G_z9 (hr.mono (by decide)) (by rfl) T.m_z9 T.F_z9.kp T.b_z9 .nil yb_ (j0_ (pe_ix jt_ (pv 0) (pv 1) (fun _ _ => rfl)) j7_))) (j2_ (jy_ (i := 3) sc_z5.nd rfl (Or.inl rfl) (pe_and (pe_cmpR op_lt (pv 2) (jv_ je_ (by rfl) T.n_len PySem.boot_len (j0_ (pv 0) j7_)) (ju_ _)) (pe_one (jh_ G_z6 (hr.mono (by decide)) (by rfl) T.m_z6 T.F_z6.kp T.b_z6 .nil yb_ (j0_ (pe_ix jt_ (pv 0) (pv 2) (fun _ _ => rfl)) j7_)))))
    (j4_ (jj_ (pe_ifExp (pw_or (yw_ (pv 3)) (pw_or1 (jm_ op_gt (v0_ op_sub (pv 2) (pv 1)) (yh_ (by rfl) T.g_LONGEST_NUMBER) (ju_ _)))).pt (yh_ (by rfl) T.g_WRONG) (yh_ (by rfl) T.g_NUMBER))))) y0_)
    (j4_ (jj_ (pe_ifExp (pt_cmp (pc_kdin (hu_of hr) (pe_callTy y3_ (by rfl) T.n_tuple PyProof.Rows.boot_tuple (j0_ (pe_slice sl_list (pv 0) (po_some (pv 1)) (po_some (pv 2))) j7_)) (pe_gr (by rfl) T.g_SIGNS))) (yh_ (by rfl) T.g_SIGN) (yh_ (by rfl) T.g_WRONG)))))), ?_⟩
  refine ⟨_, rfl, _, rfl, _, _, _, _, rfl, rfl, hS, jr_ (yc_ hc), c, rfl, _, rfl, jp_ (fun e1 => ?_) fun e1 => ?_⟩
  ·refine ⟨_, rfl, _, rfl, _, _, rfl, rfl, _, _, rfl, rfl, _, rfl, ?_⟩
   have z := q H (ye_.refl H)
   unfold tokKind at z
   rw [if_pos e1] at z
   refine jp_ (fun e2 => ?_) fun e2 => ?_
   ·have := of_decide_eq_true e2
    rw [if_pos (by omega)] at z
    exact z
   ·have := of_decide_eq_false e2
    rw [if_neg (by omega)] at z
    exact z
  ·refine ⟨_, rfl, _, rfl, _, _, _, _, rfl, rfl, hS, jr_ (yc_ hc), c, rfl, _, rfl, jp_ (fun e2 => ?_) fun e2 => ?_⟩
   ·have z := q H (ye_.refl H)
    unfold tokKind at z
    rw [if_neg (by rw [e1]; exact Bool.false_ne_true), if_pos e2] at z
    have rest : ∀ b : Bool, glued bs e = b -> tRet (tIf (tOr (tB (tVar 3)) (tTest (tOp (rI0 fun i j => .bl (decide (j < i))) (tOp (rI0 fun i j => .int (i - j)) (tVar 2) (tVar 1)) (tC (.int 18))))) (tC (.int 4)) (tC (.int 1))) { nx := fun _ H' => Q .non H', rt := Q } [some (.ref l), some (.int i), some (.int e), some (.bl b)] H := fun b hb => by
     refine ⟨_, rfl, _, rfl, jp_ (fun e3 => ?_) fun e3 => ?_⟩
     ·rw [if_pos (.inr (hb.trans e3))] at z
      exact iteT z
     ·refine ⟨_, rfl, _, rfl, _, _, rfl, rfl, _, _, rfl, rfl, _, rfl, jp_ (fun e4 => ?_) fun e4 => ?_⟩
      ·have := of_decide_eq_true e4
       rw [if_pos (.inl (by omega))] at z
       exact z
      ·have := of_decide_eq_false e4
       rw [if_neg (fun y => y.elim (fun y => by omega) fun y => by rw [hb, e3] at y; cases y)] at z
       exact z
    refine ⟨_, rfl, _, rfl, _, _, rfl, .inl hS, _, _, rfl, rfl, _, rfl, ?_⟩
    rw [y4_]
    refine jp_ (fun e3 => ?_) fun e3 => ?_
    ·have lt : e < bs.length := by have := of_decide_eq_true e3; omega
     obtain ⟨g, hg⟩ : ∃ g, bs[e]? = some g := ⟨_, List.getElem?_eq_getElem lt⟩
     refine ⟨_, rfl, _, rfl, _, _, _, _, rfl, rfl, hS, jr_ (yc_ hg), g, rfl, ?_⟩
     exact rest (letter g) (by unfold glued; rw [hg]; rfl)
    ·have ge : bs.length <= e := by have := of_decide_eq_false e3; omega
     exact rest false (by unfold glued; rw [List.getElem?_eq_none ge]; rfl)
   ·refine ⟨_, rfl, _, rfl, _, rfl, _, rfl, _, rfl, _, _, rfl, hS, fun p hp => ?_⟩
    refine ⟨p, _, rfl, .inl ⟨SqL.of j3_, fun t ht => ?_⟩⟩
    rw [cut_part] at ht ⊢
    have sm : ye_ H (upd (upd H p (.lst (bsV (jx_ bs i e)))) t (.tup (bsV (jx_ bs i e)))) := (jo_ hp).trans (jo_ ht)
    have z := q _ sm
    unfold tokKind at z
    rw [if_neg (by rw [e1]; exact Bool.false_ne_true), if_neg (by rw [e2]; exact Bool.false_ne_true)] at z
    refine ⟨a.k_SIGNS, t, (jx_ bs i e).map kb, yd_, rfl, kS, rfl, by rw [j3_, kb_V], _, rfl, jp_ (fun e3 => ?_) fun e3 => ?_⟩
    ·rw [yx_] at e3
     rw [if_pos (of_decide_eq_true e3)] at z
     exact z
    ·rw [yx_] at e3
     rw [if_neg (of_decide_eq_false e3)] at z
     exact z
end
end OS
namespace OS
open PySem PySem.Spec L2
open PyProof.Rows hiding St
open Vbemac (Bytes letter digit blank SIGNS Tok Pos Toks lex tokens valueOf)
theorem valueOf_snoc (l : Bytes) (c : UInt8) : valueOf (l ++ [c]) = 10 * valueOf l + (c.toNat - 48) := by unfold valueOf; rw [List.foldl_append]; rfl
theorem digit_ge {c : UInt8} (h : digit c = true) : 48 <= nb c := by
 rw [digit_nb, Bool.and_eq_true] at h
 exact of_decide_eq_true h.1
def spWorth (K : PySem.W.Frag) : Sp := fun vs H Q _ => ∃ (l : Addr) (u : Bytes), vs = [.ref l] /\ SqL K H l (bsV u) /\ (∀ c ∈ u, digit c = true) /\ Q (.int (valueOf u : Nat)) H
def one (c : UInt8) : Str := ⟨#[c.toNat]⟩
theorem joinL_one : ∀ w : Bytes, TL.joinL [] (w.map fun c => [c.toNat]) = w.map UInt8.toNat
 | [] => rfl
 | [c] => rfl
 | c :: d :: r => by
  show [c.toNat] ++ ([] ++ TL.joinL [] ((d :: r).map fun c => [c.toNat])) = _
  rw [joinL_one (d :: r)]
  rfl
theorem join_one (w : Bytes) : Txt.join ("" : Str) (w.map one) = sb w := by
 rw [TL.join_eq]
 refine TL.ext_tl ?_
 rw [TL.tl_join, List.map_map]
 exact joinL_one w
def SPELL : Str := "0123456789:;<=>?@ABCDEFGHIJKLMNOPQRSTUVWXYZ[\\]^_`abcdefghijklmnopqrstuvwxyz"
theorem spell_len : SPELL.length <= sizeLine := by decide +kernel
theorem spell_at {c : UInt8} (h : jl_ c = true) : atI SPELL.cps.toList (nb c - 48) = some c.toNat := by
 revert h
 exact all256 (p := fun c => jl_ c = true -> atI SPELL.cps.toList (nb c - 48) = some c.toNat) (by decide +kernel) c
def spVal (K : PySem.W.Frag) : Sp := fun vs H Q _ => ∃ (k : Int) (l : Addr) (u : Bytes), vs = [.int k, .ref l] /\ SqL K H l (bsV u) /\ u.length <= 3000 /\
 ((k = 0 /\ (∀ c ∈ u, jl_ c = true) /\ ∀ H', ye_ H H' -> Q (.str (sb u)) H') \/ (k = 1 /\ (∀ c ∈ u, digit c = true) /\ ∀ H', ye_ H H' -> Q (.int (valueOf u : Nat)) H') \/
   (k = 2 /\ u ∈ SIGNS /\ ∀ H', ye_ H H' -> Q (.str (sgn u)) H') \/ (k = 4 /\ ∀ H', ye_ H H' -> Q (.str (sb [])) H'))
section
variable {P : Program} {w : World} {K : PySem.W.Frag} {mg : Str -> Option Value} {base : Heap} {a : Adr}
theorem ok_z1 (T : Txt K mg a) : FnOk P w K mg base CX0 1 a.f_z1 a.fd_z1 ["part"] (spWorth K) := by
 refine T.F_z1.ok sc_z1 (fun vs H Q E h => ?_) (fun cdv A outer s H vs Q E hr h => ?_)
 ·obtain ⟨l, u, rfl, _⟩ := h
  rfl
 ·obtain ⟨l, u, rfl, hS, hd, q⟩ := h
  refine ⟨_, (j2_ (jy_ (i := 1) sc_z1.nd rfl (Or.inl rfl) jd_)
    (j2_ (ps_for PassesOwn.never rfl (pi_list (pv 0)) (pg_name (i := 2) sc_z1.nd rfl (Or.inl rfl)) (j4_ (jy_ (i := 1) sc_z1.nd rfl (Or.inl rfl) (v0_ op_sub (v0_ op_add (v0_ op_mul (pv 1) jd_) (pv 2)) jd_))))
    (j4_ (jj_ (pv 1))))), ?_⟩
  refine ⟨_, rfl, l, rfl, ⟨_, hS⟩, for_list (K := K) (a := l) (xs := bsV u) (fun i σ H' => ∃ v : Option V, σ = [some (.ref l), some (.int (valueOf (u.take i) : Nat)), v] /\ H' = H) ⟨none, rfl, rfl⟩ (fun i σ H' _ ⟨_, _, e⟩ => by rw [e]; exact hS) ?_ ?_⟩
  ·rintro i y σ H' hi ⟨v, rfl, rfl⟩
   obtain ⟨c, hc, rfl⟩ : ∃ c, u[i]? = some c /\ y = V.int (nb c) := by
    unfold bsV at hi
    rw [List.getElem?_map] at hi
    cases e : u[i]? with
    | none => rw [e] at hi; cases hi
    | some c => rw [e] at hi; exact ⟨c, rfl, (Option.some.inj hi).symm⟩
   refine ⟨_, rfl, _, _, rfl, rfl, .inr ⟨by decide, by decide⟩, _, rfl, _, _, rfl, rfl, _, _, rfl, rfl, some (.int (nb c)), ?_, rfl⟩
   have g := digit_ge (hd c (List.mem_of_getElem? hc))
   have e : ((valueOf (u.take (i + 1)) : Nat) : Int) = (valueOf (u.take i) : Nat) * 10 + nb c - 48 := by
    rw [List.take_add_one, hc]
    show ((valueOf (u.take i ++ [c]) : Nat) : Int) = _
    rw [valueOf_snoc]
    have g' : 48 <= c.toNat := Int.ofNat_le.mp g
    show ((10 * valueOf (u.take i) + (c.toNat - 48) : Nat) : Int) = (valueOf (u.take i) : Nat) * 10 + (c.toNat : Int) - 48
    omega
   rw [e]
   rfl
  ·rintro σ H' ⟨v, rfl, rfl⟩
   rw [y4_, List.take_length]
   exact ⟨_, rfl, q⟩
theorem ok_z3 (T : Txt K mg a) (kS : KdT P w K a.k_SIGNS yd_) : FnOk P w K mg base CX0 2 a.f_z3 a.fd_z3 ["kind", "part"] (spVal K) := by
 have G_z1 := ok_z1 (P := P) (w := w) (base := base) T
 refine T.F_z3.ok sc_z3 (fun vs H Q E h => ?_) (fun cdv A outer s H vs Q E hr h => ?_)
 ·obtain ⟨k, l, u, rfl, _⟩ := h
  rfl
 ·obtain ⟨k, l, u, rfl, hS, hlen, h⟩ := h
  refine ⟨_, (j2_ (ps_if (jm_ op_eq (pv 0) (yh_ (by rfl) T.g_WORD) (ju_ _)) (j4_ (jj_ (pe_join pe_str (pe_lc rfl sc_z3.nd (pi_list (pv 1)) (own := [("byte", 2)]) (blkOk_by (by show blkC ["kind", "part", "byte"] (j5_ s_z3) _ [("byte", 2)] = true; decide +kernel)) (fun _ _ _ _ _ => pg_name (i := 2) sc_z3.nd rfl (Or.inl rfl)) (fun _ _ _ _ _ => pts_nil) (fun _ _ _ _ _ => (pe_ix ix_str (pe_gs (by rfl) T.g_SPELLING) (v0_ op_sub (pv 2) jd_) (fun _ _ => rfl))))))) y0_)
    (j2_ (ps_if (jm_ op_eq (pv 0) (yh_ (by rfl) T.g_NUMBER) (ju_ _)) (j4_ (jj_ (jh_ G_z1 (hr.mono (by decide)) (by rfl) T.m_z1 T.F_z1.kp T.b_z1 .nil yb_ (j0_ (pv 1) j7_)))) y0_)
    (j2_ (ps_if (jm_ op_eq (pv 0) (yh_ (by rfl) T.g_SIGN) (ju_ _)) (j4_ (jj_ (pe_kdget (hu_of hr) (pe_gr (by rfl) T.g_SIGNS) (pe_callTy y3_ (by rfl) T.n_tuple PyProof.Rows.boot_tuple (j0_ (pv 1) j7_)) (fun _ _ => rfl)))) y0_)
    (j4_ (jj_ pe_str))))), ?_⟩
  refine ⟨_, rfl, rfl, _, rfl, ?_⟩
  rw [dec_V]
  rcases h with ⟨rfl, hw, q⟩ | ⟨rfl, hd, q⟩ | ⟨rfl, hs, q⟩ | ⟨rfl, q⟩
  ·refine iteT ?_
   refine ⟨⟨_, rfl⟩, _, rfl, l, rfl, ⟨_, hS⟩, fun D hD => ?_⟩
   have sm : ye_ H (upd H D (.lst [])) := jo_ hD
   refine lc_list (K := K) (a := l) (xs := bsV u) (fun i H' => ye_ H H' /\ H' D = some (.lst (((u.take i).map one).map V.str))) ⟨sm, j3_⟩ (fun i H' _ z => z.1.seq hS) ?_ ?_
   ·rintro i y H' hi ⟨s1, hD'⟩
    obtain ⟨c, hc, rfl⟩ : ∃ c, u[i]? = some c /\ y = V.int (nb c) := by
     unfold bsV at hi
     rw [List.getElem?_map] at hi
     cases e : u[i]? with
     | none => rw [e] at hi; cases hi
     | some c => rw [e] at hi; exact ⟨c, rfl, (Option.some.inj hi).symm⟩
    refine ⟨rfl, ?_⟩
    unfold tYes
    dsimp only
    rw [if_pos rfl]
    refine ⟨_, rfl, _, _, rfl, rfl, _, _, _, rfl, rfl, spell_len, spell_at (hw c (List.mem_of_getElem? hc)), _, hD', ?_, ?_, ?_⟩
    ·have z := (List.length_take_le i u)
     rw [List.length_map, List.length_map]
     refine Nat.lt_of_le_of_lt (List.length_take_le' i u) ?_
     exact Nat.lt_of_le_of_lt hlen (by decide)
    ·exact fun b o e => by rw [ja_ (j6_ e hD)]; exact s1 b o e
    ·rw [j3_, List.take_add_one, hc]
     show some (HO.lst (((u.take i).map one).map V.str ++ [V.str ⟨#[c.toNat]⟩])) = some (HO.lst (((u.take i ++ [c]).map one).map V.str))
     rw [List.map_append, List.map_append]
     rfl
   ·rintro H' ⟨s1, hD'⟩
    rw [y4_, List.take_length] at hD'
    refine ⟨_, D, u.map one, rfl, rfl, .inl (SqL.of hD'), ?_, ?_⟩
    ·have e : ((u.map one).map (·.length)).sum = u.length := by
      rw [List.map_map]
      clear hS hlen hw q hD' s1 sm
      induction u with
      | nil => rfl
      | cons c r ih => rw [List.map_cons, List.sum_cons, ih, List.length_cons]; show 1 + r.length = _; omega
     rw [e]
     show u.length + (u.map one).length * 0 <= 16777216
     omega
    ·rw [join_one]
     exact q H' s1
  ·refine iteF ⟨_, rfl, rfl, _, rfl, ?_⟩
   rw [dec_V]
   exact iteT ⟨_, rfl, l, u, rfl, hS, hd, q H (ye_.refl H)⟩
  ·refine iteF ⟨_, rfl, rfl, _, rfl, ?_⟩
   rw [dec_V]
   refine iteF ⟨_, rfl, rfl, _, rfl, ?_⟩
   rw [dec_V]
   refine iteT ⟨_, rfl, l, _, rfl, .inl ⟨hS, fun t ht => ?_⟩⟩
   refine ⟨a.k_SIGNS, t, u.map kb, yd_, _, rfl, kS, rfl, by rw [j3_, kb_V], (by rw [sign_val, if_pos hs]), q _ (jo_ ht)⟩
  ·refine iteF ⟨_, rfl, rfl, _, rfl, ?_⟩
   rw [dec_V]
   refine iteF ⟨_, rfl, rfl, _, rfl, ?_⟩
   rw [dec_V]
   exact iteF (q H (ye_.refl H))
end
end OS
namespace OS
open PySem PySem.Spec L2
open PyProof.Rows hiding St
open Vbemac (Bytes letter digit blank SIGNS Toks lex tokens valueOf advance)
def tokF (k v l c : V) : List (Str × V) := putF "column" c (putF "line" l (putF "value" v (putF "kind" k [])))
def kindI : Vbemac.Tok -> Int
 | .word _ => 0
 | .num _ => 1
 | .sign _ => 2
 | .eof => 3
 | .bad => 4
def tokV : Vbemac.Tok -> V
 | .word u => .str (sb u)
 | .num n => .int (n : Nat)
 | .sign u => .str (sgn u)
 | .eof => .str (sb [])
 | .bad => .str (sb [])
def TokAt (C : Addr) (H : Hp) (p : Addr) (x : Vbemac.Tok × Vbemac.Pos) : Prop := ∃ dx, H p = some (.ins C dx (tokF (.int (kindI x.1)) (tokV x.1) (.int (x.2.1 : Nat)) (.int (x.2.2 : Nat))))
def spTok (C : Addr) : Sp := fun vs H Q _ => ∃ (p dx : Addr) (k v l c : V), vs = [.ref p, k, v, l, c] /\ H p = some (.ins C dx []) /\ ∀ H' : Hp, H' p = some (.ins C dx (tokF k v l c)) -> (∀ b o, H b = some o -> b ≠ p -> H' b = some o) -> Q .non H'
theorem blank_nb (c : UInt8) : inV (.int (nb c)) [.int 9, .int 10, .int 13, .int 32] = blank c := all256 (p := fun c => inV (.int (nb c)) [.int 9, .int 10, .int 13, .int 32] = blank c) (by decide +kernel) c
def spScan (K : PySem.W.Frag) (C : Addr) : Sp := fun vs H Q _ => ∃ (l : Addr) (bs : Bytes), vs = [.ref l] /\ SqL K H l (bsV bs) /\ bs.length <= 3000 /\
 ∀ (H' : Hp) (q : Addr) (as : List Addr), ye_ H H' -> H q = Option.none -> H' q = some (.lst (as.map V.ref)) -> Paired (TokAt C H') as (tokens bs) -> Q (.ref q) H'
theorem TokAt.keep {C : Addr} {H H' : Hp} {p : Addr} {x : Vbemac.Tok × Vbemac.Pos} (h : TokAt C H p x) (k : ∀ b o, H b = some o -> (∀ xs, o ≠ .lst xs) -> H' b = some o) : TokAt C H' p x := by
 obtain ⟨dx, e⟩ := h
 exact ⟨dx, k _ _ e fun xs z => nomatch z⟩
theorem paired_snoc {α β : Type} {F : α -> β -> Prop} : ∀ {l : List α} {m : List β} {x : α} {y : β}, Paired F l m -> F x y -> Paired F (l ++ [x]) (m ++ [y])
 | _, _, _, _, .nil, h => .cons h .nil
 | _, _, _, _, .cons r t, h => .cons r (paired_snoc t h)
def ValOk (k : Int) (u : Bytes) (v : V) : Prop := (k = 0 /\ (∀ c ∈ u, jl_ c = true) /\ v = .str (sb u)) \/ (k = 1 /\ (∀ c ∈ u, digit c = true) /\ v = .int (valueOf u : Nat)) \/ (k = 2 /\ u ∈ SIGNS /\ v = .str (sgn u)) \/ (k = 4 /\ v = .str (sb []))
theorem wordc_letter {c : UInt8} (h : letter c = true) : jl_ c = true := by unfold jl_; rw [h]; rfl
theorem endAt_ge {p : UInt8 -> Bool} {bs : Bytes} {i : Nat} : i <= j9_ p bs i := by unfold j9_; omega
theorem endAt_lt {p : UInt8 -> Bool} {bs : Bytes} {i : Nat} {c : UInt8} (h : bs[i]? = some c) (hp : p c = true) : i < j9_ p bs i := by
 rw [endAt_go h hp]
 exact endAt_ge
theorem part_all {p : UInt8 -> Bool} {bs : Bytes} {i : Nat} : ∀ c ∈ jx_ bs i (j9_ p bs i), p c = true := by
 rw [<- tw_part]
 exact tw_all _
theorem part_len_le {bs : Bytes} {i j : Nat} : (jx_ bs i j).length <= bs.length - i := by
 unfold jx_
 rw [List.length_take, List.length_drop]
 omega
theorem signEnd_lt {bs : Bytes} {i : Nat} {c : UInt8} (h : bs[i]? = some c) : i < j8_ bs i /\ j8_ bs i <= bs.length := by
 obtain ⟨hi, _⟩ := List.getElem?_eq_some_iff.mp h
 have l1 : 0 < (jx_ bs i (i + 2)).length := by unfold jx_; rw [Nat.add_sub_cancel_left, y1_ h]; exact Nat.succ_pos _
 have l2 := part_len_le (bs := bs) (i := i) (j := i + 2)
 unfold j8_
 split <;> omega
theorem turn_tok {bs : Bytes} {i : Nat} {c : UInt8} (h : bs[i]? = some c) (hb : blank c = false) (h35 : ¬ c = 35) : i < y2_ bs i c /\ y2_ bs i c <= bs.length /\ ∃ y : Vbemac.Tok, tokKind bs i (y2_ bs i c) c = kindI y /\ ValOk (kindI y) (jx_ bs i (y2_ bs i c)) (tokV y) /\
  ∀ k q, lex (k + 1) q (bs.drop i) = if kindI y = 4 then [(y, q)] else (y, q) :: lex k (q.1, q.2 + (y2_ bs i c - i)) (bs.drop (y2_ bs i c)) := by
 obtain ⟨hi, _⟩ := List.getElem?_eq_some_iff.mp h
 unfold y2_ tokKind
 cases hl : letter c with
 | true =>
  rw [if_pos rfl, if_pos rfl]
  refine ⟨endAt_lt h (wordc_letter hl), endAt_le (Nat.le_of_lt hi), ?_⟩
  by_cases g : j9_ jl_ bs i - i <= 24
  ·refine ⟨.word (jx_ bs i (j9_ jl_ bs i)), if_pos g, .inl ⟨rfl, part_all, rfl⟩, fun k q => ?_⟩
   rw [lex_word h hb h35 hl, if_neg (by omega)]
   exact (if_neg (by show ¬ (0 : Int) = 4; decide)).symm
  ·refine ⟨.bad, if_neg g, .inr (.inr (.inr ⟨rfl, rfl⟩)), fun k q => ?_⟩
   rw [lex_word h hb h35 hl, if_pos (by omega)]
   exact (if_pos rfl).symm
 | false =>
  rw [if_neg Bool.false_ne_true, if_neg Bool.false_ne_true]
  cases hd : digit c with
  | true =>
   rw [if_pos rfl, if_pos rfl]
   refine ⟨endAt_lt h hd, endAt_le (Nat.le_of_lt hi), ?_⟩
   by_cases g : 18 < j9_ digit bs i - i \/ glued bs (j9_ digit bs i) = true
   ·refine ⟨.bad, if_pos g, .inr (.inr (.inr ⟨rfl, rfl⟩)), fun k q => ?_⟩
    rw [lex_num h hb h35 hl hd, if_pos g]
    exact (if_pos rfl).symm
   ·refine ⟨.num (valueOf (jx_ bs i (j9_ digit bs i))), if_neg g, .inr (.inl ⟨rfl, part_all, rfl⟩), fun k q => ?_⟩
    rw [lex_num h hb h35 hl hd, if_neg g]
    exact (if_neg (by show ¬ (1 : Int) = 4; decide)).symm
  | false =>
   rw [if_neg Bool.false_ne_true, if_neg Bool.false_ne_true]
   refine ⟨(signEnd_lt h).1, (signEnd_lt h).2, ?_⟩
   by_cases g : jx_ bs i (j8_ bs i) ∈ SIGNS
   ·refine ⟨.sign (jx_ bs i (j8_ bs i)), if_pos g, .inr (.inr (.inl ⟨rfl, g, rfl⟩)), fun k q => ?_⟩
    rw [lex_sign h hb h35 hl hd, if_pos g]
    exact (if_neg (by show ¬ (2 : Int) = 4; decide)).symm
   ·refine ⟨.bad, if_neg g, .inr (.inr (.inr ⟨rfl, rfl⟩)), fun k q => ?_⟩
    rw [lex_sign h hb h35 hl hd, if_neg g]
    exact (if_pos rfl).symm
theorem nb_eq {c d : UInt8} (h : nb c = nb d) : c = d := UInt8.toNat_inj.mp (Int.ofNat.inj h)
theorem map_snoc {as : List Addr} {x : Addr} : (as ++ [x]).map V.ref = as.map V.ref ++ [V.ref x] := by rw [List.map_append]; rfl
theorem spVal_ok {K : PySem.W.Frag} {k : Int} {u : Bytes} {v : V} {l : Addr} {H : Hp} {Q : VK} {E : XK} (ok : ValOk k u v) (hS : SqL K H l (bsV u)) (hl : u.length <= 3000) (q : ∀ H', ye_ H H' -> Q v H') : spVal K [.int k, .ref l] H Q E := by
 refine ⟨k, l, u, rfl, hS, hl, ?_⟩
 rcases ok with ⟨h, g, rfl⟩ | ⟨h, g, rfl⟩ | ⟨h, g, rfl⟩ | ⟨h, rfl⟩
 ·exact .inl ⟨h, g, q⟩
 ·exact .inr (.inl ⟨h, g, q⟩)
 ·exact .inr (.inr (.inl ⟨h, g, q⟩))
 ·exact .inr (.inr (.inr ⟨h, q⟩))
section
variable {P : Program} {w : World} {K : PySem.W.Frag} {mg : Str -> Option Value} {base : Heap} {a : Adr}
theorem ok_Token_init (T : Txt K mg a) : FnOk P w K mg base CX0 1 a.f_z0 a.fd_z0 ["self", "kind", "value", "line", "column"] (spTok a.c_Token) := by
 refine T.F_z0.ok sc_z0 (fun vs H Q E h => ?_) (fun cdv A outer s H vs Q E hr h => ?_)
 ·obtain ⟨p, dx, k, v, l, c, rfl, _⟩ := h
  rfl
 ·obtain ⟨p, dx, k, v, l, c, rfl, hp, q⟩ := h
  refine ⟨_, (j2_ (ps_fld (pv 0) (pv 1) rfl)
    (j2_ (ps_fld (pv 0) (pv 2) rfl)
    (j2_ (ps_fld (pv 0) (pv 3) rfl)
    (j4_ (ps_fld (pv 0) (pv 4) rfl))))), ?_⟩
  have l1 : (putF "kind" k []).length < 1000 := Nat.lt_of_le_of_lt (jg_ "kind" k []) (by decide)
  have l2 : (putF "value" v (putF "kind" k [])).length < 1000 := Nat.lt_of_le_of_lt (Nat.le_trans (jg_ "value" v _) (Nat.succ_le_succ (jg_ "kind" k []))) (by decide)
  have l3 : (putF "line" l (putF "value" v (putF "kind" k []))).length < 1000 := Nat.lt_of_le_of_lt (Nat.le_trans (jg_ "line" l _) (Nat.succ_le_succ (Nat.le_trans (jg_ "value" v _) (Nat.succ_le_succ (jg_ "kind" k []))))) (by decide)
  refine ⟨_, rfl, _, rfl, p, _, dx, _, rfl, hp, T.cl_Token, T.no_Token_kind, (by show 0 < 1000; decide), ?_⟩
  refine ⟨_, rfl, _, rfl, p, _, dx, _, rfl, j3_, T.cl_Token, T.no_Token_value, l1, ?_⟩
  refine ⟨_, rfl, _, rfl, p, _, dx, _, rfl, j3_, T.cl_Token, T.no_Token_line, l2, ?_⟩
  refine ⟨_, rfl, _, rfl, p, _, dx, _, rfl, j3_, T.cl_Token, T.no_Token_column, l3, ?_⟩
  refine q _ j3_ fun b o e hb => ?_
  rw [ja_ hb, ja_ hb, ja_ hb, ja_ hb]
  exact e
structure Mid4 (C : Addr) (bs : Bytes) (q : Addr) (H H' : Hp) (i ln ls : Nat) (as : List Addr) : Prop where
 sm : ye_ H H'
 lst : H' q = some (.lst (as.map V.ref))
 i_le : i <= bs.length
 ls_le : ls <= i
 rest : ∃ (ts : Toks) (k : Nat), Paired (TokAt C H') as ts /\ bs.length < i + k /\ tokens bs = ts ++ lex k (ln, i - ls + 1) (bs.drop i) /\ as.length <= i
theorem tok_new {C : Addr} {H5 H6 : Hp} {q x dx : Addr} {as : List Addr} {ts : Toks} {y : Vbemac.Tok × Vbemac.Pos} (hx : H6 x = some (.ins C dx (tokF (.int (kindI y.1)) (tokV y.1) (.int (y.2.1 : Nat)) (.int (y.2.2 : Nat)))))
  (k : ∀ b o, H5 b = some o -> H6 b = some o) (p : Paired (TokAt C H5) as ts) (nq : x ≠ q) (hq : H6 q = some (.lst (as.map V.ref))) :
  Paired (TokAt C (upd H6 q (.lst ((as ++ [x]).map V.ref)))) (as ++ [x]) (ts ++ [y]) := by
 refine paired_snoc (Paired.mapP p fun b z h => ?_) ⟨dx, by rw [ja_ nq]; exact hx⟩
 refine TokAt.keep h fun b' o e no => ?_
 have ne : b' ≠ q := fun z => by
  have w1 := k _ _ e
  rw [z, hq] at w1
  exact no _ (Option.some.inj w1).symm
 rw [ja_ ne]
 exact k _ _ e
theorem ok_z8 (T : Txt K mg a) (kS : KdT P w K a.k_SIGNS yd_) : FnOk P w K mg base CX0 4 a.f_z8 a.fd_z8 ["text"] (spScan K a.c_Token) := by
 have G_z2 := ok_z2 (P := P) (w := w) (base := base) T
 have G_z7 := ok_z7 (P := P) (w := w) (base := base) T kS
 have G_z5 := ok_z5 (P := P) (w := w) (base := base) T kS
 have G_z3 := ok_z3 (P := P) (w := w) (base := base) T kS
 have G_z0 := ok_Token_init (P := P) (w := w) (base := base) T
 refine T.F_z8.ok sc_z8 (fun vs H Q E h => ?_) (fun cdv A outer s H vs Q E hr h => ?_)
 ·obtain ⟨l, bs, rfl, _⟩ := h
  rfl
 ·obtain ⟨l, bs, rfl, hS, hlen, hQ⟩ := h
  refine ⟨_, (j2_ (jy_ (i := 1) sc_z8.nd rfl (Or.inl rfl) (pe_lst j7_))
    (j2_ (jy_ (i := 2) sc_z8.nd rfl (Or.inl rfl) jd_)
    (j2_ (jy_ (i := 3) sc_z8.nd rfl (Or.inl rfl) jd_)
    (j2_ (jy_ (i := 4) sc_z8.nd rfl (Or.inl rfl) jd_)
    (j2_ (ps_while PassesOwn.never (jm_ op_lt (pv 4) (jv_ je_ (by rfl) T.n_len PySem.boot_len (j0_ (pv 0) j7_)) (ju_ _)) (j4_ (ps_if (jm_ op_in_seq (pe_ix jt_ (pv 0) (pv 4) (fun _ _ => rfl)) (pe_gr (by rfl) T.g_BLANKS) rfl) (j2_ (ps_aug (i := 4) sc_z8.nd rfl (Or.inl rfl) jd_ ip_add)
    (j4_ (ps_if (jm_ op_eq (pe_ix jt_ (pv 0) (v0_ op_sub (pv 4) jd_) (fun _ _ => rfl)) (yh_ (by rfl) T.g_LINE_FEED) (ju_ _)) (j2_ (ps_aug (i := 2) sc_z8.nd rfl (Or.inl rfl) jd_ ip_add)
    (j4_ (jy_ (i := 3) sc_z8.nd rfl (Or.inl rfl) (pv 4)))) y0_))) (j4_ (ps_if (jm_ op_eq (pe_ix jt_ (pv 0) (pv 4) (fun _ _ => rfl)) (yh_ (by rfl) T.g_COMMENT) (ju_ _)) (j4_ (jy_ (i := 4) sc_z8.nd rfl (Or.inl rfl) (jh_ G_z2 (hr.mono (by decide)) (by rfl) T.m_z2 T.F_z2.kp T.b_z2 .nil yb_ (j0_ (pv 0) (j0_ (pv 4) j7_))))) (j2_ (jy_ (i := 5) sc_z8.nd rfl (Or.inl rfl) (jh_ G_z7 (hr.mono (by decide)) (by rfl) T.m_z7 T.F_z7.kp T.b_z7 .nil yb_ (j0_ (pv 0) (j0_ (pv 4) j7_))))
    (j2_ (jy_ (i := 6) sc_z8.nd rfl (Or.inl rfl) (jh_ G_z5 (hr.mono (by decide)) (by rfl) T.m_z5 T.F_z5.kp T.b_z5 .nil yb_ (j0_ (pv 0) (j0_ (pv 4) (j0_ (pv 5) j7_)))))
    (j2_ (ps_expr (pe_bm PySem.F.plainAttrs_list PySem.F.slot_list_append PySem.F.type_list_append mt_append (pv 1) (j0_ (pe_make T.mk_Token G_z0 (hr.mono (by decide)) (by rfl) T.mg_Token T.b_z0 .nil yb_ (j0_ (pv 6) (j0_ (jh_ G_z3 (hr.mono (by decide)) (by rfl) T.m_z3 T.F_z3.kp T.b_z3 .nil yb_ (j0_ (pv 6) (j0_ (pe_slice sl_list (pv 0) (po_some (pv 4)) (po_some (pv 5))) j7_))) (j0_ (pv 2) (j0_ (v0_ op_add (v0_ op_sub (pv 4) (pv 3)) jd_) j7_))))) j7_)))
    (j2_ (ps_if (jm_ op_eq (pv 6) (yh_ (by rfl) T.g_WRONG) (ju_ _)) (j4_ (jj_ (pv 1))) y0_)
    (j4_ (jy_ (i := 4) sc_z8.nd rfl (Or.inl rfl) (pv 5))))))))))))
    (j2_ (ps_expr (pe_bm PySem.F.plainAttrs_list PySem.F.slot_list_append PySem.F.type_list_append mt_append (pv 1) (j0_ (pe_make T.mk_Token G_z0 (hr.mono (by decide)) (by rfl) T.mg_Token T.b_z0 .nil yb_ (j0_ (yh_ (by rfl) T.g_END) (j0_ pe_str (j0_ (pv 2) (j0_ (v0_ op_add (v0_ op_sub (pv 4) (pv 3)) jd_) j7_))))) j7_)))
    (j4_ (jj_ (pv 1))))))))), ?_⟩
  refine ⟨Nat.zero_le _, fun q hq => ⟨fun m σ H' => ∃ (i ln ls : Nat) (as : List Addr) (v5 v6 : Option V), m = bs.length - i /\ σ = [some (.ref l), some (.ref q), some (.int ln), some (.int ls), some (.int i), v5, v6] /\ Mid4 a.c_Token bs q H H' i ln ls as, ⟨_, 0, 1, 0, [], none, none, rfl, rfl, ⟨jo_ hq, j3_, Nat.zero_le _, Nat.le_refl _, [], bs.length + 1, .nil, by omega, rfl, Nat.le_refl _⟩⟩, ?_⟩⟩
  rintro m σ H1 ⟨i, ln, ls, as, v5, v6, rfl, rfl, M⟩
  have hS1 := M.sm.seq hS
  obtain ⟨ts, k, pr, hk, tk, asl⟩ := M.rest
  have ile := M.i_le
  have lsle := M.ls_le
  obtain ⟨k, rfl⟩ : ∃ k', k = k' + 1 := ⟨k - 1, by omega⟩
  have ec : (i : Int) - (ls : Int) + 1 = ((i - ls + 1 : Nat) : Int) := by omega
  refine ⟨_, rfl, _, rfl, _, _, rfl, .inl hS1, _, _, rfl, rfl, _, rfl, ?_⟩
  rw [y4_]
  refine jp_ (fun e => ?_) fun e => ?_
  ·have lt : i < bs.length := by have := of_decide_eq_true e; omega
   obtain ⟨c, hc⟩ : ∃ c, bs[i]? = some c := ⟨_, List.getElem?_eq_getElem lt⟩
   refine ⟨fun σ' H'' => ∃ (i' ln' ls' : Nat) (as' : List Addr) (v5' v6' : Option V), i < i' /\ σ' = [some (.ref l), some (.ref q), some (.int ln'), some (.int ls'), some (.int i'), v5', v6'] /\ Mid4 a.c_Token bs q H H'' i' ln' ls' as', ?_, ?_⟩
   ·rintro σ' H'' ⟨i', ln', ls', as', v5', v6', lt', rfl, M'⟩
    have := M'.i_le
    exact ⟨_, by omega, i', ln', ls', as', v5', v6', rfl, rfl, M'⟩
   refine ⟨_, rfl, _, rfl, _, _, _, _, rfl, rfl, hS1, jr_ (yc_ hc), _, _, rfl, .inr T.t_BLANKS.sq, rfl, rfl, _, rfl, ?_⟩
   show if inV (.int (nb c)) [.int 9, .int 10, .int 13, .int 32] = true then _ else _
   rw [blank_nb]
   refine jp_ (fun hb => ?_) fun hb => ?_
   ·refine ⟨_, rfl, _, _, rfl, rfl, ?_⟩
    refine ⟨_, rfl, _, rfl, _, _, rfl, rfl, _, _, _, V.int (nb c), rfl, rfl, hS1, (by rw [Int.add_sub_cancel]; exact jr_ (yc_ hc)), rfl, _, rfl, ?_⟩
    rw [dec_V]
    have lx := lex_blank (k := k) (q := (ln, i - ls + 1)) hc hb
    refine jp_ (fun h10 => ?_) fun h10 => ?_
    ·have c10 : c = 10 := nb_eq (of_decide_eq_true h10)
     refine ⟨_, rfl, _, _, rfl, rfl, _, rfl, i + 1, ln + 1, i + 1, as, v5, v6, Nat.lt_succ_self i, rfl, ⟨M.sm, M.lst, lt, Nat.le_refl _, ts, k, pr, by omega, ?_, by omega⟩⟩
     rw [tk, lx, c10, Nat.sub_self]
     rfl
    ·have c10 : ¬ c = 10 := fun z => absurd (by rw [z]; rfl) (of_decide_eq_false h10)
     refine ⟨i + 1, ln, ls, as, v5, v6, Nat.lt_succ_self i, rfl, ⟨M.sm, M.lst, lt, Nat.le_succ_of_le lsle, ts, k, pr, by omega, ?_, by omega⟩⟩
     rw [tk, lx, show i + 1 - ls + 1 = i - ls + 1 + 1 by omega]
     unfold advance
     rw [if_neg c10]
   ·refine ⟨_, rfl, _, rfl, _, _, _, _, rfl, rfl, hS1, jr_ (yc_ hc), rfl, _, rfl, ?_⟩
    rw [dec_V]
    refine jp_ (fun h35 => ?_) fun h35 => ?_
    ·have c35 : c = 35 := nb_eq (of_decide_eq_true h35)
     have g : i < j9_ yf_ bs i := endAt_lt hc (by rw [c35]; rfl)
     have g2 : j9_ yf_ bs i <= bs.length := endAt_le ile
     refine ⟨_, rfl, _, rfl, l, bs, i, rfl, hS1, ile, j9_ yf_ bs i, ln, ls, as, v5, v6, g, rfl, ⟨M.sm, M.lst, g2, by omega, ts, k, pr, by omega, ?_, by omega⟩⟩
     rw [tk, lex_comment hc hb c35]
     show ts ++ lex k (ln, i - ls + 1 + (j9_ yf_ bs i - i)) _ = _
     rw [show i - ls + 1 + (j9_ yf_ bs i - i) = j9_ yf_ bs i - ls + 1 by omega]
    ·have c35 : ¬ c = 35 := fun z => absurd (by rw [z]; rfl) (of_decide_eq_false h35)
     obtain ⟨g, g2, y, ky, vy, lx⟩ := turn_tok hc hb c35
     have lx := lx k (ln, i - ls + 1)
     refine ⟨_, rfl, _, rfl, l, bs, i, c, rfl, hS1, hc, fun H2 s2 => ?_⟩
     refine ⟨_, rfl, _, rfl, _, rfl, l, bs, i, y2_ bs i c, c, rfl, s2.seq hS1, hc, Nat.le_of_lt g, g2, fun H3 s3 => ?_⟩
     rw [ky]
     generalize y2_ bs i c = en at g g2 vy lx ky ⊢
     have s13 : ye_ H1 H3 := s2.trans s3
     have hS3 := s13.seq hS1
     refine ⟨_, rfl, .inl ⟨rfl, _, SqL.of (s13 _ _ M.lst)⟩, ?_⟩
     refine ⟨_, rfl, _, rfl, _, rfl, _, rfl, _, rfl, _, rfl, _, rfl, _, _, rfl, hS3, fun p hp => ?_⟩
     rw [cut_part]
     unfold tNil
     dsimp only [List.append_nil]
     refine spVal_ok vy (SqL.of j3_) ?_ fun H4 s4 => ?_
     ·have := part_len_le (bs := bs) (i := i) (j := en)
      omega
     have s14 : ye_ H1 H4 := s13.trans ((jo_ hp).trans s4)
     refine ⟨_, rfl, _, rfl, _, rfl, _, _, rfl, rfl, _, _, rfl, rfl, fun x dx hx hdx ne => ⟨x, dx, _, _, _, _, rfl, j3_, fun H5 h5 k5 => ⟨rfl, ?_⟩⟩⟩
     have h5 : H5 x = some (.ins a.c_Token dx (tokF (.int (kindI y)) (tokV y) (.int (ln : Nat)) (.int ((i - ls + 1 : Nat) : Int)))) := by rw [<- ec]; exact h5
     have s15 : ye_ H1 H5 := fun b o e => k5 b o (by rw [ja_ (j6_ (s14 b o e) hx), ja_ (j6_ (s14 b o e) hdx)]; exact s14 b o e) (j6_ (s14 b o e) hx)
     have nq : x ≠ q := (j6_ (s14 _ _ M.lst) hx).symm
     have q5 := s15 _ _ M.lst
     have pn := tok_new (y := (y, ln, i - ls + 1)) h5 s15 pr nq q5
     have sm5 : ye_ H (upd H5 q (.lst ((as ++ [x]).map V.ref))) := fun b o e => by rw [ja_ (j6_ e hq)]; exact s15 b o (M.sm b o e)
     refine ⟨q, _, _, rfl, rfl, q5, by rw [List.length_map]; exact Nat.lt_of_le_of_lt (Nat.le_trans asl (Nat.le_trans ile hlen)) (by decide), ?_⟩
     rw [<- map_snoc]
     refine ⟨_, rfl, rfl, _, rfl, ?_⟩
     rw [dec_V]
     refine jp_ (fun k4 => ?_) fun k4 => ?_
     ·rw [if_pos (of_decide_eq_true k4)] at lx
      refine ⟨_, rfl, hQ _ q (as ++ [x]) sm5 hq j3_ ?_⟩
      rw [tk, lx]
      exact pn
     ·rw [if_neg (of_decide_eq_false k4)] at lx
      refine ⟨_, rfl, en, ln, ls, as ++ [x], _, _, g, rfl, ⟨sm5, j3_, g2, by omega, ts ++ [(y, ln, i - ls + 1)], k, pn, by omega, ?_, by rw [List.length_append, List.length_singleton]; omega⟩⟩
      rw [tk, lx, List.append_assoc]
      show ts ++ (y, ln, i - ls + 1) :: lex k (ln, i - ls + 1 + (en - i)) _ = _
      rw [show i - ls + 1 + (en - i) = en - ls + 1 by omega]
      rfl
  ·have lx := lex_end (k := k) (q := (ln, i - ls + 1)) (bs := bs) (i := i) (by have := of_decide_eq_false e; omega)
   refine ⟨_, rfl, .inl ⟨rfl, _, SqL.of M.lst⟩, ?_⟩
   refine ⟨_, rfl, _, rfl, _, rfl, _, _, rfl, rfl, _, _, rfl, rfl, fun x dx hx hdx ne => ⟨x, dx, _, _, _, _, rfl, j3_, fun H5 h5 k5 => ⟨rfl, ?_⟩⟩⟩
   have h5 : H5 x = some (.ins a.c_Token dx (tokF (.int (kindI .eof)) (tokV .eof) (.int (ln : Nat)) (.int ((i - ls + 1 : Nat) : Int)))) := by rw [<- ec]; exact h5
   have s15 : ye_ H1 H5 := fun b o e => k5 b o (by rw [ja_ (j6_ e hx), ja_ (j6_ e hdx)]; exact e) (j6_ e hx)
   have nq : x ≠ q := (j6_ M.lst hx).symm
   have q5 := s15 _ _ M.lst
   have pn := tok_new (y := (.eof, ln, i - ls + 1)) h5 s15 pr nq q5
   have sm5 : ye_ H (upd H5 q (.lst ((as ++ [x]).map V.ref))) := fun b o e => by rw [ja_ (j6_ e hq)]; exact s15 b o (M.sm b o e)
   refine ⟨q, _, _, rfl, rfl, q5, by rw [List.length_map]; exact Nat.lt_of_le_of_lt (Nat.le_trans asl (Nat.le_trans ile hlen)) (by decide), ?_⟩
   rw [<- map_snoc]
   refine ⟨_, rfl, hQ _ q (as ++ [x]) sm5 hq j3_ ?_⟩
   rw [tk, lx]
   exact pn
end
end OS
namespace OS
open PySem PySem.Spec L2
open PyProof.Rows hiding St
open Vbemac (Bytes Toks tokens bytesOf)
def intsV (zs : List Int) : List V := zs.map V.int
def byteB (z : Int) : Bool := decide (0 <= z) && decide (z <= 255)
def isText (zs : List Int) : Bool := decide (zs.length <= 3000) && zs.all byteB
def spIsText (K : PySem.W.Frag) : Sp := fun vs H Q _ => ∃ (l : Addr) (zs : List Int), vs = [.ref l] /\ SqL K H l (intsV zs) /\ zs.length <= 4000 /\ ∀ H', ye_ H H' -> Q (.bl (isText zs)) H'
theorem bytesOf_not {zs : List Int} (h : isText zs = false) : bytesOf zs = none := by
 unfold bytesOf
 rw [if_neg]
 intro z
 have : isText zs = true := z
 rw [h] at this
 cases this
theorem bytesOf_is {zs : List Int} (h : isText zs = true) : ∃ bs : Bytes, bytesOf zs = some bs /\ bsV bs = intsV zs /\ bs.length <= 3000 := by
 have h0 := h
 unfold isText at h
 rw [Bool.and_eq_true, decide_eq_true_iff] at h
 refine ⟨zs.map fun c => UInt8.ofNat c.toNat, ?_, ?_, by rw [List.length_map]; exact h.1⟩
 ·unfold bytesOf
  exact if_pos h0
 ·unfold bsV intsV
  rw [List.map_map]
  refine List.map_congr_left fun z hz => ?_
  have b := List.all_eq_true.mp h.2 z hz
  unfold byteB at b
  rw [Bool.and_eq_true, decide_eq_true_iff, decide_eq_true_iff] at b
  show V.int (nb (UInt8.ofNat z.toNat)) = V.int z
  unfold nb
  congr 1
  rw [UInt8.toNat_ofNat']
  omega
section
variable {P : Program} {w : World} {K : PySem.W.Frag} {mg : Str -> Option Value} {base : Heap} {a : Adr} {k m : Nat}
theorem ok_z11 (T : Txt K mg a) : FnOk P w K mg base CX0 1 a.f_z11 a.fd_z11 ["text"] (spIsText K) := by
 refine T.F_z11.ok sc_z11 (fun vs H Q E h => ?_) (fun cdv A outer s H vs Q E hr h => ?_)
 ·obtain ⟨l, zs, rfl, _⟩ := h
  rfl
 ·obtain ⟨l, zs, rfl, hS, hl, hQ⟩ := h
  refine ⟨_, (j4_ (jj_ (pe_and (pe_cmpR op_le (jv_ je_ (by rfl) T.n_len PySem.boot_len (j0_ (pv 0) j7_)) (yh_ (by rfl) T.g_LONGEST_TEXT) (ju_ _)) (pe_one (jv_ (cr_all rfl) (by rfl) T.n_all boot_all (j0_ (pe_lc rfl sc_z11.nd (pi_list (pv 0)) (own := [("byte", 1)]) (blkOk_by (by show blkC ["text", "byte"] (j5_ s_z11) _ [("byte", 1)] = true; decide +kernel)) (fun _ _ _ _ _ => pg_name (i := 1) sc_z11.nd rfl (Or.inl rfl)) (fun _ _ _ _ _ => pts_nil) (fun _ _ _ _ _ => (pe_chain op_le op_le jd_ (pv 1) jd_))) j7_)))))), ?_⟩
  have il : (intsV zs).length = zs.length := List.length_map ..
  refine ⟨_, rfl, _, _, rfl, .inl hS, _, _, rfl, rfl, _, rfl, ?_⟩
  rw [il]
  unfold isText at hQ
  refine jp_ (fun e => ?_) fun e => ?_
  ·have le : zs.length <= 3000 := by have := of_decide_eq_true e; omega
   rw [decide_eq_true le] at hQ
   refine ⟨_, rfl, l, rfl, ⟨_, hS⟩, fun D hD => ?_⟩
   refine lc_list (K := K) (a := l) (xs := intsV zs) (fun i H' => ye_ H H' /\ H' D = some (.lst (((zs.take i).map byteB).map V.bl))) ⟨jo_ hD, j3_⟩ (fun i H' _ z => z.1.seq hS) ?_ ?_
   ·rintro i y H' hi ⟨s1, hD'⟩
    obtain ⟨z, hz, rfl⟩ : ∃ z, zs[i]? = some z /\ y = V.int z := by
     unfold intsV at hi
     rw [List.getElem?_map] at hi
     cases e : zs[i]? with
     | none => rw [e] at hi; cases hi
     | some c => rw [e] at hi; exact ⟨c, rfl, (Option.some.inj hi).symm⟩
    have fin : ∀ b : Bool, b = byteB z -> ∃ acc, H' D = some (.lst acc) /\ acc.length < sizeLine /\ (ye_ H (upd H' D (.lst (acc ++ [V.bl b]))) /\ upd H' D (.lst (acc ++ [V.bl b])) D = some (.lst (((zs.take (i + 1)).map byteB).map V.bl))) := fun b hb => by
     refine ⟨_, hD', ?_, fun b' o e => by rw [ja_ (j6_ e hD)]; exact s1 b' o e, ?_⟩
     ·rw [List.length_map, List.length_map]
      exact Nat.lt_of_le_of_lt (Nat.le_trans (List.length_take_le' i zs) hl) (by decide)
     ·rw [j3_, List.take_add_one, hz, hb]
      show some (HO.lst (((zs.take i).map byteB).map V.bl ++ [V.bl (byteB z)])) = some (HO.lst (((zs.take i ++ [z]).map byteB).map V.bl))
      rw [List.map_append, List.map_append]
      rfl
    refine ⟨rfl, ?_⟩
    unfold tYes
    dsimp only
    rw [if_pos rfl]
    refine ⟨_, rfl, _, _, rfl, rfl, _, rfl, ?_⟩
    refine jp_ (fun e0 => ?_) fun e0 => ?_
    ·refine ⟨_, _, rfl, rfl, fin _ ?_⟩
     unfold byteB
     rw [e0]
     rfl
    ·refine fin _ ?_
     unfold byteB
     rw [e0]
     rfl
   ·rintro H' ⟨s1, hD'⟩
    rw [il, List.take_length] at hD'
    refine ⟨D, zs.map byteB, rfl, SqL.of hD', ?_⟩
    have := hQ H' s1
    rw [Bool.true_and] at this
    rw [List.all_map]
    exact this
  ·have le : ¬ zs.length <= 3000 := by have := of_decide_eq_false e; omega
   rw [decide_eq_false le] at hQ
   exact hQ H fun _ _ e => e
end
end OS
namespace OS
open PySem PySem.Spec L2
open PyProof.Rows hiding St
open Vbemac (Bytes Toks tokens bytesOf)
def spTokens (K : PySem.W.Frag) : Sp := fun vs H Q _ => ∃ (l : Addr) (zs : List Int), vs = [.ref l] /\ SqL K H l (intsV zs) /\ zs.length <= 4000 /\ ∀ (H' : Hp) (p : Addr), H' p = some (.lst (intsV (PyVbemac.tokens zs))) -> Q (.ref p) H'
theorem tokens_not {zs : List Int} (h : bytesOf zs = none) : PyVbemac.tokens zs = [-1] := by
 unfold PyVbemac.tokens VbemacNeutral.f Vbemac.answer Vbemac.decode
 simp [h]
def told3 (x : Vbemac.Tok × Vbemac.Pos) : List Int := [kindI x.1, (x.2.1 : Nat), (x.2.2 : Nat)]
theorem kindI_of (y : Vbemac.Tok) : Vbemac.kindOf y = kindI y := by cases y <;> rfl
theorem tokens_is {zs : List Int} {bs : Bytes} (h : bytesOf zs = some bs) : PyVbemac.tokens zs = 0 :: ((tokens bs).length : Int) :: (tokens bs).flatMap told3 := by
 unfold PyVbemac.tokens VbemacNeutral.f Vbemac.answer Vbemac.decode
 simp [h, Vbemac.f, kindI_of]
 rfl
theorem told3_len (ts : Toks) : (ts.flatMap told3).length = 3 * ts.length := by
 induction ts with
 | nil => rfl
 | cons x r ih => rw [List.flatMap_cons, List.length_append, ih, List.length_cons]; show 3 + _ = _; omega
section
variable {P : Program} {w : World} {K : PySem.W.Frag} {mg : Str -> Option Value} {base : Heap} {a : Adr} {k m : Nat}
theorem paired_at {α β : Type} {F : α -> β -> Prop} : ∀ {l : List α} {m : List β} {i : Nat} {x : α}, Paired F l m -> l[i]? = some x -> ∃ y, m[i]? = some y /\ F x y
 | _, _, _, _, .nil, h => by simp at h
 | _, _, 0, _, .cons r t, h => by cases h; exact ⟨_, rfl, r⟩
 | _, _, i + 1, _, .cons r t, h => paired_at (i := i) t h
theorem paired_len {α β : Type} {F : α -> β -> Prop} : ∀ {l : List α} {m : List β}, Paired F l m -> l.length = m.length
 | _, _, .nil => rfl
 | _, _, .cons r t => congrArg (· + 1) (paired_len t)
theorem ok_z12 (T : Txt K mg a) (kS : KdT P w K a.k_SIGNS yd_) : FnOk P w K mg base CX0 5 a.f_z12 a.fd_z12 ["text"] (spTokens K) := by
 have G_z11 := ok_z11 (P := P) (w := w) (base := base) T
 have G_z8 := ok_z8 (P := P) (w := w) (base := base) T kS
 refine T.F_z12.ok sc_z12 (fun vs H Q E h => ?_) (fun cdv A outer s H vs Q E hr h => ?_)
 ·obtain ⟨l, zs, rfl, _⟩ := h
  rfl
 ·obtain ⟨l, zs, rfl, hS, hl, hQ⟩ := h
  refine ⟨_, (j2_ (ps_if (pt_not (yw_ (jh_ G_z11 (hr.mono (by omega)) (by rfl) T.m_z11 T.F_z11.kp T.b_z11 .nil yb_ (j0_ (pv 0) j7_)))) (j4_ (jj_ (pe_lst (j0_ (pe_un un_neg jd_) j7_)))) y0_)
    (j2_ (jy_ (i := 1) sc_z12.nd rfl (Or.inl rfl) (jh_ G_z8 (hr.mono (by omega)) (by rfl) T.m_z8 T.F_z8.kp T.b_z8 .nil yb_ (j0_ (pv 0) j7_)))
    (j2_ (jy_ (i := 2) sc_z12.nd rfl (Or.inl rfl) (pe_lst (j0_ jd_ (j0_ (jv_ je_ (by rfl) T.n_len PySem.boot_len (j0_ (pv 1) j7_)) j7_))))
    (j2_ (ps_for PassesOwn.never rfl (pi_list (pv 1)) (pg_name (i := 3) sc_z12.nd rfl (Or.inl rfl)) (j4_ (ps_expr (pe_bm PySem.F.plainAttrs_list PySem.F.slot_list_extend PySem.F.type_list_extend mt_extend (pv 2) (j0_ (pe_lst (j0_ (pe_fld (pv 3) rfl) (j0_ (pe_fld (pv 3) rfl) (j0_ (pe_fld (pv 3) rfl) j7_)))) j7_)))))
    (j4_ (jj_ (pv 2))))))), ?_⟩
  refine ⟨_, rfl, l, zs, rfl, hS, hl, fun H1 s1 => ⟨_, rfl, ?_⟩⟩
  cases ht : isText zs with
  | false =>
   refine iteT ?_
   refine ⟨_, rfl, by show 1 <= sizeLine; decide, fun p hp => ?_⟩
   refine hQ _ p ?_
   rw [tokens_not (bytesOf_not ht)]
   exact j3_
  | true =>
   refine iteF ?_
   obtain ⟨bs, eb, ev, hb⟩ := bytesOf_is ht
   have ec := tokens_is eb
   refine ⟨_, rfl, l, bs, rfl, by rw [ev]; exact s1.seq hS, hb, fun H2 q as s12 hq0 hq1 tk => ?_⟩
   have tl : (tokens bs).length <= 3002 := by
    have := jw_ (bs.length + 1) (1, 1) bs
    unfold tokens
    omega
   have al : as.length = (tokens bs).length := paired_len tk
   refine ⟨_, rfl, q, _, rfl, .inl (SqL.of hq1), ?_⟩
   refine ⟨by show 2 <= sizeLine; decide, fun D hD => ?_⟩
   have nDq : D ≠ q := fun z => by rw [z, hq1] at hD; cases hD
   refine ⟨_, rfl, q, rfl, ⟨_, SqL.of (by rw [ja_ nDq.symm]; exact hq1)⟩, for_list (K := K) (a := q) (xs := as.map V.ref) (fun i σ H' => ∃ v : Option V, σ = [some (.ref l), some (.ref q), some (.ref D), v] /\ ye_ H2 H' /\ H' D = some (.lst (intsV (0 :: ((tokens bs).length : Int) :: ((tokens bs).take i).flatMap told3)))) ⟨none, rfl, jo_ hD, ?_⟩ (fun i σ H' _ ⟨_, _, s', _⟩ => SqL.of (s' _ _ hq1)) ?_ ?_⟩
   ·rw [j3_, List.length_map, al]
    rfl
   ·rintro i y σ H' hi ⟨v, rfl, s', hD'⟩
    obtain ⟨p, hp, rfl⟩ : ∃ p, as[i]? = some p /\ y = V.ref p := by
     rw [List.getElem?_map] at hi
     cases e : as[i]? with
     | none => rw [e] at hi; cases hi
     | some c => rw [e] at hi; exact ⟨c, rfl, (Option.some.inj hi).symm⟩
    obtain ⟨x, hx, dx, e⟩ := paired_at tk hp
    have e' := s' _ _ e
    have lt : ((tokens bs).take i).length <= 3002 := Nat.le_trans (List.length_take_le' i _) tl
    refine ⟨_, rfl, .inl ⟨rfl, _, SqL.of hD'⟩, _, rfl, p, _, dx, _, _, rfl, e', T.cl_Token, T.no_Token_kind, rfl, _, rfl, p, _, dx, _, _, rfl, e', T.cl_Token, T.no_Token_line, rfl, _, rfl, p, _, dx, _, _, rfl, e', T.cl_Token, T.no_Token_column, rfl, by show 3 <= sizeLine; decide, fun B hB => ?_⟩
    have nBD : B ≠ D := fun z => by rw [z, hD'] at hB; cases hB
    refine ⟨D, B, _, _, rfl, rfl, by rw [ja_ nBD.symm]; exact hD', j3_, ?_, some (.ref p), rfl, fun b o z => ?_, ?_⟩
    ·show (intsV _).length + 3 <= sizeLine
     unfold intsV
     rw [List.length_map, List.length_cons, List.length_cons, told3_len, sizeLine_eq]
     omega
    ·have nb : b ≠ D := fun w => by rw [w, hD] at z; cases z
     have nb2 : b ≠ B := fun w => by rw [w] at z; rw [s' _ _ z] at hB; cases hB
     rw [ja_ nb, ja_ nb2]
     exact s' b o z
    ·rw [j3_, List.take_add_one, hx]
     show some (HO.lst _) = some (HO.lst _)
     rw [show (Option.some x).toList = [x] from rfl, List.flatMap_append, List.flatMap_cons, List.flatMap_nil, List.append_nil]
     unfold intsV
     simp only [List.map_cons, List.map_append]
     rfl
   ·rintro σ H' ⟨v, rfl, s', hD'⟩
    rw [List.length_map, al, List.take_length, <- ec] at hD'
    exact ⟨_, rfl, hQ H' D hD'⟩
end
end OS
namespace OS
open PySem PySem.Spec L2
open PyProof.Rows hiding St
def dEnt (K : PySem.W.Frag) (a : Addr) : List DictEntry := match K.lookup a with
 | some ⟨.type c, none, .dict es _, sl⟩ => if c = "dict" /\ sl.size = 0 then es.toList else []
 | _ => []
theorem dEnt_at {K : PySem.W.Frag} {a : Addr} {e : DictEntry} {r : List DictEntry} (h : dEnt K a = e :: r) : ∃ o es ep, K.lookup a = some o /\ o.ExactDict /\ o.data = .dict es ep /\ es.toList = e :: r := by
 unfold dEnt at h
 split at h
 ·rename_i c es n sl q
  split at h
  ·rename_i hc
   obtain ⟨rfl, hs⟩ := hc
   exact ⟨_, es, n, q, ⟨rfl, rfl, Array.eq_empty_of_size_eq_zero hs⟩, rfl, h⟩
  ·cases h
 ·cases h
section
variable {P : Program} {w : World} {K : PySem.W.Frag} {a : Addr}
def yl_ : List Value -> Option (List Int)
 | [] => some []
 | .int i _ :: r => (yl_ r).map (i :: ·)
 | _ => none
def tupOf (K : PySem.W.Frag) (a : Addr) : Option (List Value) := match K.lookup a with
 | some ⟨.type c, _, .seq its _, _⟩ => if c = "tuple" /\ its.size <= 1000 then some its.toList else none
 | _ => none
theorem tupOf_at {l : List Value} (h : tupOf K a = some l) : ∃ o its n, K.lookup a = some o /\ o.cls = .type "tuple" /\ o.data = .seq its n /\ its.size <= sizeLine /\ its.toList = l := by
 unfold tupOf at h
 split at h
 ·rename_i c d its n sl q
  split at h
  ·rename_i hc
   obtain ⟨rfl, hs⟩ := hc
   exact ⟨_, its, n, q, rfl, rfl, Nat.le_trans hs (by decide), Option.some.inj h⟩
  ·cases h
 ·cases h
theorem intsOf_vals : ∀ {vs : List Value} {l : List Int}, yl_ vs = some l -> jk_ (l.map V.int) vs
 | [], l, h => by cases h; exact .nil
 | .int i t :: r, l, h => by
  unfold yl_ at h
  cases e : yl_ r with
  | none => rw [e] at h; cases h
  | some l' => rw [e] at h; cases h; exact .cons ⟨t, rfl⟩ (intsOf_vals e)
theorem ktup_of {vs : List Value} {xs : List V} (h : tupOf K a = some vs) (v : jk_ xs vs) : KTup K a xs := by
 obtain ⟨o, its, n, h1, h2, h3, h4, h5⟩ := tupOf_at h
 exact ⟨o, its, n, h1, h2, h3, h4, by rw [h5]; exact v⟩
theorem ktup_int {l : List Int} (h : (tupOf K a).bind yl_ = some l) : KTup K a (l.map V.int) := by
 cases e : tupOf K a with
 | none => rw [e] at h; cases h
 | some vs => rw [e] at h; exact ktup_of e (intsOf_vals h)
def tsEnt (K : PySem.W.Frag) (e : DictEntry) : Option (Int × List Int × Str) := match e.key, e.val with
 | .ref p, .str x _ => ((tupOf K p).bind yl_).map fun l => (e.hash, l, x)
 | _, _ => none
theorem tsEnt_at {e : DictEntry} {h : Int} {l : List Int} {x : Str} (z : tsEnt K e = some (h, l, x)) : ∃ p t, e.key = .ref p /\ e.val = .str x t /\ e.hash = h /\ (tupOf K p).bind yl_ = some l := by
 unfold tsEnt at z
 split at z
 ·rename_i p x' t h1 h2
  cases q : (tupOf K p).bind yl_ with
  | none => rw [q] at z; cases z
  | some l' => rw [q] at z; cases z; exact ⟨p, t, h1, h2, rfl, q⟩
 ·cases z
theorem items_int : ∀ {vs : List Value} {l : List Int}, yl_ vs = some l -> ItemsAre (jn_ P w) (l.map fun i => (Sum.inl i : Key)) vs
 | [], l, h => by cases h; exact .nil
 | .int i t :: r, l, h => by
  unfold yl_ at h
  cases e : yl_ r with
  | none => rw [e] at h; cases h
  | some l' => rw [e] at h; cases h; exact .cons (by show Value.isInt i (.int i t) = true; simp [Value.isInt]) (items_int e)
theorem ts_list : ∀ {es : List DictEntry} {L : List (List Int × Str)}, es.map (tsEnt K) = (L.map fun p => some (tupleKeyHash (jn_ P w) (p.1.map fun i => (Sum.inl i : Key)), p.1, p.2)) ->
  ∃ xs : List (List Key × Addr × Value), Paired (fun (p : List Key × V) (q : List Key × Addr × Value) => p.1 = q.1 /\ jq_ p.2 q.2.2) (L.map fun p => (p.1.map fun i => (Sum.inl i : Key), V.str p.2)) xs /\ es = xs.map (entryOfKey (tupleKind (jn_ P w))) /\ (xs.map (·.1)) = (L.map fun p => p.1.map fun i => (Sum.inl i : Key)) /\ ∀ h : Heap, K.In h -> ∀ x ∈ xs, (tupleKind (jn_ P w)).is h x.1 x.2.1
 | [], [], _ => ⟨[], .nil, rfl, rfl, fun _ _ _ z => nomatch z⟩
 | [], _ :: _, h => by cases h
 | _ :: _, [], h => by cases h
 | e :: es, p :: L, h => by
  rw [List.map_cons, List.map_cons] at h
  obtain ⟨h1, h2⟩ := List.cons.inj h
  obtain ⟨xs, k1, k2, k3, k4⟩ := ts_list h2
  obtain ⟨q, t, e1, e2, e3, e4⟩ := tsEnt_at h1
  refine ⟨(p.1.map fun i => Sum.inl i, q, .str p.2 t) :: xs, .cons ⟨rfl, ⟨t, rfl⟩⟩ k1, ?_, by rw [List.map_cons, List.map_cons, k3], fun hp hK y hy => ?_⟩
  ·rw [List.map_cons, <- k2]
   congr 1
   obtain ⟨eh, ek, ev⟩ := e
   cases e1
   cases e2
   cases e3
   rfl
  ·rcases List.mem_cons.mp hy with rfl | hy
   ·cases z : tupOf K q with
    | none => rw [z] at e4; cases e4
    | some vs =>
     rw [z] at e4
     obtain ⟨o, its, n, g1, g2, g3, g4, g5⟩ := tupOf_at z
     exact ⟨o, its, n, hK _ _ g1, g2, g3, by rw [g5]; exact items_int e4⟩
   ·exact k4 hp hK y hy
theorem kdT_ts {p : List Int × Str} {L : List (List Int × Str)} (h : (dEnt K a).map (tsEnt K) = ((p :: L).map fun p => some (tupleKeyHash (jn_ P w) (p.1.map fun i => (Sum.inl i : Key)), p.1, p.2))) (nd : ((p :: L).map fun p => p.1.map fun i => (Sum.inl i : Key)).Nodup) (no : (a == sysModules) = false) :
  KdT P w K a ((p :: L).map fun p => (p.1.map fun i => (Sum.inl i : Key), V.str p.2)) := by
 obtain ⟨xs, k1, k2, k3, k4⟩ := ts_list (P := P) (w := w) h
 cases he : dEnt K a with
 | nil => rw [he] at h; cases h
 | cons e r =>
  obtain ⟨o, es, ep, lk, ex, od, el⟩ := dEnt_at he
  refine ⟨⟨xs, fun hp hK => ⟨o, es, ep, hK a o lk, ex, od, by rw [el, <- he]; exact k2, k4 hp hK, by rw [k3]; exact nd⟩, k1⟩, no⟩
theorem signs_k {mg : Str -> Option Value} {a : Adr} (_ : Txt K mg a) (e : (dEnt K a.k_SIGNS).map (tsEnt K) = ((Vbemac.SIGNS.map fun s => ((s.map nb, sgn s) : List Int × Str)).map fun p => some (tupleKeyHash (jn_ P w) (p.1.map fun i => (Sum.inl i : Key)), p.1, p.2))) (no : (a.k_SIGNS == sysModules) = false) : KdT P w K a.k_SIGNS yd_ := by
 rw [show yd_ = (Vbemac.SIGNS.map fun s => ((s.map nb, sgn s) : List Int × Str)).map fun p => (p.1.map fun i => (Sum.inl i : Key), V.str p.2) by decide +kernel]
 exact kdT_ts (p := ([61, 61], "==")) (L := ((Vbemac.SIGNS.map fun s => ((s.map nb, sgn s) : List Int × Str))).tail) e (by decide +kernel) no
theorem js_ {h : Heap} {mg : Str -> Option Value} (X : K.In h) (G : h.Ns mainGlobals mg) {x : Str} {st : Stmt} {ps : List Str} {f : Addr} {oc : Value} {od an : Option Addr} {sl : Array (Option Value)} {kV doc pm cd ct : Value}
  (a : PySem.W.nsIn K mainGlobals x = some (some (.ref f))) (l : K.lookup f = some ⟨oc, od, .func (PySem.W.fnOf x x (yk_ st) (y8_ st) (j5_ st) .none kV doc pm an cd ct), sl⟩) (c : PySem.W.codeIn K cd x = true) (k : PySem.W.keepIn K (.ref f) = true)
  (hb : ∀ (kV doc pm : Value) (an : Option Addr) (cdv ct : Value) (us : List Value), us.length = ps.length -> bindArgs (PySem.W.fnOf x x (yk_ st) (y8_ st) (j5_ st) .none kV doc pm an cdv ct) ⟨us, []⟩ = pure (ps.zip us)) :
  ∃ fd, Fun K x x st f fd /\ jz_ K fd ps [] /\ mg x = some (.ref f) /\ ∀ (s : Shared) (us : List Value), us.length = ps.length -> BindsTo s fd ⟨us, []⟩ (ps.zip us) := ⟨_, fun_mk (st := st) l c k, (fun_mk (st := st) l c k).binds hb, PySem.W.mg_of X G a, fun s us hu => .of_eq (hb _ _ _ _ _ _ us hu)⟩
theorem meth_def {h : Heap} {mg : Str -> Option Value} (_ : K.In h) {cx x q : Str} {st : Stmt} {ps : List Str} {C f : Addr} {oc : Value} {od an : Option Addr} {sl : Array (Option Value)} {kV doc pm cd ct : Value} (_ : mg cx = some (.ref C))
  (a : PySem.W.findIn K (.ref C) x = some (some (.ref f))) (i : PySem.W.isFn K (.ref f) = true) (l : K.lookup f = some ⟨oc, od, .func (PySem.W.fnOf x q (yk_ st) (y8_ st) (j5_ st) .none kV doc pm an cd ct), sl⟩) (c : PySem.W.codeIn K cd q = true) (k : PySem.W.keepIn K (.ref f) = true)
  (hb : ∀ (kV doc pm : Value) (an : Option Addr) (cdv ct : Value) (us : List Value), us.length = ps.length -> bindArgs (PySem.W.fnOf x q (yk_ st) (y8_ st) (j5_ st) .none kV doc pm an cdv ct) ⟨us, []⟩ = pure (ps.zip us)) :
  ∃ fd, Fun K x q st f fd /\ jz_ K fd ps [] /\ Meth K C x f := ⟨_, fun_mk (st := st) l c k, (fun_mk (st := st) l c k).binds hb, ⟨a, i, k⟩⟩
end
end OS
open PySem PySem.W PyProof.Rows
set_option maxRecDepth 100000 in
set_option maxHeartbeats 0 in
theorem PySem.Challenge.cw_ordersheets_s10_tokens_holds : PySem.Challenge.rw_ordersheets_s10_tokens.Holds := by
 w_on; k_headS; (case hw => exact ⟨[.list []], by decide +kernel, by decide +kernel⟩)
 k_fillS
 refine L2.walk_specK (r := PySem.Challenge.rw_ordersheets_s10_tokens) (k := 5) (CX := L2.CX0) (ps := ["text"]) (sp := OS.spTokens) (by decide +kernel) rfl rfl ⟨rfl, by decide, by decide⟩ (fun w h Y => PySem.W.kIn_of Y) ?F ?S (fun _ _ _ _ z => z)
 case F =>
  intro w mg fa h Y KX G hmg
  have gC_Token := PySem.W.mg_of KX G (n := "Token") (by exact rfl)
  obtain ⟨fd_z0, F_z0, b_z0, me_z0⟩ := OS.meth_def (x := "__init__") (q := "Token.__init__") (st := OS.s_z0) (ps := ["self", "kind", "value", "line", "column"]) KX gC_Token (by exact rfl) (by exact rfl) (by exact rfl) (by exact rfl) (by exact rfl) (fun _ _ _ _ _ _ us hl => match us, hl with | [_, _, _, _, _], _ => rfl)
  obtain ⟨fd_z9, F_z9, b_z9, m_z9, bt_z9⟩ := OS.js_ (x := "is_digit") (st := OS.s_z9) (ps := ["byte"]) KX G (by exact rfl) (by exact rfl) (by exact rfl) (by exact rfl) (fun _ _ _ _ _ _ us hl => match us, hl with | [_], _ => rfl)
  obtain ⟨fd_z6, F_z6, b_z6, m_z6, bt_z6⟩ := OS.js_ (x := "is_letter") (st := OS.s_z6) (ps := ["byte"]) KX G (by exact rfl) (by exact rfl) (by exact rfl) (by exact rfl) (fun _ _ _ _ _ _ us hl => match us, hl with | [_], _ => rfl)
  obtain ⟨fd_z2, F_z2, b_z2, m_z2, bt_z2⟩ := OS.js_ (x := "comment_end") (st := OS.s_z2) (ps := ["text", "at"]) KX G (by exact rfl) (by exact rfl) (by exact rfl) (by exact rfl) (fun _ _ _ _ _ _ us hl => match us, hl with | [_, _], _ => rfl)
  obtain ⟨fd_z10, F_z10, b_z10, m_z10, bt_z10⟩ := OS.js_ (x := "word_end") (st := OS.s_z10) (ps := ["text", "at"]) KX G (by exact rfl) (by exact rfl) (by exact rfl) (by exact rfl) (fun _ _ _ _ _ _ us hl => match us, hl with | [_, _], _ => rfl)
  obtain ⟨fd_z4, F_z4, b_z4, m_z4, bt_z4⟩ := OS.js_ (x := "digits_end") (st := OS.s_z4) (ps := ["text", "at"]) KX G (by exact rfl) (by exact rfl) (by exact rfl) (by exact rfl) (fun _ _ _ _ _ _ us hl => match us, hl with | [_, _], _ => rfl)
  obtain ⟨fd_z7, F_z7, b_z7, m_z7, bt_z7⟩ := OS.js_ (x := "token_end") (st := OS.s_z7) (ps := ["text", "at"]) KX G (by exact rfl) (by exact rfl) (by exact rfl) (by exact rfl) (fun _ _ _ _ _ _ us hl => match us, hl with | [_, _], _ => rfl)
  obtain ⟨fd_z5, F_z5, b_z5, m_z5, bt_z5⟩ := OS.js_ (x := "token_kind") (st := OS.s_z5) (ps := ["text", "at", "end"]) KX G (by exact rfl) (by exact rfl) (by exact rfl) (by exact rfl) (fun _ _ _ _ _ _ us hl => match us, hl with | [_, _, _], _ => rfl)
  obtain ⟨fd_z1, F_z1, b_z1, m_z1, bt_z1⟩ := OS.js_ (x := "decimal_worth") (st := OS.s_z1) (ps := ["part"]) KX G (by exact rfl) (by exact rfl) (by exact rfl) (by exact rfl) (fun _ _ _ _ _ _ us hl => match us, hl with | [_], _ => rfl)
  obtain ⟨fd_z3, F_z3, b_z3, m_z3, bt_z3⟩ := OS.js_ (x := "token_value") (st := OS.s_z3) (ps := ["kind", "part"]) KX G (by exact rfl) (by exact rfl) (by exact rfl) (by exact rfl) (fun _ _ _ _ _ _ us hl => match us, hl with | [_, _], _ => rfl)
  obtain ⟨fd_z8, F_z8, b_z8, m_z8, bt_z8⟩ := OS.js_ (x := "scan_text") (st := OS.s_z8) (ps := ["text"]) KX G (by exact rfl) (by exact rfl) (by exact rfl) (by exact rfl) (fun _ _ _ _ _ _ us hl => match us, hl with | [_], _ => rfl)
  obtain ⟨fd_z11, F_z11, b_z11, m_z11, bt_z11⟩ := OS.js_ (x := "is_text") (st := OS.s_z11) (ps := ["text"]) KX G (by exact rfl) (by exact rfl) (by exact rfl) (by exact rfl) (fun _ _ _ _ _ _ us hl => match us, hl with | [_], _ => rfl)
  obtain ⟨fd_z12, F_z12, b_z12, m_z12, bt_z12⟩ := OS.js_ (x := "tokens") (st := OS.s_z12) (ps := ["text"]) KX G (by exact rfl) (by exact rfl) (by exact rfl) (by exact rfl) (fun _ _ _ _ _ _ us hl => match us, hl with | [_], _ => rfl)
  have T : OS.Txt _ mg ⟨_, fd_z0, _, fd_z9, _, fd_z6, _, fd_z2, _, fd_z10, _, fd_z4, _, fd_z7, _, fd_z5, _, fd_z1, _, fd_z3, _, fd_z8, _, fd_z11, _, fd_z12, _, _, _⟩ := ⟨F_z0,
   b_z0,
   F_z9,
   b_z9,
   m_z9,
   F_z6,
   b_z6,
   m_z6,
   F_z2,
   b_z2,
   m_z2,
   F_z10,
   b_z10,
   m_z10,
   F_z4,
   b_z4,
   m_z4,
   F_z7,
   b_z7,
   m_z7,
   F_z5,
   b_z5,
   m_z5,
   F_z1,
   b_z1,
   m_z1,
   F_z3,
   b_z3,
   m_z3,
   F_z8,
   b_z8,
   m_z8,
   F_z11,
   b_z11,
   m_z11,
   F_z12,
   b_z12,
   m_z12,
   gC_Token,
   ⟨(by exact rfl), (by exact rfl), (by exact rfl), (by exact rfl)⟩,
   ⟨(by kernel_rfl), (by exact rfl), (by exact rfl), (by exact rfl)⟩,
   (by exact rfl),
   (by exact rfl),
   (by exact rfl),
   (by exact rfl),
   ⟨_, PySem.W.mg_of KX G (by exact rfl)⟩,
   ⟨_, PySem.W.mg_of KX G (by exact rfl)⟩,
   ⟨_, PySem.W.mg_of KX G (by exact rfl)⟩,
   ⟨_, PySem.W.mg_of KX G (by exact rfl)⟩,
   ⟨_, PySem.W.mg_of KX G (by exact rfl)⟩,
   ⟨_, PySem.W.mg_of KX G (by exact rfl)⟩,
   ⟨_, PySem.W.mg_of KX G (by exact rfl)⟩,
   ⟨_, PySem.W.mg_of KX G (by exact rfl)⟩,
   ⟨_, PySem.W.mg_of KX G (by exact rfl)⟩,
   (PySem.W.mg_of KX G (by exact rfl)),
   (PySem.W.mg_of KX G (by exact rfl)),
   ⟨_, PySem.W.mg_of KX G (by exact rfl)⟩,
   ⟨_, PySem.W.mg_of KX G (by exact rfl)⟩,
   (OS.ktup_int (l := [9, 10, 13, 32]) (by kernel_rfl)),
   (PySem.W.mg_none_of KX G (by exact rfl)),
   (PySem.W.mg_none_of KX G (by exact rfl)),
   (PySem.W.mg_none_of KX G (by exact rfl))⟩
  have kS := OS.signs_k T (P := PySem.Challenge.rw_ordersheets_s10_tokens.prog) (w := w) (by kernel_rfl) rfl
  cases hmg.symm.trans m_z12
  exact ⟨fd_z12, bt_z12, fun base _ _ => OS.ok_z12 T kS⟩
 case S =>
  intro K H xs a hO hwi hask hx
  cases hx with
  | cons h1 h2 =>
   cases h2
   cases h1 with
   | lst hs ha =>
    have e := L2.ints_dw a.1 _ ha
    subst e
    have q : ((Codec.inLen 0 4000 a.1 && a.1.all (Codec.inInt (-1000000000000000000) 1000000000000000000)) && true) = true := hwi
    rw [Bool.and_eq_true, Bool.and_eq_true] at q
    exact ⟨_, a.1, rfl, hs, (Codec.inNat_iff.mp q.1.1).2, fun H' p hp => .lst (L2.SqL.of hp) (L2.dw_ints _)⟩
#print axioms PySem.Challenge.cw_ordersheets_s10_tokens_holds

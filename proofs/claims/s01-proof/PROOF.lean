import PyProof.Rows.All
import Wide.All
import OpenK.AllK
import Wide.FinOn
import PyProof.EqAt
import PyProof.EqKinds
import PyProof.TupleCall
import KE.BitLaws
import Open.SpecLaws
import KE.OsHead
import KE.OsGo
import VbbraaSpec
import PyProof.StationsW
import PyProof.ExcAttrAll.Exception
import PyProof.InstStoreFacts
import PyProof.ExcInit
import PyProof.ExcBaseAll.Exception
import PyProof.RulesAs
import PySem.Challenge.RW_dealboards_s01_answers
set_option Elab.async false
set_option linter.all false
set_option maxRecDepth 100000
set_option maxHeartbeats 0
section
namespace L2
open PySem PySem.Spec PyProof.Rows
abbrev Key := Sum Int Str
def qi : Key -> Value -> Bool
 | .inl k, v => Value.isInt k v
 | .inr x, v => Value.isStrOf x v
def Dy (w : World) : Key -> Int
 | .inl k => hashInt k
 | .inr x => hashStr w x
theorem cj : ∀ {k : Key} {v : Value}, qi k v = true -> (∃ i t, k = Sum.inl i /\ v = Value.int i t) \/ (∃ x t, k = Sum.inr x /\ v = Value.str x t)
 | .inl i, v, h => by
   obtain ⟨t, e⟩ := Value.isInt_shape (k := i) (v := v) h
   exact .inl ⟨i, t, rfl, e⟩
 | .inr x, v, h => by
   obtain ⟨t, e⟩ := Value.isStrOf_shape (x := x) (v := v) h
   exact .inr ⟨x, t, rfl, e⟩
theorem xE (i : Int) (t : Tok) : qi (.inl i) (.int i t) = true := by simp [qi, Value.isInt]
theorem xD (x : Str) (t : Tok) : qi (.inr x) (.str x t) = true := by simp [qi, Value.isStrOf]
theorem Bw (a b : Int) : decide ((Sum.inl a : Key) = Sum.inl b) = (a == b) := by
 by_cases e : a = b
 ·subst e; simp
 ·have h : ¬ (Sum.inl a : Key) = Sum.inl b := fun q => e (Sum.inl.inj q)
  rw [decide_eq_false h]
  exact (beq_eq_false_iff_ne.mpr e).symm
theorem Bt (a b : Str) : decide ((Sum.inr a : Key) = Sum.inr b) = decide (a = b) := by
 by_cases e : a = b
 ·subst e; simp
 ·have h : ¬ (Sum.inr a : Key) = Sum.inr b := fun q => e (Sum.inr.inj q)
  rw [decide_eq_false h, decide_eq_false e]
theorem Bv (a : Int) (b : Str) : decide ((Sum.inl a : Key) = Sum.inr b) = false := decide_eq_false (fun q => nomatch q)
theorem Bu (a : Str) (b : Int) : decide ((Sum.inr a : Key) = Sum.inl b) = false := decide_eq_false (fun q => nomatch q)
def dE (prog : Program) (w : World) : PySem.KeyKind prog w Key where
 is := qi
 hash := Dy w
 inj := fun v a b ha hb => by
  rcases cj ha with ⟨i, t, rfl, rfl⟩ | ⟨x, t, rfl, rfl⟩
  ·rcases cj hb with ⟨j, u, rfl, e⟩ | ⟨y, u, rfl, e⟩
   ·injection e with e1 _; rw [e1]
   ·exact nomatch e
  ·rcases cj hb with ⟨j, u, rfl, e⟩ | ⟨y, u, rfl, e⟩
   ·exact nomatch e
   ·injection e with e1 _; rw [e1]
 byValue := fun k v h => by
  rcases cj h with ⟨i, t, rfl, rfl⟩ | ⟨x, t, rfl, rfl⟩ <;> rfl
 pyHash := fun hv h => by
  rcases cj hv with ⟨i, t, rfl, rfl⟩ | ⟨x, t, rfl, rfl⟩
  ·exact wpAny_pyHash_int h
  ·exact wpAny_pyHash_str h
 eqBool := fun hu hv h => by
  rcases cj hu with ⟨i, t, rfl, rfl⟩ | ⟨x, t, rfl, rfl⟩
  ·rcases cj hv with ⟨j, u, rfl, rfl⟩ | ⟨y, u, rfl, rfl⟩
   ·rw [Bw] at h; exact wpAny_eqBool_int h
   ·rw [Bv] at h; exact SeqAt.EqAt.int_str i t y u _ _ _ _ h
  ·rcases cj hv with ⟨j, u, rfl, rfl⟩ | ⟨y, u, rfl, rfl⟩
   ·rw [Bu] at h; exact SeqAt.EqAt.str_int x t j u _ _ _ _ h
   ·rw [Bt] at h; exact wpAny_eqBool_str h
 «strs» := fun k x t v h => by
  rcases cj h with ⟨i, u, rfl, e⟩ | ⟨y, u, rfl, e⟩
  ·exact nomatch e
  ·injection e with e1 _
   subst e1
   cases v <;> rfl
theorem tH (prog : Program) (w : World) (i : Int) (t : Tok) : (dE prog w).is (.inl i) (.int i t) = true := xE i t
theorem tG (prog : Program) (w : World) (x : Str) (t : Tok) : (dE prog w).is (.inr x) (.str x t) = true := xD x t
end L2
namespace L2
open PySem PySem.Spec PyProof.Rows
inductive V where
 | non | bl (b : Bool) | int (i : Int) | str (x : Str) | byt (b : Array UInt8) | flt (b : UInt64) | ref (a : Addr) | ty (n : String)
 deriving DecidableEq
def aZ : V -> Value -> Prop
 | .non, u => u = Value.none
 | .bl b, u => u = Value.bool b
 | .int i, u => ∃ t, u = Value.int i t
 | .str x, u => ∃ t, u = Value.str x t
 | .byt b, u => ∃ t, u = Value.bytes b t
 | .flt b, u => ∃ t, u = Value.float b t
 | .ref a, u => u = Value.ref a
 | .ty n, u => u = Value.type n
abbrev aR : List V -> List Value -> Prop := Paired aZ
theorem aR.length {xs : List V} {us : List Value} (r : aR xs us) : xs.length = us.length := Paired.length r
theorem aR.get : ∀ {xs : List V} {us : List Value} {i : Nat} {x : V}, aR xs us -> xs[i]? = some x -> ∃ u, us[i]? = some u /\ aZ x u
 | _, _, _, _, .nil, e => by simp at e
 | _, _, 0, _, .cons r _, e => by simp at e; subst e; exact ⟨_, rfl, r⟩
 | _, _, i + 1, x, .cons _ t, e => by
   obtain ⟨u, h1, h2⟩ := aR.get (i := i) (x := x) t (by simpa using e)
   exact ⟨u, by simpa using h1, h2⟩
theorem aR.set {x : V} {u : Value} (r : aZ x u) : ∀ {xs : List V} {us : List Value} (i : Nat), aR xs us -> aR (xs.set i x) (us.set i u)
 | _, _, _, .nil => .nil
 | _, _, 0, .cons _ t => .cons r t
 | _, _, i + 1, .cons q t => .cons q (aR.set r i t)
theorem aR.append : ∀ {xs ys : List V} {us ws : List Value}, aR xs us -> aR ys ws -> aR (xs ++ ys) (us ++ ws)
 | _, _, _, _, .nil, s => s
 | _, _, _, _, .cons r t, s => .cons r (aR.append t s)
theorem aR.take : ∀ {xs : List V} {us : List Value} (n : Nat), aR xs us -> aR (xs.take n) (us.take n)
 | _, _, 0, _ => .nil
 | _, _, _ + 1, .nil => .nil
 | _, _, n + 1, .cons r t => .cons r (aR.take n t)
theorem aR.drop : ∀ {xs : List V} {us : List Value} (n : Nat), aR xs us -> aR (xs.drop n) (us.drop n)
 | _, _, 0, r => r
 | _, _, _ + 1, .nil => .nil
 | _, _, n + 1, .cons _ t => aR.drop n t
def jL : Option V -> Option Value -> Prop
 | some v, some u => aZ v u
 | none, none => True
 | _, _ => False
def KV {κ : Type} : List (κ × V) -> List (κ × Value) -> Prop := Paired fun (p : κ × V) (q : κ × Value) => p.1 = q.1 /\ aZ p.2 q.2
def kV : Key -> V
 | .inl i => .int i
 | .inr x => .str x
inductive HO where
 | lst (xs : List V)
 | tup (xs : List V)
 | dK (kvs : List (Key × V)) | dT (kvs : List (List Key × V))
 | set (S : Int -> Bool) (n : Nat)
 | ins (C dx : Addr) (fs : List (Str × V))
 | own (x : Addr)
 | xd (fs : List (Str × V))
 | met (f x : Addr)
 | rng (lo hi : Int)
 | frz (o : Obj) (u : HO)
 | tbl (ps : Array Value)
 | ext (φ : Heap -> Prop)
abbrev Hp := Addr -> Option HO
def aU (H : Hp) (a : Addr) (o : HO) : Hp := fun b => if b = a then some o else H b
theorem ae {H : Hp} {a : Addr} {o : HO} : aU H a o a = some o := by unfold aU; rw [if_pos rfl]
theorem ak {H : Hp} {a b : Addr} {o : HO} (h : b ≠ a) : aU H a o b = H b := by unfold aU; rw [if_neg h]
theorem bv {H : Hp} {a : Addr} {o u : HO} : aU (aU H a o) a u = aU H a u := by
 funext b; unfold aU; split <;> rfl
theorem eW {H : Hp} {a b : Addr} {o u : HO} (h : H a = some o) (h' : H b = some u) (d : o ≠ u) : a ≠ b := by
 intro e; subst e; rw [h] at h'; exact d (Option.some.inj h')
theorem au {H : Hp} {a b : Addr} {o : HO} (h : H a = some o) (h' : H b = none) : a ≠ b := by
 intro e; subst e; rw [h] at h'; cases h'
section
variable (P : Program) (w : World)
def bU (H : Hp) (h : Heap) (a : Addr) : HO -> Prop
 | .lst xs => xs.length <= sizeLine /\ ∃ (its : List Value) (n : Nat), aR xs its /\ h.get? a = some { cls := .type "list", data := .seq its.toArray n }
 | .tup xs => xs.length <= sizeLine /\ ∃ its : List Value, aR xs its /\ IsTup h a its.toArray
 | .dK kvs => kvs.length <= sizeLine /\ (a == sysModules) = false /\ ∃ vs, KV kvs vs /\ h.DictOf (dE P w) a vs
 | .dT kvs => kvs.length <= sizeLine /\ (a == sysModules) = false /\ ∃ xs : List (List Key × Addr × Value),
  Paired (fun (p : List Key × V) (q : List Key × Addr × Value) => p.1 = q.1 /\ H q.2.1 = some (.tup (p.1.map kV)) /\ aZ p.2 q.2.2) kvs xs /\
  ∃ o es ep, h.get? a = some o /\ o.ExactDict /\ o.data = .dict es ep /\ es.toList = xs.map (entryOfKey (tupleKind (dE P w))) /\ (xs.map (·.1)).Nodup
 | .set S n => h.SetOf (intKind P w) a S n
 | .ins C dx fs => H dx = some (.own a) /\ fs.length <= 1000 /\ dx ≠ a /\ h.get? a = some (W.instObj C dx) /\
  ∃ mA, h.Ns1 dx mA /\ (∀ f, jL (fs.lookup f) (mA f)) /\ PySem.Within mA (fs.map (·.1))
 | .own _ => ∃ o, h.get? a = some o
 | .xd fs => ∃ mA, h.Ns1 a mA /\ ∀ f, jL (fs.lookup f) (mA f)
 | .rng lo hi => ∃ t u v, h.get? a = some { cls := .type "range", data := .fields #[.int lo t, .int hi u, .int 1 v] }
 | .frz o u => h.get? a = some o /\ bU H h a u
 | .tbl ps => h.get? a = some { cls := .none, data := .fields ps }
 | .met f x => h.get? a = some (W.methodObj (.ref f) (.ref x))
 | .ext φ => φ h /\ (∃ o, h.get? a = some o) /\ ∀ h1 h2 : Heap, φ h1 -> (∀ o, h1.get? a = some o -> h2.get? a = some o) -> φ h2
def jb (H : Hp) (h : Heap) : Prop := ∀ a o, H a = some o -> bU P w H h a o
end
section
variable {P : Program} {w : World} {H H' : Hp} {h h' : Heap} {a : Addr} {o : HO}
theorem bU.lt (x : bU P w H h a o) : a < h.objs.size := by
 cases o with
 | lst xs => obtain ⟨_, _, _, _, e⟩ := x; exact Heap.lt_size e
 | tup xs => obtain ⟨_, _, _, p⟩ := x; exact p.lt
 | dK kvs => obtain ⟨_, _, _, _, o, _, _, e, _⟩ := x; exact Heap.lt_size e
 | dT kvs => obtain ⟨_, _, _, _, o, _, _, e, _⟩ := x; exact Heap.lt_size e
 | set S n => obtain ⟨o, _, _, _, e, _⟩ := x; exact Heap.lt_size e
 | ins C dx fs => obtain ⟨_, _, _, e, _⟩ := x; exact Heap.lt_size e
 | own y => obtain ⟨_, e⟩ := x; exact Heap.lt_size e
 | xd fs => obtain ⟨_, ⟨_, _, _, e, _⟩, _⟩ := x; exact Heap.lt_size e
 | rng lo hi => obtain ⟨_, _, _, e⟩ := x; exact Heap.lt_size e
 | frz ob u => obtain ⟨e, _⟩ := x; exact Heap.lt_size e
 | tbl ps => exact Heap.lt_size (show h.get? a = some _ from x)
 | met f y => exact Heap.lt_size (show h.get? a = some _ from x)
 | ext φ => obtain ⟨_, ⟨_, e⟩, _⟩ := x; exact Heap.lt_size e
theorem Paired.mapP {α β : Type} {F G : α -> β -> Prop} : ∀ {l₁ : List α} {l₂ : List β}, Paired F l₁ l₂ -> (∀ a b, F a b -> G a b) -> Paired G l₁ l₂
 | _, _, .nil, _ => .nil
 | _, _, .cons r t, f => .cons (f _ _ r) (Paired.mapP t f)
theorem bU.stay (x : bU P w H h a o) (k : ∀ b u, (b = a \/ H b = some (.own a)) -> h.get? b = some u -> h'.get? b = some u)
 (ho : ∀ b, H b = some (.own a) -> H' b = some (.own a)) (ht : ∀ b xs, H b = some (.tup xs) -> H' b = some (.tup xs)) : bU P w H' h' a o := by
 induction o with
 | lst xs => obtain ⟨z, its, n, r, e⟩ := x; exact ⟨z, its, n, r, k _ _ (.inl rfl) e⟩
 | tup xs => obtain ⟨z, its, r, ob, e, c⟩ := x; exact ⟨z, its, r, ob, k _ _ (.inl rfl) e, c⟩
 | dK kvs => obtain ⟨z, y, vs, r, ob, es, ep, e, c⟩ := x; exact ⟨z, y, vs, r, ob, es, ep, k _ _ (.inl rfl) e, c⟩
 | dT kvs =>
   obtain ⟨z, y, xs, r, ob, es, ep, e, c⟩ := x
   exact ⟨z, y, xs, Paired.mapP r fun p q z => ⟨z.1, ht _ _ z.2.1, z.2.2⟩, ob, es, ep, k _ _ (.inl rfl) e, c⟩
 | set S n => obtain ⟨ob, es, ep, t, e, c⟩ := x; exact ⟨ob, es, ep, t, k _ _ (.inl rfl) e, c⟩
 | ins C dx fs =>
   obtain ⟨d, z, ne, e, mA, ⟨od, es, ep, e2, c⟩, r⟩ := x
   exact ⟨ho _ d, z, ne, k _ _ (.inl rfl) e, mA, ⟨od, es, ep, k _ _ (.inr d) e2, c⟩, r⟩
 | own y => obtain ⟨ob, e⟩ := x; exact ⟨ob, k _ _ (.inl rfl) e⟩
 | xd fs => obtain ⟨mA, ⟨od, es, ep, e, c⟩, r⟩ := x; exact ⟨mA, ⟨od, es, ep, k _ _ (.inl rfl) e, c⟩, r⟩
 | rng lo hi => obtain ⟨t, u, v, e⟩ := x; exact ⟨t, u, v, k _ _ (.inl rfl) e⟩
 | frz ob u ih => obtain ⟨e, q⟩ := x; exact ⟨k _ _ (.inl rfl) e, ih q⟩
 | tbl ps =>
   have e : h.get? a = some { cls := .none, data := .fields ps } := x
   show h'.get? a = some { cls := .none, data := .fields ps }
   exact k a _ (.inl rfl) e
 | met f y =>
   have e : h.get? a = some (W.methodObj (.ref f) (.ref y)) := x
   show h'.get? a = some (W.methodObj (.ref f) (.ref y))
   exact k a _ (.inl rfl) e
 | ext φ => obtain ⟨p, ⟨o, e⟩, st⟩ := x; exact ⟨st _ _ p fun o q => k _ _ (.inl rfl) q, ⟨o, k _ _ (.inl rfl) e⟩, st⟩
theorem jb.lt (x : jb P w H h) (e : H a = some o) : a < h.objs.size := (x a o e).lt
theorem jb.fresh (x : jb P w H h) (e : h.objs.size <= a) : H a = none := by
 cases q : H a with
 | none => rfl
 | some u => exact absurd (Nat.lt_of_lt_of_le (x.lt q) e) (Nat.lt_irrefl _)
theorem jb.kept (x : jb P w H h) (k : ∀ b u, h.get? b = some u -> h'.get? b = some u) : jb P w H h' := fun a o e =>
 (x a o e).stay (fun b u _ q => k b u q) (fun _ q => q) fun _ _ q => q
theorem jb.laid (x : jb P w H h) (k : ∀ b u, h.get? b = some u -> h'.get? b = some u) (hp : h.objs.size <= a) (new : bU P w (aU H a o) h' a o) : jb P w (aU H a o) h' := fun b u e => by
 have hn := x.fresh hp
 by_cases hb : b = a
 ·subst hb; rw [ae] at e; cases e; exact new
 ·rw [ak hb] at e
  exact (x b u e).stay (fun c v _ q => k c v q) (fun c q => by rw [ak (au q hn)]; exact q) fun c xs q => by rw [ak (au q hn)]; exact q
end
def Rd (H : Hp) (a : Addr) (u : HO) : Prop := H a = some u \/ ∃ o, H a = some (.frz o u)
theorem Rd.ok {P : Program} {w : World} {H : Hp} {h : Heap} {a : Addr} {u : HO} (r : Rd H a u) (x : jb P w H h) : bU P w H h a u := by
 rcases r with r | ⟨o, r⟩
 ·exact x a u r
 ·obtain ⟨_, q⟩ := x a _ r
  exact q
def CH : Option HO -> Prop
 | some (.lst _) => True
 | some (.dK _) => True
 | some (.dT _) => True
 | some (.set _ _) => True
 | some (.ins _ _ _) => True
 | some (.ext _) => True
 | _ => False
section
variable {P : Program} {w : World} {H : Hp} {h h' : Heap} {x e : Addr} {o' : HO}
theorem jb.write (ok : jb P w H h) (mu : CH (H x)) (he : e = x \/ H e = some (.own x)) (k : ∀ b u, b ≠ e -> h.get? b = some u -> h'.get? b = some u) (heo : ∃ u, h'.get? e = some u)
 (new : bU P w (aU H x o') h' x o') : jb P w (aU H x o') h' := fun b u q => by
 have nown : ∀ c y, H c = some (.own y) -> c ≠ x := fun c y r z => by subst z; rw [r] at mu; exact mu
 have ntup : ∀ c xs, H c = some (.tup xs) -> c ≠ x := fun c xs r z => by subst z; rw [r] at mu; exact mu
 by_cases hb : b = x
 ·subst hb; rw [ae] at q; cases q; exact new
 ·rw [ak hb] at q
  by_cases hbe : b = e
  ·have q' : H b = some (.own x) := by
    rcases he with z | z
    ·exact absurd (hbe.trans z) hb
    ·rw [hbe]; exact z
   rw [q] at q'; cases q'
   obtain ⟨v, hv⟩ := heo
   exact ⟨v, by rw [hbe]; exact hv⟩
  ·refine (ok b u q).stay (fun c v hc r => k c v ?_ r) (fun c r => by rw [ak (nown c b r)]; exact r) fun c xs r => by rw [ak (ntup c xs r)]; exact r
   rcases hc with rfl | hc
   ·exact hbe
   ·rintro rfl
    rcases he with z | z
    ·exact nown c b hc z
    ·rw [hc] at z; cases z; exact hb rfl
end
structure Un (fs ex : List Addr) (H H' : Hp) (h h' : Heap) : Prop where
 keep : ∀ b o, h.get? b = some o -> H b = none -> b ∉ fs -> b ∉ ex -> h'.get? b = some o
 slot : ∀ b o, h.get? b = some o -> H b = none -> b ∈ fs -> b ∉ ex -> ∃ sl, h'.get? b = some { o with slots := sl }
 free : ∀ b o, h.get? b = some o -> H b = none -> b ∉ ex -> H' b = none
 there : ∀ b o, h.get? b = some o -> b ∉ ex -> ∃ o', h'.get? b = some o'
 tups : ∀ b xs, H b = some (.tup xs) -> H' b = some (.tup xs)
 frzs : ∀ b o u, H b = some (.frz o u) -> H' b = some (.frz o u)
 tbls : ∀ b ps, H b = some (.tbl ps) -> ∃ more, H' b = some (.tbl (ps ++ more))
section
variable {fs fs' ex ex' : List Addr} {H H1 H2 : Hp} {h h1 h2 h' : Heap} {a x e : Addr} {o : HO}
theorem Un.any (u : Un fs ex H H1 h h1) {b : Addr} {ob : Obj} (q : h.get? b = some ob) (n : H b = none) (hx : b ∉ ex) : ∃ sl, h1.get? b = some { ob with slots := sl } := by
 by_cases hb : b ∈ fs
 ·exact u.slot b ob q n hb hx
 ·exact ⟨ob.slots, u.keep b ob q n hb hx⟩
theorem Un.kept (k : ∀ b u, h.get? b = some u -> h'.get? b = some u) : Un fs ex H H h h' :=
 ⟨fun b ob q _ _ _ => k b ob q, fun b ob q _ _ _ => ⟨ob.slots, k b ob q⟩, fun _ _ _ n _ => n, fun b ob q _ => ⟨ob, k b ob q⟩, fun _ _ q => q, fun _ _ _ q => q, fun _ ps q => ⟨#[], by rw [q]; simp⟩⟩
theorem Un.refl : Un fs ex H H h h := Un.kept fun _ _ q => q
theorem Un.laid (k : ∀ b u, h.get? b = some u -> h'.get? b = some u) (hp : h.objs.size <= a) (hn : H a = none) : Un fs ex H (aU H a o) h h' where
 keep := fun b u q _ _ _ => k b u q
 slot := fun b u q _ _ _ => ⟨u.slots, k b u q⟩
 free := fun b u q n _ => by rw [ak (Nat.ne_of_lt (Nat.lt_of_lt_of_le (Heap.lt_size q) hp))]; exact n
 there := fun b u q _ => ⟨u, k b u q⟩
 tups := fun b xs q => by rw [ak (au q hn)]; exact q
 frzs := fun b u xs q => by rw [ak (au q hn)]; exact q
 tbls := fun b ps q => ⟨#[], by rw [ak (au q hn), q]; simp⟩
theorem Un.write (mu : CH (H x)) (he : e = x \/ H e = some (.own x)) (k : ∀ b u, b ≠ e -> h.get? b = some u -> h'.get? b = some u) (heo : ∃ u, h'.get? e = some u) : Un fs ex H (aU H x o) h h' := by
 have hx : ∀ b, H b = none -> b ≠ x := fun b n z => by subst z; rw [n] at mu; exact mu
 have hb : ∀ b, H b = none -> b ≠ e := fun b n z => by
  subst z
  rcases he with r | r
  ·exact hx b n r
  ·rw [n] at r; cases r
 have hm : ∀ b u, H b = some u -> ¬ CH (some u) -> b ≠ x := fun b u q nm z => by subst z; rw [q] at mu; exact nm mu
 refine ⟨fun b u q n _ _ => k b u (hb b n) q, fun b u q n _ _ => ⟨u.slots, k b u (hb b n) q⟩, fun b u q n _ => by rw [ak (hx b n)]; exact n, fun b u q _ => ?_,
  fun b xs q => by rw [ak (hm b _ q fun z => z)]; exact q, fun b u xs q => by rw [ak (hm b _ q fun z => z)]; exact q, fun b ps q => ⟨#[], by rw [ak (hm b _ q fun z => z), q]; simp⟩⟩
 by_cases hbe : b = e
 ·subst hbe; exact heo
 ·exact ⟨u, k b u hbe q⟩
end
def CV (h : Heap) (H : Hp) : List Addr := (List.range h.objs.size).filter fun a => (H a).isSome
def rN (h : Heap) (H : Hp) : Heap := W.hideAll h (CV h H)
theorem xI (h : Heap) (H : Hp) : (rN h H).objs.size = h.objs.size := W.hideAll_size _ _
theorem y6 {h : Heap} {H : Hp} {b : Addr} {o : Obj} (e : h.get? b = some o) (n : H b = none) : (rN h H).get? b = some o :=
 W.hideAll_get _ e fun hm => by
  have q : (H b).isSome = true := (List.mem_filter.mp hm).2
  rw [n] at q; simp at q
theorem Aj {h : Heap} {H : Hp} {b : Addr} {o : Obj} (e : (rN h H).get? b = some o) : h.get? b = some o /\ H b = none := by
 have e' : h.get? b = some o := W.of_hideAll (CV h H) e
 refine ⟨e', ?_⟩
 cases q : H b with
 | none => rfl
 | some x =>
   have hm : b ∈ CV h H := List.mem_filter.mpr ⟨List.mem_range.mpr (Heap.lt_size e'), by simp [q]⟩
   have z : (rN h H).get? b = none := W.hideAll_none (CV h H) hm
   rw [z] at e; cases e
end L2
namespace L2
open PySem PySem.Spec PyProof.Rows
structure Mod (K : W.Frag) (mg : Str -> Option Value) (base : Heap) : Prop where
 kin : K.In base
 glob : base.Ns mainGlobals mg
 blt : ∃ mb, base.Ns builtinsNs mb /\ ∀ x : Str, x ≠ "__name__" -> mb x = bootBuiltins x
 nolimit : base.NoLimit
structure Cx where
 prog : Program
 w : World
 K : W.Frag
 mg : Str -> Option Value
 base : Heap
 A : Around
 N : List Str
 s_0 : Shared
 H_0 : Hp
 env : Env
 outer : List Env
 stack : List Env
 ex : List Addr
 fn : Str -> Bool
 calm : Bool
 pn : List (Addr × Obj)
 xe : Value -> Shared -> Prop
def sr (l : List Env) : List Addr := l.filterMap (·.frame)
abbrev Cx.fs (X : Cx) : List Addr := sr X.outer
def BX (sc : Scope) (x : Str) : Prop := sc.names.lookup x = some .local \/ sc.names.lookup x = some .cell \/ sc.names.lookup x = some .free
def CJ (sc : Scope) (x : Str) : Prop := sc.names.lookup x = some .local \/ sc.names.lookup x = some .cell
def DO (env : Env) (h : Heap) (m : Str -> Option Value) (x : Str) (u : Value) : Prop :=
 (env.kindOf x = some .local /\ m x = some u) \/ ((env.kindOf x = some .cell \/ env.kindOf x = some .free) /\ ∃ c, env.cells.lookup x = some c /\ h.IsCell c (some u))
structure Cx.Ok (X : Cx) : Prop where
 mod : Mod X.K X.mg X.base
 kind : X.env.scope.kind = .function
 glob : X.env.globals = mainGlobals
 blt : X.env.builtins = builtinsNs
 above : X.s_0.heap.objs.size <= X.env.locals
 inj : ∀ x y c, X.env.cells.lookup x = some c -> X.env.cells.lookup y = some c -> x = y
 has : ∀ x, (X.env.kindOf x = some .cell \/ X.env.kindOf x = some .free) -> ∃ c, X.env.cells.lookup x = some c
 cab : ∀ x c, X.fn x = true -> X.env.cells.lookup x = some c -> X.s_0.heap.objs.size <= c
 hd : X.calm = true -> X.A.handled = none
 frames : X.A.frames = some X.stack
 stk : X.stack = X.outer \/ (X.stack = X.env :: X.outer /\ X.env.frame = some X.env.locals)
 exf : ∀ b ∈ X.ex, b ≠ X.env.locals /\ ∀ x c, X.env.cells.lookup x = some c -> c ≠ b
 bs : ∀ b o, X.base.get? b = some o -> X.s_0.heap.get? b = some o /\ X.H_0 b = none
 bsz : X.base.objs.size <= X.s_0.heap.objs.size
 noex : ∀ b o, X.base.get? b = some o -> b ∉ X.ex
 exfs : ∀ b ∈ X.ex, b ∉ X.fs
 funs : X.s_0.heap.FunFrames X.base X.outer
 frf : ∀ b ∈ X.fs, X.H_0 b = none
structure aE (X : Cx) (pins : List (Addr × Obj)) (σ : List (Option V)) (H : Hp) (s : Shared) : Prop where
 ok : X.Ok
 os : s.os = X.s_0.os
 bare : AllBare s.gens
 base : Un X.fs X.ex X.H_0 H X.s_0.heap s.heap
 loc : ∃ m, s.heap.Ns X.env.locals m /\ ∀ (i : Nat) (x : Str) (v : V), X.N[i]? = some x -> σ[i]? = some (some v) -> BX X.env.scope x -> ∃ u, aZ v u /\ DO X.env s.heap m x u
 cell : ∀ x c, X.env.cells.lookup x = some c -> ∃ v, s.heap.IsCell c v
 free : H X.env.locals = none
 freeC : ∀ x c, X.env.cells.lookup x = some c -> H c = none
 pin : ∀ p ∈ X.pn ++ pins, s.heap.get? p.1 = some p.2 /\ H p.1 = none /\ p.1 ≠ X.env.locals /\ p.1 ∉ X.fs /\ ∀ v, p.2.data ≠ .cell v
 hok : jb X.prog X.w H s.heap
 len : σ.length = X.N.length
section
variable {X : Cx} {pins : List (Addr × Obj)} {σ : List (Option V)} {H H' : Hp} {s : Shared} {h' : Heap}
theorem Cx.Ok.nofr (ok : X.Ok) {b : Addr} {o : Obj} (e : X.base.get? b = some o) : b ∉ X.fs := fun hb => by
 have := (ok.funs.mem hb).1
 rw [e] at this; cases this
theorem aE.bs (I : aE X pins σ H s) : ∀ b o, X.base.get? b = some o -> s.heap.get? b = some o /\ H b = none := fun b o e =>
 ⟨I.base.keep b o (I.ok.bs b o e).1 (I.ok.bs b o e).2 (I.ok.nofr e) (I.ok.noex b o e), I.base.free b o (I.ok.bs b o e).1 (I.ok.bs b o e).2 (I.ok.noex b o e)⟩
theorem aE.bk (I : aE X pins σ H s) : ∀ b o, X.base.get? b = some o -> s.heap.get? b = some o := fun b o e => (I.bs b o e).1
theorem aE.mod (I : aE X pins σ H s) : Mod X.K X.mg X.base := I.ok.mod
theorem aE.kIn (I : aE X pins σ H s) : X.K.In s.heap := I.ok.mod.kin.keeps I.bk
theorem aE.nolimit (I : aE X pins σ H s) : s.heap.NoLimit := I.ok.mod.nolimit.keeps I.bk
theorem aE.fr (I : aE X pins σ H s) : ∃ m, Fr X.base X.env.locals s.heap m :=
 let ⟨m, hn, _⟩ := I.loc
 ⟨m, hn, I.bk, Nat.le_trans I.ok.bsz I.ok.above⟩
theorem aE.lt (I : aE X pins σ H s) : X.env.locals < s.heap.objs.size := let ⟨_, hn, _⟩ := I.loc; hn.lt
theorem aE.sz (I : aE X pins σ H s) : X.s_0.heap.objs.size <= s.heap.objs.size := Nat.le_trans I.ok.above (Nat.le_of_lt I.lt)
theorem aE.nofs (I : aE X pins σ H s) {a : Addr} (h : s.heap.objs.size <= a) : a ∉ X.fs := fun hb => by
 obtain ⟨_, o, ho, _⟩ := I.ok.funs.mem hb
 exact absurd (Nat.lt_of_lt_of_le (Heap.lt_size ho) (Nat.le_trans I.sz h)) (Nat.lt_irrefl _)
theorem aE.cne (I : aE X pins σ H s) : ∀ x c, X.env.cells.lookup x = some c -> c ≠ X.env.locals := fun x c e z => by
 obtain ⟨v, o, ho, hd⟩ := I.cell x c e
 obtain ⟨m, ⟨o', es, ep, ho', hd', _⟩, _⟩ := I.loc
 rw [z, ho'] at ho; cases ho; rw [hd'] at hd; cases hd
theorem aE.funs (I : aE X pins σ H s) : s.heap.FunFrames X.base X.outer := by
 have all : ∀ (l : List Env), (∀ b ∈ sr l, b ∈ X.fs) -> X.s_0.heap.FunFrames X.base l -> s.heap.FunFrames X.base l := by
  intro l
  induction l with
  | nil => intro _ _; trivial
  | cons env r ih =>
    intro hs hl
    obtain ⟨hk, ⟨L, o, hf, hn, ho, hd⟩, hr⟩ := hl
    have hL : L ∈ X.fs := hs L (by unfold sr; rw [List.filterMap_cons, hf]; exact List.mem_cons_self)
    obtain ⟨sl, e⟩ := I.base.slot L o ho (I.ok.frf L hL) hL fun z => I.ok.exfs L z hL
    exact ⟨hk, ⟨L, _, hf, hn, e, hd⟩, ih (fun b hb => hs b (by unfold sr; rw [List.filterMap_cons, hf]; exact List.mem_cons_of_mem _ hb)) hr⟩
 exact all X.outer (fun _ hb => hb) I.ok.funs
theorem aE.stack (I : aE X pins σ H s) : s.heap.FunFrames X.base X.stack := by
 rcases I.ok.stk with e | ⟨e, hf⟩
 ·rw [e]; exact I.funs
 ·rw [e]
  obtain ⟨m, hn, _⟩ := I.loc
  refine .cons (by rw [I.ok.kind]; decide) hf hn ?_ I.funs
  exact Heap.get?_none_of_le (Nat.le_trans I.ok.bsz I.ok.above)
theorem aE.stkSub (I : aE X pins σ H s) : ∀ b ∈ sr X.stack, b ∈ X.env.locals :: X.fs := fun b hb => by
 rcases I.ok.stk with e | ⟨e, hf⟩
 ·rw [e] at hb; exact List.mem_cons_of_mem _ hb
 ·rw [e] at hb
  unfold sr at hb
  rw [List.filterMap_cons, hf] at hb
  exact hb
theorem aE.stkFree (I : aE X pins σ H s) : ∀ b ∈ sr X.stack, H b = none := fun b hb => by
 rcases List.mem_cons.mp (I.stkSub b hb) with e | hb
 ·rw [e]; exact I.free
 ·obtain ⟨_, o, ho, _⟩ := I.ok.funs.mem hb
  exact I.base.free b o ho (I.ok.frf b hb) fun z => I.ok.exfs b z hb
theorem aE.step {g' : Array GenState} {t' : Nat} {d' : Drawn} {ch : List Addr} (I : aE X pins σ H s)
 (hch : ∀ b ∈ ch, (b ∈ X.ex \/ X.s_0.heap.objs.size <= b) /\ b ≠ X.env.locals /\ (∀ x c, X.env.cells.lookup x = some c -> c ≠ b) /\ ∀ p ∈ X.pn ++ pins, p.1 ≠ b)
 (keep : ∀ b o, b ≠ X.env.locals -> b ∉ X.fs -> b ∉ ch -> s.heap.get? b = some o -> H b = none -> h'.get? b = some o)
 (slot : ∀ b o, b ≠ X.env.locals -> b ∈ X.fs -> b ∉ ch -> s.heap.get? b = some o -> H b = none -> ∃ sl, h'.get? b = some { o with slots := sl }) (free : ∀ b o, b ∉ ch -> s.heap.get? b = some o -> H b = none -> H' b = none)
 (there : ∀ b o, b ∉ ch -> s.heap.get? b = some o -> ∃ o', h'.get? b = some o')
 (tups : ∀ b xs, H b = some (.tup xs) -> H' b = some (.tup xs)) (frzs : ∀ b o u, H b = some (.frz o u) -> H' b = some (.frz o u)) (tbls : ∀ b ps, H b = some (.tbl ps) -> ∃ more, H' b = some (.tbl (ps ++ more)))
 (ns : ∀ m, s.heap.Ns X.env.locals m -> h'.Ns X.env.locals m) (hok : jb X.prog X.w H' h') (hg : AllBare g') :
 aE X pins σ H' { s with heap := h', gens := g', drawn := d', toks := t' } := by
 have neL : ∀ b o, X.s_0.heap.get? b = some o -> b ≠ X.env.locals := fun b o e => Nat.ne_of_lt (Nat.lt_of_lt_of_le (Heap.lt_size e) I.ok.above)
 have neC : ∀ b o, X.s_0.heap.get? b = some o -> b ∉ X.ex -> b ∉ ch := fun b o e hx hb => by
  rcases (hch b hb).1 with z | z
  ·exact hx z
  ·exact absurd (Nat.lt_of_lt_of_le (Heap.lt_size e) z) (Nat.lt_irrefl _)
 have cellK : ∀ x c, X.env.cells.lookup x = some c -> ∀ v, s.heap.IsCell c v -> h'.IsCell c v := fun x c e v ⟨o, ho, hd⟩ => by
  have nch : c ∉ ch := fun z => (hch c z).2.2.1 x c e rfl
  by_cases hc : c ∈ X.fs
  ·obtain ⟨sl, q⟩ := slot c o (I.cne x c e) hc nch ho (I.freeC x c e)
   exact ⟨_, q, hd⟩
  ·exact ⟨o, keep c o (I.cne x c e) hc nch ho (I.freeC x c e), hd⟩
 refine ⟨I.ok, I.os, hg, ⟨fun b o e n hb hx => ?_, fun b o e n hb hx => ?_, fun b o e n hx => ?_, fun b o e hx => ?_, fun b xs e => tups b xs (I.base.tups b xs e), fun b o xs e => frzs b o xs (I.base.frzs b o xs e), fun b ps e => ?_⟩, ?_, fun x c e => ?_, ?_, fun x c e => ?_, fun p hp => ?_, hok, I.len⟩
 ·exact keep b o (neL b o e) hb (neC b o e hx) (I.base.keep b o e n hb hx) (I.base.free b o e n hx)
 ·obtain ⟨sl, e1⟩ := I.base.slot b o e n hb hx
  obtain ⟨sl', e2⟩ := slot b _ (neL b o e) hb (neC b o e hx) e1 (I.base.free b o e n hx)
  exact ⟨sl', e2⟩
 ·obtain ⟨o', e1⟩ := I.base.there b o e hx
  exact free b o' (neC b o e hx) e1 (I.base.free b o e n hx)
 ·obtain ⟨o', e1⟩ := I.base.there b o e hx
  exact there b o' (neC b o e hx) e1
 ·obtain ⟨m1, e1⟩ := I.base.tbls b ps e
  obtain ⟨m2, e2⟩ := tbls b _ e1
  exact ⟨m1 ++ m2, by rw [e2, Array.append_assoc]⟩
 ·obtain ⟨m, hn, hl⟩ := I.loc
  refine ⟨m, ns m hn, fun i x v e1 e2 e3 => ?_⟩
  obtain ⟨u, r, l⟩ := hl i x v e1 e2 e3
  refine ⟨u, r, ?_⟩
  rcases l with l | ⟨k, c, e, z⟩
  ·exact .inl l
  ·exact .inr ⟨k, c, e, cellK x c e _ z⟩
 ·obtain ⟨v, z⟩ := I.cell x c e
  exact ⟨v, cellK x c e v z⟩
 ·obtain ⟨m, ⟨o, _, _, ho, _⟩, _⟩ := I.loc
  exact free _ o (fun z => (hch _ z).2.1 rfl) ho I.free
 ·obtain ⟨v, o, ho, hd⟩ := I.cell x c e
  exact free c o (fun z => (hch c z).2.2.1 x c e rfl) ho (I.freeC x c e)
 ·obtain ⟨e, n, ne, nf, d⟩ := I.pin p hp
  have nch : p.1 ∉ ch := fun z => (hch p.1 z).2.2.2 p hp rfl
  exact ⟨keep p.1 p.2 ne nf nch e n, free p.1 p.2 nch e n, ne, nf, d⟩
theorem aE.un {t' : Nat} (I : aE X pins σ H s) (u : Un X.fs [] H H' s.heap h') (hok : jb X.prog X.w H' h') : aE X pins σ H' { s with heap := h', toks := t' } := by
 obtain ⟨m, ⟨o, es, ep, ho, r⟩, _⟩ := id I.loc
 obtain ⟨sl, hL⟩ := u.any ho I.free (by simp)
 exact I.step (g' := s.gens) (d' := s.drawn) (ch := []) (fun _ z => nomatch z) (fun b o _ hb _ e n => u.keep b o e n hb (by simp)) (fun b o _ hb _ e n => u.slot b o e n hb (by simp)) (fun b o _ e n => u.free b o e n (by simp)) (fun b o _ e => u.there b o e (by simp)) u.tups u.frzs u.tbls (fun m' hm => by
  obtain ⟨o', es', ep', ho', r'⟩ := hm
  rw [ho] at ho'; cases ho'
  exact ⟨_, es', ep', hL, r'⟩) hok I.bare
theorem aE.call {g' : Array GenState} {t' : Nat} {d' : Drawn} {ch : List Addr} (I : aE X pins σ H s) (u : Un (sr X.stack) ch H H' s.heap h') (hok : jb X.prog X.w H' h') (hg : AllBare g')
 (hch : ∀ b ∈ ch, (b ∈ X.ex \/ X.s_0.heap.objs.size <= b) /\ b ≠ X.env.locals /\ (∀ x c, X.env.cells.lookup x = some c -> c ≠ b) /\ ∀ p ∈ X.pn ++ pins, p.1 ≠ b) :
 aE X pins σ H' { s with heap := h', gens := g', drawn := d', toks := t' } := by
 obtain ⟨m, ⟨o, es, ep, ho, r⟩, _⟩ := id I.loc
 obtain ⟨sl, hL⟩ := u.any ho I.free fun z => (hch _ z).2.1 rfl
 exact I.step (ch := ch) hch (fun b o hL hb hc e n => u.keep b o e n (fun z => (List.mem_cons.mp (I.stkSub b z)).elim hL hb) hc) (fun b o _ _ hc e n => u.any e n hc) (fun b o hc e n => u.free b o e n hc) (fun b o hc e => u.there b o e hc) u.tups u.frzs u.tbls (fun m' hm => by
  obtain ⟨o', es', ep', ho', r'⟩ := hm
  rw [ho] at ho'; cases ho'
  exact ⟨_, es', ep', hL, r'⟩) hok hg
theorem aE.turned {t' : Nat} {it : Addr} (I : aE X pins σ H s) (k : ∀ b o, b ≠ it -> s.heap.get? b = some o -> h'.get? b = some o) (hn : H it = none) (hL : it ≠ X.env.locals)
 (h1 : it ∈ X.ex \/ X.s_0.heap.objs.size <= it) (h2 : ∀ x c, X.env.cells.lookup x = some c -> c ≠ it) (h3 : ∀ p ∈ X.pn ++ pins, p.1 ≠ it) : aE X pins σ H { s with heap := h', toks := t' } := by
 have nit : ∀ b u, H b = some u -> b ≠ it := fun b u e z => by rw [z, hn] at e; cases e
 refine I.step (g' := s.gens) (d' := s.drawn) (ch := [it]) (fun b hb => ?_) (fun b o _ _ hc e _ => k b o (fun z => hc (by simp [z])) e) (fun b o _ _ hc e _ => ⟨o.slots, k b o (fun z => hc (by simp [z])) e⟩) (fun _ _ _ _ n => n)
  (fun b o hc e => ⟨o, k b o (fun z => hc (by simp [z])) e⟩) (fun _ _ e => e) (fun _ _ _ e => e) (fun b ps e => ⟨#[], by rw [e]; simp⟩) (fun m hm => ?_) (fun b u e => ?_) I.bare
 ·have e : b = it := by simpa using hb
  subst e
  exact ⟨h1, hL, h2, h3⟩
 ·obtain ⟨o, es, ep, ho, r⟩ := hm
  exact ⟨o, es, ep, k _ o (Ne.symm hL) ho, r⟩
 ·refine (I.hok b u e).stay (fun c v hc q => k c v ?_ q) (fun _ q => q) fun _ _ q => q
  rcases hc with z | z
  ·rw [z]; exact nit b u e
  ·exact nit c _ z
theorem aE.tok (I : aE X pins σ H s) (t : Nat) : aE X pins σ H { s with toks := t } := I.un (h' := s.heap) (t' := t) Un.refl I.hok
theorem aE.kept {t' : Nat} (I : aE X pins σ H s) (k : ∀ b u, s.heap.get? b = some u -> h'.get? b = some u) : aE X pins σ H { s with heap := h', toks := t' } := I.un (Un.kept k) (I.hok.kept k)
theorem aE.laid {a : Addr} {o : HO} {t' : Nat} (I : aE X pins σ H s) (k : ∀ b u, s.heap.get? b = some u -> h'.get? b = some u) (hp : s.heap.objs.size <= a) (new : bU X.prog X.w (aU H a o) h' a o) :
 aE X pins σ (aU H a o) { s with heap := h', toks := t' } := I.un (Un.laid k hp (I.hok.fresh hp)) (I.hok.laid k hp new)
theorem aE.write {x e : Addr} {o : HO} {t' : Nat} (I : aE X pins σ H s) (mu : CH (H x)) (he : e = x \/ H e = some (.own x)) (k : ∀ b u, b ≠ e -> s.heap.get? b = some u -> h'.get? b = some u) (heo : ∃ u, h'.get? e = some u)
 (new : bU X.prog X.w (aU H x o) h' x o) : aE X pins σ (aU H x o) { s with heap := h', toks := t' } := I.un (Un.write mu he k heo) (I.hok.write mu he k heo new)
theorem aE.weak {σ' : List (Option V)} (I : aE X pins σ H s) (hl : σ'.length = σ.length) (w : ∀ (i : Nat) v, σ'[i]? = some (some v) -> σ[i]? = some (some v)) : aE X pins σ' H s :=
 ⟨I.ok, I.os, I.bare, I.base, let ⟨m, hn, hl'⟩ := I.loc; ⟨m, hn, fun i x v e1 e2 e3 => hl' i x v e1 (w i v e2) e3⟩, I.cell, I.free, I.freeC, I.pin, I.hok, hl.trans I.len⟩
theorem aE.pins_of {pins' : List (Addr × Obj)} (I : aE X pins σ H s) (h : ∀ p ∈ pins', s.heap.get? p.1 = some p.2 /\ H p.1 = none /\ p.1 ≠ X.env.locals /\ p.1 ∉ X.fs /\ ∀ v, p.2.data ≠ .cell v) : aE X pins' σ H s :=
 ⟨I.ok, I.os, I.bare, I.base, I.loc, I.cell, I.free, I.freeC, fun p hp => (List.mem_append.mp hp).elim (fun z => I.pin p (List.mem_append_left _ z)) (h p), I.hok, I.len⟩
theorem oY {N : List Str} (hN : N.Nodup) {i j : Nat} {x : Str} (a : N[i]? = some x) (b : N[j]? = some x) : i = j := by
 obtain ⟨h1, e1⟩ := List.getElem?_eq_some_iff.mp a
 obtain ⟨h2, e2⟩ := List.getElem?_eq_some_iff.mp b
 exact (List.getElem_inj hN).mp (e1.trans e2.symm)
theorem pT {M : Model} {A : Around} {E : Value -> Shared -> Prop} {i : Nat} {x : Str} {v : V} {u : Value} {Q : Unit -> Shared -> Prop} (I : aE X pins σ H s) (hN : X.N.Nodup) (hi : X.N[i]? = some x) (hx : CJ X.env.scope x) (r : aZ v u)
 (h : ∀ s', aE X pins (σ.set i (some v)) H s' -> (∃ a, Heap.SameBut a s.heap s'.heap /\ (a = X.env.locals \/ X.env.cells.lookup x = some a)) -> Q () s') (hf : X.fn x = true \/ X.env.scope.names.lookup x = some .local := by first | exact .inl rfl | exact .inr rfl | assumption) : wpAny M A (storeName X.env x u) Q E s := by
 obtain ⟨m, hn, hl⟩ := id I.loc
 have hcls : (X.env.scope.kind == .class || (X.env.scope.kind == .module && X.env.locals != X.env.globals)) = false := by rw [I.ok.kind]; rfl
 have hiσ : i < σ.length := by rw [I.len]; exact (List.getElem?_eq_some_iff.mp hi).1
 have cne := I.cne
 have tracked : ∀ {a : Addr} {h' : Heap}, (∃ o, s.heap.get? a = some o /\ H a = none) -> Heap.SameBut a s.heap h' -> jb X.prog X.w H h' := fun {a h'} ha hs b ob e => by
  obtain ⟨_, _, hfree⟩ := ha
  refine (I.hok b ob e).stay (fun c w' hc q => (hs.2 c ?_).trans q) (fun _ q => q) fun _ _ q => q
  rintro rfl
  rcases hc with rfl | hc
  ·rw [hfree] at e; cases e
  ·rw [hfree] at hc; cases hc
 rcases hx with hk | hk
 ·refine wpAny_storeName_local hk hn (fun h' hn' hs => ?_) hcls
  obtain ⟨oL, _, _, hoL, _⟩ := id hn
  refine h _ ⟨I.ok, I.os, I.bare, ⟨fun b o e n hb hx => ?_, fun b o e n hb hx => ?_, I.base.free, fun b o e hx => ?_, I.base.tups, I.base.frzs, I.base.tbls⟩, ⟨_, hn', fun j y v' e1 e2 e3 => ?_⟩, fun y c e => ?_, I.free, I.freeC, fun p hp => ?_, tracked ⟨oL, hoL, I.free⟩ hs, by simpa using I.len⟩ ⟨_, hs, .inl rfl⟩
  ·exact (hs.2 b (Nat.ne_of_lt (Nat.lt_of_lt_of_le (Heap.lt_size e) I.ok.above))).trans (I.base.keep b o e n hb hx)
  ·obtain ⟨sl, e1⟩ := I.base.slot b o e n hb hx
   exact ⟨sl, (hs.2 b (Nat.ne_of_lt (Nat.lt_of_lt_of_le (Heap.lt_size e) I.ok.above))).trans e1⟩
  ·obtain ⟨o', e1⟩ := I.base.there b o e hx
   exact ⟨o', (hs.2 b (Nat.ne_of_lt (Nat.lt_of_lt_of_le (Heap.lt_size e) I.ok.above))).trans e1⟩
  ·by_cases hj : j = i
   ·subst hj
    rw [hi] at e1; cases e1
    rw [List.getElem?_set_self hiσ] at e2
    cases e2
    exact ⟨u, r, .inl ⟨hk, by simp⟩⟩
   ·rw [List.getElem?_set_ne (Ne.symm hj)] at e2
    obtain ⟨u', r', q⟩ := hl j y v' e1 e2 e3
    refine ⟨u', r', ?_⟩
    rcases q with ⟨k, e⟩ | ⟨k, c, e, z⟩
    ·refine .inl ⟨k, ?_⟩
     have : y ≠ x := fun e => hj (oY hN e1 (e ▸ hi))
     simp [this, e]
    ·exact .inr ⟨k, c, e, z.sameBut hs (cne y c e)⟩
  ·obtain ⟨w', z⟩ := I.cell y c e
   exact ⟨w', z.sameBut hs (cne y c e)⟩
  ·obtain ⟨e, n, ne, nf, d⟩ := I.pin p hp
   exact ⟨(hs.2 p.1 ne).trans e, n, ne, nf, d⟩
 ·have hfn : X.fn x = true := by
   rcases hf with z | z
   ·exact z
   ·rw [z] at hk; cases hk
  obtain ⟨c, hc⟩ := I.ok.has x (.inl hk)
  obtain ⟨w', z⟩ := I.cell x c hc
  refine wpAny_storeName_cell I.ok.kind hk hc z (fun h' hc' hs => ?_)
  obtain ⟨oc, hoc, hocd⟩ := id z
  refine h { s with heap := h' } ⟨I.ok, I.os, I.bare, ⟨fun b o e n hb hx => ?_, fun b o e n hb hx => ?_, I.base.free, fun b o e hx => ?_, I.base.tups, I.base.frzs, I.base.tbls⟩, ⟨m, hn.sameBut hs (Ne.symm (cne x c hc)), fun j y v' e1 e2 e3 => ?_⟩, fun y c' e => ?_, I.free, I.freeC, fun p hp => ?_, tracked ⟨oc, hoc, I.freeC x c hc⟩ hs, by simpa using I.len⟩ ⟨c, hs, .inr hc⟩
  ·exact (hs.2 b (Nat.ne_of_lt (Nat.lt_of_lt_of_le (Heap.lt_size e) (I.ok.cab x c hfn hc)))).trans (I.base.keep b o e n hb hx)
  ·obtain ⟨sl, e1⟩ := I.base.slot b o e n hb hx
   exact ⟨sl, (hs.2 b (Nat.ne_of_lt (Nat.lt_of_lt_of_le (Heap.lt_size e) (I.ok.cab x c hfn hc)))).trans e1⟩
  ·obtain ⟨o', e1⟩ := I.base.there b o e hx
   exact ⟨o', (hs.2 b (Nat.ne_of_lt (Nat.lt_of_lt_of_le (Heap.lt_size e) (I.ok.cab x c hfn hc)))).trans e1⟩
  ·by_cases hj : j = i
   ·subst hj
    rw [hi] at e1; cases e1
    rw [List.getElem?_set_self hiσ] at e2
    cases e2
    exact ⟨u, r, .inr ⟨.inl hk, c, hc, hc'⟩⟩
   ·rw [List.getElem?_set_ne (Ne.symm hj)] at e2
    obtain ⟨u', r', q⟩ := hl j y v' e1 e2 e3
    refine ⟨u', r', ?_⟩
    rcases q with q | ⟨k, c', e, z'⟩
    ·exact .inl q
    ·refine .inr ⟨k, c', e, z'.sameBut hs ?_⟩
     rintro rfl
     exact hj (oY hN e1 (I.ok.inj _ _ _ e hc ▸ hi))
  ·by_cases hcc : c' = c
   ·subst hcc; exact ⟨_, hc'⟩
   ·obtain ⟨w2, z2⟩ := I.cell y c' e
    exact ⟨w2, z2.sameBut hs hcc⟩
  ·obtain ⟨e, n, ne, nf, d⟩ := I.pin p hp
   refine ⟨(hs.2 p.1 ?_).trans e, n, ne, nf, d⟩
   intro q
   rw [q, hoc] at e
   have q' : oc = p.2 := Option.some.inj e
   exact d w' (by rw [<- q']; exact hocd)
theorem kK {M : Model} {A : Around} {E : Value -> Shared -> Prop} {i : Nat} {x : Str} {v : V} {u : Value} {Q : Unit -> Shared -> Prop} (I : aE X pins σ H s) (hN : X.N.Nodup) (hi : X.N[i]? = some x) (hx : CJ X.env.scope x) (r : aZ v u)
 (h : ∀ s', aE X pins (σ.set i (some v)) H s' -> Q () s') (hf : X.fn x = true \/ X.env.scope.names.lookup x = some .local := by first | exact .inl rfl | exact .inr rfl | assumption) : wpAny M A (storeName X.env x u) Q E s :=
 pT I hN hi hx r (fun s' I' _ => h s' I') hf
theorem aE.call' {s' : Shared} {ch : List Addr} (I : aE X pins σ H s) (ho : s'.os = s.os) (u : Un (sr X.stack) ch H H' s.heap s'.heap) (hok : jb X.prog X.w H' s'.heap) (hg : AllBare s'.gens)
 (hch : ∀ b ∈ ch, (b ∈ X.ex \/ X.s_0.heap.objs.size <= b) /\ b ≠ X.env.locals /\ (∀ x c, X.env.cells.lookup x = some c -> c ≠ b) /\ ∀ p ∈ X.pn ++ pins, p.1 ≠ b) : aE X pins σ H' s' := by
 obtain ⟨h', g', d', t', o'⟩ := s'
 have e : o' = s.os := ho
 subst e
 exact I.call (g' := g') (t' := t') (d' := d') u hok hg hch
end
abbrev XK := Value -> Option Addr -> Hp -> Prop
abbrev St := List (Option V)
abbrev VK := V -> Hp -> Prop
abbrev TE := St -> Hp -> VK -> Prop
abbrev TT := St -> Hp -> (Bool -> Hp -> Prop) -> Prop
abbrev TA := St -> Hp -> (List V -> Hp -> Prop) -> Prop
structure sj where
 nx : St -> Hp -> Prop
 rt : VK
 bk : St -> Hp -> Prop := fun _ _ => False
 ct : St -> Hp -> Prop := fun _ _ => False
abbrev TS := sj -> St -> Hp -> Prop
def EP (X : Cx) (pins : List (Addr × Obj)) (σ : St) (Q : VK) (u : Value) (s' : Shared) : Prop := ∃ v H', aE X pins σ H' s' /\ aZ v u /\ Q v H'
def TP (X : Cx) (pins : List (Addr × Obj)) (σ : St) (Q : Bool -> Hp -> Prop) (b : Bool) (s' : Shared) : Prop := ∃ H', aE X pins σ H' s' /\ Q b H'
def AP (X : Cx) (pins : List (Addr × Obj)) (σ : St) (Q : List V -> Hp -> Prop) (us : List Value) (s' : Shared) : Prop := ∃ vs H', aE X pins σ H' s' /\ aR vs us /\ Q vs H'
def SP (X : Cx) (pins : List (Addr × Obj)) (D : sj) (f : Flow) (s' : Shared) : Prop :=
 match f with
 | .next => ∃ σ' H', aE X pins σ' H' s' /\ D.nx σ' H'
 | .brk => ∃ σ' H', aE X pins σ' H' s' /\ D.bk σ' H'
 | .cont => ∃ σ' H', aE X pins σ' H' s' /\ D.ct σ' H'
 | .ret u => ∃ v σ' H', aE X pins σ' H' s' /\ aZ v u /\ D.rt v H'
def PE (X : Cx) (e : Expr) (t : TE) : Prop :=
 ∀ (pins : List (Addr × Obj)) (s : Shared) (σ : St) (H : Hp) (Q : VK), aE X pins σ H s -> t σ H Q -> wpAny (model X.prog X.w) X.A (eval e X.env) (EP X pins σ Q) X.xe s
def PT (X : Cx) (e : Expr) (t : TT) : Prop :=
 ∀ (pins : List (Addr × Obj)) (s : Shared) (σ : St) (H : Hp) (Q : Bool -> Hp -> Prop), aE X pins σ H s -> t σ H Q -> wpAny (model X.prog X.w) X.A (isTrue e X.env (eval e X.env)) (TP X pins σ Q) X.xe s
def PW (X : Cx) (e : Expr) (t : TT) : Prop :=
 ∀ (whole : Sem Value) (pins : List (Addr × Obj)) (s : Shared) (σ : St) (H : Hp) (Q : Bool -> Hp -> Prop), aE X pins σ H s -> t σ H Q -> wpAny (model X.prog X.w) X.A (isTrue e X.env whole) (TP X pins σ Q) X.xe s
theorem PW.pt {X : Cx} {e : Expr} {t : TT} (h : PW X e t) : PT X e t := h _
def PA (X : Cx) (es : List Expr) (t : TA) : Prop :=
 ∀ (pos : Pos) (pins : List (Addr × Obj)) (s : Shared) (σ : St) (H : Hp) (Q : List V -> Hp -> Prop), aE X pins σ H s -> t σ H Q -> wpAny (model X.prog X.w) X.A (spliced (backTo pos (starEach es X.env))) (AP X pins σ Q) X.xe s
def PS (X : Cx) (st : Stmt) (t : TS) : Prop :=
 ∀ (pins : List (Addr × Obj)) (s : Shared) (σ : St) (H : Hp) (D : sj), aE X pins σ H s -> t D σ H -> wpAny (model X.prog X.w) X.A (exec st X.env) (SP X pins D) X.xe s
def uh (X : Cx) (st : List Stmt) (t : TS) : Prop :=
 ∀ (pins : List (Addr × Obj)) (s : Shared) (σ : St) (H : Hp) (D : sj), aE X pins σ H s -> t D σ H -> wpAny (model X.prog X.w) X.A (execs st X.env) (SP X pins D) X.xe s
theorem bS {α : Type} {t : Sem α} {Q Q' : α -> Shared -> Prop} {M : Model} {A : Around} {E : Value -> Shared -> Prop} {s : Shared} (h : wpAny M A t Q E s) (hQ : ∀ a s, Q a s -> Q' a s) : wpAny M A t Q' E s := wpAny_mono h hQ fun _ _ x => x
end L2
namespace L2
open PySem PySem.Spec PyProof.Rows
section
variable {X : Cx}
theorem D4 {a b : Expr} {ta tb : TE} (ha : PE X a ta) (hb : PE X b tb) {pins : List (Addr × Obj)} {s : Shared} {σ : St} {H : Hp} {R : V -> V -> Hp -> Prop} (I : aE X pins σ H s) (h : ta σ H fun x H1 => tb σ H1 fun y H2 => R x y H2)
 {α : Type} {Q : α -> Shared -> Prop} {f : Value -> Value -> Sem α}
 (hf : ∀ v u s2 x y H2, aE X pins σ H2 s2 -> aZ x v -> aZ y u -> R x y H2 -> wpAny (model X.prog X.w) X.A (f v u) Q X.xe s2) :
 wpAny (model X.prog X.w) X.A (eval a X.env) (fun v s₁ => wpAny (model X.prog X.w) X.A (eval b X.env) (fun u s₂ => wpAny (model X.prog X.w) X.A (f v u) Q X.xe s₂) X.xe s₁) X.xe s := by
 refine bS (ha pins s σ H _ I h) fun v s1 ⟨x, H1, I1, r1, q1⟩ => ?_
 refine bS (hb pins s1 σ H1 _ I1 q1) fun u s2 ⟨y, H2, I2, r2, q2⟩ => ?_
 exact hf v u s2 x y H2 I2 r1 r2 q2
def sG (i : Nat) : TE := fun σ H Q => ∃ v, σ[i]? = some (some v) /\ Q v H
def tC (v : V) : TE := fun _ H Q => Q v H
theorem yF {i : Nat} {x : Str} {pos : Pos} (hN : X.N[i]? = some x) (hv : BX X.env.scope x) (hd : (x == ("__debug__" : Str)) = false := by decide) (hcd : (x == ("__classdict__" : Str)) = false := by decide) : PE X (.Name x pos) (sG i) := by
 intro pins s σ H Q I h
 obtain ⟨v, e, h⟩ := h
 obtain ⟨m, hn, hl⟩ := I.loc
 obtain ⟨u, r, l⟩ := hl i x v hN e hv
 have fin : EP X pins σ Q u s := ⟨v, H, I, r, h⟩
 rcases l with ⟨hk, hm⟩ | ⟨hk, c, hc, hcell⟩
 ·exact wpAny_Name (wpAny_loadName_local I.ok.kind hk hn hm fin) hd
 ·rcases hk with hk | hk
  ·exact wpAny_Name (wpAny_loadName_cell I.ok.kind hk hc hcell fin) hd
  ·exact wpAny_Name (wpAny_loadName_free I.ok.kind hk hc hcell fin hcd) hd
theorem aj {i j pos} : PE X (.Constant (.int i) j pos) (tC (.int i)) := fun _ _ _ H _ I h => wpAny_Constant_int ⟨.int i, H, I.tok _, ⟨_, rfl⟩, h⟩
theorem AR {b j pos} : PE X (.Constant (.bool b) j pos) (tC (.bl b)) := fun _ _ _ H _ I h => Constant_bool ⟨.bl b, H, I, rfl, h⟩
theorem hX {j pos} : PE X (.Constant .none j pos) (tC .non) := fun _ _ _ H _ I h => Constant_none ⟨.non, H, I, rfl, h⟩
theorem fY {x j pos} : PE X (.Constant (.str x) j pos) (tC (.str x)) := fun _ _ _ H _ I h => Calls.Constant_str ⟨.str x, H, I.tok _, ⟨_, rfl⟩, h⟩
def Gl (X : Cx) (x : Str) : Prop := X.env.kindOf x = some .globalImplicit
theorem jT {E : Value -> Shared -> Prop} {pins : List (Addr × Obj)} {s : Shared} {σ : St} {H : Hp} {x : Str} {u : Value} {pos : Pos} {Q : Value -> Shared -> Prop} (I : aE X pins σ H s) (hg : Gl X x) (hm : X.mg x = some u) (h : Q u s)
 (hd : (x == ("__debug__" : Str)) = false := by decide) : wpAny (model X.prog X.w) X.A (eval (.Name x pos) X.env) Q E s :=
 Calls.Name_function_global I.ok.kind hg (Calls.loadGlobal_global (by rw [I.ok.glob]; exact I.mod.glob.keeps I.bk) hm h) hd
theorem jB {E : Value -> Shared -> Prop} {pins : List (Addr × Obj)} {s : Shared} {σ : St} {H : Hp} {x : Str} {u : Value} {pos : Pos} {Q : Value -> Shared -> Prop} (I : aE X pins σ H s) (hg : Gl X x) (hm : X.mg x = none) (hv : bootBuiltins x = some u) (h : Q u s)
 (hn : x ≠ "__name__" := by decide) (hd : (x == ("__debug__" : Str)) = false := by decide) : wpAny (model X.prog X.w) X.A (eval (.Name x pos) X.env) Q E s := by
 obtain ⟨mb, h1, h2⟩ := I.mod.blt
 exact Calls.Name_function_global I.ok.kind hg (Calls.loadGlobal_builtin (by rw [I.ok.glob]; exact I.mod.glob.keeps I.bk) hm (by rw [I.ok.blt]; exact h1.keeps I.bk) ((h2 x hn).trans hv) h) hd
theorem rp {x : Str} {v : V} {u : Value} {pos : Pos} (hg : Gl X x) (hm : X.mg x = some u) (r : aZ v u) (hd : (x == ("__debug__" : Str)) = false := by decide) : PE X (.Name x pos) (tC v) :=
 fun _ _ _ H _ I h => jT I hg hm ⟨v, H, I, r, h⟩ hd
variable {a b : Expr} {ta tb : TE} {pos : Pos}
def PC (X : Cx) (op : CmpOp) (a b : Expr) (t : TE) : Prop :=
 ∀ (pins : List (Addr × Obj)) (s : Shared) (σ : St) (H : Hp) (Q : VK), aE X pins σ H s -> t σ H Q ->
  wpAny (model X.prog X.w) X.A (eval a X.env) (fun v s₁ => wpAny (model X.prog X.w) X.A (eval b X.env) (fun u s₂ => wpAny (model X.prog X.w) X.A (compareOp op v u) (EP X pins σ Q) X.xe s₂) X.xe s₁) X.xe s
def tB (t : TE) : TT := fun σ H Q => t σ H fun x H1 => ∃ c, x = .bl c /\ Q c H1
theorem uI {op : CmpOp} {t : TE} (h : PC X op a b t) (h1 : behindInMarks op b = false := by first | exact nobehind _ (by decide) (by decide) | rfl) : PT X (.Compare a [op] [b] pos) (tB t) := by
 intro pins s σ H Q I hw
 refine wpAny_isTrue_Compare1 (bS (h pins s σ H _ I hw) fun v s1 h1 => bS h1 fun u s2 h2 => bS h2 fun c s3 ⟨x, H1, I1, r1, q1⟩ => ?_) h1
 obtain ⟨d, rfl, q⟩ := q1
 cases r1
 exact wpAny_truthy_bool ⟨H1, I1, q⟩
theorem cN {e : Expr} {t : TE} (h : PE X e t) (he : ∀ whole, isTrue e X.env whole = (do let v <- whole; standAt e.pos; holding [v] (truthy v)) := by intro _; rfl) : PT X e (tB t) := by
 intro pins s σ H Q I hw
 refine isTrue_plain (bS (h pins s σ H _ I hw) fun v s1 ⟨x, H1, I1, r1, q1⟩ => ?_) (he _)
 obtain ⟨d, rfl, q⟩ := q1
 cases r1
 exact wpAny_truthy_bool ⟨H1, I1, q⟩
variable {tA tB' : TT} {rest : List Expr}
def Dg (t u : TT) : TT := fun σ H Q => t σ H fun c H1 => if c = true then u σ H1 Q else Q false H1
def DY (t u : TT) : TT := fun σ H Q => t σ H fun c H1 => if c = true then Q true H1 else u σ H1 Q
def C9 (t : TT) : TT := fun σ H Q => t σ H fun c H1 => Q (!c) H1
theorem jS (ha : PT X a tA) : PW X (.BoolOp .And [a] pos) tA := by
 intro wh pins s σ H Q I h
 refine isTrue_and (bS (ha pins s σ H Q I h) fun c s1 e => ?_)
 cases c with
 | true => exact isTrue_and_nil e
 | false => exact e
theorem yB (ha : PT X a tA) : PW X (.BoolOp .Or [a] pos) tA := by
 intro wh pins s σ H Q I h
 refine isTrue_or (bS (ha pins s σ H Q I h) fun c s1 e => ?_)
 cases c with
 | false => exact isTrue_or_nil e
 | true => exact e
theorem lV (ha : PT X a tA) (hb : PW X (.BoolOp .And (b :: rest) pos) tB') : PW X (.BoolOp .And (a :: b :: rest) pos) (Dg tA tB') := by
 intro wh pins s σ H Q I h
 refine isTrue_and (bS (ha pins s σ H _ I h) fun c s1 ⟨H1, I1, q1⟩ => ?_)
 cases c with
 | true => exact hb wh pins s1 σ H1 Q I1 q1
 | false => exact ⟨H1, I1, q1⟩
theorem AN (ha : PT X a tA) (hb : PW X (.BoolOp .Or (b :: rest) pos) tB') : PW X (.BoolOp .Or (a :: b :: rest) pos) (DY tA tB') := by
 intro wh pins s σ H Q I h
 refine isTrue_or (bS (ha pins s σ H _ I h) fun c s1 ⟨H1, I1, q1⟩ => ?_)
 cases c with
 | true => exact ⟨H1, I1, q1⟩
 | false => exact hb wh pins s1 σ H1 Q I1 q1
theorem hU (ha : PT X a tA) : PT X (.UnaryOp .Not a pos) (C9 tA) := by
 intro pins s σ H Q I h
 exact isTrue_not (ha pins s σ H (fun c H1 => Q (!c) H1) I h)
def Ce (ta tb : TE) : TE := fun σ H Q => ta σ H fun x H1 => ∃ c, x = .bl c /\ if c = true then tb σ H1 Q else Q (.bl false) H1
theorem uM {op} {t : TE} (h : PE X a t) : PE X (.BoolOp op [a] pos) t := fun pins s σ H Q I hw => BoolOp_one (h pins s σ H Q I hw)
theorem rq (ha : PE X a ta) (hb : PE X (.BoolOp .And (b :: rest) pos) tb) : PE X (.BoolOp .And (a :: b :: rest) pos) (Ce ta tb) := by
 intro pins s σ H Q I h
 refine BoolOp_and (bS (ha pins s σ H _ I h) fun v s1 ⟨x, H1, I1, r1, q1⟩ => ?_)
 obtain ⟨c, rfl, q1⟩ := q1
 cases r1
 refine wpAny_truthy_bool ?_
 cases c with
 | true => exact hb pins s1 σ H1 Q I1 q1
 | false => exact ⟨.bl false, H1, I1, rfl, q1⟩
def DR (t : TT) (ta tb : TE) : TE := fun σ H Q => t σ H fun c H1 => if c = true then ta σ H1 Q else tb σ H1 Q
theorem jt {c : Expr} (hc : PT X c tA) (ha : PE X a ta) (hb : PE X b tb) : PE X (.IfExp c a b pos) (DR tA ta tb) := by
 intro pins s σ H Q I h
 refine wpAny_IfExp (bS (hc pins s σ H _ I h) fun d s1 ⟨H1, I1, q1⟩ => ?_)
 cases d with
 | true => exact ha pins s1 σ H1 Q I1 q1
 | false => exact hb pins s1 σ H1 Q I1 q1
end
end L2
namespace L2
open PySem PySem.Spec PyProof.Rows
def bj (K : W.Frag) (H : Hp) (a : Addr) (xs : List V) : Prop :=
 Rd H a (.lst xs) \/
  ∃ (o : Obj) (its : Array Value) (n : Nat), K.lookup a = some o /\ o.cls = .type "list" /\ o.dict = none /\ o.data = .seq its n /\ its.size <= sizeLine /\ aR xs its.toList
def fV (K : W.Frag) (H : Hp) (a : Addr) (xs : List V) : Prop :=
 Rd H a (.tup xs) \/
  ∃ (o : Obj) (its : Array Value) (n : Nat), K.lookup a = some o /\ o.cls = .type "tuple" /\ o.data = .seq its n /\ its.size <= sizeLine /\ aR xs its.toList
def DL : Value -> Option V
 | .none => some .non
 | .bool b => some (.bl b)
 | .int i _ => some (.int i)
 | .str x _ => some (.str x)
 | .bytes b _ => some (.byt b)
 | .float b _ => some (.flt b)
 | .ref a => some (.ref a)
 | .type n => some (.ty n)
 | _ => none
theorem aZ.abs {x : V} {u : Value} (r : aZ x u) : DL u = some x := by
 cases x with
 | non => cases r; rfl
 | bl _ => cases r; rfl
 | int _ => obtain ⟨t, rfl⟩ := r; rfl
 | str _ => obtain ⟨t, rfl⟩ := r; rfl
 | byt _ => obtain ⟨t, rfl⟩ := r; rfl
 | flt _ => obtain ⟨t, rfl⟩ := r; rfl
 | ref _ => cases r; rfl
 | ty _ => cases r; rfl
theorem aZ.inj {x y : V} {u : Value} (r : aZ x u) (q : aZ y u) : x = y := Option.some.inj (r.abs.symm.trans q.abs)
theorem aR.inj : ∀ {xs ys : List V} {us : List Value}, aR xs us -> aR ys us -> xs = ys
 | _, _, _, .nil, .nil => rfl
 | _, _, _, .cons r t, .cons r' t' => by rw [r.inj r', aR.inj t t']
section
variable {X : Cx} {pins : List (Addr × Obj)} {σ : St} {H : Hp} {s : Shared} {a : Addr} {xs ys : List V}
theorem bj.of {K : W.Frag} (h : H a = some (.lst xs)) : bj K H a xs := .inl (.inl h)
theorem aE.list (I : aE X pins σ H s) (h : bj X.K H a xs) : ∃ its : List Value, aR xs its /\ PlainL s.heap a its.toArray /\ xs.length <= sizeLine := by
 rcases h with h | ⟨o, its, n, hk, hc, hd, hs, hz, r⟩
 ·obtain ⟨z, its, n, r, e⟩ := h.ok I.hok
  exact ⟨its, r, ⟨_, n, e, rfl, rfl, rfl⟩, z⟩
 ·refine ⟨its.toList, r, ⟨o, n, I.kIn a o hk, hc, hd, by simpa using hs⟩, ?_⟩
  have e := r.length
  simp only [Array.length_toList] at e
  omega
theorem aE.tuple (I : aE X pins σ H s) (h : fV X.K H a xs) : ∃ its : List Value, aR xs its /\ IsTup s.heap a its.toArray /\ xs.length <= sizeLine := by
 rcases h with h | ⟨o, its, n, hk, hc, hs, hz, r⟩
 ·obtain ⟨z, its, r, p⟩ := h.ok I.hok
  exact ⟨its, r, p, z⟩
 ·refine ⟨its.toList, r, ⟨o, I.kIn a o hk, hc, n, by simpa using hs⟩, ?_⟩
  have e := r.length
  simp only [Array.length_toList] at e
  omega
theorem aE.list_inj (I : aE X pins σ H s) (h : bj X.K H a xs) (h' : bj X.K H a ys) : xs = ys := by
 obtain ⟨its, r, ⟨o, n, e, _, _, d⟩, _⟩ := I.list h
 obtain ⟨its', r', ⟨o', n', e', _, _, d'⟩, _⟩ := I.list h'
 rw [e] at e'; cases e'
 rw [d] at d'
 injection d' with d1 _
 have : its = its' := by simpa using congrArg Array.toList d1
 subst this
 exact r.inj r'
theorem aE.tuple_inj (I : aE X pins σ H s) (h : fV X.K H a xs) (h' : fV X.K H a ys) : xs = ys := by
 obtain ⟨its, r, ⟨o, e, _, n, d⟩, _⟩ := I.tuple h
 obtain ⟨its', r', ⟨o', e', _, n', d'⟩, _⟩ := I.tuple h'
 rw [e] at e'; cases e'
 rw [d] at d'
 injection d' with d1 _
 have : its = its' := by simpa using congrArg Array.toList d1
 subst this
 exact r.inj r'
end
abbrev Cx.wish (X : Cx) (E : Value -> Shared -> Prop) : Cx := { X with xe := E }
abbrev Cx.nox (X : Cx) : Cx := X.wish fun _ _ => False
theorem Cx.Ok.wish {X : Cx} (ok : X.Ok) (E : Value -> Shared -> Prop) : (X.wish E).Ok :=
 ⟨ok.mod, ok.kind, ok.glob, ok.blt, ok.above, ok.inj, ok.has, ok.cab, ok.hd, ok.frames, ok.stk, ok.exf, ok.bs, ok.bsz, ok.noex, ok.exfs, ok.funs, ok.frf⟩
theorem Cx.Ok.unwish {X : Cx} {E : Value -> Shared -> Prop} (ok : (X.wish E).Ok) : X.Ok :=
 ⟨ok.mod, ok.kind, ok.glob, ok.blt, ok.above, ok.inj, ok.has, ok.cab, ok.hd, ok.frames, ok.stk, ok.exf, ok.bs, ok.bsz, ok.noex, ok.exfs, ok.funs, ok.frf⟩
section
variable {X : Cx} {pins : List (Addr × Obj)} {σ : St} {H : Hp} {s : Shared} {E : Value -> Shared -> Prop}
theorem aE.wish (I : aE X pins σ H s) (E : Value -> Shared -> Prop) : aE (X.wish E) pins σ H s := ⟨I.ok.wish E, I.os, I.bare, I.base, I.loc, I.cell, I.free, I.freeC, I.pin, I.hok, I.len⟩
theorem aE.unwish (I : aE (X.wish E) pins σ H s) : aE X pins σ H s := ⟨I.ok.unwish, I.os, I.bare, I.base, I.loc, I.cell, I.free, I.freeC, I.pin, I.hok, I.len⟩
theorem SP.unwish {D : sj} {f : Flow} {s' : Shared} (h : SP (X.wish E) pins D f s') : SP X pins D f s' := by
 cases f with
 | next => obtain ⟨σ', H', I, q⟩ := h; exact ⟨σ', H', I.unwish, q⟩
 | brk => obtain ⟨σ', H', I, q⟩ := h; exact ⟨σ', H', I.unwish, q⟩
 | cont => obtain ⟨σ', H', I, q⟩ := h; exact ⟨σ', H', I.unwish, q⟩
 | ret u => obtain ⟨v, σ', H', I, r, q⟩ := h; exact ⟨v, σ', H', I.unwish, r, q⟩
theorem uh.nox {st : List Stmt} {t : TS} (h : uh X.nox st t) : uh X st t := fun pins s σ H D I hw =>
 wpAny_mono (h pins s σ H D (I.wish _) hw) (fun _ _ q => q.unwish) fun _ _ z => False.elim z
end
section
variable {X : Cx} {st : Stmt} {rest : List Stmt} {t u : TS} {e : Expr} {te : TE} {pos : Pos}
def tNext : TS := fun D σ H => D.nx σ H
def Bc (t u : TS) : TS := fun D σ H => t { D with nx := u D } σ H
theorem aM : uh X [] tNext := fun _ _ σ H _ I h => wpAny_execs_nil ⟨σ, H, I, h⟩
theorem ac (h1 : PS X st t) (h2 : uh X rest u) : uh X (st :: rest) (Bc t u) := by
 intro pins s σ H D I h
 refine wpAny_execs_cons (bS (h1 pins s σ H { D with nx := u D } I h) fun f s1 q => ?_)
 cases f with
 | next =>
   obtain ⟨σ', H', I', q⟩ := q
   exact h2 pins s1 σ' H' D I' q
 | ret v => exact q
 | brk => exact q
 | cont => exact q
theorem ah (h1 : PS X st t) : uh X [st] t := by
 intro pins s σ H D I h
 refine wpAny_execs_cons (bS (h1 pins s σ H D I h) fun f s1 q => ?_)
 cases f with
 | next => exact wpAny_execs_nil q
 | ret v => exact q
 | brk => exact q
 | cont => exact q
theorem aE.quiet {pins : List (Addr × Obj)} {σ : St} {H : Hp} {s : Shared} (I : aE X pins σ H s) : interactive X.env = false := by simp [interactive, I.ok.kind]
def Ca (te : TE) : TS := fun D σ H => te σ H fun _ H1 => D.nx σ H1
theorem d7 (he : PE X e te) (hs : swapsWith e none pos.line X.env = pure false := by rfl) : PS X (.Expr e pos) (Ca te) := by
 intro pins s σ H D I h
 exact wpAny_Expr_any (bS (he pins s σ H _ I h) fun v s1 ⟨x, H1, I1, r1, q1⟩ => ⟨σ, H1, I1, q1⟩) I.quiet hs
def B7 (te : TE) : TS := fun D σ H => te σ H D.rt
theorem aq (he : PE X e te) : PS X (.Return (some e) pos) (B7 te) := by
 intro pins s σ H D I h
 exact wpAny_Return_some (bS (he pins s σ H _ I h) fun v s1 ⟨x, H1, I1, r1, q1⟩ => ⟨x, σ, H1, I1, r1, q1⟩)
def Dc (c : TT) (t u : TS) : TS := fun D σ H => c σ H fun b H1 => if b = true then t D σ H1 else u D σ H1
theorem bf {c : Expr} {a b : List Stmt} {tc : TT} (hc : PT X c tc) (ha : uh X a t) (hb : uh X b u) : PS X (.If c a b pos) (Dc tc t u) := by
 intro pins s σ H D I h
 refine wpAny_If (bS (hc pins s σ H _ I h) fun d s1 ⟨H1, I1, q1⟩ => ?_)
 cases d with
 | true => exact ha pins s1 σ H1 D I1 q1
 | false => exact hb pins s1 σ H1 D I1 q1
end
abbrev TG := V -> St -> Hp -> (St -> Hp -> Prop) -> Prop
abbrev TGs := List V -> St -> Hp -> (St -> Hp -> Prop) -> Prop
def PG (X : Cx) (target : Expr) (t : TG) : Prop :=
 ∀ (pins : List (Addr × Obj)) (s : Shared) (σ : St) (H : Hp) (v : V) (u : Value) (Q : St -> Hp -> Prop), aE X pins σ H s -> aZ v u -> t v σ H Q ->
  wpAny (model X.prog X.w) X.A (assign target X.env u) (fun _ s' => ∃ σ' H', aE X pins σ' H' s' /\ Q σ' H') X.xe s
def C6 (X : Cx) (ts : List Expr) (t : TGs) : Prop :=
 ∀ (pins : List (Addr × Obj)) (s : Shared) (σ : St) (H : Hp) (vs : List V) (us : List Value) (Q : St -> Hp -> Prop), aE X pins σ H s -> aR vs us -> t vs σ H Q ->
  wpAny (model X.prog X.w) X.A (assignInOrder ((assignEach ts X.env).map (·.2)) us) (fun _ s' => ∃ σ' H', aE X pins σ' H' s' /\ Q σ' H') X.xe s
abbrev TSet := V -> V -> V -> Hp -> (Hp -> Prop) -> Prop
def BY (X : Cx) (t : TSet) : Prop :=
 ∀ (pins : List (Addr × Obj)) (s : Shared) (σ : St) (H : Hp) (o i v : V) (ov iv u : Value) (Q : Hp -> Prop), aE X pins σ H s -> aZ o ov -> aZ i iv -> aZ v u -> t o i v H Q ->
  wpAny (model X.prog X.w) X.A (setItem ov iv u) (fun _ s' => ∃ H', aE X pins σ H' s' /\ Q H') X.xe s
abbrev TIp := V -> V -> Hp -> VK -> Prop
def DT (X : Cx) (op : Operator) (t : TIp) : Prop :=
 ∀ (pins : List (Addr × Obj)) (s : Shared) (σ : St) (H : Hp) (x y : V) (v u : Value) (Q : VK), aE X pins σ H s -> aZ x v -> aZ y u -> t x y H Q ->
  wpAny (model X.prog X.w) X.A (inplaceOp op v u) (EP X pins σ Q) X.xe s
section
variable {X : Cx} {pos : Pos}
def jF (i : Nat) : TG := fun v σ H Q => Q (σ.set i (some v)) H
theorem aK {i : Nat} {x : Str} (hN : X.N.Nodup) (hi : X.N[i]? = some x) (hx : CJ X.env.scope x) (hf : X.fn x = true \/ X.env.scope.names.lookup x = some .local := by first | exact .inl rfl | exact .inr rfl | assumption) : PG X (.Name x pos) (jF i) := by
 intro pins s σ H v u Q I r h
 exact wpAny_assign_Name (kK I hN hi hx r (fun s' I' => ⟨_, H, I', h⟩) hf)
def gNil : TGs := fun vs σ H Q => vs = [] /\ Q σ H
def tN (t : TG) (u : TGs) : TGs := fun vs σ H Q => ∃ v r, vs = v :: r /\ t v σ H fun σ' H' => u r σ' H' Q
theorem nJ : C6 X [] gNil := by
 intro pins s σ H vs us Q I r h
 obtain ⟨e, h⟩ := h
 subst e
 cases r
 exact assignInOrder_nil ⟨σ, H, I, h⟩
theorem fQ {e : Expr} {es : List Expr} {t : TG} {u : TGs} (h1 : PG X e t) (h2 : C6 X es u)
 (hs : (assignEach (e :: es) X.env).map (·.2) = assign e X.env :: (assignEach es X.env).map (·.2) := by rfl) : C6 X (e :: es) (tN t u) := by
 intro pins s σ H vs us Q I r h
 obtain ⟨v, vr, e1, h⟩ := h
 subst e1
 cases r with
 | cons r rr =>
   rw [hs]
   refine assignInOrder_cons (bS (h1 pins s σ H _ _ _ I r h) fun _ s1 ⟨σ1, H1, I1, q1⟩ => ?_)
   exact h2 pins s1 σ1 H1 _ _ Q I1 rr q1
def Bz (K : W.Frag) (n : Nat) (t : TGs) : TG := fun v σ H Q => ∃ a xs, v = .ref a /\ fV K H a xs /\ xs.length = n /\ t xs σ H Q
theorem rj {es : List Expr} {k : Nat} {t : TGs} {n : Nat} (hc : X.calm = true) (h : C6 X es t)
 (hn : (assignEach es X.env).length = n := by rfl) (hst : (assignEach es X.env).findIdx? (·.1) = none := by rfl) : PG X (.Tuple es k pos) (Bz X.K n t) := by
 intro pins s σ H v u Q I r hw
 obtain ⟨a, xs, e1, hq, hl, hw⟩ := hw
 subst e1
 cases r
 obtain ⟨its, rv, ht, hz⟩ := I.tuple hq
 refine assign_Tuple_tuple (I.ok.hd hc) ht (by simp [hn, <- hl, rv.length]) hst fun h' hx => ?_
 have I1 : aE X pins σ H { s with heap := h' } := I.kept (t' := s.toks) fun b o e => hx b o (Nat.ne_of_lt (Heap.lt_size e)) e
 exact h pins _ σ H xs _ Q I1 (by simpa using rv) hw
def DC (to ti : TE) (t : TSet) : TG := fun v σ H Q => to σ H fun o H1 => ti σ H1 fun i H2 => t o i v H2 fun H3 => Q σ H3
theorem oH {o i : Expr} {to ti : TE} {t : TSet} (ho : PE X o to) (hi : PE X i ti) (hs : BY X t)
 (ha : ∀ v, assign (.Subscript o i pos) X.env v = (do
  let ov <- holding [v] (eval o X.env)
  let iv <- holding [v, ov] (eval i X.env)
  standAt pos
  holding [v, ov, iv] (setItem ov iv v)
  release [v, ov, iv] []) := by intro _; rfl) : PG X (.Subscript o i pos) (DC to ti t) := by
 intro pins s σ H v u Q I r h
 rw [ha]
 refine wpAny_bind (wpAny_holding (bS (ho pins s σ H _ I h) fun ov s1 ⟨x, H1, I1, r1, q1⟩ => ?_))
 refine wpAny_bind (wpAny_holding (bS (hi pins s1 σ H1 _ I1 q1) fun iv s2 ⟨y, H2, I2, r2, q2⟩ => ?_))
 refine wpAny_bind (wpAny_standAt (wpAny_bind (wpAny_holding (bS (hs pins s2 σ H2 x y v ov iv u _ I2 r1 r2 r q2) fun _ s3 ⟨H3, I3, q3⟩ => ?_))))
 exact wpAny_release ⟨σ, H3, I3, q3⟩
def yd (te : TE) (g : TG) : TS := fun D σ H => te σ H fun x H1 => g x σ H1 D.nx
theorem oC {tg e : Expr} {te : TE} {g : TG} (he : PE X e te) (hg : PG X tg g) (hs : swapsWithSole [tg] e pos.line X.env = pure false := by rfl) (hw : swappedStores [tg] e X.env = pure none := by rfl)
 (h1 : (assignEach [tg] X.env).map (·.2) = [assign tg X.env] := by rfl) : PS X (.Assign [tg] e pos) (yd te g) := by
 intro pins s σ H D I h
 refine wpAny_Assign_stores (bS (he pins s σ H _ I h) fun v s1 ⟨x, H1, I1, r1, q1⟩ => ?_) hs hw
 rw [h1]
 exact bS (hg pins s1 σ H1 x v _ I1 r1 q1) fun _ s2 q => q
theorem az {i : Nat} {x : Str} {e : Expr} {te : TE} {pos' : Pos} (hN : X.N.Nodup) (hi : X.N[i]? = some x) (hx : CJ X.env.scope x) (he : PE X e te) (hs : swapsWith e (some (.Name x pos')) pos.line X.env = pure false := by rfl) (hf : X.fn x = true \/ X.env.scope.names.lookup x = some .local := by first | exact .inl rfl | exact .inr rfl | assumption) :
 PS X (.Assign [.Name x pos'] e pos) (yd te (jF i)) := by
 intro pins s σ H D I h
 refine wpAny_Assign_Name (bS (he pins s σ H _ I h) fun v s1 ⟨y, H1, I1, r1, q1⟩ => ?_) hs
 exact kK I1 hN hi hx r1 (fun s2 I2 => ⟨_, H1, I2, q1⟩) hf
def Df (i : Nat) (te : TE) (ti : TIp) : TS := fun D σ H => ∃ x, σ[i]? = some (some x) /\ te σ H fun y H1 => ti x y H1 fun z H2 => D.nx (σ.set i (some z)) H2
theorem lW {i : Nat} {x : Str} {e : Expr} {te : TE} {op : Operator} {ti : TIp} {pos' : Pos} (hN : X.N.Nodup) (hi : X.N[i]? = some x) (hx : CJ X.env.scope x) (he : PE X e te) (ho : DT X op ti) (hf : X.fn x = true \/ X.env.scope.names.lookup x = some .local := by first | exact .inl rfl | exact .inr rfl | assumption) :
 PS X (.AugAssign (.Name x pos') op e pos) (Df i te ti) := by
 intro pins s σ H D I h
 obtain ⟨v, e1, h⟩ := h
 obtain ⟨m, hn, hl⟩ := I.loc
 have vis : BX X.env.scope x := by rcases hx with k | k; exact .inl k; exact .inr (.inl k)
 obtain ⟨u, r, l⟩ := hl i x v hi e1 vis
 refine wpAny_AugAssign_Name ?_
 have go : wpAny (model X.prog X.w) X.A (eval e X.env) (fun w s₂ => wpAny (model X.prog X.w) X.A (inplaceOp op u w) (fun r s₃ => wpAny (model X.prog X.w) X.A (storeName X.env x r) (fun _ => SP X pins D .next) X.xe s₃) X.xe s₂) X.xe s := by
  refine bS (he pins s σ H _ I h) fun w s1 ⟨y, H1, I1, r1, q1⟩ => ?_
  refine bS (ho pins s1 σ H1 v y u w _ I1 r r1 q1) fun z s2 ⟨zv, H2, I2, r2, q2⟩ => ?_
  exact kK I2 hN hi hx r2 (fun s3 I3 => ⟨_, H2, I3, q2⟩) hf
 rcases l with ⟨hk, hm⟩ | ⟨hk, c, hc, hcell⟩
 ·exact wpAny_loadName_local I.ok.kind hk hn hm go
 ·rcases hk with hk | hk
  ·exact wpAny_loadName_cell I.ok.kind hk hc hcell go
  ·rcases hx with k | k
   ·have : X.env.scope.names.lookup x = some .free := hk
    rw [k] at this; cases this
   ·have : X.env.scope.names.lookup x = some .free := hk
    rw [k] at this; cases this
def Cd (to ti te : TE) (tget : V -> V -> Hp -> VK -> Prop) (tip : TIp) (tset : TSet) : TS := fun D σ H => to σ H fun o H1 => ti σ H1 fun i H2 => tget o i H2 fun x H3 => te σ H3 fun y H4 => tip x y H4 fun z H5 => tset o i z H5 fun H6 => D.nx σ H6
def CD (X : Cx) (t : V -> V -> Hp -> VK -> Prop) : Prop :=
 ∀ (pins : List (Addr × Obj)) (s : Shared) (σ : St) (H : Hp) (o i : V) (ov iv : Value) (Q : VK), aE X pins σ H s -> aZ o ov -> aZ i iv -> t o i H Q ->
  wpAny (model X.prog X.w) X.A (getItem ov iv) (EP X pins σ Q) X.xe s
theorem vW {o i e : Expr} {to ti te : TE} {tget : V -> V -> Hp -> VK -> Prop} {tip : TIp} {tset : TSet} {op : Operator} {tpos : Pos} (ho : PE X o to) (hi : PE X i ti) (hg : CD X tget) (he : PE X e te) (hp : DT X op tip) (hs : BY X tset)
 (ha : ∀ ov iv new, augStore i ov iv new = (do holding [new, ov, iv] (setItem ov iv new); release [new, ov, iv] []; pure .next) := by intros; rfl) : PS X (.AugAssign (.Subscript o i tpos) op e pos) (Cd to ti te tget tip tset) := by
 intro pins s σ H D I h
 refine wpAny_AugAssign_SubscriptAny (bS (ho pins s σ H _ I h) fun ov s1 ⟨x1, H1, I1, r1, q1⟩ => ?_) ha
 refine bS (hi pins s1 σ H1 _ I1 q1) fun iv s2 ⟨x2, H2, I2, r2, q2⟩ => ?_
 refine bS (hg pins s2 σ H2 x1 x2 ov iv _ I2 r1 r2 q2) fun old s3 ⟨x3, H3, I3, r3, q3⟩ => ?_
 refine bS (he pins s3 σ H3 _ I3 q3) fun v s4 ⟨x4, H4, I4, r4, q4⟩ => ?_
 refine bS (hp pins s4 σ H4 x3 x4 old v _ I4 r3 r4 q4) fun new s5 ⟨x5, H5, I5, r5, q5⟩ => ?_
 exact bS (hs pins s5 σ H5 x1 x2 x5 ov iv new _ I5 r1 r2 r5 q5) fun _ s6 ⟨H6, I6, q6⟩ => ⟨σ, H6, I6, q6⟩
end
section
variable {X : Cx} {pos : Pos}
def Bb (c : TT) (tb : TS) : TS := fun D σ H => ∃ W : Nat -> St -> Hp -> Prop, (∃ m, W m σ H) /\ ∀ m σ H, W m σ H ->
 c σ H fun b H1 => if b = true then ∃ N : St -> Hp -> Prop, (∀ σ' H', N σ' H' -> ∃ m', m' < m /\ W m' σ' H') /\ tb { D with nx := N, ct := N, bk := D.nx } σ H1 else D.nx σ H1
theorem jr {c : Expr} {body : List Stmt} {tc : TT} {tb : TS} (hp : PassesOwn (model X.prog X.w) X.A X.env X.xe) (hc : PT X c tc) (hb : uh X body tb) : PS X (.While c body [] pos) (Bb tc tb) := by
 intro pins s σ H D I h
 obtain ⟨W, ⟨m0, w0⟩, turn⟩ := h
 refine wpAny_While (codeAny_whileLoop (fun n s' => ∃ σ' H', aE X pins σ' H' s' /\ W n σ' H') ?_ m0 ⟨σ, H, I, w0⟩)
 rintro n s1 ⟨σ1, H1, I1, w1⟩
 refine wpAny_passesOwn hp (bS (hc pins s1 σ1 H1 _ I1 (turn n σ1 H1 w1)) fun b s2 ⟨H2, I2, q2⟩ => ?_)
 cases b with
 | true =>
   obtain ⟨N, hN, q2⟩ := q2
   rw [if_pos rfl]
   refine wpAny_passesOwn hp (bS (hb pins s2 σ1 H2 _ I2 q2) fun f s3 q3 => ?_)
   cases f with
   | next =>
     obtain ⟨σ3, H3, I3, n3⟩ := q3
     obtain ⟨m', hm, w3⟩ := hN σ3 H3 n3
     exact ⟨m', hm, σ3, H3, I3, w3⟩
   | cont =>
     obtain ⟨σ3, H3, I3, n3⟩ := q3
     obtain ⟨m', hm, w3⟩ := hN σ3 H3 n3
     exact ⟨m', hm, σ3, H3, I3, w3⟩
   | brk => exact q3
   | ret v => exact q3
 | false =>
   rw [if_neg Bool.false_ne_true]
   exact wpAny_execs_nil ⟨σ1, H2, I2, q2⟩
end
structure It where
 go : Nat -> Hp -> Prop
 yld : Nat -> Hp -> V -> Hp -> Prop
 stop : Nat -> Hp -> Prop
def nA (X : Cx) (pins : List (Addr × Obj)) (H : Hp) (b : Addr) : Prop :=
 H b = none /\ b ≠ X.env.locals /\ b ∉ X.fs /\ (b ∈ X.ex \/ X.s_0.heap.objs.size <= b) /\ (∀ x c, X.env.cells.lookup x = some c -> c ≠ b) /\ ∀ p ∈ X.pn ++ pins, p.1 ≠ b
theorem aE.fpOk {X : Cx} {pins : List (Addr × Obj)} {σ : St} {H H' : Hp} {s : Shared} {b : Addr} (I : aE X pins σ H s) (hb : s.heap.objs.size <= b) (hn : H' b = none) : nA X pins H' b := by
 refine ⟨hn, Nat.ne_of_gt (Nat.lt_of_lt_of_le I.lt hb), I.nofs hb, .inr (Nat.le_trans I.sz hb), fun x c e z => ?_, fun p hp z => ?_⟩
 ·obtain ⟨v, q⟩ := I.cell x c e
  exact absurd (Nat.lt_of_lt_of_le q.lt (by rw [z]; exact hb)) (Nat.lt_irrefl _)
 ·exact absurd (Nat.lt_of_lt_of_le (Heap.lt_size (I.pin p hp).1) (by rw [z]; exact hb)) (Nat.lt_irrefl _)
structure sg (P : Program) (w : World) (K : W.Frag) (tg : Expr) (J : It) (fp : List Addr) (it : Addr) (tn : Nat -> Heap -> Prop) : Prop where
 mem : it ∈ fp
 obj : ∀ i h, tn i h -> ∀ b ∈ fp, ∃ o, h.get? b = some o /\ ∀ v, o.data ≠ .cell v
 keep : ∀ i h h', tn i h -> (∀ b ∈ fp, ∀ o, h.get? b = some o -> h'.get? b = some o) -> tn i h'
 item : ∀ (X : Cx), X.prog = P -> X.w = w -> X.K = K -> X.calm = true -> ∀ (i : Nat) (pins : List (Addr × Obj)) (s : Shared) (σ : St) (H : Hp) (E : Value -> Shared -> Prop), aE X pins σ H s -> (∀ b ∈ fp, nA X pins H b) -> tn i s.heap -> J.go i H ->
  wpAny (model P w) X.A (pyNext (.ref it)) (fun r s1 => ∃ u, r = some u /\
   wpAny (model P w) X.A (letOwnedTupleGo tg (.ref it) u) (fun _ s2 => ∃ x H', aE X pins σ H' s2 /\ aZ x u /\ J.yld i H x H' /\ tn (i + 1) s2.heap /\ ∀ b ∈ fp, H' b = none) E s1) E s
 done : ∀ (X : Cx), X.prog = P -> X.w = w -> X.K = K -> X.calm = true -> ∀ (i : Nat) (pins : List (Addr × Obj)) (s : Shared) (σ : St) (H : Hp) (E : Value -> Shared -> Prop), aE X pins σ H s -> (∀ b ∈ fp, nA X pins H b) -> tn i s.heap -> J.stop i H ->
  wpAny (model P w) X.A (pyNext (.ref it)) (fun r s1 => r = none /\ aE X pins σ H s1) E s
 self : ∀ (A : Around) (i : Nat) (s : Shared) (Q : Value -> Shared -> Prop) (E : Value -> Shared -> Prop), tn i s.heap -> Q (.ref it) s -> wpAny (model P w) A (pyIter (.ref it)) Q E s
abbrev TI := St -> Hp -> (It -> Hp -> Prop) -> Prop
def DN (X : Cx) (pins : List (Addr × Obj)) (σ : St) (tg : Expr) (R : It -> Hp -> Prop) (itv : Value) (s2 : Shared) : Prop :=
 ∃ (it : Addr) (fp : List Addr) (tn : Nat -> Heap -> Prop) (J : It) (H' : Hp), itv = .ref it /\ aE X pins σ H' s2 /\ sg X.prog X.w X.K tg J fp it tn /\ tn 0 s2.heap /\ (∀ b ∈ fp, nA X pins H' b) /\ R J H'
def PI (X : Cx) (tg iter : Expr) (wi : TI) : Prop :=
 ∀ (pins : List (Addr × Obj)) (s : Shared) (σ : St) (H : Hp) (R : It -> Hp -> Prop), aE X pins σ H s -> wi σ H R ->
  wpAny (model X.prog X.w) X.A (eval iter X.env) (fun v s1 => wpAny (model X.prog X.w) X.A (pyIter v) (DN X pins σ tg R) X.xe s1) X.xe s
theorem tL {M : Model} {A : Around} {E : Value -> Shared -> Prop} {s : Shared} {tg : Expr} {it : Addr} {u : Value} {o : Obj} {n : String} {vs : Array Value} {Q : Unit -> Shared -> Prop} (ho : s.heap.get? it = some o) (hc : o.cls = .type n) (hd : o.data = .fields vs)
 (hn : ["enumerate", "zip", "dict_itemiterator", "dict_reverseitemiterator", "odict_iterator", "itertools.zip_longest", "itertools.pairwise"].contains n = false) (hQ : Q () s) : wpAny M A (letOwnedTupleGo tg (.ref it) u) Q E s := by
 unfold letOwnedTupleGo
 cases tg <;> first
  | exact wpAny_pure hQ
  | (cases u <;> first
   | exact wpAny_pure hQ
   | (refine wpAny_bind (wpAny_load ho ?_)
      rw [hc, hd]
      show wpAny M A (if (["enumerate", "zip", "dict_itemiterator", "dict_reverseitemiterator", "odict_iterator", "itertools.zip_longest", "itertools.pairwise"].contains n && vs[0]? == some (rawInt _)) = true then _ else _) Q E s
      rw [if_neg (by intro h; rw [hn, Bool.false_and] at h; cases h)]
      exact wpAny_pure hQ))
def A4 (K : W.Frag) (a : Addr) : It :=
 ⟨fun i H => ∃ xs x, bj K H a xs /\ xs[i]? = some x, fun i H x H' => H' = H /\ ∀ xs, bj K H a xs -> xs[i]? = some x, fun i H => ∃ xs, bj K H a xs /\ xs.length <= i⟩
def A3 (K : W.Frag) (a : Addr) : It :=
 ⟨fun i H => ∃ xs x, fV K H a xs /\ xs[i]? = some x, fun i H x H' => H' = H /\ ∀ xs, fV K H a xs -> xs[i]? = some x, fun i H => ∃ xs, fV K H a xs /\ xs.length <= i⟩
def zN (lo : Int) (n : Nat) : It := ⟨fun i _ => i < n, fun i H x H' => H' = H /\ x = .int (lo + i), fun i _ => n <= i⟩
theorem wX {P : Program} {w : World} {K : W.Frag} {tg : Expr} (a it : Addr) : sg P w K tg (A4 K a) [it] it (fun i h => h.IsListIter it a i) where
 mem := by simp
 obj := fun i h st b hb => by
  have e : b = it := by simpa using hb
  subst e
  obtain ⟨o, e, c, d⟩ := st
  exact ⟨o, e, fun v z => by rw [d] at z; cases z⟩
 keep := fun i h h' st k => st.at fun o e => k it (by simp) o e
 item := by
  intro X hP hw hK hc i pins s σ H E I hf st hg
  subst hP hw hK
  obtain ⟨xs, x, hq, hx⟩ := hg
  obtain ⟨its, rv, p, hz⟩ := I.list hq
  obtain ⟨u, hu, ru⟩ := rv.get hx
  obtain ⟨f0, f1, f2, f3, f4, f5⟩ := hf it (by simp)
  refine wpAny_pyNext_list_item st p.isList (x := u) (by simpa using hu) fun h' st' sb => ?_
  have I1 : aE X pins σ H { s with heap := h' } := I.turned (t' := s.toks) (fun b o hb e => (sb.2 b hb).trans e) f0 f1 f3 f4 f5
  obtain ⟨o, e, c, d⟩ := id st'
  exact ⟨u, rfl, tL (s := { s with heap := h' }) e c d (by decide) ⟨x, H, I1, ru, ⟨rfl, fun ys hy => by rw [I.list_inj hy hq]; exact hx⟩, st', fun b hb => (hf b hb).1⟩⟩
 done := by
  intro X hP hw hK hc i pins s σ H E I hf st hg
  subst hP hw hK
  obtain ⟨xs, hq, hx⟩ := hg
  obtain ⟨its, rv, p, hz⟩ := I.list hq
  obtain ⟨f0, f1, f2, f3, f4, f5⟩ := hf it (by simp)
  have hl := rv.length
  exact wpAny_pyNext_list_end (I.ok.hd hc) st p.isList (by simp; omega) fun h' eb => ⟨rfl, I.turned (t' := s.toks) (fun b o hb e => eb b o hb e) f0 f1 f3 f4 f5⟩
 self := fun _ _ _ _ _ st h => wpAny_pyIter_listiter st h
theorem ul {P : Program} {w : World} {K : W.Frag} {tg : Expr} (a it : Addr) : sg P w K tg (A3 K a) [it] it (fun i h => h.IsTupleIter it a i) where
 mem := by simp
 obj := fun i h st b hb => by
  have e : b = it := by simpa using hb
  subst e
  obtain ⟨o, e, c, d⟩ := st
  exact ⟨o, e, fun v z => by rw [d] at z; cases z⟩
 keep := fun i h h' st k => st.at fun o e => k it (by simp) o e
 item := by
  intro X hP hw hK hc i pins s σ H E I hf st hg
  subst hP hw hK
  obtain ⟨xs, x, hq, hx⟩ := hg
  obtain ⟨its, rv, p, hz⟩ := I.tuple hq
  obtain ⟨u, hu, ru⟩ := rv.get hx
  obtain ⟨f0, f1, f2, f3, f4, f5⟩ := hf it (by simp)
  refine wpAny_pyNext_tuple_item st (show s.heap.IsTuple a its.toArray from p) (x := u) (by simpa using hu) fun h' st' sb => ?_
  have I1 : aE X pins σ H { s with heap := h' } := I.turned (t' := s.toks) (fun b o hb e => (sb.2 b hb).trans e) f0 f1 f3 f4 f5
  obtain ⟨o, e, c, d⟩ := id st'
  exact ⟨u, rfl, tL (s := { s with heap := h' }) e c d (by decide) ⟨x, H, I1, ru, ⟨rfl, fun ys hy => by rw [I.tuple_inj hy hq]; exact hx⟩, st', fun b hb => (hf b hb).1⟩⟩
 done := by
  intro X hP hw hK hc i pins s σ H E I hf st hg
  subst hP hw hK
  obtain ⟨xs, hq, hx⟩ := hg
  obtain ⟨its, rv, p, hz⟩ := I.tuple hq
  obtain ⟨f0, f1, f2, f3, f4, f5⟩ := hf it (by simp)
  have hl := rv.length
  exact wpAny_pyNext_tuple_end (I.ok.hd hc) st (show s.heap.IsTuple a its.toArray from p) (by simp; omega) fun h' eb => ⟨rfl, I.turned (t' := s.toks) (fun b o hb e => eb b o hb e) f0 f1 f3 f4 f5⟩
 self := fun _ _ _ _ _ st h => wpAny_pyIter_tupleiter st h
theorem um {P : Program} {w : World} {K : W.Frag} {tg : Expr} (it : Addr) (lo : Int) (n : Nat) : sg P w K tg (zN lo n) [it] it (fun i h => IsRangeIter h it (lo + (i : Nat) * 1) ((n : Int) - (i : Nat)) 1) where
 mem := by simp
 obj := fun i h st b hb => by
  have e : b = it := by simpa using hb
  subst e
  exact ⟨_, st, fun v z => by
   have z' : Data.fields _ = Data.cell v := z
   cases z'⟩
 keep := fun i h h' st k => k it (by simp) _ st
 item := by
  intro X hP hw hK hc i pins s σ H E I hf st hg
  subst hP hw hK
  obtain ⟨f0, f1, f2, f3, f4, f5⟩ := hf it (by simp)
  have W := Walks.range (prog := X.prog) (w := X.w) (I.ok.hd hc) it lo 1 n
  refine W.item i s _ _ hg st fun v h' tk hv st' kk => ?_
  obtain ⟨t, rfl⟩ := hv
  have I1 : aE X pins σ H { s with heap := h', toks := tk } := I.turned (fun b o hb e => kk b o (by simpa using hb) e) f0 f1 f3 f4 f5
  refine ⟨_, rfl, tL (s := { s with heap := h', toks := tk }) (n := "range_iterator") st' rfl rfl (by decide) ⟨.int (lo + i), H, I1, ⟨t, ?_⟩, ⟨rfl, rfl⟩, st', fun b hb => (hf b hb).1⟩⟩
  rw [Int.mul_one]
 done := by
  intro X hP hw hK hc i pins s σ H E I hf st hg
  subst hP hw hK
  obtain ⟨f0, f1, f2, f3, f4, f5⟩ := hf it (by simp)
  exact wpAny_pyNext_range_end (I.ok.hd hc) st (by have : n <= i := hg; omega) fun h' eb => ⟨rfl, I.turned (t' := s.toks) (fun b o hb e => eb b o hb e) f0 f1 f3 f4 f5⟩
 self := fun _ _ _ _ _ st h => wpAny_pyIter_rangeiter st h
end L2
namespace L2
open PySem PySem.Spec PyProof.Rows
section
variable {X : Cx} {tg : Expr}
def AW (K : W.Frag) (tl : TE) : TI := fun σ H R => tl σ H fun x H1 => ∃ a, x = .ref a /\ (∃ xs, bj K H1 a xs) /\ R (A4 K a) H1
def DA (K : W.Frag) (tl : TE) : TI := fun σ H R => tl σ H fun x H1 => ∃ a, x = .ref a /\ (∃ xs, fV K H1 a xs) /\ R (A3 K a) H1
theorem dD {l : Expr} {tl : TE} (hl : PE X l tl) : PI X tg l (AW X.K tl) := by
 intro pins s σ H R I h
 refine bS (hl pins s σ H _ I h) fun v s1 ⟨x, H1, I1, r1, q1⟩ => ?_
 obtain ⟨a, e, ⟨xs, hq⟩, q⟩ := q1
 subst e
 cases r1
 obtain ⟨its, rv, p, hz⟩ := I1.list hq
 refine wpAny_pyIter_list p.isList ?_
 refine ⟨s1.heap.objs.size, [s1.heap.objs.size], _, _, H1, rfl, I1.kept (t' := s1.toks) fun b o e => Heap.get?_push_of_some _ e, wX a _, ⟨_, Heap.get?_push_size _ rfl, rfl, rfl⟩, fun b hb => ?_, q⟩
 have e : b = s1.heap.objs.size := by simpa using hb
 subst e
 exact I1.fpOk (Nat.le_refl _) (I1.hok.fresh (Nat.le_refl _))
theorem oG {l : Expr} {tl : TE} (hl : PE X l tl) : PI X tg l (DA X.K tl) := by
 intro pins s σ H R I h
 refine bS (hl pins s σ H _ I h) fun v s1 ⟨x, H1, I1, r1, q1⟩ => ?_
 obtain ⟨a, e, ⟨xs, hq⟩, q⟩ := q1
 subst e
 cases r1
 obtain ⟨its, rv, p, hz⟩ := I1.tuple hq
 refine wpAny_pyIter_tuple (show s1.heap.IsTuple a its.toArray from p) ?_
 refine ⟨s1.heap.objs.size, [s1.heap.objs.size], _, _, H1, rfl, I1.kept (t' := s1.toks) fun b o e => Heap.get?_push_of_some _ e, ul a _, ⟨_, Heap.get?_push_size _ rfl, rfl, rfl⟩, fun b hb => ?_, q⟩
 have e : b = s1.heap.objs.size := by simpa using hb
 subst e
 exact I1.fpOk (Nat.le_refl _) (I1.hok.fresh (Nat.le_refl _))
theorem sW {pins : List (Addr × Obj)} {σ : St} {H : Hp} {s : Shared} {R : It -> Hp -> Prop} {E : Value -> Shared -> Prop} {lo hi : Int} {t u v : Tok} {tk : Nat} (I : aE X pins σ H s) (h1 : -(2 ^ 62) <= lo) (h2 : lo < 2 ^ 62) (h3 : -(2 ^ 62) <= hi) (h4 : hi < 2 ^ 62)
 (q : R (zN lo (hi - lo).toNat) H) : wpAny (model X.prog X.w) X.A (pyIter (.ref s.heap.objs.size)) (DN X pins σ tg R) E { s with heap := s.heap.push { cls := .type "range", data := .fields #[.int lo t, .int hi u, .int 1 v] }, toks := tk } := by
 refine wpAny_pyIter_range (IsRange.new ..) (small_one h1 h2 h3 h4) ?_
 have I1 : aE X pins σ H { s with heap := s.heap.push { cls := .type "range", data := .fields #[.int lo t, .int hi u, .int 1 v] }, toks := tk } := I.kept fun b o e => Heap.get?_push_of_some _ e
 refine ⟨(s.heap.push { cls := .type "range", data := .fields #[.int lo t, .int hi u, .int 1 v] }).objs.size, [(s.heap.push { cls := .type "range", data := .fields #[.int lo t, .int hi u, .int 1 v] }).objs.size], _, _, H, rfl,
  I1.kept (t' := tk) fun b o e => Heap.get?_push_of_some _ e, um _ lo (hi - lo).toNat, ?_, fun b hb => ?_, q⟩
 ·have e1 : lo + ((0 : Nat) : Int) * 1 = lo := by simp
  have e2 : (((hi - lo).toNat : Nat) : Int) - ((0 : Nat) : Int) = Builtin.Range.rangeSize lo hi 1 := by rw [rangeSize_one]; split <;> omega
  show IsRangeIter _ _ (lo + ((0 : Nat) : Int) * 1) ((((hi - lo).toNat : Nat) : Int) - ((0 : Nat) : Int)) 1
  rw [e1, e2]
  exact Heap.get?_push_size _ rfl
 ·have e : b = (s.heap.push { cls := .type "range", data := .fields #[.int lo t, .int hi u, .int 1 v] }).objs.size := by simpa using hb
  subst e
  exact I1.fpOk (Nat.le_refl _) (I1.hok.fresh (Nat.le_refl _))
def Cs (ta : TA) : TI := fun σ H R => ta σ H fun vs H1 => ∃ j : Int, vs = [.int j] /\ -(2 ^ 62) <= j /\ j < 2 ^ 62 /\ R (zN 0 j.toNat) H1
def Cr (ta : TA) : TI := fun σ H R => ta σ H fun vs H1 => ∃ i j : Int, vs = [.int i, .int j] /\ (-(2 ^ 62) <= i /\ i < 2 ^ 62 /\ -(2 ^ 62) <= j /\ j < 2 ^ 62) /\ R (zN i (j - i).toNat) H1
theorem b9 {a : Expr} {ta : TA} {p pos : Pos} (hg : Gl X "range") (hm : X.mg "range" = none) (ha : PA X [a] ta) (hs : starEach [a] X.env = [(false, eval a X.env)] := by rfl) : PI X tg (.Call (.Name "range" p) [a] [] pos) (Cs ta) := by
 intro pins s σ H R I h
 refine Call_ (jB I hg hm boot_range (PyProof.Rows.callWith_type1 (bS (ha pos pins s σ H _ I h) fun us s1 ⟨vs, H1, I1, r1, q1⟩ => ?_) hs rfl))
 obtain ⟨j, e, q1, q2, q⟩ := q1
 subst e
 cases r1 with
 | cons r rr =>
   cases rr
   obtain ⟨t, rfl⟩ := r
   exact call_range_1 (sW I1 (by omega) (by omega) q1 q2 (by simpa using q))
theorem xg {a b : Expr} {ta : TA} {p pos : Pos} (hg : Gl X "range") (hm : X.mg "range" = none) (ha : PA X [a, b] ta) (hs : starEach [a, b] X.env = [(false, eval a X.env), (false, eval b X.env)] := by rfl) (hs2 : starEach [b] X.env = [(false, eval b X.env)] := by rfl) :
 PI X tg (.Call (.Name "range" p) [a, b] [] pos) (Cr ta) := by
 intro pins s σ H R I h
 refine Call_ (jB I hg hm boot_range (PyProof.Rows.callWith_type1 (bS (ha pos pins s σ H _ I h) fun us s1 ⟨vs, H1, I1, r1, q1⟩ => ?_) (by rw [hs, hs2]) (by rw [hs2]; rfl)))
 obtain ⟨i, j, e, ⟨q1, q2, q3, q4⟩, q⟩ := q1
 subst e
 cases r1 with
 | cons r rr =>
   cases rr with
   | cons r' rr =>
     cases rr
     obtain ⟨t, rfl⟩ := r
     obtain ⟨t', rfl⟩ := r'
     exact call_range_2 (sW I1 q1 q2 q3 q4 q)
def B9 (wi : TI) (g : TG) (tb : TS) : TS := fun D σ H => wi σ H fun J H1 => ∃ W : Nat -> Nat -> St -> Hp -> Prop, (∃ m, W 0 m σ H1) /\ ∀ i m σ H, W i m σ H ->
 (J.stop i H /\ D.nx σ H) \/ (J.go i H /\ ∃ N : St -> Hp -> Prop, (∀ σ' H', N σ' H' -> ∃ m', m' < m /\ W (i + 1) m' σ' H') /\ ∀ x H', J.yld i H x H' -> g x σ H' fun σ2 H2 => tb { D with nx := N, ct := N, bk := D.nx } σ2 H2)
def oF (fp : List Addr) (h : Heap) : List (Addr × Obj) := fp.filterMap fun b => (h.get? b).map fun o => (b, o)
theorem ku {fp : List Addr} {h : Heap} {b : Addr} {o : Obj} (hb : b ∈ fp) (e : h.get? b = some o) : (b, o) ∈ oF fp h := List.mem_filterMap.mpr ⟨b, hb, by rw [e]; rfl⟩
theorem xu {fp : List Addr} {h : Heap} {p : Addr × Obj} (hp : p ∈ oF fp h) : p.1 ∈ fp /\ h.get? p.1 = some p.2 := by
 obtain ⟨b, hb, e⟩ := List.mem_filterMap.mp hp
 cases q : h.get? b with
 | none => rw [q] at e; cases e
 | some o =>
   rw [q] at e
   have e' : (b, o) = p := Option.some.inj e
   subst e'
   exact ⟨hb, q⟩
theorem aE.pinned {pins : List (Addr × Obj)} {σ : St} {H : Hp} {s : Shared} {fp : List Addr} (I : aE X pins σ H s) (hf : ∀ b ∈ fp, nA X pins H b) (ho : ∀ b ∈ fp, ∃ o, s.heap.get? b = some o /\ ∀ v, o.data ≠ .cell v) : aE X (pins ++ oF fp s.heap) σ H s :=
 I.pins_of fun p hp => (List.mem_append.mp hp).elim (fun z => I.pin p (List.mem_append_right _ z)) fun z => by
  obtain ⟨hb, e⟩ := xu z
  obtain ⟨f0, f1, f2, _⟩ := hf p.1 hb
  obtain ⟨o, e', d⟩ := ho p.1 hb
  rw [e] at e'; cases e'
  exact ⟨e, f0, f1, f2, d⟩
theorem aE.unpinned {pins pl : List (Addr × Obj)} {σ : St} {H : Hp} {s : Shared} (I : aE X (pins ++ pl) σ H s) : aE X pins σ H s := I.pins_of fun p hp => I.pin p (List.mem_append_right _ (List.mem_append_left _ hp))
theorem ef {iter : Expr} {body : List Stmt} {wi : TI} {g : TG} {tb : TS} {pos : Pos} (hp : PassesOwn (model X.prog X.w) X.A X.env X.xe) (hc : X.calm = true) (hi : PI X tg iter wi) (hg : PG X tg g) (hb : uh X body tb)
 (hs : ∀ x, foldedSetIterable iter X.env x = pure x := by intro _; rfl) : PS X (.For tg iter body [] pos) (B9 wi g tb) := by
 intro pins s σ H D I h
 refine wpAny_For (bS (hi pins s σ H _ I h) fun v s1 h1 => bS h1 fun itv s2 h2 => ?_) hs
 obtain ⟨it, fp, tn, J, H2, e, I2, T, st2, f2, W, ⟨m0, w0⟩, turn⟩ := h2
 subst e
 have stat : ∀ {H' : Hp}, (∀ b ∈ fp, H' b = none) -> ∀ b ∈ fp, nA X pins H' b := fun hn b hb => ⟨hn b hb, (f2 b hb).2⟩
 refine codeAny_forLoop_any (fun n s' => ∃ i σ' H', aE X pins σ' H' s' /\ tn i s'.heap /\ (∀ b ∈ fp, H' b = none) /\ W i n σ' H') ?_ m0 ⟨0, σ, H2, I2, st2, fun b hb => (f2 b hb).1, w0⟩
 rintro n s3 ⟨i, σ3, H3, I3, st3, fr3, w3⟩
 rcases turn i n σ3 H3 w3 with ⟨stop, qn⟩ | ⟨go, N, hN, step⟩
 ·refine wpAny_passesOwn hp (bS (T.done X rfl rfl rfl hc i pins s3 σ3 H3 X.xe I3 (stat fr3) st3 stop) fun r s4 ⟨hr, I4⟩ => ?_)
  subst hr
  exact wpAny_execs_nil ⟨σ3, H3, I4, qn⟩
 ·refine wpAny_passesOwn hp (bS (T.item X rfl rfl rfl hc i pins s3 σ3 H3 X.xe I3 (stat fr3) st3 go) fun r s4 ⟨u, hr, h4⟩ => ?_)
  subst hr
  refine wpAny_passesOwn hp (bS h4 fun _ s5 ⟨x, H5, I5, r5, y5, st5, fr5⟩ => ?_)
  have I5' := I5.pinned (stat fr5) (T.obj _ _ st5)
  refine wpAny_passesOwn hp (bS (hg _ s5 σ3 H5 x u _ I5' r5 (step x H5 y5)) fun _ s6 ⟨σ6, H6, I6, q6⟩ => ?_)
  refine wpAny_passesOwn hp (bS (hb _ s6 σ6 H6 _ I6 q6) fun f s7 q7 => ?_)
  have again : ∀ {σ7 : St} {H7 : Hp}, aE X (pins ++ oF fp s5.heap) σ7 H7 s7 -> N σ7 H7 -> ∃ m, m < n /\ ∃ i σ' H', aE X pins σ' H' s7 /\ tn i s7.heap /\ (∀ b ∈ fp, H' b = none) /\ W i m σ' H' := fun {σ7 H7} I7 n7 => by
   obtain ⟨m', hm, w7⟩ := hN σ7 H7 n7
   refine ⟨m', hm, i + 1, σ7, H7, I7.unpinned, T.keep _ _ _ st5 fun b hb o e => (I7.pin (b, o) (List.mem_append_right _ (List.mem_append_right _ (ku hb e)))).1, fun b hb => ?_, w7⟩
   obtain ⟨o, e, d⟩ := T.obj _ _ st5 b hb
   exact (I7.pin (b, o) (List.mem_append_right _ (List.mem_append_right _ (ku hb e)))).2.1
  cases f with
  | next => obtain ⟨σ7, H7, I7, n7⟩ := q7; exact again I7 n7
  | cont => obtain ⟨σ7, H7, I7, n7⟩ := q7; exact again I7 n7
  | brk => obtain ⟨σ7, H7, I7, q7⟩ := q7; exact ⟨σ7, H7, I7.unpinned, q7⟩
  | ret v => obtain ⟨x7, σ7, H7, I7, r7, q7⟩ := q7; exact ⟨x7, σ7, H7, I7.unpinned, r7, q7⟩
end
theorem tP {K : W.Frag} {a : Addr} {xs : List V} {g : TG} {tb : TS} {D : sj} {σ : St} {H : Hp} (Pv : Nat -> St -> Hp -> Prop) (h0 : Pv 0 σ H) (hl : ∀ i σ H, i <= xs.length -> Pv i σ H -> bj K H a xs)
 (hs : ∀ i x σ H, xs[i]? = some x -> Pv i σ H -> g x σ H fun σ2 H2 => tb { D with nx := Pv (i + 1), ct := Pv (i + 1), bk := D.nx } σ2 H2) (hd : ∀ σ H, Pv xs.length σ H -> D.nx σ H) :
 ∃ W : Nat -> Nat -> St -> Hp -> Prop, (∃ m, W 0 m σ H) /\ ∀ i m σ H, W i m σ H ->
  ((A4 K a).stop i H /\ D.nx σ H) \/ ((A4 K a).go i H /\ ∃ N : St -> Hp -> Prop, (∀ σ' H', N σ' H' -> ∃ m', m' < m /\ W (i + 1) m' σ' H') /\ ∀ x H', (A4 K a).yld i H x H' -> g x σ H' fun σ2 H2 => tb { D with nx := N, ct := N, bk := D.nx } σ2 H2) := by
 refine ⟨fun i m σ H => m = xs.length - i /\ i <= xs.length /\ Pv i σ H, ⟨xs.length, by simp, Nat.zero_le _, h0⟩, ?_⟩
 rintro i m σ H ⟨rfl, hi, p⟩
 have q := hl i σ H hi p
 by_cases hlt : i < xs.length
 ·refine .inr ⟨⟨xs, xs[i], q, by simp [hlt]⟩, Pv (i + 1), fun σ' H' p' => ⟨xs.length - (i + 1), by omega, rfl, hlt, p'⟩, fun x H' y => ?_⟩
  obtain ⟨e, y⟩ := y
  subst e
  exact hs i x σ _ (y xs q) p
 ·have e : i = xs.length := by omega
  subst e
  exact .inl ⟨⟨xs, q, Nat.le_refl _⟩, hd σ H p⟩
theorem wp {K : W.Frag} {a : Addr} {xs : List V} {g : TG} {tb : TS} {D : sj} {σ : St} {H : Hp} (Pv : Nat -> St -> Hp -> Prop) (h0 : Pv 0 σ H) (hl : ∀ i σ H, i <= xs.length -> Pv i σ H -> fV K H a xs)
 (hs : ∀ i x σ H, xs[i]? = some x -> Pv i σ H -> g x σ H fun σ2 H2 => tb { D with nx := Pv (i + 1), ct := Pv (i + 1), bk := D.nx } σ2 H2) (hd : ∀ σ H, Pv xs.length σ H -> D.nx σ H) :
 ∃ W : Nat -> Nat -> St -> Hp -> Prop, (∃ m, W 0 m σ H) /\ ∀ i m σ H, W i m σ H ->
  ((A3 K a).stop i H /\ D.nx σ H) \/ ((A3 K a).go i H /\ ∃ N : St -> Hp -> Prop, (∀ σ' H', N σ' H' -> ∃ m', m' < m /\ W (i + 1) m' σ' H') /\ ∀ x H', (A3 K a).yld i H x H' -> g x σ H' fun σ2 H2 => tb { D with nx := N, ct := N, bk := D.nx } σ2 H2) := by
 refine ⟨fun i m σ H => m = xs.length - i /\ i <= xs.length /\ Pv i σ H, ⟨xs.length, by simp, Nat.zero_le _, h0⟩, ?_⟩
 rintro i m σ H ⟨rfl, hi, p⟩
 have q := hl i σ H hi p
 by_cases hlt : i < xs.length
 ·refine .inr ⟨⟨xs, xs[i], q, by simp [hlt]⟩, Pv (i + 1), fun σ' H' p' => ⟨xs.length - (i + 1), by omega, rfl, hlt, p'⟩, fun x H' y => ?_⟩
  obtain ⟨e, y⟩ := y
  subst e
  exact hs i x σ _ (y xs q) p
 ·have e : i = xs.length := by omega
  subst e
  exact .inl ⟨⟨xs, q, Nat.le_refl _⟩, hd σ H p⟩
theorem dF {lo : Int} {n : Nat} {g : TG} {tb : TS} {D : sj} {σ : St} {H : Hp} (Pv : Nat -> St -> Hp -> Prop) (h0 : Pv 0 σ H)
 (hs : ∀ i σ H, i < n -> Pv i σ H -> g (.int (lo + i)) σ H fun σ2 H2 => tb { D with nx := Pv (i + 1), ct := Pv (i + 1), bk := D.nx } σ2 H2) (hd : ∀ σ H, Pv n σ H -> D.nx σ H) :
 ∃ W : Nat -> Nat -> St -> Hp -> Prop, (∃ m, W 0 m σ H) /\ ∀ i m σ H, W i m σ H ->
  ((zN lo n).stop i H /\ D.nx σ H) \/ ((zN lo n).go i H /\ ∃ N : St -> Hp -> Prop, (∀ σ' H', N σ' H' -> ∃ m', m' < m /\ W (i + 1) m' σ' H') /\ ∀ x H', (zN lo n).yld i H x H' -> g x σ H' fun σ2 H2 => tb { D with nx := N, ct := N, bk := D.nx } σ2 H2) := by
 refine ⟨fun i m σ H => m = n - i /\ i <= n /\ Pv i σ H, ⟨n, by simp, Nat.zero_le _, h0⟩, ?_⟩
 rintro i m σ H ⟨rfl, hi, p⟩
 by_cases hlt : i < n
 ·refine .inr ⟨hlt, Pv (i + 1), fun σ' H' p' => ⟨n - (i + 1), by omega, rfl, hlt, p'⟩, fun x H' y => ?_⟩
  obtain ⟨e, y⟩ := y
  subst e y
  exact hs i σ _ hlt p
 ·have e : i = n := by omega
  subst e
  exact .inl ⟨Nat.le_refl _, hd σ H p⟩
end L2
namespace L2
open PySem PySem.Spec PyProof.Rows
abbrev R2 := V -> V -> Hp -> VK -> Prop
def kF (X : Cx) (f : Value -> Value -> Sem Value) (r : R2) : Prop :=
 ∀ (pins : List (Addr × Obj)) (s : Shared) (σ : St) (H : Hp) (x y : V) (v u : Value) (Q : VK), aE X pins σ H s -> aZ x v -> aZ y u -> r x y H Q ->
  wpAny (model X.prog X.w) X.A (f v u) (EP X pins σ Q) X.xe s
def DM (X : Cx) (f : Value -> Sem Value) (r : V -> Hp -> VK -> Prop) : Prop :=
 ∀ (pins : List (Addr × Obj)) (s : Shared) (σ : St) (H : Hp) (x : V) (v : Value) (Q : VK), aE X pins σ H s -> aZ x v -> r x H Q ->
  wpAny (model X.prog X.w) X.A (f v) (EP X pins σ Q) X.xe s
def gP (X : Cx) (f : Value) (r : List V -> Hp -> VK -> Prop) : Prop :=
 ∀ (pins : List (Addr × Obj)) (s : Shared) (σ : St) (H : Hp) (xs : List V) (us : List Value) (Q : VK), aE X pins σ H s -> aR xs us -> r xs H Q ->
  wpAny (model X.prog X.w) X.A (call f us) (EP X pins σ Q) X.xe s
def Be (r : R2) (ta tb : TE) : TE := fun σ H Q => ta σ H fun x H1 => tb σ H1 fun y H2 => r x y H2 Q
def DW (r : V -> Hp -> VK -> Prop) (ta : TE) : TE := fun σ H Q => ta σ H fun x H1 => r x H1 Q
def rI (C : Int -> Int -> Prop) (g : Int -> Int -> V) : R2 := fun x y H Q => ∃ i j, x = .int i /\ y = .int j /\ C i j /\ Q (g i j) H
def xY (g : Int -> Int -> V) : R2 := fun x y H Q => ∃ i j, x = .int i /\ y = .int j /\ Q (g i j) H
def rU (g : Int -> V) : V -> Hp -> VK -> Prop := fun x H Q => ∃ i, x = .int i /\ Q (g i) H
section
variable {X : Cx} {a b c : Expr} {ta tb tc : TE} {pos : Pos}
theorem BU (ha : PE X a ta) (hb : PE X b tb) {pins : List (Addr × Obj)} {s : Shared} {σ : St} {H : Hp} {R : V -> V -> Hp -> Prop} (I : aE X pins σ H s)
 (h : ta σ H fun x H1 => tb σ H1 fun y H2 => R x y H2) {Q : Value -> Shared -> Prop} {f : Value -> Value -> Sem Value}
 (hf : ∀ v u s2 x y H2, aE X pins σ H2 s2 -> aZ x v -> aZ y u -> R x y H2 -> wpAny (model X.prog X.w) X.A (f v u) Q X.xe s2) :
 wpAny (model X.prog X.w) X.A (eval a X.env) (fun v s₁ => wpAny (model X.prog X.w) X.A (eval b X.env) (fun u s₂ => wpAny (model X.prog X.w) X.A (f v u) Q X.xe s₂) X.xe s₁) X.xe s := by
 refine bS (ha pins s σ H _ I h) fun v s1 ⟨x, H1, I1, r1, q1⟩ => ?_
 refine bS (hb pins s1 σ H1 _ I1 q1) fun u s2 ⟨y, H2, I2, r2, q2⟩ => ?_
 exact hf v u s2 x y H2 I2 r1 r2 q2
theorem bc {op : Operator} {r : R2} (ho : kF X (binaryOp op) r) (ha : PE X a ta) (hb : PE X b tb) : PE X (.BinOp a op b pos) (Be r ta tb) := by
 intro pins s σ H Q I h
 exact wpAny_BinOp (BU ha hb I h fun v u s2 x y H2 I2 rx ry q => ho pins s2 σ H2 x y v u Q I2 rx ry q)
theorem AQ {op : UnaryOp} {r : V -> Hp -> VK -> Prop} (ho : DM X (unaryOp op) r) (ha : PE X a ta) : PE X (.UnaryOp op a pos) (DW r ta) := by
 intro pins s σ H Q I h
 exact UnaryOp_ (bS (ha pins s σ H _ I h) fun v s1 ⟨x, H1, I1, r1, q1⟩ => ho pins s1 σ H1 x v Q I1 r1 q1)
theorem Cl {f : Value -> Value -> Sem Value} {C : Int -> Int -> Prop} {g : Int -> Int -> Int}
 (rule : ∀ (i j : Int) (t u : Tok) (s : Shared) (Q : Value -> Shared -> Prop) (E : Value -> Shared -> Prop), C i j -> Q (.int (g i j) s.toks) { s with toks := s.toks + 1 } -> wpAny (model X.prog X.w) X.A (f (.int i t) (.int j u)) Q E s) :
 kF X f (rI C fun i j => .int (g i j)) := by
 intro pins s σ H x y v u Q I rx ry h
 obtain ⟨i, j, rfl, rfl, hc, q⟩ := h
 obtain ⟨t, rfl⟩ := rx
 obtain ⟨t', rfl⟩ := ry
 exact rule i j t t' s _ _ hc ⟨.int (g i j), H, I.tok _, ⟨_, rfl⟩, q⟩
theorem Ae {f : Value -> Value -> Sem Value} {g : Int -> Int -> Int}
 (rule : ∀ (i j : Int) (t u : Tok) (s : Shared) (Q : Value -> Shared -> Prop) (E : Value -> Shared -> Prop), Q (.int (g i j) s.toks) { s with toks := s.toks + 1 } -> wpAny (model X.prog X.w) X.A (f (.int i t) (.int j u)) Q E s) :
 kF X f (xY fun i j => .int (g i j)) := by
 intro pins s σ H x y v u Q I rx ry h
 obtain ⟨i, j, rfl, rfl, q⟩ := h
 obtain ⟨t, rfl⟩ := rx
 obtain ⟨t', rfl⟩ := ry
 exact rule i j t t' s _ _ ⟨.int (g i j), H, I.tok _, ⟨_, rfl⟩, q⟩
theorem Af {f : Value -> Value -> Sem Value} {g : Int -> Int -> Bool}
 (rule : ∀ (i j : Int) (t u : Tok) (s : Shared) (Q : Value -> Shared -> Prop) (E : Value -> Shared -> Prop), Q (.bool (g i j)) s -> wpAny (model X.prog X.w) X.A (f (.int i t) (.int j u)) Q E s) :
 kF X f (xY fun i j => .bl (g i j)) := by
 intro pins s σ H x y v u Q I rx ry h
 obtain ⟨i, j, rfl, rfl, q⟩ := h
 obtain ⟨t, rfl⟩ := rx
 obtain ⟨t', rfl⟩ := ry
 exact rule i j t t' s _ _ ⟨.bl (g i j), H, I, rfl, q⟩
def zJ (i j : Int) : Prop := (-(2 ^ 64) < i /\ i < 2 ^ 64) \/ (-(2 ^ 64) < j /\ j < 2 ^ 64)
theorem zJ.ok {i j : Int} (h : zJ i j) : IntMulOk i j := by
 rcases h with ⟨h1, h2⟩ | ⟨h1, h2⟩
 ·exact .of_left (intBits_le_64 h1 h2)
 ·exact .of_right (intBits_le_64 h1 h2)
theorem ki : kF X (binaryOp .Add) (xY fun i j => .int (i + j)) := Ae fun _ _ _ _ _ _ _ q => add_int q
theorem uN : kF X (binaryOp .Sub) (xY fun i j => .int (i - j)) := Ae fun _ _ _ _ _ _ _ q => sub_int q
theorem kg : kF X (binaryOp .Mult) (rI zJ fun i j => .int (i * j)) := Cl fun _ _ _ _ _ _ _ hc q => mul_int q hc.ok
theorem kh : kF X (binaryOp .Mod) (rI (fun _ j => 0 < j) fun i j => .int (i % j)) := Cl fun i j _ _ _ _ _ hc q => by
 have h1 : (0 : Int) < j := hc
 exact mod_int' (by omega) (by rw [Int.fmod_eq_emod_of_nonneg i (by omega)]; exact q)
theorem wm : kF X (inplaceOp .Add) (xY fun i j => .int (i + j)) := Ae fun _ _ _ _ _ _ _ q => iadd_int q
theorem rJ : kF X (inplaceOp .Sub) (xY fun i j => .int (i - j)) := Ae fun _ _ _ _ _ _ _ q => isub_int q
theorem wl : kF X (inplaceOp .Mult) (rI zJ fun i j => .int (i * j)) := Cl fun _ _ _ _ _ _ _ hc q => imul_int q hc.ok
theorem DV {f : Value -> Sem Value} {g : Int -> Int}
 (rule : ∀ (i : Int) (t : Tok) (s : Shared) (Q : Value -> Shared -> Prop) (E : Value -> Shared -> Prop), Q (.int (g i) s.toks) { s with toks := s.toks + 1 } -> wpAny (model X.prog X.w) X.A (f (.int i t)) Q E s) :
 DM X f (rU fun i => .int (g i)) := by
 intro pins s σ H x v Q I rx h
 obtain ⟨i, rfl, q⟩ := h
 obtain ⟨t, rfl⟩ := rx
 exact rule i t s _ _ ⟨.int (g i), H, I.tok _, ⟨_, rfl⟩, q⟩
theorem ya : DM X (unaryOp .USub) (rU fun i => .int (-i)) := DV fun _ _ _ _ _ q => neg_int q
end
def Cf : V -> V -> Bool
 | .non, .non => true | .non, .int _ => true | .int _, .non => true | .non, .bl _ => true | .bl _, .non => true | .non, .str _ => true | .str _, .non => true
 | .int _, .int _ => true | .bl _, .bl _ => true | .str _, .str _ => true | .byt _, .byt _ => true
 | .int _, .str _ => true | .str _, .int _ => true | .bl _, .str _ => true | .str _, .bl _ => true
 | _, _ => false
def rEq : R2 := fun x y H Q => Cf x y = true /\ Q (.bl (decide (x = y))) H
def rNe : R2 := fun x y H Q => Cf x y = true /\ Q (.bl (!decide (x = y))) H
theorem wE {i j : Int} : decide (V.int i = V.int j) = (i == j) := by
 rw [Bool.eq_iff_iff]
 simp
theorem zm {i j : Bool} : decide (V.bl i = V.bl j) = (i == j) := by
 rw [Bool.eq_iff_iff]
 simp
theorem wD {i j : Str} : decide (V.str i = V.str j) = (i == j) := by
 rw [Bool.eq_iff_iff]
 simp
theorem wF {i j : Array UInt8} : decide (V.byt i = V.byt j) = (i.toList == j.toList) := by
 rw [Bool.eq_iff_iff]
 cases i
 cases j
 simp
section
variable {X : Cx} {a b c : Expr} {ta tb tc : TE} {pos : Pos}
theorem bg {pins : List (Addr × Obj)} {σ : St} {H : Hp} {s : Shared} {Q : VK} {k k' : Bool} (I : aE X pins σ H s) (q : Q (.bl k) H) (e : k = k') : EP X pins σ Q (.bool k') s := by
 subst e
 exact ⟨.bl k, H, I, rfl, q⟩
theorem fh : kF X (compareOp .Eq) rEq := by
 intro pins s σ H x y v u Q I rx ry h
 obtain ⟨hs, q⟩ := h
 cases x with
 | non =>
   cases rx
   cases y with
   | non => cases ry; exact PySem.EqNone.eq_none_none (bg I q (by simp))
   | bl j => cases ry; exact PySem.EqNone.eq_none_bool (bg I q (by simp))
   | int j => obtain ⟨t', rfl⟩ := ry; exact PySem.EqNone.eq_none_int (bg I q (by simp))
   | str j => obtain ⟨t', rfl⟩ := ry; exact PySem.EqNone.eq_none_str (bg I q (by simp))
   | _ => exact absurd (show false = true from hs) Bool.false_ne_true
 | bl i =>
   cases rx
   cases y with
   | non => cases ry; exact PySem.EqNone.eq_bool_none (bg I q (by simp))
   | bl j => cases ry; exact eq_bool (bg I q zm)
   | str j => obtain ⟨t', rfl⟩ := ry; exact PySem.EqMixed.eq_bool_str (bg I q (by simp))
   | _ => exact absurd (show false = true from hs) Bool.false_ne_true
 | int i =>
   obtain ⟨t, rfl⟩ := rx
   cases y with
   | non => cases ry; exact PySem.EqNone.eq_int_none (bg I q (by simp))
   | int j => obtain ⟨t', rfl⟩ := ry; exact eq_int (bg I q wE)
   | str j => obtain ⟨t', rfl⟩ := ry; exact PySem.EqMixed.eq_int_str (bg I q (by simp))
   | _ => exact absurd (show false = true from hs) Bool.false_ne_true
 | str i =>
   obtain ⟨t, rfl⟩ := rx
   cases y with
   | non => cases ry; exact PySem.EqNone.eq_str_none (bg I q (by simp))
   | bl j => cases ry; exact PySem.EqMixed.eq_str_bool (bg I q (by simp))
   | int j => obtain ⟨t', rfl⟩ := ry; exact PySem.EqMixed.eq_str_int (bg I q (by simp))
   | str j => obtain ⟨t', rfl⟩ := ry; exact eq_str (bg I q wD)
   | _ => exact absurd (show false = true from hs) Bool.false_ne_true
 | byt i =>
   obtain ⟨t, rfl⟩ := rx
   cases y with
   | byt j => obtain ⟨t', rfl⟩ := ry; exact W.eq_bytes (bg I q wF)
   | _ => exact absurd (show false = true from hs) Bool.false_ne_true
 | _ => cases y <;> exact absurd (show false = true from hs) Bool.false_ne_true
theorem j3 : kF X (compareOp .NotEq) rNe := by
 intro pins s σ H x y v u Q I rx ry h
 obtain ⟨hs, q⟩ := h
 cases x with
 | non =>
   cases rx
   cases y with
   | non => cases ry; exact PySem.EqNone.ne_none_none (bg I q (by simp))
   | bl j => cases ry; exact PySem.EqNone.ne_none_bool (bg I q (by simp))
   | int j => obtain ⟨t', rfl⟩ := ry; exact PySem.EqNone.ne_none_int (bg I q (by simp))
   | str j => obtain ⟨t', rfl⟩ := ry; exact PySem.EqNone.ne_none_str (bg I q (by simp))
   | _ => exact absurd (show false = true from hs) Bool.false_ne_true
 | bl i =>
   cases rx
   cases y with
   | non => cases ry; exact PySem.EqNone.ne_bool_none (bg I q (by simp))
   | bl j => cases ry; exact ne_bool (bg I q (congrArg not zm))
   | str j => obtain ⟨t', rfl⟩ := ry; exact PySem.EqMixed.ne_bool_str (bg I q (by simp))
   | _ => exact absurd (show false = true from hs) Bool.false_ne_true
 | int i =>
   obtain ⟨t, rfl⟩ := rx
   cases y with
   | non => cases ry; exact PySem.EqNone.ne_int_none (bg I q (by simp))
   | int j => obtain ⟨t', rfl⟩ := ry; exact ne_int (bg I q (congrArg not wE))
   | str j => obtain ⟨t', rfl⟩ := ry; exact PySem.EqMixed.ne_int_str (bg I q (by simp))
   | _ => exact absurd (show false = true from hs) Bool.false_ne_true
 | str i =>
   obtain ⟨t, rfl⟩ := rx
   cases y with
   | non => cases ry; exact PySem.EqNone.ne_str_none (bg I q (by simp))
   | bl j => cases ry; exact PySem.EqMixed.ne_str_bool (bg I q (by simp))
   | int j => obtain ⟨t', rfl⟩ := ry; exact PySem.EqMixed.ne_str_int (bg I q (by simp))
   | str j => obtain ⟨t', rfl⟩ := ry; exact ne_str (bg I q (congrArg not wD))
   | _ => exact absurd (show false = true from hs) Bool.false_ne_true
 | byt i =>
   obtain ⟨t, rfl⟩ := rx
   cases y with
   | byt j => obtain ⟨t', rfl⟩ := ry; exact W.ne_bytes (bg I q (congrArg not wF))
   | _ => exact absurd (show false = true from hs) Bool.false_ne_true
 | _ => cases y <;> exact absurd (show false = true from hs) Bool.false_ne_true
theorem oI : kF X (compareOp .Lt) (xY fun i j => .bl (decide (i < j))) := Af fun _ _ _ _ _ _ _ q => lt_int q
theorem v3 : kF X (compareOp .LtE) (xY fun i j => .bl (decide (i <= j))) := Af fun _ _ _ _ _ _ _ q => le_int q
theorem qd : kF X (compareOp .Gt) (xY fun i j => .bl (decide (j < i))) := Af fun _ _ _ _ _ _ _ q => gt_int q
theorem AS : kF X (compareOp .GtE) (xY fun i j => .bl (decide (j <= i))) := Af fun _ _ _ _ _ _ _ q => ge_int q
theorem rA : kF X (compareOp .Is) (fun x y H Q => y = .non /\ Q (.bl (decide (x = .non))) H) := by
 intro pins s σ H x y v u Q I rx ry h
 obtain ⟨rfl, q⟩ := h
 cases ry
 refine is_none_gen (bg I q ?_)
 cases x <;> first
  | (cases rx; rfl)
  | (obtain ⟨t, rfl⟩ := rx; rfl)
theorem Ad : kF X (compareOp .IsNot) (fun x y H Q => y = .non /\ Q (.bl (!decide (x = .non))) H) := by
 intro pins s σ H x y v u Q I rx ry h
 obtain ⟨rfl, q⟩ := h
 cases ry
 refine isnot_none_gen (bg I q ?_)
 cases x <;> first
  | (cases rx; rfl)
  | (obtain ⟨t, rfl⟩ := rx; rfl)
theorem aJ (b : Expr) {op : CmpOp} (h : op ≠ .In := by decide) (h2 : op ≠ .NotIn := by decide) : behindInMarks op b = false := by
 have e1 : (op == CmpOp.In) = false := by cases op <;> first | rfl | exact absurd rfl h
 have e2 : (op == CmpOp.NotIn) = false := by cases op <;> first | rfl | exact absurd rfl h2
 cases b <;> simp [behindInMarks, e1, e2]
theorem fH {op : CmpOp} {r : R2} (ho : kF X (compareOp op) r) (ha : PE X a ta) (hb : PE X b tb) (hm : behindInMarks op b = false) : PE X (.Compare a [op] [b] pos) (Be r ta tb) := by
 intro pins s σ H Q I h
 exact wpAny_Compare1 (BU ha hb I h fun v u s2 x y H2 I2 rx ry q => ho pins s2 σ H2 x y v u Q I2 rx ry q) hm
def AI (t : TE) : TT := fun σ H Q => t σ H fun x H' => ∃ k, x = .bl k /\ Q k H'
theorem aH {op : CmpOp} {r : R2} (ho : kF X (compareOp op) r) (ha : PE X a ta) (hb : PE X b tb) (hm : behindInMarks op b = false) : PT X (.Compare a [op] [b] pos) (AI (Be r ta tb)) := by
 intro pins s σ H Q I h
 refine wpAny_isTrue_Compare1 (bS (ha pins s σ H _ I h) fun v s1 ⟨x, H1, I1, r1, q1⟩ => bS (hb pins s1 σ H1 _ I1 q1) fun u s2 ⟨y, H2, I2, r2, q2⟩ =>
  bS (ho pins s2 σ H2 x y v u _ I2 r1 r2 q2) fun c s3 ⟨z, H3, I3, r3, k, e, q3⟩ => ?_) hm
 subst e
 cases r3
 exact wpAny_truthy_bool ⟨H3, I3, q3⟩
theorem ml : (sizeLine : Nat) < 2 ^ 63 := by rw [sizeLine_eq]; decide
theorem oJ : kF X (binaryOp .Add) (fun x y H Q => ∃ i j, x = .str i /\ y = .str j /\ i.length + j.length <= sizeLine /\ Q (.str (i ++ j)) H) := by
 intro pins s σ H x y v u Q I rx ry h
 obtain ⟨i, j, rfl, rfl, hz, q⟩ := h
 obtain ⟨t, rfl⟩ := rx
 obtain ⟨t', rfl⟩ := ry
 exact add_str (fun t' tk => ⟨.str (i ++ j), H, I.tok _, ⟨_, rfl⟩, q⟩) hz
theorem pQ {x : V} {us : List Value} (r : aR [x] us) : ∃ u, us = [u] /\ aZ x u := by
 cases r with
 | cons r1 r2 => cases r2; exact ⟨_, rfl, r1⟩
theorem AH {x y : V} {us : List Value} (r : aR [x, y] us) : ∃ u w', us = [u, w'] /\ aZ x u /\ aZ y w' := by
 cases r with
 | cons r1 r2 =>
   cases r2 with
   | cons r3 r4 => cases r4; exact ⟨_, _, rfl, r1, r3⟩
theorem rW : gP X (.type "str") (fun xs H Q => ∃ i, xs = [.int i] /\ i.natAbs.log2 < 1920 /\ Q (.str (toString i)) H) := by
 intro pins s σ H xs us Q I r h
 obtain ⟨i, rfl, hz, q⟩ := h
 obtain ⟨u, rfl, t, rfl⟩ := pQ r
 exact PySem.P.str_of_int hz ⟨.str _, H, I.tok _, ⟨_, rfl⟩, q⟩
theorem t5 : gP X (.builtin "ord") (fun xs H Q => ∃ x, xs = [.str x] /\ x.length = 1 /\ Q (.int (x.cps.getD 0 0 : Nat)) H) := by
 intro pins s σ H xs us Q I r h
 obtain ⟨x, rfl, hz, q⟩ := h
 obtain ⟨u, rfl, t, rfl⟩ := pQ r
 exact ord_of_one hz ⟨.int _, H, I.tok _, ⟨_, rfl⟩, q⟩
end
end L2
namespace L2
open PySem PySem.Spec PyProof.Rows
structure vm (h : Heap) (x dx C : Addr) (mA : Str -> Option Value) : Prop where
 obj : h.get? x = some (W.instObj C dx)
 ns : h.Ns1 dx mA
 ne : dx ≠ x
theorem xA {h : Heap} {dx : Addr} {mA : Str -> Option Value} (n : h.Ns1 dx mA) : ∃ od, h.get? dx = some od /\ ∀ name, W.lookIn name od = some (mA name) := by
 obtain ⟨o, es, ep, ho, hd, hk, _, hm⟩ := n
 refine ⟨o, ho, fun name => ?_⟩
 have e := hm name
 unfold nsFind findBy at e
 rw [<- Array.find?_toList] at e
 unfold W.lookIn
 rw [hd]
 dsimp only
 split
 ·rename_i y q
  rw [q] at e
  exact congrArg some e
 ·rename_i q
  rw [q] at e
  have a : es.toList.any (·.refKey) = false := by
   rw [List.any_eq_false]
   intro y hy
   obtain ⟨z, t, hkey⟩ := hk y (Array.mem_toList_iff.mp hy)
   simp [DictEntry.refKey, hkey]
  have a' : ¬ es.toList.any (·.refKey) = true := by rw [a]; exact Bool.false_ne_true
  rw [if_neg a']
  exact congrArg some e
theorem vm.look {h : Heap} {x dx C : Addr} {mA : Str -> Option Value} (I : vm h x dx C mA) : ∃ od, W.InstAt h x (W.instObj C dx) C (some od) /\ ∀ name, W.lookIn name od = some (mA name) :=
 let ⟨od, ho, hl⟩ := xA I.ns
 ⟨od, ⟨I.obj, rfl, rfl, ho⟩, hl⟩
section
variable {prog : Program} {w : World} {A : Around} {E : Value -> Shared -> Prop} {s : Shared} {K : W.Frag} {x dx C f : Addr} {mA : Str -> Option Value} {name : Str} {v : Value}
theorem Av {expr : Bool} {Q : Value -> Shared -> Prop} (X : K.In s.heap) (I : vm s.heap x dx C mA) (hg : W.plainGet K C name = true) (hh : W.hasDictIn K C = true)
 (ha : W.findIn K (.ref C) name = some none) (hv : mA name = some v) (hv' : W.handedIn v = true) (h : Q v { s with toks := s.toks + 1 }) :
 wpAny (model prog w) A (getAttr (.ref x) name expr) Q E s := by
 obtain ⟨od, J, hl⟩ := I.look
 exact W.get_value X J (W.plainGet_of hg).1 (W.findObj_own hh ha rfl (by rw [hl, hv])) hv' h
theorem y8 {pl : Sem Bool} {Q : Value × List Value -> Shared -> Prop} (X : K.In s.heap) (I : vm s.heap x dx C mA) (hg : W.plainGet K C name = true)
 (hf : W.findIn K (.ref C) name = some (some (.ref f))) (ht : W.isFn K (.ref f) = true) (hv : mA name = none) (h : Q (.ref f, [.ref x]) s) :
 wpAny (model prog w) A (getMethod (.ref x) name pl) Q E s := by
 obtain ⟨od, J, hl⟩ := I.look
 exact W.method_fn X J (W.plainGet_of hg).1 (W.plainGet_of hg).2 hf (beq_iff_eq.mp ht) (by show (W.lookIn name od).map (·.isSome) = some false; rw [hl, hv]; rfl) h
theorem zY {ns : List Str} {Q : Unit -> Shared -> Prop} (X : K.In s.heap) (I : vm s.heap x dx C mA)
 (hs : W.findIn K (.ref C) "__setattr__" = some (some (.builtin "object.__setattr__"))) (hp : W.plainOver K C = true) (ht : W.takerIn K C name = some none) (hh : W.hasDictIn K C = true)
 (hw : PySem.Within mA ns) (hsz : ns.length <= sizeLine)
 (h : ∀ h', vm h' x dx C (fun y => if y = name then some v else mA y) -> Heap.SameBut dx s.heap h' -> Q () { s with heap := h', toks := s.toks + 2 }) :
 wpAny (model prog w) A (setAttr (.ref x) name v) Q E s := by
 obtain ⟨od, J, hl⟩ := I.look
 refine W.set_plain X J hs (W.osa_open (s := { s with toks := s.toks + 1 }) (r := none) X J hp ht fun b => ?_)
 obtain ⟨cd, hc, hd'⟩ := W.any_some hh
 have hx : s.heap.get? x = some ⟨.ref C, some dx, .plain, #[]⟩ := I.obj
 refine wpAny_bind (wpAny_pure (wpAny_bind (wpAny_bind (wpAny_loadPart hx (wpAny_bind (W.Looks.here (s := { s with toks := s.toks + 1 }) (W.looks_clsIn X hc) ?_))))))
 rw [hd']
 refine wpAny_pure (a := some dx) (wpAny_bind (wpAny_pure (wpAny_bind ?_)))
 refine wpAny_nsSet1 (s := { s with toks := s.toks + 1 }) I.ns fun h' hn2 hs2 => ?_
 obtain ⟨oD, esD, epD, hoD, hdD, hcD⟩ := hn2.count (PySem.Within.cons name v hw)
 refine wpAny_bind (wpAny_lookBehind hoD (by rw [hdD]; exact pastItsLine_dict (Nat.le_trans hcD (by rw [List.length_cons]; omega))) ?_)
 exact wpAny_pure (h _ ⟨(hs2.2 _ (Ne.symm I.ne)).trans I.obj, hn2, I.ne⟩ hs2)
theorem yV {R : Result -> Shared -> Prop} {vs : List Value} {kw : List (Str × Value)} (X : K.In s.heap) (hm : W.makesIn K C = true)
 (hi : W.findIn K (.ref C) "__init__" = some (some (.ref f))) (hf : W.typeIn K (.ref f) = some (.type "function"))
 (h : codeAny (model prog w) (A.under (.builtin "type.__call__" ⟨.ref C :: vs, kw⟩)) (.call (.ref f) ⟨.ref (s.heap.objs.size + 1) :: vs, kw⟩) (W.InitBack (s.heap.objs.size + 1) R)
  { s with heap := (s.heap.push W.emptyDict).push (W.instObj C s.heap.objs.size) }) :
 codeAny (model prog w) A (.call (.ref C) ⟨vs, kw⟩) R s := by
 obtain ⟨hh, g, d, t, os⟩ := s
 exact W.make_core (W.makes_of X hm) (W.looks_findIn X hi) (fun self => W.bind_fn X self hf) (.inl rfl) h
end
def dO (f : Str) (v : V) : List (Str × V) -> List (Str × V)
 | [] => [(f, v)]
 | (g, x) :: r => if g = f then (g, v) :: r else (g, x) :: dO f v r
theorem bA (f g : Str) (v : V) : ∀ fs : List (Str × V), (dO f v fs).lookup g = if g = f then some v else fs.lookup g
 | [] => by
   show List.lookup g [(f, v)] = _
   by_cases h : g = f
   ·have hb : (g == f) = true := beq_iff_eq.mpr h
    simp only [List.lookup, hb, if_pos h]
   ·have hb : (g == f) = false := beq_eq_false_iff_ne.mpr h
    simp only [List.lookup, hb, if_neg h]
 | (k, x) :: r => by
   have ih := bA f g v r
   rw [show dO f v ((k, x) :: r) = (if k = f then (k, v) :: r else (k, x) :: dO f v r) from rfl]
   by_cases hk : k = f
   ·rw [if_pos hk]
    by_cases h : g = k
    ·have hb : (g == k) = true := beq_iff_eq.mpr h
     simp only [List.lookup, hb, if_pos (h.trans hk)]
    ·have hb : (g == k) = false := beq_eq_false_iff_ne.mpr h
     simp only [List.lookup, hb, if_neg (fun e : g = f => h (e.trans hk.symm))]
   ·rw [if_neg hk]
    by_cases h : g = k
    ·have hb : (g == k) = true := beq_iff_eq.mpr h
     simp only [List.lookup, hb, if_neg (fun e : g = f => hk (h.symm.trans e))]
    ·have hb : (g == k) = false := beq_eq_false_iff_ne.mpr h
     simp only [List.lookup, hb]
     exact ih
theorem mn (f : Str) (v : V) : ∀ fs : List (Str × V), f ∈ (dO f v fs).map (·.1) /\ ∀ g, g ∈ fs.map (·.1) -> g ∈ (dO f v fs).map (·.1)
 | [] => ⟨by simp [dO], fun g h => by simp at h⟩
 | (k, x) :: r => by
   obtain ⟨i1, i2⟩ := mn f v r
   rw [show dO f v ((k, x) :: r) = (if k = f then (k, v) :: r else (k, x) :: dO f v r) from rfl]
   by_cases hk : k = f
   ·rw [if_pos hk]
    subst hk
    exact ⟨by simp, fun g h => by simpa using h⟩
   ·rw [if_neg hk]
    refine ⟨?_, fun g h => ?_⟩
    ·rw [List.map_cons]
     exact List.mem_cons_of_mem _ i1
    ·rw [List.map_cons] at h ⊢
     rcases List.mem_cons.mp h with e | e
     ·exact List.mem_cons.mpr (.inl e)
     ·exact List.mem_cons_of_mem _ (i2 g e)
theorem jA (f : Str) (v : V) : ∀ fs : List (Str × V), (dO f v fs).length <= fs.length + 1
 | [] => by simp [dO]
 | (k, x) :: r => by
   have ih := jA f v r
   rw [show dO f v ((k, x) :: r) = (if k = f then (k, v) :: r else (k, x) :: dO f v r) from rfl]
   by_cases hk : k = f
   ·rw [if_pos hk, List.length_cons, List.length_cons]; omega
   ·rw [if_neg hk, List.length_cons, List.length_cons]; omega
theorem jL.some_of {v : V} {o : Option Value} (r : jL (some v) o) : ∃ u, o = some u /\ aZ v u := by
 cases o with
 | none => exact (show False from r).elim
 | some u => exact ⟨u, rfl, r⟩
theorem jL.none_of {o : Option Value} (r : jL none o) : o = none := by
 cases o with
 | none => rfl
 | some u => exact (show False from r).elim
theorem xJ {v : V} {u : Value} (r : aZ v u) : W.handedIn u = true := by
 cases v with
 | non => cases (show u = Value.none from r); rfl
 | bl b => cases (show u = Value.bool b from r); rfl
 | int i => obtain ⟨t, e⟩ := (show ∃ t, u = Value.int i t from r); cases e; rfl
 | str x => obtain ⟨t, e⟩ := (show ∃ t, u = Value.str x t from r); cases e; rfl
 | byt b => obtain ⟨t, e⟩ := (show ∃ t, u = Value.bytes b t from r); cases e; rfl
 | flt b => obtain ⟨t, e⟩ := (show ∃ t, u = Value.float b t from r); cases e; rfl
 | ref a => cases (show u = Value.ref a from r); rfl
 | ty n => cases (show u = Value.type n from r); rfl
section
variable {P : Program} {w : World} {H H' : Hp} {h h' : Heap} {a C dx : Addr} {fs fs' : List (Str × V)}
theorem rK (hok : jb P w H h) (e : H a = some (.ins C dx fs)) : ∃ mA, vm h a dx C mA /\ (∀ f, jL (fs.lookup f) (mA f)) /\ PySem.Within mA (fs.map (·.1)) /\ fs.length <= 1000 /\ H dx = some (.own a) := by
 obtain ⟨d, z, ne, ob, mA, n, r, q⟩ := (show bU P w H h a (.ins C dx fs) from hok a _ e)
 exact ⟨mA, ⟨ob, n, ne⟩, r, q, z, d⟩
end
structure ue (K : W.Frag) (C : Addr) : Prop where
 pg : W.plainGet K C Str.empty = true
 hd : W.hasDictIn K C = true
 po : W.plainOver K C = true
 sa : W.findIn K (.ref C) "__setattr__" = some (some (.builtin "object.__setattr__"))
theorem ue.get {K : W.Frag} {C : Addr} (c : ue K C) (f : Str) : W.plainGet K C f = true := c.pg
def fu (K : W.Frag) (C : Addr) (f : Str) : Prop := W.findIn K (.ref C) f = some none
theorem fu.taker {K : W.Frag} {C : Addr} {f : Str} (n : fu K C f) : W.takerIn K C f = some none := by
 unfold W.takerIn
 rw [show W.findIn K (.ref C) f = some none from n]
 rfl
structure mH (K : W.Frag) (C : Addr) (m : Str) (f : Addr) : Prop where
 at_ : W.findIn K (.ref C) m = some (some (.ref f))
 fn : W.isFn K (.ref f) = true
 kp : W.keepIn K (.ref f) = true
section
variable {X : Cx} {pins : List (Addr × Obj)} {σ : St} {H : Hp} {s : Shared} {a C dx : Addr} {fs : List (Str × V)} {f : Str} {v : V} {A : Around} {E : Value -> Shared -> Prop}
theorem pc {b : Bool} {Q : Value -> Shared -> Prop} (I : aE X pins σ H s) (e : H a = some (.ins C dx fs)) (c : ue X.K C) (n : fu X.K C f) (l : fs.lookup f = some v)
 (h : ∀ u s', aE X pins σ H s' -> aZ v u -> Q u s') : wpAny (model X.prog X.w) A (getAttr (.ref a) f b) Q E s := by
 obtain ⟨mA, O, r, _, _, _⟩ := rK I.hok e
 obtain ⟨u, hu, ru⟩ := jL.some_of (v := v) (o := mA f) (by rw [<- l]; exact r f)
 exact Av I.kIn O (c.get f) c.hd n hu (xJ ru) (h u _ (I.tok _) ru)
theorem kz {m : Str} {g : Addr} {pl : Sem Bool} {Q : Value × List Value -> Shared -> Prop} (I : aE X pins σ H s) (e : H a = some (.ins C dx fs)) (c : ue X.K C) (k : mH X.K C m g) (l : fs.lookup m = none)
 (h : Q (.ref g, [.ref a]) s) : wpAny (model X.prog X.w) A (getMethod (.ref a) m pl) Q E s := by
 obtain ⟨mA, O, r, _, _, _⟩ := rK I.hok e
 have hn : mA m = none := jL.none_of (by rw [<- l]; exact r m)
 exact y8 I.kIn O (c.get m) k.at_ k.fn hn h
theorem og {y : V} {u : Value} {Q : Unit -> Shared -> Prop} (I : aE X pins σ H s) (e : H a = some (.ins C dx fs)) (c : ue X.K C) (n : fu X.K C f) (hl : fs.length < 1000) (ry : aZ y u)
 (h : ∀ s', aE X pins σ (aU H a (.ins C dx (dO f y fs))) s' -> Q () s') : wpAny (model X.prog X.w) A (setAttr (.ref a) f u) Q E s := by
 obtain ⟨mA, O, r, wi, _, ho⟩ := rK I.hok e
 have hz : (fs.map (·.1)).length <= sizeLine := by rw [List.length_map, sizeLine_eq]; omega
 refine zY I.kIn O c.sa c.po n.taker c.hd wi hz fun h' O' sb => h _ ?_
 have hd : ∃ o, h'.get? dx = some o := let ⟨o, _, _, e', _⟩ := O'.ns; ⟨o, e'⟩
 refine I.write (x := a) (e := dx) (by rw [e]; exact True.intro) (.inr ho) (fun b q hb z => (sb.2 b hb).trans z) hd ?_
 refine ⟨by rw [ak O.ne]; exact ho, ?_, O.ne, O'.obj, _, O'.ns, fun g => ?_, fun g hg => ?_⟩
 ·have := jA f y fs; omega
 ·show jL ((dO f y fs).lookup g) (if g = f then some u else mA g)
  rw [bA]
  by_cases q : g = f
  ·rw [if_pos q, if_pos q]; exact ry
  ·rw [if_neg q, if_neg q]; exact r g
 ·by_cases q : g = f
  ·rw [q]; exact (mn f y fs).1
  ·refine (mn f y fs).2 g (wi g fun z => hg ?_)
   show (if g = f then some u else mA g) = none
   rw [if_neg q]; exact z
theorem aE.made (I : aE X pins σ H s) : aE X pins σ (aU (aU H s.heap.objs.size (.own (s.heap.objs.size + 1))) (s.heap.objs.size + 1) (.ins C s.heap.objs.size []))
 { s with heap := (s.heap.push W.emptyDict).push (W.instObj C s.heap.objs.size) } := by
 have e1 : (s.heap.push W.emptyDict).get? s.heap.objs.size = some W.emptyDict := Heap.get?_push_size s.heap rfl
 have e2 : ((s.heap.push W.emptyDict).push (W.instObj C s.heap.objs.size)).get? (s.heap.objs.size + 1) = some (W.instObj C s.heap.objs.size) := by
  have := Heap.get?_push_size (s.heap.push W.emptyDict) (o := W.instObj C s.heap.objs.size) rfl
  rwa [Heap.size_push] at this
 have e3 : (s.heap.push W.emptyDict).Ns s.heap.objs.size (fun _ => none) := ⟨W.emptyDict, #[], _, e1, rfl, (fun e he => absurd he (by simp)), fun _ => rfl⟩
 have I1 := I.laid (a := s.heap.objs.size) (o := .own (s.heap.objs.size + 1)) (h' := s.heap.push W.emptyDict) (t' := s.toks) (fun b u q => Heap.get?_push_of_some _ q) (Nat.le_refl _) ⟨_, e1⟩
 refine I1.laid (a := s.heap.objs.size + 1) (o := .ins C s.heap.objs.size []) (t' := s.toks) (fun b u q => Heap.get?_push_of_some _ q) (Nat.le_of_eq (Heap.size_push _ _)) ?_
 have ne : s.heap.objs.size ≠ s.heap.objs.size + 1 := Nat.ne_of_lt (Nat.lt_succ_self _)
 refine ⟨by rw [ak ne, ae], Nat.zero_le _, ne, e2, fun _ => none, (Heap.Ns1.of_empty e3).at fun o q => Heap.get?_push_of_some _ q, fun _ => True.intro, fun y hy => absurd rfl hy⟩
theorem wL {prog : Program} {w : World} {env : Env} {e : Expr} {f : Str} {pos : Pos} {s : Shared} {Q : Value -> Shared -> Prop} (hb : attributeBase e f env (eval e env) = eval e env)
 (h : wpAny (model prog w) A (eval e env) (fun o s₁ => wpAny (model prog w) A (getAttr o f true) Q E s₁) E s) : wpAny (model prog w) A (eval (.Attribute e f pos) env) Q E s :=
 Attribute_any_ h (by rw [arm_eval_Attribute, hb])
end
def Dd (K : W.Frag) (ta : TE) (f : Str) : TE := fun σ H Q => ta σ H fun x H1 => ∃ a C dx fs v, x = .ref a /\ H1 a = some (.ins C dx fs) /\ ue K C /\ fu K C f /\ fs.lookup f = some v /\ Q v H1
def Dh (K : W.Frag) (ta tv : TE) (f : Str) : TS := fun D σ H => tv σ H fun y H1 => ta σ H1 fun x H2 => ∃ a C dx fs, x = .ref a /\ H2 a = some (.ins C dx fs) /\ ue K C /\ fu K C f /\ fs.length < 1000 /\
 D.nx σ (aU H2 a (.ins C dx (dO f y fs)))
def CM (X : Cx) (op : Operator) (rd : V -> V -> Hp -> VK -> Prop) : Prop :=
 ∀ (pins : List (Addr × Obj)) (s : Shared) (σ : St) (H : Hp) (x y : V) (u v : Value) (Q : VK), aE X pins σ H s -> aZ x u -> aZ y v -> rd x y H Q -> wpAny (model X.prog X.w) X.A (inplaceOp op u v) (EP X pins σ Q) X.xe s
def z0 (K : W.Frag) (ta tv : TE) (rd : V -> V -> Hp -> VK -> Prop) (f : Str) : TS := fun D σ H => ta σ H fun x H1 => ∃ a C dx fs v, x = .ref a /\ H1 a = some (.ins C dx fs) /\ ue K C /\ fu K C f /\ fs.lookup f = some v /\
 tv σ H1 fun y H2 => rd v y H2 fun z H3 => ∃ dx' fs', H3 a = some (.ins C dx' fs') /\ fs'.length < 1000 /\ D.nx σ (aU H3 a (.ins C dx' (dO f z fs')))
section
variable {X : Cx} {o e value : Expr} {f : Str} {pos pos' tpos : Pos} {ta tv : TE}
theorem bQ (he : PE X e ta) (hb : attributeBase e f X.env (eval e X.env) = eval e X.env) : PE X (.Attribute e f pos) (Dd X.K ta f) := by
 intro pins s σ H Q I h
 refine wL hb (bS (he pins s σ H _ I h) fun u s1 ⟨x, H1, I1, rx, a, C, dx, fs, v, ex, ea, c, n, l, q⟩ => ?_)
 subst ex
 obtain rfl : u = Value.ref a := rx
 exact pc I1 ea c n l fun u' s2 I2 ru => ⟨v, H1, I2, ru, q⟩
theorem oB (ha : PE X o ta) (hv : PE X value tv) (hs : swapsWith value (some (.Attribute o f pos')) pos.line X.env = pure false) : PS X (.Assign [.Attribute o f pos'] value pos) (Dh X.K ta tv f) := by
 intro pins s σ H D I h
 refine plainObj_wpAny_Assign_Attribute (bS (hv pins s σ H _ I h) fun u s1 ⟨y, H1, I1, ry, q⟩ => bS (ha pins s1 σ H1 _ I1 q) fun ov s2 ⟨x, H2, I2, rx, a, C, dx, fs, ex, ea, c, n, l, q2⟩ => ?_) hs
 subst ex
 obtain rfl : ov = Value.ref a := rx
 exact og I2 ea c n l ry fun s3 I3 => ⟨σ, _, I3, q2⟩
theorem gr {op : Operator} {rd : V -> V -> Hp -> VK -> Prop} (ha : PE X o ta) (hv : PE X value tv) (hop : CM X op rd) : PS X (.AugAssign (.Attribute o f tpos) op value pos) (z0 X.K ta tv rd f) := by
 intro pins s σ H D I h
 refine wpAny_AugAssign_AttributeAny (bS (ha pins s σ H _ I h) fun ov s1 ⟨x, H1, I1, rx, a, C, dx, fs, v, ex, ea, c, n, l, q⟩ => ?_)
 subst ex
 obtain rfl : ov = Value.ref a := rx
 refine pc I1 ea c n l fun u s2 I2 ru => bS (hv pins s2 σ H1 _ I2 q) fun w3 s3 ⟨y, H2, I3, ry, q3⟩ => bS (hop pins s3 σ H2 v y u w3 _ I3 ru ry q3) fun w4 s4 ⟨z, H3, I4, rz, dx', fs', ea', l', q4⟩ => ?_
 exact og I4 ea' c n l' rz fun s5 I5 => ⟨σ, _, I5, q4⟩
def rAdd : V -> V -> Hp -> VK -> Prop := fun x y H Q => ∃ i j, x = .int i /\ y = .int j /\ Q (.int (i + j)) H
theorem mq : CM X .Add rAdd := by
 rintro pins s σ H x y u v Q I rx ry ⟨i, j, rfl, rfl, q⟩
 obtain ⟨t, rfl⟩ := (show ∃ t, u = Value.int i t from rx)
 obtain ⟨t', rfl⟩ := (show ∃ t', v = Value.int j t' from ry)
 exact PyProof.Rows.iadd_int ⟨.int (i + j), H, I.tok _, ⟨_, rfl⟩, q⟩
theorem AV {pl : Sem Bool} {m : Str} {apos : Pos} {args : List Expr} {pins : List (Addr × Obj)} {s : Shared} {σ : St} {H : Hp} {Q : Value -> Shared -> Prop} {te : TE} (he : PE X e te) (I : aE X pins σ H s)
 (h : te σ H fun x H1 => ∃ a C dx fs g, x = .ref a /\ H1 a = some (.ins C dx fs) /\ ue X.K C /\ mH X.K C m g /\ fs.lookup m = none /\
  ∀ s1, aE X pins σ H1 s1 -> wpAny (model X.prog X.w) X.A (callWith pos (.ref g) [.ref a] (backTo pos (starEach args X.env)) (backToKw pos (keywordEach [] X.env))) Q X.xe s1)
 (ht : eval (.Call (.Attribute e m apos) args [] pos) X.env = (do
  let ov <- eval e X.env
  standAt apos.atName
  let (f, first) <- holding [ov] (getMethod ov m pl)
  callWith pos f first (backTo pos (starEach args X.env)) (backToKw pos (keywordEach [] X.env)))) :
 wpAny (model X.prog X.w) X.A (eval (.Call (.Attribute e m apos) args [] pos) X.env) Q X.xe s := by
 refine W.methodCall_KW (pl := pl) (bS (he pins s σ H _ I h) fun u s1 ⟨x, H1, I1, rx, a, C, dx, fs, g, ex, ea, c, k, l, q⟩ => ?_) ht
 subst ex
 obtain rfl : u = Value.ref a := rx
 exact kz I1 ea c k l (q s1 I1)
end
section
variable {X : Cx} {pins : List (Addr × Obj)} {σ : St} {H : Hp} {s : Shared} {A : Around} {E : Value -> Shared -> Prop} {Q : Value -> Shared -> Prop} {c : Value} {b : Bool}
end
end L2
namespace L2
open PySem PySem.Spec PyProof.Rows
structure dq (k : Nat) (A : Around) : Prop where
 hd : A.handled = none
 dp : A.depth + 3 * k + 5 < recursionLimit
 un : A.units + 16 * k + 200 < cLine
theorem dq.mono {j k : Nat} {A : Around} (r : dq k A) (h : j <= k) : dq j A := ⟨r.hd, by have := r.dp; omega, by have := r.un; omega⟩
theorem dq.deeper {k : Nat} {A : Around} (r : dq (k + 1) A) (env : Env) : dq k (A.deeper env) :=
 ⟨r.hd, by have := r.dp; show A.depth + 1 + 3 * k + 5 < _; omega, by have := r.un; show A.units + 3 + 16 * k + 200 < _; omega⟩
theorem uZ {A : Around} {C : Addr} {us : List Value} {kw : List (Str × Value)} : (A.under (.builtin "type.__call__" ⟨.ref C :: us, kw⟩)).depth = A.depth + 1 := by
 first | rfl | simp [Around.under, Code.weight, Code.isCreation, Code.isGuard, Code.isCaller, Code.frames, Code.isFrame, guardIds]
theorem uY {A : Around} {C : Addr} {us : List Value} {kw : List (Str × Value)} : (A.under (.builtin "type.__call__" ⟨.ref C :: us, kw⟩)).units = A.units + 1 := by
 first | rfl | simp [Around.under, Code.cUnits, Code.frames, Code.isFrame]
theorem dq.make {k : Nat} {A : Around} (r : dq (k + 1) A) (C : Addr) (us : List Value) (kw : List (Str × Value)) : dq k (A.under (.builtin "type.__call__" ⟨.ref C :: us, kw⟩)) :=
 ⟨r.hd, by have := r.dp; rw [uZ]; omega, by have := r.un; rw [uY]; omega⟩
theorem dq.depth {k : Nat} {A : Around} (r : dq k A) : A.depth < recursionLimit := by have := r.dp; omega
theorem dq.units {k : Nat} {A : Around} (r : dq k A) : A.units + 64 < cLine := by have := r.un; omega
def tNil : TA := fun _ H Q => Q [] H
def Cc (ta : TE) (tr : TA) : TA := fun σ H Q => ta σ H fun x H1 => tr σ H1 fun xs H2 => Q (x :: xs) H2
section
variable {X : Cx} {e : Expr} {es : List Expr} {te : TE} {t : TA} {pos : Pos}
theorem ad : PA X [] tNil := fun _ _ _ _ H Q I h => Calls.spliced_nil ⟨[], H, I, .nil, h⟩
theorem aa (ha : PE X e te) (hr : PA X es t) (hs : starEach (e :: es) X.env = (false, eval e X.env) :: starEach es X.env := by rfl) : PA X (e :: es) (Cc te t) := by
 intro pos pins s σ H Q I h
 rw [hs]
 show wpAny _ _ (spliced ((false, eval e X.env) :: backTo pos (starEach es X.env))) _ _ s
 refine Calls.spliced_cons (bS (ha pins s σ H _ I h) fun u s1 ⟨x, H1, I1, r1, q1⟩ => ?_)
 exact bS (hr pos pins s1 σ H1 _ I1 q1) fun us s2 ⟨xs, H2, I2, r2, q2⟩ => ⟨x :: xs, H2, I2, .cons r1 r2, q2⟩
def Da (t : TA) : TE := fun σ H Q => t σ H fun xs H1 => xs.length <= sizeLine /\ ∀ p, H1 p = none -> Q (.ref p) (aU H1 p (.lst xs))
theorem aN (h : PA X es t) : PE X (.List es pos) (Da t) := by
 intro pins s σ H Q I hq
 refine wpAny_List_spliced (bS (h pos pins s σ H _ I hq) fun us s1 ⟨xs, H1, I1, r, z, q⟩ => ⟨by rw [<- r.length]; exact z, ?_⟩)
 have hf : H1 s1.heap.objs.size = none := I1.hok.fresh (Nat.le_refl _)
 refine ⟨.ref s1.heap.objs.size, aU H1 s1.heap.objs.size (.lst xs), I1.laid (t' := s1.toks) (fun b u e => Heap.get?_push_of_some _ e) (Nat.le_refl _) ?_, rfl, q _ hf⟩
 exact ⟨z, us, 0, r, Heap.get?_push_size _ rfl⟩
end
abbrev Sp := List V -> Hp -> VK -> XK -> Prop
abbrev CXT := List Env -> Hp -> Shared -> XK -> Value -> Shared -> Prop
structure vo (P : Program) (w : World) (K : W.Frag) (mg : Str -> Option Value) (base : Heap) (A : Around) (outer : List Env) (s : Shared) (H : Hp) : Prop where
 frames : A.frames = some outer
 mod : Mod K mg base
 bs : ∀ b o, base.get? b = some o -> s.heap.get? b = some o /\ H b = none
 bsz : base.objs.size <= s.heap.objs.size
 funs : s.heap.FunFrames base outer
 frf : ∀ b ∈ sr outer, H b = none
 hok : jb P w H s.heap
 bare : AllBare s.gens
def CE (outer : List Env) (P : Program) (w : World) (H : Hp) (s : Shared) (Q : VK) (u : Value) (s' : Shared) : Prop :=
 ∃ v H', s'.os = s.os /\ AllBare s'.gens /\ Un (sr outer) [] H H' s.heap s'.heap /\ jb P w H' s'.heap /\ aZ v u /\ Q v H'
def CR (CX : CXT) (outer : List Env) (P : Program) (w : World) (H : Hp) (s : Shared) (Q : VK) (E : XK) (r : Result) (s' : Shared) : Prop :=
 match r with
 | .ok (.ret u) => CE outer P w H s Q u s'
 | .ok _ => False
 | .error e => CX outer H s E e s'
structure aP (P : Program) (w : World) (K : W.Frag) (mg : Str -> Option Value) (base : Heap) (CX : CXT) (k : Nat) (f : Addr) (fd : FuncData) (ps : List Str) (sp : Sp) : Prop where
 len : ∀ vs H Q E, sp vs H Q E -> vs.length = ps.length
 run : ∀ (A : Around) (outer : List Env) (s : Shared) (H : Hp) (args : Args) (us : List Value) (vs : List V) (Q : VK) (E : XK), dq k A -> vo P w K mg base A outer s H -> BindsTo s fd args (ps.zip us) -> aR vs us -> sp vs H Q E ->
  codeAny (model P w) A (.call (.ref f) args) (CR CX outer P w H s Q E) s
theorem vo.make {P : Program} {w : World} {K : W.Frag} {mg : Str -> Option Value} {base : Heap} {A : Around} {outer : List Env} {s : Shared} {H : Hp} (e : vo P w K mg base A outer s H) (C : Addr) (us : List Value) (kw : List (Str × Value)) :
 vo P w K mg base (A.under (.builtin "type.__call__" ⟨.ref C :: us, kw⟩)) outer s H := ⟨by first | exact e.frames | (simpa [Around.under, Code.envs, Code.isFrame, pushEnvs] using e.frames), e.mod, e.bs, e.bsz, e.funs, e.frf, e.hok, e.bare⟩
section
variable {X : Cx} {pins : List (Addr × Obj)} {σ : St} {H : Hp} {s s' : Shared}
theorem aE.env0 (I : aE X pins σ H s) : vo X.prog X.w X.K X.mg X.base X.A X.stack s H :=
 ⟨I.ok.frames, I.ok.mod, I.bs, Nat.le_trans I.ok.bsz I.sz, I.stack, I.stkFree, I.hok, I.bare⟩
theorem aE.after {Q : VK} {u : Value} (I : aE X pins σ H s) (h : CE X.stack X.prog X.w H s Q u s') : EP X pins σ Q u s' := by
 obtain ⟨v, H', os, bare, un, hok, r, q⟩ := h
 obtain ⟨hh, g, d, t, os'⟩ := s'
 obtain rfl : os' = s.os := os
 exact ⟨v, H', I.call (h' := hh) (g' := g) (d' := d) (t' := t) (ch := []) un hok bare (fun b z => absurd z (by simp)), r, q⟩
end
def vz (sp : Sp) (dvs : List V) (E : XK) (t : TA) : TE := fun σ H Q => t σ H fun vs H1 => sp (vs ++ dvs) H1 Q E
def vy (C : Addr) (m : Str) (sp : Sp) (dvs : List V) (E : XK) (ta : TE) (t : TA) : TE := fun σ H Q => ta σ H fun x H1 => ∃ a dx fs, x = .ref a /\ H1 a = some (.ins C dx fs) /\ fs.lookup m = none /\
 t σ H1 fun vs H2 => sp (x :: (vs ++ dvs)) H2 Q E
def AJ (C : Addr) (sp : Sp) (dvs : List V) (E : XK) (t : TA) : TE := fun σ H Q => t σ H fun vs H1 => ∀ x dx, H1 x = none -> H1 dx = none -> dx ≠ x ->
 sp (.ref x :: (vs ++ dvs)) (aU (aU H1 dx (.own x)) x (.ins C dx [])) (fun v H2 => v = .non /\ Q (.ref x) H2) E
def aB (K : W.Frag) (fd : FuncData) (ps : List Str) (ds : List Value) : Prop :=
 ∀ (s : Shared) (us : List Value), K.In s.heap -> (us ++ ds).length = ps.length -> BindsTo s fd ⟨us, []⟩ (ps.zip (us ++ ds))
theorem aB.all {K : W.Frag} {fd : FuncData} {ps : List Str} (h : ∀ us : List Value, us.length = ps.length -> bindArgs fd ⟨us, []⟩ = pure (ps.zip us)) : aB K fd ps [] := fun s us _ hl => by
 rw [List.append_nil] at hl ⊢
 exact .of_eq (h us hl)
def du (CX : CXT) (X : Cx) (E : XK) : Prop := ∀ (pins : List (Addr × Obj)) (σ : St) (H : Hp) (s : Shared) (e : Value) (s' : Shared), aE X pins σ H s -> CX X.stack H s E e s' -> X.xe e s'
section
variable {X : Cx} {CX : CXT} {k : Nat} {f C : Addr} {fd : FuncData} {ps : List Str} {sp : Sp} {dvs : List V} {ds : List Value} {E : XK} {x m : Str} {p pos apos : Pos} {e o : Expr} {es : List Expr} {ta : TE} {t : TA}
theorem oo {pins : List (Addr × Obj)} {σ : St} {H : Hp} {s : Shared} {Q : VK} {us : List Value} {vs : List V} (F : aP X.prog X.w X.K X.mg X.base CX k f fd ps sp) (hr : dq k X.A) (hb : aB X.K fd ps ds) (hd : aR dvs ds) (hx : du CX X E)
 (I : aE X pins σ H s) (r : aR vs us) (h : sp (vs ++ dvs) H Q E) : wpAny (model X.prog X.w) X.A (call (.ref f) us) (EP X pins σ Q) X.xe s := by
 have r2 : aR (vs ++ dvs) (us ++ ds) := r.append hd
 have hl : (us ++ ds).length = ps.length := by rw [<- r2.length]; exact F.len _ _ _ _ h
 refine wpAny_call (codeAny_mono (F.run X.A X.stack s H ⟨us, []⟩ (us ++ ds) (vs ++ dvs) Q E hr I.env0 (hb s us I.kIn hl) r2 h) fun r s' hq => ?_)
 cases r with
 | error e => exact hx pins σ H s e s' I hq
 | ok fl =>
   cases fl with
   | ret u => exact I.after hq
   | next => exact False.elim hq
   | brk => exact False.elim hq
   | cont => exact False.elim hq
theorem Ab (F : aP X.prog X.w X.K X.mg X.base CX k f fd ps sp) (hr : dq k X.A) (hg : Gl X x) (hm : X.mg x = some (.ref f)) (hk : W.keepIn X.K (.ref f) = true) (hb : aB X.K fd ps ds) (hd : aR dvs ds) (hx : du CX X E)
 (ha : PA X (e :: es) t) (hdb : (x == ("__debug__" : Str)) = false := by decide) (he : starEach (e :: es) X.env = (false, eval e X.env) :: starEach es X.env := by rfl) (hpl : (backTo pos (starEach es X.env)).any (·.1) = false := by rfl) :
 PE X (.Call (.Name x p) (e :: es) [] pos) (vz sp dvs E t) := by
 intro pins s σ H Q I h
 refine wpAny_Call_Name_kw (jT I hg hm ?_ hdb)
 refine W.callWith_K (h₀ := X.base) I.ok.mod.kin hk (bS (ha pos pins s σ H _ I h) fun us s1 ⟨vs, H1, I1, r, q⟩ => ⟨I1.kIn, ?_⟩) he hpl
 exact oo F hr hb hd hx I1 r q
theorem yM (F : aP X.prog X.w X.K X.mg X.base CX k f fd ps sp) (hr : dq k X.A) (hg : Gl X x) (hm : X.mg x = some (.ref f)) (hk : W.keepIn X.K (.ref f) = true) (hb : aB X.K fd ps ds) (hd : aR dvs ds) (hx : du CX X E)
 (hdb : (x == ("__debug__" : Str)) = false := by decide) : PE X (.Call (.Name x p) [] [] pos) (vz sp dvs E tNil) := by
 intro pins s σ H Q I h
 refine wpAny_Call_Name_kw (jT I hg hm ?_ hdb)
 exact W.callWith_K0 I.kIn hk (oo (us := []) F hr hb hd hx I .nil h)
theorem z9 {pl : Sem Bool} (he : PE X o ta) (c : ue X.K C) (hm : mH X.K C m f) (F : aP X.prog X.w X.K X.mg X.base CX k f fd ps sp) (hr : dq k X.A) (hb : aB X.K fd ps ds) (hd : aR dvs ds) (hx : du CX X E) (ha : PA X (e :: es) t)
 (hst : starEach (e :: es) X.env = (false, eval e X.env) :: starEach es X.env := by rfl) (hpl : (backTo pos (starEach es X.env)).any (·.1) = false := by rfl)
 (ht : eval (.Call (.Attribute o m apos) (e :: es) [] pos) X.env = (do
  let ov <- eval o X.env
  standAt apos.atName
  let (f, first) <- holding [ov] (getMethod ov m pl)
  callWith pos f first (backTo pos (starEach (e :: es) X.env)) (backToKw pos (keywordEach [] X.env))) := by rfl) :
 PE X (.Call (.Attribute o m apos) (e :: es) [] pos) (vy C m sp dvs E ta t) := by
 intro pins s σ H Q I h
 refine W.methodCall_KW (pl := pl) (bS (he pins s σ H _ I h) fun u s1 ⟨x, H1, I1, rx, a, dx, fs, ex, ea, l, q⟩ => ?_) ht
 subst ex
 obtain rfl : u = Value.ref a := rx
 refine kz I1 ea c hm l ?_
 refine W.callWith_K (first := [.ref a]) (h₀ := X.base) I.ok.mod.kin hm.kp (bS (ha pos pins s1 σ H1 _ I1 q) fun us s2 ⟨vs, H2, I2, r, q2⟩ => ⟨I2.kIn, ?_⟩) hst hpl
 exact oo (us := .ref a :: us) (vs := .ref a :: vs) F hr hb hd hx I2 (.cons rfl r) q2
theorem yI {pl : Sem Bool} (he : PE X o ta) (c : ue X.K C) (hm : mH X.K C m f) (F : aP X.prog X.w X.K X.mg X.base CX k f fd ps sp) (hr : dq k X.A) (hb : aB X.K fd ps ds) (hd : aR dvs ds) (hx : du CX X E)
 (ht : eval (.Call (.Attribute o m apos) [] [] pos) X.env = (do
  let ov <- eval o X.env
  standAt apos.atName
  let (f, first) <- holding [ov] (getMethod ov m pl)
  callWith pos f first (backTo pos (starEach [] X.env)) (backToKw pos (keywordEach [] X.env))) := by rfl) :
 PE X (.Call (.Attribute o m apos) [] [] pos) (vy C m sp dvs E ta tNil) := by
 intro pins s σ H Q I h
 refine W.methodCall_KW (pl := pl) (bS (he pins s σ H _ I h) fun u s1 ⟨x, H1, I1, rx, a, dx, fs, ex, ea, l, q⟩ => ?_) ht
 subst ex
 obtain rfl : u = Value.ref a := rx
 refine kz I1 ea c hm l ?_
 exact W.callWith_K0 (first := [.ref a]) I1.kIn hm.kp (oo (us := [.ref a]) (vs := [.ref a]) F hr hb hd hx I1 (.cons rfl .nil) q)
structure Mk (K : W.Frag) (C f : Addr) : Prop where
 makes : W.makesIn K C = true
 init : W.findIn K (.ref C) "__init__" = some (some (.ref f))
 fn : W.isFn K (.ref f) = true
 kp : W.keepIn K (.ref C) = true
theorem yt {pins : List (Addr × Obj)} {σ : St} {H : Hp} {s : Shared} {Q : VK} {us : List Value} {vs : List V} (M : Mk X.K C f) (F : aP X.prog X.w X.K X.mg X.base CX k f fd ps sp) (hr : dq (k + 1) X.A) (hb : aB X.K fd ps ds) (hd : aR dvs ds)
 (hx : du CX X E) (I : aE X pins σ H s) (r : aR vs us)
 (h : ∀ x dx, H x = none -> H dx = none -> dx ≠ x -> sp (.ref x :: (vs ++ dvs)) (aU (aU H dx (.own x)) x (.ins C dx [])) (fun v H2 => v = .non /\ Q (.ref x) H2) E) :
 wpAny (model X.prog X.w) X.A (call (.ref C) us) (EP X pins σ Q) X.xe s := by
 have hq := h (s.heap.objs.size + 1) s.heap.objs.size (I.hok.fresh (Nat.le_succ _)) (I.hok.fresh (Nat.le_refl _)) (Nat.ne_of_lt (Nat.lt_succ_self _))
 have I2 := aE.made (C := C) I
 have r2 : aR (V.ref (s.heap.objs.size + 1) :: (vs ++ dvs)) (Value.ref (s.heap.objs.size + 1) :: (us ++ ds)) := .cons rfl (r.append hd)
 have hl : (Value.ref (s.heap.objs.size + 1) :: us ++ ds).length = ps.length := by
  have e := r2.length
  rw [F.len _ _ _ _ hq] at e
  exact e.symm
 refine wpAny_call (yV (f := f) I.kIn M.makes M.init (beq_iff_eq.mp M.fn) (codeAny_mono (F.run _ X.stack _ _ ⟨Value.ref (s.heap.objs.size + 1) :: us, []⟩ (Value.ref (s.heap.objs.size + 1) :: (us ++ ds)) _ _ E (hr.make C us [])
  (I2.env0.make C us []) (hb _ (Value.ref (s.heap.objs.size + 1) :: us) I2.kIn hl) r2 hq) fun r s' hq' => ?_))
 cases r with
 | error e => exact hx pins σ _ _ e s' I2 hq'
 | ok fl =>
   cases fl with
   | ret u =>
     obtain ⟨v, H', I3, rv, ev, q3⟩ := I2.after hq'
     subst ev
     exact ⟨rv, ⟨V.ref (s.heap.objs.size + 1), H', I3, rfl, q3⟩⟩
   | next => exact False.elim hq'
   | brk => exact False.elim hq'
   | cont => exact False.elim hq'
theorem Aa (M : Mk X.K C f) (F : aP X.prog X.w X.K X.mg X.base CX k f fd ps sp) (hr : dq (k + 1) X.A) (hg : Gl X x) (hm : X.mg x = some (.ref C)) (hb : aB X.K fd ps ds) (hd : aR dvs ds) (hx : du CX X E)
 (ha : PA X (e :: es) t) (hdb : (x == ("__debug__" : Str)) = false := by decide) (he : starEach (e :: es) X.env = (false, eval e X.env) :: starEach es X.env := by rfl) (hpl : (backTo pos (starEach es X.env)).any (·.1) = false := by rfl) :
 PE X (.Call (.Name x p) (e :: es) [] pos) (AJ C sp dvs E t) := by
 intro pins s σ H Q I h
 refine wpAny_Call_Name_kw (jT I hg hm ?_ hdb)
 refine W.callWith_K (h₀ := X.base) I.ok.mod.kin M.kp (bS (ha pos pins s σ H _ I h) fun us s1 ⟨vs, H1, I1, r, q⟩ => ⟨I1.kIn, ?_⟩) he hpl
 exact yt M F hr hb hd hx I1 r q
end
section
variable {X : Cx} {CX : CXT} {k : Nat} {f C : Addr} {fd : FuncData} {ps ks : List Str} {sp : Sp} {E : XK} {x m : Str} {p pos apos kpos : Pos} {e o : Expr} {es : List Expr} {kws : List Keyword} {te ta : TE} {t tk : TA} {nm : Option Str}
variable {g : List Value -> List Value -> List Value} {gV : List V -> List V -> List V}
end
structure ao (N P : List Str) (sc : Scope) : Prop where
 kind : sc.kind = .function
 co : sc.isCoroutine = false
 gen : sc.isGenerator = false
 nd : N.Nodup
 pre : N.take P.length = P
 par : ∀ x ∈ P, sc.names.lookup x = some .local \/ sc.names.lookup x = some .cell
 nofree : ∀ y ∈ sc.names, y.2 ≠ .free
theorem qC {kindOf : Str -> Option NameKind} {x : Str} : ∀ {binds : List (Str × Value)} {m : Str -> Option Value}, (∀ v, (x, v) ∉ binds) -> bindL kindOf binds m x = m x
 | [], _, _ => rfl
 | (n, v) :: r, m, h => by
   unfold bindL
   rw [qC fun w hw => h w (List.mem_cons_of_mem _ hw)]
   split
   ·have : x ≠ n := by rintro rfl; exact h v List.mem_cons_self
    simp [this]
   ·rfl
theorem qF {kindOf : Str -> Option NameKind} {x : Str} : ∀ {binds : List (Str × Value)} {m : Str -> Option Value}, (∀ v, (x, v) ∉ binds) -> bindC kindOf binds m x = m x
 | [], _, _ => rfl
 | (n, v) :: r, m, h => by
   unfold bindC
   rw [qF fun w hw => h w (List.mem_cons_of_mem _ hw)]
   split
   ·rfl
   ·have : x ≠ n := by rintro rfl; exact h v List.mem_cons_self
    simp [this]
theorem qD {kindOf : Str -> Option NameKind} {x : Str} {v : Value} : ∀ {P : List Str} {vs : List Value} {i : Nat} {m : Str -> Option Value}, P.Nodup -> P[i]? = some x -> vs[i]? = some v -> kindOf x = some .local ->
 bindL kindOf (P.zip vs) m x = some v
 | [], _, _, _, _, h, _, _ => by simp at h
 | _ :: _, [], _, _, _, _, h, _ => by simp at h
 | p :: P, w :: vs, 0, m, nd, h1, h2, hk => by
   simp at h1 h2; subst h1; subst h2
   show bindL kindOf ((p, w) :: P.zip vs) m p = _
   unfold bindL
   rw [qC fun v hv => (List.nodup_cons.mp nd).1 (List.of_mem_zip hv).1, if_pos hk]
   simp
 | p :: P, w :: vs, i + 1, m, nd, h1, h2, hk => by
   show bindL kindOf ((p, w) :: P.zip vs) m x = _
   unfold bindL
   exact qD (i := i) (List.nodup_cons.mp nd).2 (by simpa using h1) (by simpa using h2) hk
theorem qG {kindOf : Str -> Option NameKind} {x : Str} {v : Value} : ∀ {P : List Str} {vs : List Value} {i : Nat} {m : Str -> Option Value}, P.Nodup -> P[i]? = some x -> vs[i]? = some v -> kindOf x ≠ some .local ->
 bindC kindOf (P.zip vs) m x = some v
 | [], _, _, _, _, h, _, _ => by simp at h
 | _ :: _, [], _, _, _, _, h, _ => by simp at h
 | p :: P, w :: vs, 0, m, nd, h1, h2, hk => by
   simp at h1 h2; subst h1; subst h2
   show bindC kindOf ((p, w) :: P.zip vs) m p = _
   unfold bindC
   rw [qF fun v hv => (List.nodup_cons.mp nd).1 (List.of_mem_zip hv).1, if_neg hk]
   simp
 | p :: P, w :: vs, i + 1, m, nd, h1, h2, hk => by
   show bindC kindOf ((p, w) :: P.zip vs) m x = _
   unfold bindC
   exact qG (i := i) (List.nodup_cons.mp nd).2 (by simpa using h1) (by simpa using h2) hk
def start (N : List Str) (vs : List V) : St := vs.map some ++ List.replicate (N.length - vs.length) none
def fg (CX : CXT) (P : Program) (w : World) (K : W.Frag) (mg : Str -> Option Value) (base : Heap) (N : List Str) (qual : Str) (scope : Scope) (f : Addr) (cd : Value) (A : Around) (outer : List Env) (s : Shared) (H : Hp) (E : XK) : Cx where
 prog := P
 w := w
 K := K
 mg := mg
 base := base
 A := A.deeper (envOfC qual scope s.heap.objs.size f cd)
 N := N
 s_0 := s
 H_0 := H
 env := envOfC qual scope s.heap.objs.size f cd
 outer := outer
 stack := envOfC qual scope s.heap.objs.size f cd :: outer
 ex := []
 calm := true
 fn := fun _ => true
 pn := []
 xe := fun e s' => wpAny (model P w) (A.deeper (envOfC qual scope s.heap.objs.size f cd)) (leaving (envOfC qual scope s.heap.objs.size f cd) e) (fun _ s'' => CX outer H s E e s'') (fun e' s'' => CX outer H s E e' s'') s'
theorem tY {sc : Scope} {n : Nat} {x : Str} (h : sc.names.lookup x = some .cell) : ∃ c, (cellsFrom n sc.names []).lookup x = some c := by
 have q := W.cellsFrom_some sc.names n [] (.inl h)
 exact Option.isSome_iff_exists.mp q
theorem xH {CX : CXT} {P : Program} {w : World} {K : W.Frag} {mg : Str -> Option Value} {base : Heap} {N ps : List Str} {qual : Str} {scope : Scope} {f : Addr} {cd : Value} {A : Around} {outer : List Env} {s s1 : Shared} {H : Hp} {E : XK} {us : List Value} {vs : List V}
 (S : ao N ps scope) (hd : A.handled = none) (e0 : vo P w K mg base A outer s H) (hl : vs.length = ps.length) (r : aR vs us)
 (x : InCallC s s.heap.objs.size (bindL (envOfC qual scope s.heap.objs.size f cd).kindOf (ps.zip us) fun _ => none) (cellsFrom (s.heap.objs.size + 1) scope.names []) (bindC (envOfC qual scope s.heap.objs.size f cd).kindOf (ps.zip us) fun _ => none) s1) :
 aE (fg CX P w K mg base N qual scope f cd A outer s H E) [] (start N vs) H s1 := by
 have hpl : ps.length <= N.length := by have := congrArg List.length S.pre; rw [List.length_take] at this; omega
 obtain ⟨h1, tk, rfl, hk⟩ := x.done
 have noA : ∀ b : Addr, b ∉ (fg CX P w K mg base N qual scope f cd A outer s H E).ex := fun b z => absurd (show b ∈ ([] : List Addr) from z) (by simp)
 refine ⟨⟨e0.mod, S.kind, rfl, rfl, Nat.le_refl _, fun y z c h1 h2 => ?_, fun y hy => ?_, fun y c _ h => ?_, fun _ => hd, Around.frames_deeper e0.frames, .inr ⟨rfl, rfl⟩, fun b z => absurd z (noA b), e0.bs, e0.bsz, fun b _ _ => noA b, fun b z => absurd z (noA b), e0.funs, e0.frf⟩,
  rfl, e0.bare, Un.kept hk, ⟨_, x.toInCall.ns, fun i y v h1 h2 h3 => ?_⟩, fun y c h => ⟨_, x.cell y c h⟩, e0.hok.fresh (Nat.le_refl _), fun y c h => ?_, fun p hp => absurd (show p ∈ ([] : List (Addr × Obj)) from hp) (by simp), e0.hok.kept hk, ?_⟩
 ·exact name_of_addr x.apart (PySem.mem_of_lookup h1) (PySem.mem_of_lookup h2)
 ·have hy : scope.names.lookup y = some .cell \/ scope.names.lookup y = some .free := hy
  rcases hy with hy | hy
  ·exact tY hy
  ·exact absurd rfl (S.nofree _ (PySem.mem_of_lookup hy))
 ·exact Nat.le_of_lt (x.above y c (PySem.mem_of_lookup h))
 ·have hi : i < vs.length := by
   unfold start at h2
   by_cases hi : i < vs.length
   ·exact hi
   ·rw [List.getElem?_append_right (by simpa using hi)] at h2
    rw [List.getElem?_replicate] at h2
    split at h2 <;> cases h2
  have ha : vs[i]? = some v := by
   unfold start at h2
   rw [List.getElem?_append_left (by simpa using hi), List.getElem?_map] at h2
   cases e : vs[i]? with
   | none => rw [e] at h2; cases h2
   | some a => rw [e] at h2; cases h2; rfl
  obtain ⟨u, hu, rv⟩ := r.get ha
  have hp : ps[i]? = some y := by
   rw [<- S.pre, List.getElem?_take_of_lt (by omega)]; exact h1
  have ndP : ps.Nodup := by rw [<- S.pre]; exact S.nd.sublist (List.take_sublist _ _)
  refine ⟨u, rv, ?_⟩
  rcases S.par y (List.mem_of_getElem? hp) with k | k
  ·exact .inl ⟨k, qD ndP hp hu k⟩
  ·obtain ⟨c, e⟩ := tY (n := s.heap.objs.size + 1) k
   refine .inr ⟨.inl k, c, e, ?_⟩
   have q := x.cell y c e
   rw [qG ndP hp hu (by show scope.names.lookup y ≠ _; rw [k]; decide)] at q
   exact q
 ·exact e0.hok.fresh (Nat.le_of_lt (x.above y c (PySem.mem_of_lookup h)))
 ·unfold start
  show _ = N.length
  rw [List.length_append, List.length_map, List.length_replicate]
  omega
theorem AZ {CX : CXT} {P : Program} {w : World} {K : W.Frag} {mg : Str -> Option Value} {base : Heap} {k : Nat} {f : Addr} {name qual : Str} {params : Arguments} {body : List Stmt} {scope : Scope} {dV kV doc pm cdv ct oc : Value} {an od : Option Addr}
 {osl : Array (Option Value)} {N ps : List Str} {sp : Sp} (lk : K.lookup f = some ⟨oc, od, .func (W.fnOf name qual params body scope dV kV doc pm an cdv ct), osl⟩) (hcd : W.codeIn K cdv qual = true) (S : ao N ps scope)
 (len : ∀ vs H Q E, sp vs H Q E -> vs.length = ps.length)
 (hbody : ∀ (A : Around) (outer : List Env) (s : Shared) (H : Hp) (vs : List V) (Q : VK) (E : XK), dq k (A.deeper (envOfC qual scope s.heap.objs.size f cdv)) -> sp vs H Q E ->
  ∃ t, uh (fg CX P w K mg base N qual scope f cdv A outer s H E) body t /\ t { nx := fun _ H' => Q .non H', rt := Q } (start N vs) H) :
 aP P w K mg base CX (k + 1) f (W.fnOf name qual params body scope dV kV doc pm an cdv ct) ps sp := by
 refine ⟨len, fun A outer s H args us vs Q E hr e0 hb r hsp => ?_⟩
 have hl := len _ _ _ _ hsp
 have KX : K.In s.heap := e0.mod.kin.keeps fun b o e => (e0.bs b o e).1
 have lim : s.heap.NoLimit := e0.mod.nolimit.keeps fun b o e => (e0.bs b o e).1
 have hkind : ∀ y ∈ ps.zip us, scope.names.lookup y.1 = some .local \/ (scope.names.lookup y.1 = some .cell /\ ((cellsFrom (s.heap.objs.size + 1) scope.names []).lookup y.1).isSome = true) := fun ⟨n, v⟩ hy => by
  rcases S.par n (List.of_mem_zip hy).1 with q | q
  ·exact .inl q
  ·exact .inr ⟨q, W.cellsFrom_some _ _ _ (.inl q)⟩
 refine codeAny_call_function hr.depth (KX _ _ lk) rfl S.co S.gen rfl (W.codeRec_of KX hcd) (hb _ _ _ _ ?_)
 refine wpAny_newFunctionEnv_cells S.kind hkind fun env he s1 x => ?_
 subst he
 refine ⟨lim.keeps x.toInCall.keep, codeAny_func ?_⟩
 obtain ⟨t, ht, hq⟩ := hbody A outer s H vs Q E (hr.deeper _) hsp
 have I : aE (fg CX P w K mg base N qual scope f cdv A outer s H E) [] (start N vs) H s1 := xH S hr.hd e0 hl r x
 refine wpAny_mono (ht [] s1 (start N vs) H _ I hq) (fun fl s' hs => ?_) fun e s' hs => hs
 have fin : ∀ {σ' : St} {H' : Hp} {v : V} {u : Value}, aE (fg CX P w K mg base N qual scope f cdv A outer s H E) [] σ' H' s' -> aZ v u -> Q v H' -> CE outer P w H s Q u s' :=
  fun {σ' H' v u} J rv q => ⟨v, H', J.os, J.bare, J.base, J.hok, rv, q⟩
 cases fl with
 | ret u =>
   obtain ⟨v, σ', H', J, rv, q⟩ := hs
   exact fin J rv q
 | next =>
   obtain ⟨σ', H', J, q⟩ := hs
   exact fin (v := V.non) (u := Value.none) J rfl q
 | brk =>
   obtain ⟨_, _, _, q⟩ := hs
   exact False.elim q
 | cont =>
   obtain ⟨_, _, _, q⟩ := hs
   exact False.elim q
end L2
namespace L2
open PySem PySem.Spec PyProof.Rows
section
variable {X : Cx} {x : Str} {p pos : Pos} {e : Expr} {es : List Expr} {t : TA} {id T : String} {r : List V -> Hp -> VK -> Prop}
def De (r : List V -> Hp -> VK -> Prop) (t : TA) : TE := fun σ H Q => t σ H fun vs H1 => r vs H1 Q
theorem aO (hc : gP X (.builtin id) r) (hg : Gl X x) (hm : X.mg x = none) (hv : bootBuiltins x = some (.builtin id)) (ha : PA X (e :: es) t) (hn : x ≠ "__name__" := by decide) (hdb : (x == ("__debug__" : Str)) = false := by decide)
 (he : starEach (e :: es) X.env = (false, eval e X.env) :: starEach es X.env := by rfl) (hpl : (backTo pos (starEach es X.env)).any (·.1) = false := by rfl) : PE X (.Call (.Name x p) (e :: es) [] pos) (De r t) := by
 intro pins s σ H Q I h
 refine wpAny_Call_Name_kw (jB I hg hm hv ?_ hn hdb)
 exact PyProof.Rows.callWith_builtin1 (bS (ha pos pins s σ H _ I h) fun us s1 ⟨vs, H1, I1, r1, q1⟩ => hc pins s1 σ H1 vs us Q I1 r1 q1) he hpl
theorem gt (hc : gP X (.type T) r) (hg : Gl X x) (hm : X.mg x = none) (hv : bootBuiltins x = some (.type T)) (ha : PA X (e :: es) t) (hn : x ≠ "__name__" := by decide) (hdb : (x == ("__debug__" : Str)) = false := by decide)
 (he : starEach (e :: es) X.env = (false, eval e X.env) :: starEach es X.env := by rfl) (hpl : (backTo pos (starEach es X.env)).any (·.1) = false := by rfl) : PE X (.Call (.Name x p) (e :: es) [] pos) (De r t) := by
 intro pins s σ H Q I h
 refine wpAny_Call_Name_kw (jB I hg hm hv ?_ hn hdb)
 exact PyProof.Rows.callWith_type1 (bS (ha pos pins s σ H _ I h) fun us s1 ⟨vs, H1, I1, r1, q1⟩ => hc pins s1 σ H1 vs us Q I1 r1 q1) he hpl
end
end L2
namespace HT
open PySem PyProof.Rows
section
open PySem.SeqAt
open PySem.AutoSeq1 (wpAny_loadPart')
open PySem.MeetsSeq PySem.MeetsSeq2 PySem.MeetsSeq3
end
section
variable {prog : Program} {w : World} {A : Around} {E : Value -> Shared -> Prop} {s : Shared}
def eU (n d : Nat) : Option Int -> Nat
 | none => d
 | some v => if v < 0 then (v + (n : Int)).toNat else min v.toNat n
theorem yr (n d : Nat) : eU n d none = d := rfl
theorem qX (n d k : Nat) : eU n d (some (k : Int)) = min k n := by
 show (if (k : Int) < 0 then ((k : Int) + (n : Int)).toNat else min (k : Int).toNat n) = min k n
 rw [if_neg (by omega), Int.toNat_natCast]
theorem Bj (n d : Nat) (hd : d <= n) (o : Option Int) : eU n d o <= n := by
 cases o with
 | none => exact hd
 | some v =>
   show (if v < 0 then (v + (n : Int)).toNat else min v.toNat n) <= n
   by_cases hv : v < 0
   ·rw [if_pos hv]; omega
   ·rw [if_neg hv]; exact Nat.min_le_right _ _
theorem wH (v : Int) (n d : Nat) : (if v < 0 then max (v + (n : Int)) 0 else min v (n : Int)) = ((eU n d (some v) : Nat) : Int) := by
 show (if v < 0 then max (v + (n : Int)) 0 else min v (n : Int)) = (((if v < 0 then (v + (n : Int)).toNat else min v.toNat n) : Nat) : Int)
 by_cases hv : v < 0
 ·simp only [if_pos hv]; omega
 ·simp only [if_neg hv]; omega
theorem vk (lo hi : Option Int) (n : Nat) : Builtin.Slice.sliceAdjust lo hi 1 (n : Int) = (((eU n 0 lo : Nat) : Int), ((eU n n hi : Nat) : Int)) := by
 have h1 : ¬ ((1 : Int) < 0) := by omega
 unfold Builtin.Slice.sliceAdjust
 simp only [h1, if_false]
 refine Prod.ext ?_ ?_
 ·cases lo with
  | none => rfl
  | some v => exact wH v n 0
 ·cases hi with
  | none => rfl
  | some v => exact wH v n n
theorem uJ (i j : Nat) : Builtin.Slice.slicePlaces (i : Int) (j : Int) 1 = j - i := by
 unfold Builtin.Slice.slicePlaces
 have h1 : (1 : Int) > 0 := by omega
 simp only [h1, if_true, Int.ediv_one]
 split <;> omega
theorem oa {v : Value} {o : Option Int} {Q : Option Int -> Shared -> Prop} (p : IsPart v o) (h : Q o s) : wpAny (model prog w) A (Builtin.Slice.slicePartIndex v) Q E s := by
 cases p with
 | none => exact slicePart_none h
 | int i t => exact slicePart_int h
theorem ig {sl : Addr} {vl vu : Value} {lo hi : Option Int} {n : Nat} {Q : Int × Int × Nat -> Shared -> Prop} (hs : s.heap.IsSliceOf sl vl vu .none) (pl : IsPart vl lo) (pu : IsPart vu hi)
 (h : Q (((eU n 0 lo : Nat) : Int), 1, eU n n hi - eU n 0 lo) s) : wpAny (model prog w) A (Builtin.Slice.sliceApplied (.ref sl) (pure (n : Int))) Q E s := by
 obtain ⟨os, hos, hcs, hds⟩ := id hs
 unfold Builtin.Slice.sliceApplied Builtin.Slice.sliceFields
 refine wpAny_bind (wpAny_bind (wpAny_field hos hds (x := vl) rfl (wpAny_bind (wpAny_field hos hds (x := vu) rfl (wpAny_bind (wpAny_field hos hds (x := .none) rfl (wpAny_pure ?_)))))))
 refine wpAny_bind (slicePart_none ?_)
 show wpAny _ _ (if ((1 : Int) == 0) = true then _ else _) _ _ s
 rw [if_neg (by decide)]
 refine wpAny_bind (oa pl (wpAny_bind (oa pu (wpAny_bind (wpAny_pure ?_)))))
 show wpAny _ _ (match Builtin.Slice.sliceAdjust lo hi 1 (n : Int) with | (lo, hi) => pure (lo, (1 : Int), Builtin.Slice.slicePlaces lo hi 1)) _ _ s
 rw [vk lo hi n]
 show wpAny _ _ (pure (((eU n 0 lo : Nat) : Int), (1 : Int), Builtin.Slice.slicePlaces ((eU n 0 lo : Nat) : Int) ((eU n n hi : Nat) : Int) 1)) _ _ s
 rw [uJ]
 exact wpAny_pure h
theorem yC (xs : Array Value) (i k : Nat) : ((List.range k).filterMap fun (m : Nat) => xs[((i : Int) + (m : Int) * 1).toNat]?).toArray = ((xs.toList.drop i).take k).toArray := by
 have e : (fun (m : Nat) => xs[((i : Int) + (m : Int) * 1).toNat]?) = fun m => xs[i + m]? := by
  funext m
  have : ((i : Int) + (m : Int) * 1).toNat = i + m := by omega
  rw [this]
 rw [e]
 have := pick_run xs i k
 rw [List.filterMap_map] at this
 have e2 : ((fun x => xs[x]?) ∘ fun x => i + x) = fun m => xs[i + m]? := rfl
 rw [e2] at this
 rw [this]
theorem lz {t sl : Addr} {items : Array Value} {vl vu : Value} {lo hi : Option Int} {Q : Value -> Shared -> Prop} (ht : IsTup s.heap t items) (hs : s.heap.IsSliceOf sl vl vu .none) (pl : IsPart vl lo) (pu : IsPart vu hi)
 (hw : ¬ (eU items.size 0 lo = 0 /\ eU items.size items.size hi = items.size))
 (h : Q (.ref s.heap.objs.size) { s with heap := s.heap.push { cls := .type "tuple", data := .seq ((items.toList.drop (eU items.size 0 lo)).take (eU items.size items.size hi - eU items.size 0 lo)).toArray } })
 (hsz : items.size <= sizeLine) : wpAny (model prog w) A (getItem (.ref t) (.ref sl)) Q E s := by
 have htake : sizeOk (.seq ((items.toList.drop (eU items.size 0 lo)).take (eU items.size items.size hi - eU items.size 0 lo)).toArray) := by
  show ((items.toList.drop (eU items.size 0 lo)).take (eU items.size items.size hi - eU items.size 0 lo)).toArray.size <= sizeLine
  rw [List.size_toArray, List.length_take, List.length_drop, Array.length_toList]
  omega
 have hj : eU items.size items.size hi <= items.size := Bj _ _ (Nat.le_refl _) hi
 obtain ⟨os, hos, hcs, hds⟩ := id hs
 have hTs : s.TypeIs (.ref sl) "slice" := ⟨os, hos, hcs⟩
 unfold getItem
 try with_reducible refine wpAny_holding ?_
 first | refine wpAny_bind (wpAny_pure ?_) | skip
 refine wpAny_bind (wpAny_sequenceKey ht.typeIs (by decide) ?_)
 refine wpAny_bind (wpAny_callSpecial?_slot (name := Str.ofString "__getitem__") ht.typeIs PyProof.Rows.slot_tuple_getitem
  (wpAny_call_entry PyProof.Rows.slot_tuple_getitem ht.typeIs entry_tuple_getitem ?_ (args_tuple_getitem _ _)))
 show wpAny _ _ (Builtin.Tuple.tupleItemsOf (.ref t) >>= _) _ _ s
 refine wpAny_bind (tupleItemsOf_ ht ?_)
 refine wpAny_bind (wpAny_typeOf hTs ?_)
 rw [if_pos (by decide)]
 refine wpAny_bind (ig hs pl pu ?_)
 have hno : ¬ ((((eU items.size 0 lo : Nat) : Int) == 0 && (1 : Int) == 1 && (eU items.size items.size hi - eU items.size 0 lo) == items.size) = true) := by
  intro q
  rw [Bool.and_eq_true, Bool.and_eq_true] at q
  have q1 : ((eU items.size 0 lo : Nat) : Int) = 0 := eq_of_beq q.1.1
  have q2 : eU items.size items.size hi - eU items.size 0 lo = items.size := eq_of_beq q.2
  exact hw ⟨by omega, by omega⟩
 show wpAny _ _ (if (((eU items.size 0 lo : Nat) : Int) == 0 && (1 : Int) == 1 && (eU items.size items.size hi - eU items.size 0 lo) == items.size) = true then _ else _) _ _ s
 rw [if_neg hno, yC]
 first
  | exact wpAny_bind (m := Builtin.Tuple.tupleExact _) (wpAny_newObj_type (wpAny_pure ⟨_, rfl, wpAny_pure h⟩) htake)
  | exact wpAny_bind (m := Builtin.Tuple.tupleExact _) (wpAny_newObj_type (wpAny_bind (wpAny_pure (wpAny_pure ⟨_, rfl, wpAny_pure h⟩))) htake)
  | exact wpAny_bind (wpAny_bind (m := Builtin.Tuple.tupleExact _) (wpAny_newObj_type (wpAny_pure (wpAny_pure ⟨_, rfl, wpAny_pure h⟩)) htake))
  | exact wpAny_bind (wpAny_bind (m := Builtin.Tuple.tupleExact _) (wpAny_newObj_type (wpAny_pure ⟨_, rfl, wpAny_pure h⟩) htake))
end
end HT
namespace L2
open PySem PySem.Spec PyProof.Rows
abbrev TO := St -> Hp -> (Option Int -> Hp -> Prop) -> Prop
def PO (X : Cx) (e : Option Expr) (t : TO) : Prop :=
 ∀ (pins : List (Addr × Obj)) (s : Shared) (σ : St) (H : Hp) (Q : Option Int -> Hp -> Prop), aE X pins σ H s -> t σ H Q ->
  wpAny (model X.prog X.w) X.A (evalPart e X.env) (fun u s' => ∃ o H', aE X pins σ H' s' /\ IsPart u o /\ Q o H') X.xe s
def tNoPart : TO := fun _ H Q => Q none H
def B8 (t : TE) : TO := fun σ H Q => t σ H fun x H1 => ∃ i, x = .int i /\ Q (some i) H1
section
variable {X : Cx} {e : Expr} {te : TE} {lo hi : Option Expr} {tl th : TO} {pos p2 : Pos}
theorem z8 : PO X none tNoPart := by
 intro pins s σ H Q I h
 rw [evalPart_none]
 exact wpAny_pure ⟨none, H, I, .none, h⟩
theorem rh (h : PE X e te) : PO X (some e) (B8 te) := by
 intro pins s σ H Q I hw
 rw [evalPart_some]
 refine bS (h pins s σ H _ I hw) fun u s1 ⟨x, H1, I1, r1, q1⟩ => ?_
 obtain ⟨i, rfl, q⟩ := q1
 obtain ⟨t, rfl⟩ := r1
 exact ⟨some i, H1, I1, .int i t, q⟩
def CA (X : Cx) (r : V -> Option Int -> Option Int -> Hp -> VK -> Prop) : Prop :=
 ∀ (pins : List (Addr × Obj)) (s : Shared) (σ : St) (H : Hp) (x : V) (v vl vu : Value) (lo hi : Option Int) (sl : Addr) (Q : VK), aE X pins σ H s -> aZ x v -> s.heap.IsSliceOf sl vl vu .none -> IsPart vl lo -> IsPart vu hi -> r x lo hi H Q ->
  ∃ T id, typeLookup (.type T) "__getitem__" = pure (some (.builtin id)) /\ s.TypeIs v T /\ wpAny (model X.prog X.w) X.A (getItem v (.ref sl)) (EP X pins σ Q) X.xe s
def DX (r : V -> Option Int -> Option Int -> Hp -> VK -> Prop) (te : TE) (tl th : TO) : TE := fun σ H Q => te σ H fun x H1 => tl σ H1 fun l H2 => th σ H2 fun u H3 => r x l u H3 Q
theorem sZ {r : V -> Option Int -> Option Int -> Hp -> VK -> Prop} (hr : CA X r) (he : PE X e te) (hl : PO X lo tl) (hu : PO X hi th) : PE X (.Subscript e (.Slice lo hi none p2) pos) (DX r te tl th) := by
 intro pins s σ H Q I h
 refine Subscript_ (bS (he pins s σ H _ I h) fun v s1 ⟨x, H1, I1, r1, q1⟩ => ?_)
 refine wpAny_Slice (bS (hl pins s1 σ H1 _ I1 q1) fun vl s2 ⟨l, H2, I2, pl, q2⟩ => bS (hu pins s2 σ H2 _ I2 q2) fun vu s3 ⟨u, H3, I3, pu, q3⟩ => ?_)
 rw [evalPart_none]
 refine wpAny_pure ?_
 have I4 : aE X pins σ H3 { s3 with heap := s3.heap.push { cls := .type "slice", data := .fields #[vl, vu, .none] } } := I3.kept (t' := s3.toks) fun b ob q => Heap.get?_push_of_some _ q
 obtain ⟨T, id, hT, ht, hg⟩ := hr pins { s3 with heap := s3.heap.push { cls := .type "slice", data := .fields #[vl, vu, .none] } } σ H3 x v vl vu l u s3.heap.objs.size Q I4 r1 (Heap.IsSliceOf.new ..) pl pu q3
 show wpAny (model X.prog X.w) X.A (subscriptTail e (.Slice lo hi none p2) v (.ref s3.heap.objs.size)) (EP X pins σ Q) X.xe { s3 with heap := s3.heap.push { cls := .type "slice", data := .fields #[vl, vu, .none] } }
 exact tail_any (ops := [.ref s3.heap.objs.size, v]) ht hT hg (by with_unfolding_all rfl)
def ny (xs : List V) (lo hi : Option Int) : List V := (xs.drop (HT.eU xs.length 0 lo)).take (HT.eU xs.length xs.length hi - HT.eU xs.length 0 lo)
theorem mO (xs : List V) (lo hi : Option Int) : (ny xs lo hi).length <= xs.length := by
 unfold ny
 rw [List.length_take, List.length_drop]
 omega
def Dl (K : W.Frag) : V -> Option Int -> Option Int -> Hp -> VK -> Prop := fun x lo hi H Q => ∃ a xs, x = .ref a /\ fV K H a xs /\
 ¬ (HT.eU xs.length 0 lo = 0 /\ HT.eU xs.length xs.length hi = xs.length) /\ ∀ p, H p = none -> Q (.ref p) (aU H p (.tup (ny xs lo hi)))
theorem Bi : CA X (Dl X.K) := by
 intro pins s σ H x v vl vu lo hi sl Q I rx hs pl pu h
 obtain ⟨a, xs, rfl, hx, hw, q⟩ := h
 cases rx
 obtain ⟨its, r, ht, hz⟩ := I.tuple hx
 have hlen : its.toArray.size = xs.length := by rw [List.size_toArray]; exact r.length.symm
 refine ⟨"tuple", _, PyProof.Rows.slot_tuple_getitem.lookup, ht.typeIs, ?_⟩
 refine HT.lz ht hs pl pu (by rw [hlen]; exact hw) ?_ (by rw [hlen]; exact hz)
 rw [hlen]
 refine ⟨.ref s.heap.objs.size, _, I.laid (t' := s.toks) (o := .tup (ny xs lo hi)) (fun b ob q => Heap.get?_push_of_some _ q) (Nat.le_refl _) ?_, rfl, q _ (I.hok.fresh (Nat.le_refl _))⟩
 exact ⟨Nat.le_trans (mO xs lo hi) hz, _, (r.drop (HT.eU xs.length 0 lo)).take (HT.eU xs.length xs.length hi - HT.eU xs.length 0 lo), IsTup.new _ _⟩
end
end L2
namespace L2
open PySem PySem.Spec PyProof.Rows
def xF (n : Nat) (i : Int) : Option Nat := if 0 <= i then (if i < n then some i.toNat else none) else if -(n : Int) <= i then some (i + n).toNat else none
def zt {α : Type} (xs : List α) (i : Int) : Option α := (xF xs.length i).bind fun j => xs[j]?
theorem wk {n : Nat} {i : Int} {j : Nat} (h : xF n i = some j) : seqIndex? i n = some j /\ j < n /\ -(n : Int) <= i /\ i < n := by
 unfold xF at h
 by_cases h0 : 0 <= i
 ·rw [if_pos h0] at h
  by_cases h1 : i < n
  ·rw [if_pos h1] at h
   have e : i.toNat = j := Option.some.inj h
   exact ⟨by rw [seqIndex_of h0 h1, e], by omega, by omega, h1⟩
  ·rw [if_neg h1] at h; cases h
 ·rw [if_neg h0] at h
  by_cases h1 : -(n : Int) <= i
  ·rw [if_pos h1] at h
   have e : (i + n).toNat = j := Option.some.inj h
   exact ⟨by rw [seqIndex_neg (by omega) h1, e], by omega, h1, by omega⟩
  ·rw [if_neg h1] at h; cases h
theorem rZ {α : Type} {xs : List α} {i : Int} {v : α} (h : zt xs i = some v) : ∃ j, seqIndex? i xs.length = some j /\ xs[j]? = some v /\ j < xs.length /\ -(xs.length : Int) <= i /\ i < xs.length := by
 unfold zt at h
 cases e : xF xs.length i with
 | none => rw [e] at h; cases h
 | some j =>
   rw [e] at h
   obtain ⟨h1, h2, h3, h4⟩ := wk e
   exact ⟨j, h1, h, h2, h3, h4⟩
theorem AD {α : Type} {xs : List α} {j : Nat} {v : α} (h : xs[j]? = some v) : zt xs (j : Int) = some v := by
 have hj : j < xs.length := (List.getElem?_eq_some_iff.mp h).1
 have e : xF xs.length (j : Int) = some j := by
  unfold xF
  rw [if_pos (by omega), if_pos (by omega)]; simp
 unfold zt; rw [e]; exact h
def AF (b : Expr) : Prop := ∀ o i, subscripted b false o i = operate [o, i] (getItem o i)
def zM (X : Cx) (r : R2) : Prop :=
 ∀ (value slice : Expr) (pins : List (Addr × Obj)) (s : Shared) (σ : St) (H : Hp) (x y : V) (v u : Value) (Q : VK), aE X pins σ H s -> aZ x v -> aZ y u -> r x y H Q ->
  subscripted slice false v u = operate [v, u] (getItem v u) -> wpAny (model X.prog X.w) X.A (subscriptTail value slice v u) (EP X pins σ Q) X.xe s
def CI (X : Cx) (id : String) (r : V -> List V -> Hp -> VK -> Prop) : Prop :=
 ∀ (pins : List (Addr × Obj)) (s : Shared) (σ : St) (H : Hp) (x : V) (xs : List V) (v : Value) (us : List Value) (Q : VK), aE X pins σ H s -> aZ x v -> aR xs us -> r x xs H Q ->
  wpAny (model X.prog X.w) X.A (call (.builtin id) (v :: us)) (EP X pins σ Q) X.xe s
section
variable {X : Cx} {a b : Expr} {ta tb : TE} {pos : Pos}
theorem aA {r : R2} (hr : zM X r) (ha : PE X a ta) (hb : PE X b tb) (hs : AF b) : PE X (.Subscript a b pos) (Be r ta tb) := by
 intro pins s σ H Q I h
 exact Subscript_ (BU ha hb I h fun v u s2 x y H2 I2 rx ry q => hr a b pins s2 σ H2 x y v u Q I2 rx ry q (hs _ _))
def yA (K : W.Frag) : R2 := fun x y H Q => ∃ p xs i v, x = .ref p /\ y = .int i /\ bj K H p xs /\ zt xs i = some v /\ Q v H
def Bl (K : W.Frag) : R2 := fun x y H Q => ∃ p xs i v, x = .ref p /\ y = .int i /\ fV K H p xs /\ zt xs i = some v /\ Q v H
def rIxS : R2 := fun x y H Q => ∃ z i c, x = .str z /\ y = .int i /\ z.length <= sizeLine /\ zt z.cps.toList i = some c /\ Q (.str ⟨#[c]⟩) H
theorem am : zM X (yA X.K) := by
 intro value slice pins s σ H x y v u Q I rx ry h hs
 obtain ⟨p, xs, i, z, rfl, rfl, hq, he, q⟩ := h
 cases rx
 obtain ⟨t, rfl⟩ := ry
 obtain ⟨its, r, pl, hz⟩ := I.list hq
 obtain ⟨j, h1, h2, h3, h4, h5⟩ := rZ he
 obtain ⟨w, ew, rw'⟩ := r.get h2
 have hl := r.length
 have hn := ml
 have fin : EP X pins σ Q w s := ⟨z, H, I, rw', q⟩
 by_cases h0 : 0 <= i
 ·have hj : i.toNat = j := by
   rw [seqIndex_of h0 h5] at h1
   exact Option.some.inj h1
  exact item_listR pl.isList h0 (by omega) (by rw [hj]; simpa using ew) fin hs
 ·have hj : (i + (its.toArray.size : Int)).toNat = j := by
   rw [seqIndex_neg (by omega) h4] at h1
   rw [List.size_toArray, <- hl]
   exact Option.some.inj h1
  exact subscriptTail_builtinR (x := w) pl.isList.typeIs slot_list_getitem.lookup
   (wpAny_getItem_list_neg (Q := fun r s' => r = w /\ EP X pins σ Q r s') pl.isList (by omega) (by rw [List.size_toArray] <;> omega) (by omega) (by rw [hj]; simpa using ew) ⟨rfl, fin⟩) hs
theorem gM : zM X (Bl X.K) := by
 intro value slice pins s σ H x y v u Q I rx ry h hs
 obtain ⟨p, xs, i, z, rfl, rfl, hq, he, q⟩ := h
 cases rx
 obtain ⟨t, rfl⟩ := ry
 obtain ⟨its, r, pl, hz⟩ := I.tuple hq
 obtain ⟨j, h1, h2, h3, h4, h5⟩ := rZ he
 obtain ⟨w, ew, rw'⟩ := r.get h2
 have hl := r.length
 have hn := ml
 have fin : EP X pins σ Q w s := ⟨z, H, I, rw', q⟩
 exact subscriptTail_builtinR (x := w) pl.typeIs slot_tuple_getitem.lookup
  (getItem_tuple (j := j) (Q := fun r s' => r = w /\ EP X pins σ Q r s') pl (by omega) (by omega) (by rw [List.size_toArray, <- hl]; exact h1) (by simpa using ew) ⟨rfl, fin⟩) hs
theorem Bx : zM X rIxS := by
 intro value slice pins s σ H x y v u Q I rx ry h hs
 obtain ⟨z, i, c, rfl, rfl, hz, he, q⟩ := h
 obtain ⟨t, rfl⟩ := rx
 obtain ⟨t', rfl⟩ := ry
 obtain ⟨j, h1, h2, h3, h4, h5⟩ := rZ he
 have hl : z.cps.toList.length = z.length := by simp [Str.length]
 rw [hl] at h1 h4 h5
 have hn := ml
 exact tail_any (typeIs_str s z t) slot_str_getitem.lookup (getItem_str (c := c) (by
  have e1 : decide (i < -(2 ^ 63 : Int)) = false := decide_eq_false (by omega)
  have e2 : decide (i >= 2 ^ 63) = false := decide_eq_false (by omega)
  rw [e1, e2, Bool.or_false]) (by rw [h1]; simpa using h2) ⟨.str ⟨#[c]⟩, H, I.tok _, ⟨_, rfl⟩, q⟩) hs
theorem uX (its : List Value) (n j : Nat) (u : Value) : Obj.mapSeq (·.setIfInBounds j u) { cls := .type "list", data := .seq its.toArray n } = { cls := .type "list", data := .seq (its.set j u).toArray n } := by
 simp [Obj.mapSeq]
theorem aE.lst {pins : List (Addr × Obj)} {σ : St} {H : Hp} {s : Shared} {p : Addr} {xs : List V} (I : aE X pins σ H s) (h : H p = some (.lst xs)) :
 ∃ (its : List Value) (n : Nat), aR xs its /\ s.heap.get? p = some { cls := .type "list", data := .seq its.toArray n } /\ xs.length <= sizeLine := by
 obtain ⟨z, its, n, r, e⟩ := I.hok p _ h
 exact ⟨its, n, r, e, z⟩
theorem aE.lstUpd {pins : List (Addr × Obj)} {σ : St} {H : Hp} {s : Shared} {p : Addr} {xs ys : List V} {its its' : List Value} {n n' : Nat} {f : Obj -> Obj} (I : aE X pins σ H s) (h : H p = some (.lst xs))
 (ho : s.heap.get? p = some { cls := .type "list", data := .seq its.toArray n }) (hf : f { cls := .type "list", data := .seq its.toArray n } = { cls := .type "list", data := .seq its'.toArray n' }) (r : aR ys its') (hz : ys.length <= sizeLine) (t : Nat) :
 aE X pins σ (aU H p (.lst ys)) { s with heap := s.heap.update p f, toks := t } := by
 have e : (s.heap.update p f).get? p = some { cls := .type "list", data := .seq its'.toArray n' } := by
  rw [Heap.get?_update_self f ho (by rw [hf] <;> rfl), hf]
 refine I.write (x := p) (e := p) (by rw [h]; trivial) (.inl rfl) (fun b u hb q => (Heap.get?_update_other _ _ (Ne.symm hb)).trans q) ⟨_, e⟩ ?_
 exact ⟨hz, its', n', r, e⟩
def rSetL : V -> V -> V -> Hp -> (Hp -> Prop) -> Prop := fun o i v H Q => ∃ p xs k j, o = .ref p /\ i = .int k /\ H p = some (.lst xs) /\ xF xs.length k = some j /\ Q (aU H p (.lst (xs.set j v)))
theorem gx : BY X rSetL := by
 intro pins s σ H o i v ov iv u Q I ro ri rv h
 obtain ⟨p, xs, k, j, rfl, rfl, hp, hj, q⟩ := h
 cases ro
 obtain ⟨t, rfl⟩ := ri
 obtain ⟨its, n, r, ho, hz⟩ := I.lst hp
 obtain ⟨h1, h2, h3, h4⟩ := wk hj
 have hl := r.length
 have hn := ml
 have I' : aE X pins σ (aU H p (.lst (xs.set j v))) { s with heap := s.heap.update p (Obj.mapSeq (·.setIfInBounds j u)) } :=
  I.lstUpd hp ho (uX its n j u) (r.set rv j) (by rw [List.length_set]; exact hz) s.toks
 by_cases h0 : 0 <= k
 ·have hk : k.toNat = j := by
   rw [seqIndex_of h0 h4] at h1
   exact Option.some.inj h1
  exact W.ki_setAt ho h0 (by omega) (by rw [List.size_toArray, <- hl]; exact h4) (by rw [hk]; exact ⟨_, I', q⟩)
 ·have hk : (k + (its.toArray.size : Int)).toNat = j := by
   rw [seqIndex_neg (by omega) h3] at h1
   rw [List.size_toArray, <- hl]
   exact Option.some.inj h1
  exact W.ki_setBack ho (by omega) (by rw [List.size_toArray, <- hl]; exact h3) (by omega) (by rw [hk]; exact ⟨_, I', q⟩)
theorem qV (lo hi : Option Int) (n : Nat) : (sliceBounds lo hi none n).1 = ((HT.eU n 0 lo : Nat) : Int) /\ (sliceBounds lo hi none n).2.1 = ((HT.eU n n hi : Nat) : Int) /\ (sliceBounds lo hi none n).2.2 = 1 := by
 refine ⟨?_, ?_, rfl⟩
 ·cases lo with
  | none => simp [sliceBounds, HT.eU]
  | some i =>
    simp only [sliceBounds, HT.eU, Option.getD_none, show (1 : Int) > 0 by decide, if_true]
    by_cases h : i < 0
    ·simp only [h, if_true] <;> omega
    ·simp only [h, if_false] <;> omega
 ·cases hi with
  | none => simp [sliceBounds, HT.eU]
  | some i =>
    simp only [sliceBounds, HT.eU, Option.getD_none, show (1 : Int) > 0 by decide, if_true]
    by_cases h : i < 0
    ·simp only [h, if_true] <;> omega
    ·simp only [h, if_false] <;> omega
theorem pB (its : List Value) (lo hi : Option Int) : slicePick its.toArray lo hi none = ((its.drop (HT.eU its.length 0 lo)).take (HT.eU its.length its.length hi - HT.eU its.length 0 lo)).toArray := by
 obtain ⟨h1, h2, h3⟩ := qV lo hi its.toArray.size
 unfold slicePick
 rw [h1, h2, h3]
 simp only [sliceRange_one, pick_run, List.size_toArray] <;> rfl
def Dm (K : W.Frag) : V -> Option Int -> Option Int -> Hp -> VK -> Prop := fun x lo hi H Q => ∃ a xs, x = .ref a /\ bj K H a xs /\ ∀ p, H p = none -> Q (.ref p) (aU H p (.lst (ny xs lo hi)))
theorem zX : CA X (Dm X.K) := by
 intro pins s σ H x v vl vu lo hi sl Q I rx hs pl pu h
 obtain ⟨a, xs, rfl, hx, q⟩ := h
 cases rx
 obtain ⟨its, r, ht, hz⟩ := I.list hx
 have hlen := r.length
 refine ⟨"list", _, slot_list_getitem.lookup, ht.isList.typeIs, ?_⟩
 refine wpAny_getItem_list_slice ht.isList hs pl pu .none (by simp) ?_ (by rw [List.size_toArray] <;> omega)
 rw [pB, <- hlen]
 refine ⟨.ref s.heap.objs.size, _, I.laid (t' := s.toks) (o := .lst (ny xs lo hi)) (fun b ob q => Heap.get?_push_of_some _ q) (Nat.le_refl _) ?_, rfl, q _ (I.hok.fresh (Nat.le_refl _))⟩
 exact ⟨Nat.le_trans (mO xs lo hi) hz, _, 0, (r.drop (HT.eU xs.length 0 lo)).take (HT.eU xs.length xs.length hi - HT.eU xs.length 0 lo), Heap.get?_push_size _ rfl⟩
def lB : V -> Bool
 | .non => true
 | .bl _ => true
 | .int _ => true
 | .str _ => true
 | _ => false
def A0 : V -> V -> Bool
 | .non, .non => true
 | .bl a, .bl b => a == b
 | .bl a, .int b => (if a then 1 else 0) == b
 | .int a, .bl b => a == (if b then 1 else 0)
 | .int a, .int b => a == b
 | .str a, .str b => a == b
 | _, _ => false
theorem BG {A : Around} {s : Shared} {y x : V} {u v : Value} (ry : aZ y u) (rx : aZ x v) (fy : lB y = true) (fx : lB x = true) : SeqAt.EqAt A s u v (A0 y x) := by
 cases y with
 | non =>
   cases ry
   cases x with
   | non => cases rx; exact SeqAt.EqAt.same _
   | bl b => cases rx; exact SeqAt.EqAt.none_bool b
   | int b => obtain ⟨t, rfl⟩ := rx; exact SeqAt.EqAt.none_int b t
   | str b => obtain ⟨t, rfl⟩ := rx; exact SeqAt.EqAt.none_str b t
   | _ => exact absurd (show false = true from fx) Bool.false_ne_true
 | bl a =>
   cases ry
   cases x with
   | non => cases rx; exact SeqAt.EqAt.bool_none a
   | bl b => cases rx; exact SeqAt.EqAt.bool_bool a b
   | int b => obtain ⟨t, rfl⟩ := rx; exact SeqAt.EqAt.bool_int a b t
   | str b => obtain ⟨t, rfl⟩ := rx; exact SeqAt.EqAt.bool_str a b t
   | _ => exact absurd (show false = true from fx) Bool.false_ne_true
 | int a =>
   obtain ⟨t', rfl⟩ := ry
   cases x with
   | non => cases rx; exact SeqAt.EqAt.int_none a t'
   | bl b => cases rx; exact SeqAt.EqAt.int_bool a t' b
   | int b => obtain ⟨t, rfl⟩ := rx; exact SeqAt.EqAt.int_int a t' b t
   | str b => obtain ⟨t, rfl⟩ := rx; exact SeqAt.EqAt.int_str a t' b t
   | _ => exact absurd (show false = true from fx) Bool.false_ne_true
 | str a =>
   obtain ⟨t', rfl⟩ := ry
   cases x with
   | non => cases rx; exact SeqAt.EqAt.str_none a t'
   | bl b => cases rx; exact SeqAt.EqAt.str_bool a t' b
   | int b => obtain ⟨t, rfl⟩ := rx; exact SeqAt.EqAt.str_int a t' b t
   | str b => obtain ⟨t, rfl⟩ := rx; exact SeqAt.EqAt.str_str a t' b t
   | _ => exact absurd (show false = true from fx) Bool.false_ne_true
 | _ => exact absurd (show false = true from fy) Bool.false_ne_true
def Az (x : V) (u : Value) : Bool := match u with
 | .none => A0 .non x
 | .bool b => A0 (.bl b) x
 | .int i _ => A0 (.int i) x
 | .str z _ => A0 (.str z) x
 | _ => false
theorem zh {x y : V} {u : Value} (r : aZ y u) (f : lB y = true) : Az x u = A0 y x := by
 cases y with
 | non => cases r; rfl
 | bl b => cases r; rfl
 | int i => obtain ⟨t, rfl⟩ := r; rfl
 | str z => obtain ⟨t, rfl⟩ := r; rfl
 | _ => exact absurd (show false = true from f) Bool.false_ne_true
theorem r8 {x : V} : ∀ {xs : List V} {us : List Value}, aR xs us -> xs.all lB = true -> us.any (Az x) = xs.any fun y => A0 y x
 | _, _, .nil, _ => rfl
 | y :: xs, u :: us, .cons r t, f => by
   rw [List.all_cons, Bool.and_eq_true] at f
   rw [List.any_cons, List.any_cons, zh r f.1, r8 t f.2]
theorem oZ {A : Around} {s : Shared} {x : V} {v : Value} (rx : aZ x v) (fx : lB x = true) : ∀ {xs : List V} {us : List Value}, aR xs us -> xs.all lB = true -> ∀ u ∈ us, SeqAt.EqAt A s u v (Az x u)
 | _, _, .nil, _ => fun u hu => by cases hu
 | y :: xs, u :: us, .cons r t, f => fun u' hu => by
   rw [List.all_cons, Bool.and_eq_true] at f
   rcases List.mem_cons.mp hu with rfl | hu
   ·rw [zh r f.1]; exact BG r rx f.1 fx
   ·exact oZ rx fx t f.2 u' hu
def Co (x : V) (xs : List V) : Bool := xs.any fun y => A0 y x
def Ds (K : W.Frag) (neg : Bool) : R2 := fun x y H Q => ∃ p xs, y = .ref p /\ (bj K H p xs \/ fV K H p xs) /\ lB x = true /\ xs.all lB = true /\ Q (.bl (if neg then !Co x xs else Co x xs)) H
theorem iU : kF X (compareOp .NotIn) (Ds X.K true) := by
 intro pins s σ H x y v u Q I rx ry h
 obtain ⟨p, xs, rfl, hq, fx, fs, q⟩ := h
 cases ry
 rcases hq with hq | hq
 ·obtain ⟨its, r, pl, hz⟩ := I.list hq
  refine SeqAt.notIn_listAt (Az x) pl.isList (fun w hw => oZ rx fx r fs w (by simpa using hw)) ⟨.bl _, H, I, rfl, ?_⟩
  rw [show its.toArray.any (Az x) = its.any (Az x) by simp, r8 r fs]
  exact q
 ·obtain ⟨its, r, pl, hz⟩ := I.tuple hq
  refine SeqAt.notIn_tupleAt (Az x) pl (fun w hw => oZ rx fx r fs w (by simpa using hw)) ⟨.bl _, H, I, rfl, ?_⟩
  rw [show its.toArray.any (Az x) = its.any (Az x) by simp, r8 r fs]
  exact q
theorem aV : gP X (.builtin "len") (fun xs H Q => ∃ p ys, xs = [.ref p] /\ (bj X.K H p ys \/ fV X.K H p ys) /\ Q (.int ys.length) H) := by
 intro pins s σ H xs us Q I r h
 obtain ⟨p, ys, rfl, hq, q⟩ := h
 obtain ⟨u, rfl, rx⟩ := pQ r
 cases rx
 have hn := ml
 rcases hq with hq | hq
 ·obtain ⟨its, r', pl, hz⟩ := I.list hq
  have hlen := r'.length
  exact Calls.call_len_list pl.isList (by simp only [List.size_toArray] <;> omega) ⟨.int ys.length, H, I.tok _, ⟨s.toks + 1, by rw [List.size_toArray, hlen]⟩, q⟩
 ·obtain ⟨its, r', pl, hz⟩ := I.tuple hq
  have hlen := r'.length
  exact len_tuple pl (by simp only [List.size_toArray] <;> omega) ⟨.int ys.length, H, I.tok _, ⟨s.toks + 1, by rw [List.size_toArray, hlen]⟩, q⟩
theorem i7 : gP X (.type "list") (fun xs H Q => ∃ p ys, xs = [.ref p] /\ (bj X.K H p ys \/ fV X.K H p ys) /\ ∀ l, H l = none -> Q (.ref l) (aU H l (.lst ys))) := by
 intro pins s σ H xs us Q I r h
 obtain ⟨p, ys, rfl, hq, q⟩ := h
 obtain ⟨u, rfl, rx⟩ := pQ r
 cases rx
 have fin : ∀ (its : List Value), aR ys its -> ys.length <= sizeLine -> ∀ (h' : Heap) (c' : Nat), (∀ b o', s.heap.get? b = some o' -> h'.get? b = some o') ->
  h'.get? s.heap.objs.size = some { cls := .type "list", dict := none, data := .seq its.toArray c', slots := #[] } -> EP X pins σ Q (.ref s.heap.objs.size) { s with heap := h' } := fun its r' hz h' c' kp e =>
  ⟨.ref s.heap.objs.size, _, I.laid (t' := s.toks) kp (Nat.le_refl _) (show bU X.prog X.w _ h' _ (.lst ys) from ⟨hz, its, c', r', e⟩), rfl, q _ (I.hok.fresh (Nat.le_refl _))⟩
 rcases hq with hq | hq
 ·obtain ⟨its, r', pl, hz⟩ := I.list hq
  have hlen := r'.length
  obtain ⟨o, ho, hc, n, hd⟩ := pl.isList
  exact call_list_seq p (.inl rfl) ho hc hd (fun h' c' kp e => fin its r' hz h' c' kp e) (by simp only [List.size_toArray] <;> omega)
 ·obtain ⟨its, r', pl, hz⟩ := I.tuple hq
  have hlen := r'.length
  obtain ⟨o, ho, hc, n, hd⟩ := pl
  exact call_list_seq p (.inr rfl) ho hc hd (fun h' c' kp e => fin its r' hz h' c' kp e) (by simp only [List.size_toArray] <;> omega)
def DP (K : W.Frag) (T : String) (x : V) (H : Hp) : Prop := match x with
 | .str _ => T = "str"
 | .int _ => T = "int"
 | .ref p => (T = "list" /\ ∃ xs, bj K H p xs) \/ (T = "tuple" /\ ∃ o, K.lookup p = some o /\ o.cls = .type "tuple" /\ o.dict = none) \/
  (T = "dict" /\ ((∃ kvs, H p = some (.dK kvs)) \/ ∃ kvs, H p = some (.dT kvs))) \/ (T = "set" /\ ∃ S n, H p = some (.set S n))
 | _ => False
theorem A8 {pins : List (Addr × Obj)} {σ : St} {H : Hp} {s : Shared} {T : String} {x : V} {v : Value} (I : aE X pins σ H s) (r : aZ x v) (ty : DP X.K T x H) :
 s.TypeIs v T /\ ∀ a, v = .ref a -> ∃ ob, s.heap.get? a = some ob /\ ob.dict = none := by
 cases x with
 | str z =>
   obtain ⟨t, rfl⟩ := r
   cases (show T = "str" from ty)
   exact ⟨typeIs_str s z t, fun _ e => nomatch e⟩
 | int i =>
   obtain ⟨t, rfl⟩ := r
   cases (show T = "int" from ty)
   exact ⟨typeIs_int s i t, fun _ e => nomatch e⟩
 | ref p =>
   cases r
   rcases ty with ⟨rfl, xs, hq⟩ | ⟨rfl, o, hk, hc, hd⟩ | ⟨rfl, hk⟩ | ⟨rfl, S, n, hk⟩
   ·obtain ⟨its, _, pl, _⟩ := I.list hq
    refine ⟨pl.isList.typeIs, fun a e => ?_⟩
    cases e
    obtain ⟨o, n, e, c, hd, _⟩ := pl
    exact ⟨o, e, hd⟩
   ·refine ⟨⟨o, I.kIn p o hk, hc⟩, fun a e => ?_⟩
    cases e
    exact ⟨o, I.kIn _ o hk, hd⟩
   ·have z : ∃ o, s.heap.get? p = some o /\ o.ExactDict := by
     rcases hk with ⟨kvs, hk⟩ | ⟨kvs, hk⟩
     ·obtain ⟨_, _, _, _, o, _, _, e, ex, _⟩ := I.hok p _ hk
      exact ⟨o, e, ex⟩
     ·obtain ⟨_, _, _, _, o, _, _, e, ex, _⟩ := I.hok p _ hk
      exact ⟨o, e, ex⟩
    obtain ⟨o, e, ex⟩ := z
    refine ⟨⟨o, e, ex.1⟩, fun a e2 => ?_⟩
    cases e2
    exact ⟨o, e, ex.2.1⟩
   ·obtain ⟨o, _, _, _, e, ex, _⟩ := I.hok p _ hk
    refine ⟨⟨o, e, ex.1⟩, fun a e2 => ?_⟩
    cases e2
    exact ⟨o, e, ex.2.1⟩
 | _ => exact False.elim ty
def DZ (K : W.Frag) (T : String) (r : V -> List V -> Hp -> VK -> Prop) (to : TE) (t : TA) : TE := fun σ H Q => to σ H fun x H1 => DP K T x H1 /\ t σ H1 fun xs H2 => r x xs H2 Q
variable {o e : Expr} {es : List Expr} {to : TE} {t : TA} {name : Str} {apos cpos : Pos} {T id : String} {r : V -> List V -> Hp -> VK -> Prop}
theorem qc (pa : PlainAttrs T) (slot : Slot T name id) (hty : typeOf (.builtin id) = pure (.type "method_descriptor")) (hm : CI X id r) (ho : PE X o to) (ha : PA X (e :: es) t)
 (hbase : attributeBase o name X.env (eval o X.env) = eval o X.env := by rfl)
 (hfew : ((backTo cpos (starEach (e :: es) X.env)).all (fun x => !x.1) && (backToKw cpos (keywordEach [] X.env)).all (fun x => x.1.isSome)
  && decide ((e :: es).length + ([] : List Keyword).length + (if ([] : List Keyword).isEmpty then 0 else 1) < 30)) = true := by rfl)
 (hline : (apos.endLine == cpos.line) = true := by rfl) (hs : starEach (e :: es) X.env = (false, eval e X.env) :: starEach es X.env := by rfl) (hplain : (backTo cpos (starEach es X.env)).any (·.1) = false := by rfl) :
 PE X (.Call (.Attribute o name apos) (e :: es) [] cpos) (DZ X.K T r to t) := by
 intro pins s σ H Q I h
 refine wpAny_Call_method_late hbase hfew hline rfl (bS (ho pins s σ H _ I h) fun v s1 ⟨x, H1, I1, r1, ty, q1⟩ => ?_)
 obtain ⟨h1, h2⟩ := A8 I1 r1 ty
 refine ⟨T, id, pa, slot, hty, h1, h2, ?_⟩
 have hA := ha cpos pins s1 σ H1 _ I1 q1
 rw [hs] at hA ⊢
 refine Calls.callWith_builtin (by show (false || (backTo cpos (starEach es X.env)).any (·.1)) = false; rw [hplain] <;> rfl) (Calls.evalArgs_plain ?_)
 exact bS hA fun us s2 ⟨vs, H2, I2, r2, q2⟩ => hm pins s2 σ H2 x vs v us Q I2 r1 r2 q2
/- xs.append(e), list.index on a module's tuple .. are CI facts of 06m -/
end
end L2
namespace L2
open PySem PySem.Spec PyProof.Rows
def DU (X : Cx) (id : String) (r : V -> List V -> Hp -> VK -> Prop) : Prop :=
 ∀ (pins : List (Addr × Obj)) (s : Shared) (σ : St) (H : Hp) (x : V) (xs : List V) (v : Value) (us : List Value) (Q : VK), aE X pins σ H s -> aZ x v -> aR xs us -> r x xs H Q ->
  wpAny (model X.prog X.w) X.A (call (.builtin id) (v :: us)) (EP X pins σ Q) X.xe s
theorem aR.one : ∀ {x : V} {us : List Value}, aR [x] us -> ∃ u, us = [u] /\ aZ x u
 | _, _, .cons r .nil => ⟨_, rfl, r⟩
theorem aR.rep {xs : List V} {us : List Value} (h : aR xs us) : ∀ k : Nat, aR (List.replicate k xs).flatten (List.replicate k us).flatten
 | 0 => .nil
 | k + 1 => by
   rw [List.replicate_succ, List.replicate_succ, List.flatten_cons, List.flatten_cons]
   exact aR.append h (aR.rep h k)
theorem qp (its : List Value) : ∀ (k : Nat) (acc : List Value),
 List.foldl (fun x1 x2 => x1 ++ x2) acc.toArray (List.replicate k its.toArray) = (acc ++ (List.replicate k its).flatten).toArray
 | 0, acc => by simp
 | k + 1, acc => by
   have e : acc.toArray ++ its.toArray = (acc ++ its).toArray := by simp
   have e2 : (acc ++ its) ++ (List.replicate k its).flatten = acc ++ (List.replicate (k + 1) its).flatten := by
    rw [List.replicate_succ, List.flatten_cons, List.append_assoc]
   rw [<- e2, <- qp its k (acc ++ its), <- e, List.replicate_succ, List.foldl_cons]
section
variable {X : Cx} {pins : List (Addr × Obj)} {σ : St} {H : Hp} {s : Shared} {l b : Addr} {xs ys zs : List V}
theorem aE.lset {its its' : List Value} {n : Nat} {f : Array Value -> Array Value} {t' : Nat} (I : aE X pins σ H s) (hH : H l = some (.lst xs))
 (e : s.heap.get? l = some { cls := .type "list", data := .seq its.toArray n }) (hf : f its.toArray = its'.toArray) (hv : aR ys its') (hz : ys.length <= sizeLine) :
 aE X pins σ (aU H l (.lst ys)) { s with heap := s.heap.update l (Obj.mapSeq f), toks := t' } := by
 have q := PySem.IsL.update e f
 rw [hf] at q
 refine I.write (x := l) (e := l) (by rw [hH]; exact trivial) (.inl rfl) (fun b' u hb hu => (Heap.get?_update_other s.heap (Obj.mapSeq f) (Ne.symm hb)).trans hu) ⟨_, q⟩ ?_
 exact ⟨hz, its', _, hv, q⟩
theorem aE.lnew {its : List Value} {t' : Nat} (I : aE X pins σ H s) (hv : aR ys its) (hz : ys.length <= sizeLine) :
 aE X pins σ (aU H s.heap.objs.size (.lst ys)) { s with heap := s.heap.push { cls := .type "list", data := .seq its.toArray }, toks := t' } :=
 I.laid (fun _ _ q => Heap.get?_push_of_some _ q) (Nat.le_refl _) ⟨hz, its, 0, hv, Heap.get?_push_size _ rfl⟩
theorem aE.fresh (I : aE X pins σ H s) : H s.heap.objs.size = none := I.hok.fresh (Nat.le_refl _)
theorem aE.lstM (I : aE X pins σ H s) (hH : H l = some (.lst xs)) : xs.length <= sizeLine /\ ∃ (its : List Value) (n : Nat), aR xs its /\ xs.length = its.length /\ s.heap.get? l = some { cls := .type "list", data := .seq its.toArray n } := by
 obtain ⟨z, its, n, r, e⟩ := I.hok l _ hH
 exact ⟨z, its, n, r, r.length, e⟩
theorem tE {n : Nat} (h : n <= sizeLine) : Builtin.List.listTooLong n = false := by
 unfold Builtin.List.listTooLong
 exact decide_eq_false (by omega)
end
section
variable {X : Cx}
def rAppend : V -> List V -> Hp -> VK -> Prop := fun x vs H Q => ∃ l xs y, x = .ref l /\ vs = [y] /\ H l = some (.lst xs) /\ xs.length < sizeLine /\ Q .non (aU H l (.lst (xs ++ [y])))
theorem qh : DU X "list.append" rAppend := by
 intro pins s σ H x vs v us Q I rx rv h
 obtain ⟨l, xs, y, rfl, rfl, hH, hz, q⟩ := h
 cases rx
 obtain ⟨u, rfl, ru⟩ := rv.one
 obtain ⟨z, its, n, r, hl, e⟩ := I.lstM hH
 refine call_meets F.slot_list_append ⟨_, e, rfl⟩ F.entry_list_append (F.args_list_append_2 _ _) (PySem.list_append l its.toArray n u (by rw [List.size_toArray]; omega)) ⟨e, ?_⟩
 refine ⟨.non, _, I.lset (its' := its ++ [u]) hH e (by simp) (r.append (.cons ru .nil)) ?_, rfl, q⟩
 rw [List.length_append, List.length_singleton]
 omega
def rExtend : V -> List V -> Hp -> VK -> Prop := fun x vs H Q => ∃ l b xs zs, x = .ref l /\ vs = [.ref b] /\ H l = some (.lst xs) /\ H b = some (.lst zs) /\ xs.length + zs.length <= sizeLine /\ Q .non (aU H l (.lst (xs ++ zs)))
theorem qf : DU X "list.extend" rExtend := by
 intro pins s σ H x vs v us Q I rx rv h
 obtain ⟨l, b, xs, zs, rfl, rfl, hH, hB, hz, q⟩ := h
 cases rx
 obtain ⟨u, rfl, ru⟩ := rv.one
 cases ru
 obtain ⟨z, its, n, r, hl, e⟩ := I.lstM hH
 obtain ⟨z2, its2, n2, r2, hl2, e2⟩ := I.lstM hB
 have hsz : its.toArray.size + its2.toArray.size <= sizeLine := by rw [List.size_toArray, List.size_toArray]; omega
 have hlong : ¬ (!its.toArray.isEmpty && Builtin.List.listTooLong (its.toArray.size + its2.toArray.size)) = true := by
  rw [tE hsz, Bool.and_false]
  exact Bool.false_ne_true
 refine call_meets F.slot_list_extend ⟨_, e, rfl⟩ F.entry_list_extend (F.args_list_extend_2 _ _)
  (AutoSeq1.list_extend_list_list_0 l its.toArray n b its2.toArray n2 hlong (by rw [List.size_toArray]; omega) (by omega)) ⟨e, e2, ?_⟩
 refine ⟨.non, _, I.lset (its' := its ++ its2) hH e (by simp) (r.append r2) ?_, rfl, q⟩
 rw [List.length_append]
 omega
def rCat : R2 := fun x y H Q => ∃ l b xs zs, x = .ref l /\ y = .ref b /\ H l = some (.lst xs) /\ H b = some (.lst zs) /\ xs.length + zs.length <= sizeLine /\ ∀ p, H p = none -> Q (.ref p) (aU H p (.lst (xs ++ zs)))
theorem gJ : kF X (binaryOp .Add) rCat := by
 intro pins s σ H x y v u Q I rx ry h
 obtain ⟨l, b, xs, zs, rfl, rfl, hH, hB, hz, q⟩ := h
 cases rx
 cases ry
 obtain ⟨z, its, n, r, hl, e⟩ := I.lstM hH
 obtain ⟨z2, its2, n2, r2, hl2, e2⟩ := I.lstM hB
 refine PySem.P.add_list e e2 ?_ (by rw [List.size_toArray, List.size_toArray]; omega)
 have ea : its.toArray ++ its2.toArray = (its ++ its2).toArray := by simp
 rw [ea]
 exact ⟨.ref _, _, I.lnew (t' := s.toks) (r.append r2) (by rw [List.length_append]; omega), rfl, q _ I.fresh⟩
def rRep : R2 := fun x y H Q => ∃ l k xs, x = .ref l /\ y = .int k /\ H l = some (.lst xs) /\ -(2 ^ 63) <= k /\ k < 2 ^ 63 /\ xs.length * k.toNat <= sizeLine /\
 ∀ p, H p = none -> Q (.ref p) (aU H p (.lst (List.replicate k.toNat xs).flatten))
theorem Ap {α : Type} (xs : List α) (k : Nat) : (List.replicate k xs).flatten.length = k * xs.length := by
 induction k with
 | zero => simp
 | succ k ih => rw [List.replicate_succ, List.flatten_cons, List.length_append, ih, Nat.succ_mul, Nat.add_comm]
theorem Bp : kF X (binaryOp .Mult) rRep := by
 intro pins s σ H x y v u Q I rx ry h
 obtain ⟨l, k, xs, rfl, rfl, hH, h1, h2, hz, q⟩ := h
 cases rx
 obtain ⟨t, rfl⟩ := ry
 obtain ⟨z, its, n, r, hl, e⟩ := I.lstM hH
 have hlen : its.toArray.size * k.toNat <= sizeLine := by rw [List.size_toArray, <- hl]; exact hz
 have hcap : ¬ its.toArray.size * k.toNat > (2 ^ 63 - 1) / 8 := by
  have : (sizeLine : Nat) <= (2 ^ 63 - 1) / 8 := by decide
  omega
 have hfit : ¬ (!Builtin.List.listFitsIndex k) = true := by
  rw [fitsIndex_both h1 h2]
  exact Bool.false_ne_true
 have hlong : ¬ Builtin.List.listTooLong (its.toArray.size * k.toNat) = true := by
  rw [tE hlen]
  exact Bool.false_ne_true
 have hnew : List.foldl (fun x1 x2 => x1 ++ x2) #[] (List.replicate (if its.toArray.isEmpty = true then 0 else k.toNat) its.toArray) = (List.replicate k.toNat its).flatten.toArray := by
  have f0 : ∀ m : Nat, List.foldl (fun x1 x2 => x1 ++ x2) #[] (List.replicate m its.toArray) = (List.replicate m its).flatten.toArray := fun m => by
   have := qp its m []
   rw [List.nil_append] at this
   exact this
  rw [f0]
  cases its with
  | nil => simp
  | cons a r' => rw [if_neg (by simp)]
 refine wpAny_binaryOp_repeat_ref (T := "list") (U := "int") (by decide) ⟨_, e, rfl⟩ (fun s' => typeIs_int s' k t) noFill_list_mul F.fills_int_mul F.slot_int_rmul repeat_list F.slot_int_index.lookup
  (call_meets F.slot_int_rmul (typeIs_int s k t) F.entry_int_rmul (F.args_int_rmul_2 _ _) (int___rmul___int_list k t l its.toArray n)
   ⟨e, rfl, ⟨_, e, rfl⟩, call_meets F.slot_list_mul ⟨_, e, rfl⟩ F.entry_list_mul (F.args_list_mul_2 _ _) (AutoListH.list___mul___list_int_3 l its.toArray n k t hfit hcap hlong) ⟨e, ?_⟩⟩)
 rw [hnew]
 exact ⟨.ref _, _, I.lnew (t' := s.toks) (r.rep k.toNat) (by rw [Ap, Nat.mul_comm]; exact hz), rfl, q _ I.fresh⟩
end
section
variable {prog : Program} {w : World} {A : Around} {E : Value -> Shared -> Prop} {s : Shared}
end
section
variable {X : Cx}
end
end L2
namespace L2
open PySem PySem.Spec PyProof.Rows
theorem aR.ints : ∀ {ns : List Int} {us : List Value}, aR (ns.map V.int) us -> IntsAre us ns
 | [], us, h => by
   rw [List.map_nil] at h
   cases h
   exact IntsAre.nil
 | n :: ns, us, h => by
   rw [List.map_cons] at h
   cases h with
   | cons r t =>
     obtain ⟨k, rfl⟩ := r
     exact IntsAre.cons n k (aR.ints t)
theorem iJ : ∀ {us : List Value} {ns : List Int}, IntsAre us ns -> aR (ns.map V.int) us
 | _, _, .nil => by rw [List.map_nil]; exact Paired.nil
 | _, _, .cons n t h => by rw [List.map_cons]; exact Paired.cons (show aZ (V.int n) (Value.int n t) from ⟨t, rfl⟩) (iJ h)
theorem aR.bls : ∀ {bs : List Bool} {us : List Value}, aR (bs.map V.bl) us -> us = bs.map Value.bool
 | [], us, h => by
   rw [List.map_nil] at h
   cases h
   rfl
 | b :: bs, us, h => by
   rw [List.map_cons] at h
   cases h with
   | cons r t =>
     cases r
     rw [aR.bls t, List.map_cons]
theorem aR.ref1 {a : Addr} {us : List Value} (r : aR [V.ref a] us) : us = [Value.ref a] := by
 cases r with
 | cons r t =>
   cases t
   cases r
   rfl
section
variable {prog : Program} {w : World} {A : Around} {E : Value -> Shared -> Prop} {s : Shared} {l : Addr} {its : List Value} {ns : List Int} {Q : Value -> Shared -> Prop}
theorem zR (hh : A.handled = none) (hl : s.heap.IsList l its.toArray) (hi : IntsAre its ns)
 (h : ∀ h' tk t', (∀ b o, s.heap.get? b = some o -> h'.get? b = some o) -> Q (.int ns.sum t') { s with heap := h', toks := tk }) : wpAny (model prog w) A (call (.builtin "sum") [.ref l]) Q E s := by
 obtain ⟨xs, e⟩ := hi.allInts.items
 have hn : numsOf (intItems xs).toList = ns := by rw [<- e]; exact hi.numsOf
 rw [nums_intItems] at hn
 rw [e] at hl
 refine PySem.sum_intListG hh hl fun h' tk t' hk => ?_
 have := h h' tk t' hk
 rw [preSum_eq, List.take_of_length_le (by simp), hn]; exact this
theorem C1 (hh : A.handled = none) (hl : s.heap.IsList l its.toArray) (hi : IntsAre its ns) (hne : 0 < ns.length)
 (h : ∀ h' tk M t', (∀ b o, s.heap.get? b = some o -> h'.get? b = some o) -> M ∈ ns -> (∀ a, a ∈ ns -> a <= M) -> Q (.int M t') { s with heap := h', toks := tk }) : wpAny (model prog w) A (call (.builtin "max") [.ref l]) Q E s := by
 obtain ⟨xs, e⟩ := hi.allInts.items
 have hn : numsOf (intItems xs).toList = ns := by rw [<- e]; exact hi.numsOf
 rw [nums_intItems] at hn
 subst hn
 rw [e] at hl
 have hsz : 0 < xs.size := by simpa using hne
 refine PySem.max_intList hh hl hsz fun v h' tk hv hk => ?_
 obtain ⟨t, rfl⟩ := intItems_at hv
 obtain ⟨h1, h2⟩ := argBest_gt (numAt xs) (xs.size - 1)
 refine h h' tk _ t hk ?_ fun a ha => ?_
 ·rw [numAt_eq]; exact PySem.getD_mem (by rw [List.length_map, Array.length_toList]; omega)
 ·obtain ⟨j, hj, rfl⟩ := mem_getD ha
  rw [List.length_map, Array.length_toList] at hj
  rw [<- numAt_eq]; exact h2 j (by omega)
theorem An (hh : A.handled = none) (hl : s.heap.IsList l its.toArray) (hi : IntsAre its ns) (hne : 0 < ns.length)
 (h : ∀ h' tk M t', (∀ b o, s.heap.get? b = some o -> h'.get? b = some o) -> M ∈ ns -> (∀ a, a ∈ ns -> M <= a) -> Q (.int M t') { s with heap := h', toks := tk }) : wpAny (model prog w) A (call (.builtin "min") [.ref l]) Q E s := by
 obtain ⟨xs, e⟩ := hi.allInts.items
 have hn : numsOf (intItems xs).toList = ns := by rw [<- e]; exact hi.numsOf
 rw [nums_intItems] at hn
 subst hn
 rw [e] at hl
 have hsz : 0 < xs.size := by simpa using hne
 refine PySem.min_intList hh hl hsz fun v h' tk hv hk => ?_
 obtain ⟨t, rfl⟩ := intItems_at hv
 obtain ⟨h1, h2⟩ := argBest_lt (numAt xs) (xs.size - 1)
 refine h h' tk _ t hk ?_ fun a ha => ?_
 ·rw [numAt_eq]; exact PySem.getD_mem (by rw [List.length_map, Array.length_toList]; omega)
 ·obtain ⟨j, hj, rfl⟩ := mem_getD ha
  rw [List.length_map, Array.length_toList] at hj
  rw [<- numAt_eq]; exact h2 j (by omega)
end
section
variable {X : Cx}
def Dj (K : W.Frag) : List V -> Hp -> VK -> Prop := fun vs H Q => ∃ (a : Addr) (ns : List Int), vs = [V.ref a] /\ bj K H a (ns.map V.int) /\ Q (.int ns.sum) H
def Dr (K : W.Frag) : List V -> Hp -> VK -> Prop := fun vs H Q => ∃ (a : Addr) (ns : List Int), vs = [V.ref a] /\ bj K H a (ns.map V.int) /\ 0 < ns.length /\ ∀ m, m ∈ ns -> (∀ y, y ∈ ns -> m <= y) -> Q (.int m) H
theorem pp (hc : X.calm = true) : gP X (.builtin "sum") (Dj X.K) := by
 intro pins s σ H vs us Q I r h
 obtain ⟨a, ns, rfl, hs, q⟩ := h
 obtain ⟨its, rv, hl, _⟩ := I.list hs
 rw [aR.ref1 r]
 exact zR (I.ok.hd hc) hl.isList rv.ints fun h' tk t' hk => ⟨.int _, H, I.kept hk, ⟨_, rfl⟩, q⟩
theorem BO (hc : X.calm = true) : gP X (.builtin "min") (Dr X.K) := by
 intro pins s σ H vs us Q I r h
 obtain ⟨a, ns, rfl, hs, hne, q⟩ := h
 obtain ⟨its, rv, hl, _⟩ := I.list hs
 rw [aR.ref1 r]
 exact An (I.ok.hd hc) hl.isList rv.ints hne fun h' tk m t' hk h1 h2 => ⟨.int _, H, I.kept hk, ⟨_, rfl⟩, q m h1 h2⟩
def z6 (K : W.Frag) : List V -> Hp -> VK -> Prop := fun vs H Q => ∃ (a : Addr) (ns : List Int), vs = [V.ref a] /\ bj K H a (ns.map V.int) /\ ns.length < 64 /\
 ∀ (ns' : List Int) (p : Addr), ns'.Perm ns -> ns'.Pairwise (· <= ·) -> H p = none -> Q (.ref p) (aU H p (.lst (ns'.map V.int)))
theorem vN {n : Nat} (h : n < 64) : n <= sizeLine := by rw [sizeLine_eq]; omega
theorem qA : gP X (.builtin "sorted") (z6 X.K) := by
 intro pins s σ H vs us Q I r h
 obtain ⟨a, ns, rfl, hs, h64, q⟩ := h
 obtain ⟨its, rv, hl, _⟩ := I.list hs
 rw [aR.ref1 r]
 have hi := rv.ints
 refine PyProof.Rows.sorted_ints hl.isList hi (by rw [hi.length]; exact h64) fun out ns' h1 h2 h3 => ?_
 obtain ⟨ep, he'⟩ := PyProof.Rows.sortedAll_at s.heap its out
 have hlen : (ns'.map V.int).length <= sizeLine := by rw [List.length_map, h2.length_eq]; exact vN h64
 exact ⟨.ref _, aU H (s.heap.objs.size + 1) (.lst (ns'.map V.int)), I.laid (t' := s.toks) (fun _ _ => PyProof.Rows.sortedAll_old) (Nat.le_succ _) ⟨hlen, out.toList, ep, iJ h1, he'⟩, rfl, q ns' _ h2 h3 (I.hok.fresh (Nat.le_succ _))⟩
end
section
variable {X : Cx}
end
section
variable {X : Cx}
end
theorem tI {prog : Program} {w : World} {A : Around} {E : Value -> Shared -> Prop} {s : Shared} {l : Addr} {items : Array Value} {Q : Value -> Shared -> Prop} (hl : s.heap.IsList l items)
 (h : ∀ s₂ : Shared, s₂ = { s with heap := s.heap.push { cls := .type "list_iterator", data := .fields #[.ref l, .int 0 0] } } ->
  (s₂.heap.IsListIter s.heap.objs.size l 0 /\ s₂.heap.IsList l items) -> l ≠ s.heap.objs.size -> Q (.ref s.heap.objs.size) s₂) : wpAny (model prog w) A (pyIter (.ref l)) Q E s := by
 have hlt : l < s.heap.objs.size := by obtain ⟨_, e, _⟩ := hl; exact Heap.lt_size e
 exact wpAny_pyIter_list hl (h _ rfl ⟨⟨_, Heap.get?_push_size _ rfl, rfl, rfl⟩, hl.push _⟩ (Nat.ne_of_lt hlt))
theorem mI {prog : Program} {w : World} {A : Around} {bs : List Bool} {its : List Value} (e : its = bs.map Value.bool) :
 TruthOf prog w A (fun i v => its.toArray[i]? = some v) (fun i => bs.getD i false) := fun i v s Q E hv hq => by
 have hv' : its[i]? = some v := by simpa using hv
 rw [e, List.getElem?_map] at hv'
 obtain ⟨b, hb, rfl⟩ := Option.map_eq_some_iff.mp hv'
 have hg : bs.getD i false = b := by rw [List.getD_eq_getElem?_getD, hb] <;> rfl
 have hq' : Q (bs.getD i false) s := hq
 rw [hg] at hq'
 exact wpAny_truthy_bool hq'
theorem qH : ∀ bs : List Bool, (List.range bs.length).any (fun i => bs.getD i false) = bs.any id
 | [] => rfl
 | b :: bs => by
   rw [List.length_cons, List.range_succ_eq_map, List.any_cons, List.any_map, List.any_cons, <- qH bs]
   all_goals rfl
theorem qI : ∀ bs : List Bool, (List.range bs.length).all (fun i => bs.getD i false) = bs.all id
 | [] => rfl
 | b :: bs => by
   rw [List.length_cons, List.range_succ_eq_map, List.all_cons, List.all_map, List.all_cons, <- qI bs]
   all_goals rfl
section
variable {X : Cx}
def Dt (K : W.Frag) : List V -> Hp -> VK -> Prop := fun vs H Q => ∃ (a : Addr) (bs : List Bool), vs = [V.ref a] /\ bj K H a (bs.map V.bl) /\ Q (.bl (bs.any id)) H
def Du (K : W.Frag) : List V -> Hp -> VK -> Prop := fun vs H Q => ∃ (a : Addr) (bs : List Bool), vs = [V.ref a] /\ bj K H a (bs.map V.bl) /\ Q (.bl (bs.all id)) H
theorem BP (hc : X.calm = true) : gP X (.builtin "any") (Dt X.K) := by
 intro pins s σ H vs us Q I r h
 obtain ⟨a, bs, rfl, hs, q⟩ := h
 obtain ⟨its, rv, hl, _⟩ := I.list hs
 rw [aR.ref1 r]
 have hb := rv.bls
 refine call_any_walk (tI hl.isList fun s₂ e2 st hne => ?_)
 subst e2
 refine ⟨_, _, _, _, _, _, _, rfl, Walks.list (A := X.A.in1) (I.ok.hd hc) _ a hne its.toArray, st, mI hb, fun h' tk hk => ?_⟩
 refine ⟨.bl _, H, I.kept fun b o eo => hk b o (fun hmem => ?_) (Heap.get?_push_of_some _ eo), ?_, q⟩
 ·rcases List.mem_cons.mp hmem with e1 | hmem
  ·exact absurd (e1 ▸ Heap.lt_size eo) (Nat.lt_irrefl _)
  ·cases hmem
 ·show Value.bool _ = Value.bool _
  rw [<- qH, hb, List.size_toArray, List.length_map]
theorem vg (hc : X.calm = true) : gP X (.builtin "all") (Du X.K) := by
 intro pins s σ H vs us Q I r h
 obtain ⟨a, bs, rfl, hs, q⟩ := h
 obtain ⟨its, rv, hl, _⟩ := I.list hs
 rw [aR.ref1 r]
 have hb := rv.bls
 refine call_all_walk (tI hl.isList fun s₂ e2 st hne => ?_)
 subst e2
 refine ⟨_, _, _, _, _, _, _, rfl, Walks.list (A := X.A.in1) (I.ok.hd hc) _ a hne its.toArray, st, mI hb, fun h' tk hk => ?_⟩
 refine ⟨.bl _, H, I.kept fun b o eo => hk b o (fun hmem => ?_) (Heap.get?_push_of_some _ eo), ?_, q⟩
 ·rcases List.mem_cons.mp hmem with e1 | hmem
  ·exact absurd (e1 ▸ Heap.lt_size eo) (Nat.lt_irrefl _)
  ·cases hmem
 ·show Value.bool _ = Value.bool _
  rw [<- qI, hb, List.size_toArray, List.length_map]
end
mutual
inductive Dp (K : W.Frag) (H : Hp) : V -> PyData -> Prop
 | non : Dp K H .non .none
 | bl (b : Bool) : Dp K H (.bl b) (.bool b)
 | int (i : Int) : Dp K H (.int i) (.int i)
 | str (x : Str) : Dp K H (.str x) (.str x)
 | lst {a : Addr} {xs : List V} {ds : List PyData} : bj K H a xs -> qL K H xs ds -> Dp K H (.ref a) (.list ds)
 | tup {a : Addr} {xs : List V} {ds : List PyData} : fV K H a xs -> qL K H xs ds -> Dp K H (.ref a) (.tuple ds)
inductive qL (K : W.Frag) (H : Hp) : List V -> List PyData -> Prop
 | nil : qL K H [] []
 | cons {v : V} {vs : List V} {d : PyData} {ds : List PyData} : Dp K H v d -> qL K H vs ds -> qL K H (v :: vs) (d :: ds)
end
section
variable {X : Cx} {pins : List (Addr × Obj)} {σ : St} {H : Hp} {s : Shared}
mutual
theorem Dp.reads (I : aE X pins σ H s) : ∀ (d : PyData) (v : V) (u : Value), Dp X.K H v d -> aZ v u -> ∃ as, Reads s.heap u d as
 | .none, _, _, h, r => by
   cases h
   cases r
   exact ⟨_, Reads.none⟩
 | .bool b, _, _, h, r => by
   cases h
   cases r
   exact ⟨_, Reads.bool b⟩
 | .int i, _, _, h, r => by
   cases h
   obtain ⟨t, rfl⟩ := r
   exact ⟨_, Reads.int i t⟩
 | .str x, _, _, h, r => by
   cases h
   obtain ⟨t, rfl⟩ := r
   exact ⟨_, Reads.str x t⟩
 | .list ds, _, _, h, r => by
   cases h with
   | lst hs ha =>
     cases r
     obtain ⟨its, rv, ⟨o, n, ho, hc, _, hd⟩, _⟩ := I.list hs
     obtain ⟨as, hr⟩ := Dp.readsAll I ds _ its ha rv
     exact ⟨_, Reads.list ho hc hd hr⟩
 | .tuple ds, _, _, h, r => by
   cases h with
   | tup hs ha =>
     cases r
     obtain ⟨its, rv, ⟨o, ho, hc, n, hd⟩, _⟩ := I.tuple hs
     obtain ⟨as, hr⟩ := Dp.readsAll I ds _ its ha rv
     exact ⟨_, Reads.tuple ho hc hd hr⟩
 | .dict _, _, _, h, _ => by cases h
theorem Dp.readsAll (I : aE X pins σ H s) : ∀ (ds : List PyData) (vs : List V) (us : List Value), qL X.K H vs ds -> aR vs us -> ∃ as, ReadsAll s.heap us ds as
 | [], _, _, h, r => by
   cases h
   cases r
   exact ⟨_, ReadsAll.nil⟩
 | d :: ds, _, _, h, r => by
   cases h with
   | cons h1 h2 =>
     cases r with
     | cons r1 r2 =>
       obtain ⟨as, q1⟩ := Dp.reads I d _ _ h1 r1
       obtain ⟨bs, q2⟩ := Dp.readsAll I ds _ _ h2 r2
       exact ⟨_, ReadsAll.cons q1 q2⟩
end
end
section
variable {X : Cx}
def Do (K : W.Frag) : R2 := fun x y H Q => ∃ d e, Dp K H x d /\ Dp K H y e /\ SeqAt.shaped d = true /\ SeqAt.shaped e = true /\ Q (.bl (!PyData.eqv d e)) H
theorem Bq (hu : X.A.units + 64 < cLine) : kF X (compareOp .NotEq) (Do X.K) := by
 intro pins s σ H x y v u Q I rx ry h
 obtain ⟨d, e, hd, he, sd, se, q⟩ := h
 obtain ⟨as, r1⟩ := Dp.reads I d x v hd rx
 obtain ⟨bs, r2⟩ := Dp.reads I e y u he ry
 exact SeqAt.compareNe_shaped r1 r2 sd se hu ⟨.bl _, H, I, rfl, q⟩
end
end L2
namespace L2
open PySem PySem.Spec PyProof.Rows
abbrev zI (h : Heap) (c : Addr) (v : Option Value) : Prop := h.IsCell c v
def Di (scope sc : Scope) : Scope :=
 { scope with names := scope.names.map fun (n, k) => if (k == .free && sc.kind == .function && sc.names.lookup n == some .cell) then (n, .cell) else (n, k) }
def bx (cells : List (Str × Addr)) : List (Str × NameKind) -> List (Str × Addr) -> List (Str × Addr)
 | [], acc => acc
 | (n, k) :: r, acc => if k == .free then bx cells r ((n, (cells.lookup n).getD 0) :: acc) else bx cells r acc
theorem lE (env : Env) (f : Str × NameKind -> List (Str × Addr) -> Sem (ForInStep (List (Str × Addr))))
 (hf : ∀ n k c, f (n, k) c = if k == .free then (do let a <- cellOf env n; pure (.yield ((n, a) :: c))) else pure (.yield c)) :
 ∀ (names : List (Str × NameKind)) (acc : List (Str × Addr)), (∀ y ∈ names, y.2 = .free -> ∃ c, env.cells.lookup y.1 = some c) -> forIn names acc f = pure (bx env.cells names acc)
 | [], acc, _ => by rw [List.forIn_nil]; rfl
 | (n, k) :: r, acc, h => by
   rw [List.forIn_cons, hf]
   have ih := fun acc => lE env f hf r acc fun y hy => h y (List.mem_cons_of_mem _ hy)
   unfold bx
   by_cases hk : (k == NameKind.free) = true
   ·rw [if_pos hk, if_pos hk]
    obtain ⟨c, hc⟩ := h (n, k) List.mem_cons_self (by simpa using hk)
    have e : cellOf env n = pure c := by unfold cellOf; rw [hc]
    rw [e]
    have e2 : (env.cells.lookup n).getD 0 = c := by rw [hc]; rfl
    rw [e2]
    exact ih _
   ·rw [if_neg hk, if_neg hk]
    exact ih _
theorem vh {scope : Scope} {env : Env} (h : ∀ y ∈ scope.names, y.2 = .free -> ∃ c, env.cells.lookup y.1 = some c) : closureFor scope env = pure (bx env.cells scope.names []) := by
 simp only [closureFor]
 rw [lE env _ (fun n k c => rfl) scope.names [] h]
 rfl
theorem kx {α : Type} : ∀ {l : List (Str × α)} {n : Str} {c : α}, (n, c) ∈ l -> ∃ c', l.lookup n = some c'
 | (k, v) :: r, n, c, h => by
   rw [List.lookup_cons]
   cases hb : n == k with
   | true => exact ⟨_, rfl⟩
   | false =>
     rcases List.mem_cons.mp h with e | h
     ·cases e; simp at hb
     ·exact kx h
theorem g0 {cells : List (Str × Addr)} : ∀ {names : List (Str × NameKind)} {acc : List (Str × Addr)} {n : Str} {c : Addr}, (n, c) ∈ bx cells names acc -> (n, c) ∈ acc \/ ((n, .free) ∈ names /\ c = (cells.lookup n).getD 0)
 | [], _, _, _, h => .inl h
 | (m, k) :: r, acc, n, c, h => by
   unfold bx at h
   split at h
   ·rename_i hk
    have hk : k = .free := by simpa using hk
    rcases g0 h with h | ⟨h1, h2⟩
    ·rcases List.mem_cons.mp h with e | h
     ·cases e; exact .inr ⟨hk ▸ List.mem_cons_self, rfl⟩
     ·exact .inl h
    ·exact .inr ⟨List.mem_cons_of_mem _ h1, h2⟩
   ·rcases g0 h with h | ⟨h1, h2⟩
    ·exact .inl h
    ·exact .inr ⟨List.mem_cons_of_mem _ h1, h2⟩
theorem jI {cells : List (Str × Addr)} : ∀ {names : List (Str × NameKind)} {acc : List (Str × Addr)} {p : Str × Addr}, p ∈ acc -> p ∈ bx cells names acc
 | [], _, _, h => h
 | (m, k) :: r, acc, p, h => by
   unfold bx
   split
   ·exact jI (List.mem_cons_of_mem _ h)
   ·exact jI h
theorem jH {cells : List (Str × Addr)} : ∀ {names : List (Str × NameKind)} {acc : List (Str × Addr)} {n : Str}, (n, .free) ∈ names -> (n, (cells.lookup n).getD 0) ∈ bx cells names acc
 | (m, k) :: r, acc, n, h => by
   unfold bx
   rcases List.mem_cons.mp h with e | h
   ·cases e
    exact jI List.mem_cons_self
   ·split
    ·exact jH h
    ·exact jH h
theorem iI : ∀ {names : List (Str × NameKind)} {h : Heap} {acc : List (Str × Addr)} {x : Str} {c : Addr}, (x, c) ∈ cellsFrom h.objs.size names acc ->
 (x, c) ∈ acc \/ ((x, .cell) ∈ names /\ h.objs.size <= c /\ zI (pushCells h names) c none)
 | [], _, _, _, _, h => .inl h
 | (n, k) :: r, h, acc, x, c, hm => by
   unfold cellsFrom at hm
   unfold pushCells
   split at hm
   ·rename_i hk
    rw [if_pos hk]
    have hk : k = .cell := by simpa using hk
    rw [<- Heap.size_push h { cls := .type "cell", data := .cell none }] at hm
    rcases iI hm with hm | ⟨h1, h2, h3⟩
    ·rcases List.mem_cons.mp hm with e | hm
     ·cases e
      exact .inr ⟨hk ▸ List.mem_cons_self, Nat.le_refl _, _, pushCells_keeps r _ _ _ (Heap.get?_push_size _ rfl), rfl⟩
     ·exact .inl hm
    ·rw [Heap.size_push] at h2
     exact .inr ⟨List.mem_cons_of_mem _ h1, Nat.le_of_succ_le h2, h3⟩
   ·rename_i hk
    rw [if_neg hk]
    rcases iI hm with hm | ⟨h1, h2, h3⟩
    ·exact .inl hm
    ·exact .inr ⟨List.mem_cons_of_mem _ h1, h2, h3⟩
theorem jV : ∀ {names : List (Str × NameKind)} {n : Nat} {acc : List (Str × Addr)} {p : Str × Addr}, p ∈ acc -> p ∈ cellsFrom n names acc
 | [], _, _, _, h => h
 | (m, k) :: r, n, acc, p, h => by
   unfold cellsFrom
   split
   ·exact jV (List.mem_cons_of_mem _ h)
   ·exact jV h
theorem mF : ∀ {names : List (Str × NameKind)} {n : Nat} {acc : List (Str × Addr)} {x : Str}, (x, .cell) ∈ names -> ∃ c, (x, c) ∈ cellsFrom n names acc
 | (m, k) :: r, n, acc, x, h => by
   unfold cellsFrom
   rcases List.mem_cons.mp h with e | h
   ·cases e
    exact ⟨n, jV List.mem_cons_self⟩
   ·split
    ·exact mF h
    ·exact mF h
theorem mE : ∀ {names : List (Str × NameKind)} {h : Heap} {acc : List (Str × Addr)} {x y : Str} {c : Addr}, (∀ p ∈ acc, p.2 < h.objs.size) -> (∀ x y c, (x, c) ∈ acc -> (y, c) ∈ acc -> x = y) ->
 (x, c) ∈ cellsFrom h.objs.size names acc -> (y, c) ∈ cellsFrom h.objs.size names acc -> x = y
 | [], _, _, _, _, _, _, hi, h1, h2 => hi _ _ _ h1 h2
 | (n, k) :: r, h, acc, x, y, c, hl, hi, h1, h2 => by
   unfold cellsFrom at h1 h2
   split at h1
   ·rename_i hk
    rw [if_pos hk] at h2
    rw [<- Heap.size_push h { cls := .type "cell", data := .cell none }] at h1 h2
    refine mE (h := h.push _) (fun p hp => ?_) (fun x y c a b => ?_) h1 h2
    ·rw [Heap.size_push]
     rcases List.mem_cons.mp hp with rfl | hp
     ·exact Nat.lt_succ_self _
     ·exact Nat.lt_succ_of_lt (hl p hp)
    ·rcases List.mem_cons.mp a with e | a <;> rcases List.mem_cons.mp b with e' | b
     ·cases e; cases e'; rfl
     ·cases e; exact absurd (hl _ b) (Nat.lt_irrefl _)
     ·cases e'; exact absurd (hl _ a) (Nat.lt_irrefl _)
     ·exact hi _ _ _ a b
   ·rename_i hk
    rw [if_neg hk] at h2
    exact mE hl hi h1 h2
theorem tF {M : Model} {A : Around} {E : Value -> Shared -> Prop} {s : Shared} {scope : Scope} {globals : Addr} {closure : List (Str × Addr)} {qual : Str} {func : Option Addr} {code : Value} {around : Env} {builtins : Addr} {Q : Env -> Shared -> Prop}
 (h : Q (newEnv scope s.heap.objs.size globals (cellsFrom (s.heap.objs.size + 1) scope.names closure) qual func code (some around) builtins)
  { s with heap := pushCells (s.heap.push { cls := .type "dict", data := .dict #[] }) scope.names }) :
 wpAny M A (newFunctionEnv scope globals closure [] qual func code (some around) builtins) Q E s := by
 simp only [newFunctionEnv, Option.isSome_some, if_true]
 refine wpAny_bind (wpAny_alloc ?_)
 refine wpAny_bind (wpAny_layCells _ (fun n k c => rfl) scope.names closure _ _ ?_)
 rw [show ({ s with heap := s.heap.push { cls := .type "dict", data := .dict #[] } } : Shared).heap.objs.size = s.heap.objs.size + 1 from Heap.size_push ..]
 rw [List.forIn_nil]
 exact wpAny_bind (wpAny_pure (wpAny_pure h))
theorem jv {sc : Scope} : ∀ {names : List (Str × NameKind)} {x : Str} {k : NameKind},
 (names.map fun (n, k) => if (k == NameKind.free && sc.kind == .function && sc.names.lookup n == some .cell) then (n, NameKind.cell) else (n, k)).lookup x = some k ->
 ∃ k', names.lookup x = some k' /\ (k = k' \/ (k' = .free /\ k = .cell))
 | [], _, _, h => by simp at h
 | (n, k₀) :: r, x, k, h => by
   have ih := @jv sc r x k
   have h' : List.lookup x ((if (k₀ == NameKind.free && sc.kind == .function && sc.names.lookup n == some .cell) = true then (n, NameKind.cell) else (n, k₀)) :: (r.map _)) = some k := h
   cases hx : x == n with
   | true =>
     simp only [List.lookup_cons, hx]
     by_cases hc : (k₀ == NameKind.free && sc.kind == .function && sc.names.lookup n == some .cell) = true
     ·rw [if_pos hc] at h'
      simp only [List.lookup_cons, hx] at h'
      cases h'
      simp only [Bool.and_eq_true, beq_iff_eq] at hc
      exact ⟨k₀, rfl, .inr ⟨hc.1.1, rfl⟩⟩
     ·rw [if_neg hc] at h'
      simp only [List.lookup_cons, hx] at h'
      cases h'
      exact ⟨_, rfl, .inl rfl⟩
   | false =>
     simp only [List.lookup_cons, hx]
     by_cases hc : (k₀ == NameKind.free && sc.kind == .function && sc.names.lookup n == some .cell) = true
     ·rw [if_pos hc] at h'
      simp only [List.lookup_cons, hx] at h'
      exact ih h'
     ·rw [if_neg hc] at h'
      simp only [List.lookup_cons, hx] at h'
      exact ih h'
structure uf (N : List Str) (sc scope : Scope) (own : List (Str × Nat)) : Prop where
 kind : scope.kind = .function
 uniq : ∀ y ∈ scope.names, scope.names.lookup y.1 = some y.2
 ix : ∀ p ∈ own, N[p.2]? = some p.1
 free : ∀ y ∈ scope.names, y.2 = .free -> sc.names.lookup y.1 = some .cell \/ sc.names.lookup y.1 = some .free
 own : ∀ y ∈ scope.names, y.2 = .local \/ y.2 = .cell -> y.1 ∈ own.map (·.1) \/ y.1 ∉ N
def bH (σ : St) : List Nat -> St
 | [] => σ
 | v :: vs => (bH σ vs).set v none
theorem je (σ : St) : ∀ vs : List Nat, (bH σ vs).length = σ.length
 | [] => rfl
 | v :: vs => by unfold bH; rw [List.length_set, je σ vs]
theorem lI {σ : St} {i : Nat} {x : V} : ∀ {vs : List Nat}, (bH σ vs)[i]? = some (some x) -> σ[i]? = some (some x) /\ i ∉ vs
 | [], h => ⟨h, by simp⟩
 | v :: vs, h => by
   unfold bH at h
   by_cases hi : v = i
   ·subst hi
    by_cases hv : v < (bH σ vs).length
    ·rw [List.getElem?_set_self hv] at h; cases h
    ·rw [List.getElem?_eq_none (by simpa using hv)] at h; cases h
   ·rw [List.getElem?_set_ne hi] at h
    obtain ⟨h1, h2⟩ := lI h
    exact ⟨h1, by simp only [List.mem_cons, not_or]; exact ⟨fun e => hi e.symm, h2⟩⟩
abbrev Cx.blk (X : Cx) (s : Shared) (H : Hp) (scope : Scope) (cenv : Env) (fp : List Addr) : Cx := { X with s_0 := s, H_0 := H, env := cenv, outer := X.stack, ex := fp, fn := fun x => scope.names.lookup x == some .cell, pn := [], xe := fun _ _ => False }
section
variable {X : Cx} {pins : List (Addr × Obj)} {σ : St} {H : Hp} {s : Shared}
theorem t6 {scope : Scope} {own : List (Str × Nat)} {fp : List Addr} (I : aE X pins σ H s) (ok : uf X.N X.env.scope scope own) (hN : X.N.Nodup) (hfp : ∀ b ∈ fp, nA X pins H b /\ b < s.heap.objs.size) :
 aE (X.blk s H scope (compEnvC scope (cellsFrom (s.heap.objs.size + 1) scope.names (bx X.env.cells scope.names [])) s.heap.objs.size X.env) fp) [] (bH σ (own.map (·.2))) H { s with heap := pushCells (s.heap.push { cls := .type "dict", data := .dict #[] }) scope.names } := by
 have hfree : ∀ y ∈ scope.names, y.2 = .free -> ∃ c, X.env.cells.lookup y.1 = some c := fun y hy e => by
  rcases ok.free y hy e with k | k
  ·exact I.ok.has _ (.inl k)
  ·exact I.ok.has _ (.inr k)
 generalize hcenv : compEnvC scope (cellsFrom (s.heap.objs.size + 1) scope.names (bx X.env.cells scope.names [])) s.heap.objs.size X.env = cenv
 have kp : ∀ b o, s.heap.get? b = some o -> (pushCells (s.heap.push { cls := .type "dict", data := .dict #[] }) scope.names).get? b = some o := fun b o e => pushCells_keeps _ _ _ _ (Heap.get?_push_of_some _ e)
 have hL : cenv.locals = s.heap.objs.size := by rw [<- hcenv]; rfl
 have hcl : cenv.cells = cellsFrom (s.heap.objs.size + 1) scope.names (bx X.env.cells scope.names []) := by rw [<- hcenv]; rfl
 have hsc : cenv.scope = Di scope X.env.scope := by rw [<- hcenv]; rfl
 rw [<- Heap.size_push s.heap { cls := .type "dict", data := .dict #[] }] at hcl
 have cm : ∀ {y c}, (y, c) ∈ bx X.env.cells scope.names [] -> X.env.cells.lookup y = some c /\ c < s.heap.objs.size := fun {y c} hm => by
  rcases g0 hm with hm | ⟨h1, rfl⟩
  ·cases hm
  ·obtain ⟨c, hc⟩ := hfree _ h1 rfl
   rw [hc]
   obtain ⟨w, z⟩ := I.cell _ _ hc
   exact ⟨rfl, z.lt⟩
 have mem : ∀ {y c}, cenv.cells.lookup y = some c -> (X.env.cells.lookup y = some c /\ c < s.heap.objs.size) \/ (s.heap.objs.size + 1 <= c /\ zI (pushCells (s.heap.push { cls := .type "dict", data := .dict #[] }) scope.names) c none) := fun {y c} e => by
  rw [hcl] at e
  rcases iI (PySem.mem_of_lookup e) with hm | ⟨_, h2, h3⟩
  ·exact .inl (cm hm)
  ·rw [Heap.size_push] at h2; exact .inr ⟨h2, h3⟩
 have look : ∀ {y}, scope.names.lookup y = some .free -> ∃ c, cenv.cells.lookup y = some c /\ X.env.cells.lookup y = some c := fun {y} hl => by
  have hy : (y, NameKind.free) ∈ scope.names := PySem.mem_of_lookup hl
  obtain ⟨c', e'⟩ := kx (jV (names := scope.names) (n := (s.heap.push { cls := .type "dict", data := .dict #[] }).objs.size) (jH (cells := X.env.cells) (acc := []) hy))
  rw [<- hcl] at e'
  refine ⟨c', e', ?_⟩
  rw [hcl] at e'
  rcases iI (PySem.mem_of_lookup e') with hm | ⟨h1, _, _⟩
  ·exact (cm hm).1
  ·have := ok.uniq _ h1
   rw [hl] at this; cases this
 have okB : (X.blk s H scope cenv fp).Ok := by
  refine ⟨I.ok.mod, by show cenv.scope.kind = _; rw [hsc]; exact ok.kind, by show cenv.globals = _; rw [<- hcenv]; exact I.ok.glob, by show cenv.builtins = _; rw [<- hcenv]; exact I.ok.blt, by show s.heap.objs.size <= cenv.locals; rw [hL]; exact Nat.le_refl _,
   fun y z c e1 e2 => ?_, fun y hy => ?_, fun y c z e => ?_, I.ok.hd, I.ok.frames, .inl rfl, fun b hb => ⟨?_, fun y c e z => ?_⟩, I.bs, Nat.le_trans I.ok.bsz I.sz, fun b o e hb => ?_, fun b hb z => ?_, I.stack, I.stkFree⟩
  ·have e1 : cenv.cells.lookup y = some c := e1
   have e2 : cenv.cells.lookup z = some c := e2
   rw [hcl] at e1 e2
   refine mE (fun p hp => ?_) (fun y z c a b => I.ok.inj y z c (cm a).1 (cm b).1) (PySem.mem_of_lookup e1) (PySem.mem_of_lookup e2)
   rw [Heap.size_push]
   exact Nat.lt_succ_of_lt (cm (y := p.1) (c := p.2) hp).2
  ·show ∃ c, cenv.cells.lookup y = some c
   have key : ∀ k, cenv.kindOf y = some k -> (k = .cell \/ k = .free) -> ∃ c, cenv.cells.lookup y = some c := fun k hk hk' => by
    unfold Env.kindOf at hk
    rw [hsc] at hk
    obtain ⟨k', e, r⟩ := jv hk
    have : k' = .cell \/ k' = .free := by
     rcases r with rfl | ⟨rfl, _⟩
     ·exact hk'
     ·exact .inr rfl
    rcases this with rfl | rfl
    ·obtain ⟨c, hm⟩ := mF (n := (s.heap.push { cls := .type "dict", data := .dict #[] }).objs.size) (acc := bx X.env.cells scope.names []) (PySem.mem_of_lookup e)
     obtain ⟨c', e'⟩ := kx hm
     exact ⟨c', by rw [hcl]; exact e'⟩
    ·obtain ⟨c, h1, _⟩ := look e
     exact ⟨c, h1⟩
   rcases hy with hy | hy
   ·exact key _ hy (.inl rfl)
   ·exact key _ hy (.inr rfl)
  ·have z : (scope.names.lookup y == some NameKind.cell) = true := z
   have z : scope.names.lookup y = some .cell := by simpa using z
   have e : cenv.cells.lookup y = some c := e
   rw [hcl] at e
   rcases iI (PySem.mem_of_lookup e) with hm | ⟨_, h2, _⟩
   ·rcases g0 hm with hm | ⟨h1, _⟩
    ·cases hm
    ·have q := ok.uniq _ h1
     rw [z] at q; cases q
   ·rw [Heap.size_push] at h2
    exact Nat.le_of_succ_le h2
  ·show b ≠ cenv.locals
   rw [hL]; exact Nat.ne_of_lt (hfp b hb).2
  ·have e : cenv.cells.lookup y = some c := e
   rcases mem e with ⟨h1, _⟩ | ⟨h1, _⟩
   ·exact (hfp b hb).1.2.2.2.2.1 y c h1 z
   ·have h2 : s.heap.objs.size + 1 <= b := by rw [<- z]; exact h1
    exact absurd (Nat.lt_of_lt_of_le (hfp b hb).2 (Nat.le_of_succ_le h2)) (Nat.lt_irrefl _)
  ·rcases (hfp b hb).1.2.2.2.1 with z | z
   ·exact I.ok.noex b o e z
   ·exact absurd (Nat.lt_of_lt_of_le (Heap.lt_size e) (Nat.le_trans I.ok.bsz z)) (Nat.lt_irrefl _)
  ·rcases List.mem_cons.mp (I.stkSub b z) with z | z
   ·exact (hfp b hb).1.2.1 z
   ·exact (hfp b hb).1.2.2.1 z
 refine ⟨okB, rfl, I.bare, Un.kept kp, ⟨fun _ => none, ?_, fun i y av e1 e2 e3 => ?_⟩, fun y c e => ?_, ?_, fun y c e => ?_, fun p hp => ?_, I.hok.kept kp, by rw [je]; exact I.len⟩
 ·show Heap.Ns _ cenv.locals _
  rw [hL]
  exact Heap.Ns.keeps (Heap.Ns.new ..) fun b o e => pushCells_keeps _ _ _ _ e
 ·obtain ⟨e2, hne⟩ := lI e2
  have hfr : scope.names.lookup y = some .free /\ (cenv.kindOf y = some .cell \/ cenv.kindOf y = some .free) := by
   have key : ∀ k, cenv.scope.names.lookup y = some k -> k = .local \/ k = .cell \/ k = .free -> scope.names.lookup y = some .free /\ (cenv.kindOf y = some .cell \/ cenv.kindOf y = some .free) := fun k hk hk' => by
    have hk0 := hk
    rw [hsc] at hk
    obtain ⟨k', e, r⟩ := jv hk
    have no : ¬ (k' = .local \/ k' = .cell) := fun hh => by
     rcases ok.own _ (PySem.mem_of_lookup e) hh with e' | e'
     ·obtain ⟨p, hp, hpy⟩ := List.mem_map.mp e'
      have e3 := ok.ix p hp
      have : p.1 = y := hpy
      rw [this] at e3
      exact hne (List.mem_map.mpr ⟨p, hp, oY hN e3 e1⟩)
     ·exact e' (List.mem_of_getElem? e1)
    rcases r with rfl | ⟨rfl, rfl⟩
    ·rcases hk' with rfl | rfl | rfl
     ·exact absurd (.inl rfl) no
     ·exact absurd (.inr rfl) no
     ·exact ⟨e, .inr hk0⟩
    ·exact ⟨e, .inl hk0⟩
   have e3 : BX cenv.scope y := e3
   rcases e3 with e3 | e3 | e3
   ·exact key _ e3 (.inl rfl)
   ·exact key _ e3 (.inr (.inl rfl))
   ·exact key _ e3 (.inr (.inr rfl))
  obtain ⟨m, hn, hl⟩ := I.loc
  have hvis : BX X.env.scope y := (ok.free _ (PySem.mem_of_lookup hfr.1) rfl).elim (fun k => .inr (.inl k)) (fun k => .inr (.inr k))
  obtain ⟨w, r, q⟩ := hl i y av e1 e2 hvis
  refine ⟨w, r, .inr ⟨hfr.2, ?_⟩⟩
  obtain ⟨c, h1, h2⟩ := look hfr.1
  rcases q with ⟨k, _⟩ | ⟨_, c', e', z⟩
  ·have k : X.env.scope.names.lookup y = some .local := k
   rcases ok.free _ (PySem.mem_of_lookup hfr.1) rfl with k' | k' <;> rw [show X.env.scope.names.lookup y = _ from k'] at k <;> cases k
  ·rw [h2] at e'; cases e'
   exact ⟨c, h1, z.keeps kp⟩
 ·have e : cenv.cells.lookup y = some c := e
  rcases mem e with ⟨h1, _⟩ | ⟨_, z⟩
  ·obtain ⟨w, z⟩ := I.cell y c h1
   exact ⟨w, z.keeps kp⟩
  ·exact ⟨_, z⟩
 ·show H cenv.locals = none
  rw [hL]; exact I.hok.fresh (Nat.le_refl _)
 ·have e : cenv.cells.lookup y = some c := e
  rcases mem e with ⟨h1, _⟩ | ⟨h1, _⟩
  ·exact I.freeC y c h1
  ·exact I.hok.fresh (Nat.le_of_succ_le h1)
 ·exact absurd (show p ∈ ([] : List (Addr × Obj)) ++ [] from hp) (by simp)
theorem BW {E : Value -> Shared -> Prop} {D : Addr} {xs : List V} {y : V} {v : Value} {Q : Value -> Shared -> Prop} (I : aE X pins σ H s) (hD : H D = some (.lst xs)) (hz : xs.length < sizeLine) (r : aZ y v)
 (h : ∀ s', aE X pins σ (aU H D (.lst (xs ++ [y]))) s' -> Q .none s') : wpAny (model X.prog X.w) X.A (call (.builtin "list.append") [.ref D, v]) Q E s := by
 obtain ⟨hz', its, n, ri, e⟩ := I.hok D _ hD
 have hl := ri.length
 refine append_at (hsz := by rw [List.size_toArray]; omega) e fun h' sb ho' => ?_
 refine h { s with heap := h' } (I.write (t' := s.toks) (by rw [hD]; trivial) (.inl rfl) (fun b u hb q => (sb.2 b hb).trans q) ⟨_, ho'⟩ ⟨by rw [List.length_append]; exact hz, its ++ [v], n + 1, ri.append (.cons r .nil), ?_⟩)
 rw [ho']
 simp
def CB (X : Cx) (ifs : List Expr) (t : TT) : Prop :=
 ∀ (pins : List (Addr × Obj)) (s : Shared) (σ : St) (H : Hp) (Q : Bool -> Hp -> Prop), aE X pins σ H s -> t σ H Q ->
  wpAny (model X.prog X.w) X.A (forIn ifs true fun c r => if r = true then do let ok <- isTrue c X.env (eval c X.env); pure (ForInStep.yield ok) else pure (ForInStep.yield r)) (TP X pins σ Q) X.xe s
def tYes : TT := fun _ H Q => Q true H
theorem cv : CB X [] tYes := fun _ _ _ H _ I h => wpAny_tests_nil ⟨H, I, h⟩
theorem iT {c : Expr} {t : TT} (h : PT X c t) : CB X [c] t := fun pins s σ H Q I hw => wpAny_tests_one (h pins s σ H Q I hw)
end
theorem wY {α : Type} {t : Sem α} {Q Q' : α -> Shared -> Prop} {M : Model} {A : Around} {E : Value -> Shared -> Prop} {s : Shared} (h : wpAny M A t Q (fun _ _ => False) s) (hQ : ∀ a s, Q a s -> Q' a s) : wpAny M A t Q' E s := wpAny_mono h hQ fun _ _ z => False.elim z
theorem rV {prog : Program} {w : World} {A : Around} {R : Result -> Shared -> Prop} {s : Shared} {elt target iter : Expr} {ifs : List Expr} {scope : Scope} {pos : Pos} {it acc : Value} {env : Env} (I : Nat -> Shared -> Prop)
 (turn : ∀ n s, I n s -> wpAny (model prog w) A (pyNext it) (fun r s₁ => match r with
  | none => R (.ok .next) s₁
  | some v => wpAny (model prog w) A (letOwnedTupleGo target it v) (fun _ s₁' => wpAny (model prog w) A (assign target env v) (fun _ s₂ =>
   wpAny (model prog w) A (forIn ifs true fun c r => if r = true then do let ok <- isTrue c env (eval c env); pure (ForInStep.yield ok) else pure (ForInStep.yield r)) (fun ok s₃ =>
    if ok = true then wpAny (model prog w) A (eval elt env) (fun x s₄ =>
     wpAny (model prog w) A (call (.builtin "list.append") [acc, x]) (fun _ s₅ => ∃ m, m < n /\ I m s₅) (notedBy (model prog w) A env fun e s' => R (.error e) s') s₄) (notedBy (model prog w) A env fun e s' => R (.error e) s') s₃
    else ∃ m, m < n /\ I m s₃) (notedBy (model prog w) A env fun e s' => R (.error e) s') s₂) (notedBy (model prog w) A env fun e s' => R (.error e) s') s₁') (notedBy (model prog w) A env fun e s' => R (.error e) s') s₁) (notedBy (model prog w) A env fun e s' => R (.error e) s') s)
 (n : Nat) (h : I n s) :
 codeAny (model prog w) A (.compLoop (.ListComp elt [⟨target, iter, ifs, 0⟩] scope pos) 0 it acc env) R s := by
 refine codeAny_loop rfl I (fun n s hI => ?_) n h
 show wpAny _ A ((compTurn (.ListComp elt [⟨target, iter, ifs, 0⟩] scope pos) 0 it acc env).onRaise (fun x => do noteFrame x env; theTreesLotGoes x)) _ _ s
 refine wpAny_noted ?_
 rw [compTurn_list]
 refine wpAny_bind (wpAny_standAt (wpAny_bind (wpAny_mono (turn n s hI) (fun r s₁ h₁ => ?_) fun _ _ h' => h')))
 cases r with
 | none => exact wpAny_pure h₁
 | some v =>
   refine wpAny_bind (wpAny_mono h₁ (fun _ s₁' h₁' => ?_) fun _ _ h' => h')
   refine wpAny_bind (wpAny_mono h₁' (fun _ s₂ h₂ => wpAny_bind (wpAny_mono h₂ (fun ok s₃ h₃ => ?_) fun _ _ h' => h')) fun _ _ h' => h')
   cases ok with
   | false => exact wpAny_pure ⟨rfl, h₃⟩
   | true =>
     exact wpAny_bind (wpAny_bind (wpAny_mono h₃ (fun x s₄ h₄ => wpAny_bind (wpAny_mono h₄ (fun _ s₅ h₅ => wpAny_pure (wpAny_pure ⟨rfl, h₅⟩)) fun _ _ h' => h')) fun _ _ h' => h'))
section
variable {X : Cx}
def CZ (wi : TI) (g : TG) (tt : TT) (te : TE) (vs : List Nat) : TE := fun σ H Q => wi σ H fun J H1 => ∀ D, H1 D = none -> ∃ W : Nat -> Nat -> Hp -> Prop, (∃ m, W 0 m (aU H1 D (.lst []))) /\ ∀ i m H, W i m H ->
 (J.stop i H /\ Q (.ref D) H) \/ (J.go i H /\ ∃ Nx : Hp -> Prop, (∀ H', Nx H' -> ∃ m', m' < m /\ W (i + 1) m' H') /\ ∀ x H', J.yld i H x H' -> g x (bH σ vs) H' fun σ2 H2 => bH σ2 vs = bH σ vs /\ tt σ2 H2 fun b H3 =>
  if b = true then te σ2 H3 fun y H4 => ∃ acc, H4 D = some (.lst acc) /\ acc.length < sizeLine /\ Nx (aU H4 D (.lst (acc ++ [y]))) else Nx H3)
theorem wg {pins : List (Addr × Obj)} {s : Shared} {σ : St} {H : Hp} {Q : VK} {elt tg iter : Expr} {ifs : List Expr} {scope : Scope} {own : List (Str × Nat)} {pos pos' : Pos} {wi : TI} {g : TG} {tt : TT} {te : TE} {use : Option (Value -> Sem Unit)} {Qf : Value -> Shared -> Prop}
 (hc : X.calm = true) (hN : X.N.Nodup) (I : aE X pins σ H s) (hi : PI X tg iter wi) (ok : uf X.N X.env.scope scope own)
 (hg : ∀ (s : Shared) (H : Hp) (C : Addr) (cl : List (Str × Addr)) (fp : List Addr), PG (X.blk s H scope (compEnvC scope cl C X.env) fp) tg g) (ht : ∀ (s : Shared) (H : Hp) (C : Addr) (cl : List (Str × Addr)) (fp : List Addr), CB (X.blk s H scope (compEnvC scope cl C X.env) fp) ifs tt)
 (he : ∀ (s : Shared) (H : Hp) (C : Addr) (cl : List (Str × Addr)) (fp : List Addr), PE (X.blk s H scope (compEnvC scope cl C X.env) fp) elt te) (hs : ∀ x, foldedSetIterable iter X.env x = pure x)
 (h : CZ wi g tt te (own.map (·.2)) σ H Q)
 (hRR : ∀ D C s' m H', aE X pins σ H' s' -> Q (.ref D) H' -> s'.heap.Ns C m -> nA X pins H' C -> compPost (model X.prog X.w) X.A X.xe use Qf (.ref D) C (.ok .next) s') :
 wpAny (model X.prog X.w) X.A (comprehension (.ListComp elt [⟨tg, iter, ifs, 0⟩] scope pos) scope X.env pos' (newList []) false (eval iter X.env) use) Qf X.xe s := by
 have hfree : ∀ y ∈ scope.names, y.2 = .free -> ∃ c, X.env.cells.lookup y.1 = some c := fun y hy e => by
  rcases ok.free y hy e with k | k
  ·exact I.ok.has _ (.inl k)
  ·exact I.ok.has _ (.inr k)
 refine wpAny_comprehension_free (use := use) rfl hs (vh hfree) ok.kind (fun y hy e => by rw [ok.uniq y hy, e])
  (bS (hi pins s σ H _ I h) fun xv s1 hx => bS hx fun itv s2 h2 => ?_)
 obtain ⟨it, fp, tn, J, H2, e, I2, T, st2, f2, q⟩ := h2
 subst e
 refine wpAny_newObj_type (tF ?_) (by show 0 <= sizeLine; decide)
 generalize hD : s2.heap.objs.size = D
 have hDn : H2 D = none := I2.hok.fresh (Nat.le_of_eq hD)
 obtain ⟨W, ⟨m0, w0⟩, turn⟩ := q D hDn
 generalize hs3 : ({ s2 with heap := s2.heap.push { cls := .type "list", data := .seq ([] : List Value).toArray } } : Shared) = s3
 have I3 : aE X pins σ (aU H2 D (.lst [])) s3 := by
  rw [<- hs3]
  refine I2.laid (t' := s2.toks) (fun b o e => Heap.get?_push_of_some _ e) (Nat.le_of_eq hD) ⟨Nat.zero_le _, [], 0, .nil, ?_⟩
  rw [<- hD]
  exact Heap.get?_push_size _ rfl
 have h3 : s3.heap = s2.heap.push { cls := .type "list", data := .seq ([] : List Value).toArray } := by rw [<- hs3]
 have sz : ∀ b ∈ fp, b < s2.heap.objs.size := fun b hb => by
  obtain ⟨o, e, _⟩ := T.obj _ _ st2 b hb
  exact Heap.lt_size e
 have f3 : ∀ b ∈ fp, nA X pins (aU H2 D (.lst [])) b /\ b < s3.heap.objs.size := fun b hb => by
  have hlt := sz b hb
  refine ⟨⟨?_, (f2 b hb).2⟩, by rw [h3, Heap.size_push]; exact Nat.lt_succ_of_lt hlt⟩
  rw [ak (by rw [<- hD]; exact Nat.ne_of_lt hlt)]
  exact (f2 b hb).1
 have st3 : tn 0 s3.heap := T.keep _ _ _ st2 fun b _ o e => by rw [h3]; exact Heap.get?_push_of_some _ e
 have I4 := t6 I3 ok hN f3
 have pg := hg s3 (aU H2 D (.lst [])) s3.heap.objs.size (cellsFrom (s3.heap.objs.size + 1) scope.names (bx X.env.cells scope.names [])) fp
 have pt := ht s3 (aU H2 D (.lst [])) s3.heap.objs.size (cellsFrom (s3.heap.objs.size + 1) scope.names (bx X.env.cells scope.names [])) fp
 have pe := he s3 (aU H2 D (.lst [])) s3.heap.objs.size (cellsFrom (s3.heap.objs.size + 1) scope.names (bx X.env.cells scope.names [])) fp
 show codeAny _ _ (.compStart (.ListComp elt [⟨tg, iter, ifs, 0⟩] scope pos) 0 (.ref it) (.ref D) (compEnvC scope (cellsFrom (s3.heap.objs.size + 1) scope.names (bx X.env.cells scope.names [])) s3.heap.objs.size X.env)) (compPost (model X.prog X.w) X.A X.xe use Qf (.ref D) s3.heap.objs.size) { s3 with heap := pushCells (s3.heap.push { cls := .type "dict", data := .dict #[] }) scope.names }
 have nfp : ∀ b ∈ fp, (aU H2 D (.lst [])) b = none := fun b hb => (f3 b hb).1.1
 generalize hce : compEnvC scope (cellsFrom (s3.heap.objs.size + 1) scope.names (bx X.env.cells scope.names [])) s3.heap.objs.size X.env = ce at I4 pg pt pe ⊢
 have cL : ce.locals = s3.heap.objs.size := by subst hce; rfl
 generalize hH3 : aU H2 D (.lst []) = H3 at I3 I4 pg pt pe w0 nfp f3
 generalize hs4 : ({ s3 with heap := pushCells (s3.heap.push { cls := .type "dict", data := .dict #[] }) scope.names } : Shared) = s4 at I4 ⊢
 have st4 : tn 0 s4.heap := T.keep _ _ _ st3 fun b _ o e => by rw [<- hs4]; exact pushCells_keeps _ _ _ _ (Heap.get?_push_of_some _ e)
 have stat : ∀ {σ' : St} {H' : Hp} {s' : Shared}, aE (X.blk s3 H3 scope ce fp) [] σ' H' s' -> (∀ b ∈ fp, H' b = none) -> ∀ b ∈ fp, nA (X.blk s3 H3 scope ce fp) [] H' b := fun {σ' H' s'} I' hn b hb =>
  ⟨hn b hb, (I'.ok.exf b hb).1, I'.ok.exfs b hb, .inl hb, fun x c e => (I'.ok.exf b hb).2 x c e, fun p hp => absurd (show p ∈ ([] : List (Addr × Obj)) ++ [] from hp) (by simp)⟩
 have loop : codeAny (model X.prog X.w) X.A (.compLoop (.ListComp elt [⟨tg, iter, ifs, 0⟩] scope pos) 0 (.ref it) (.ref D) ce) (compPost (model X.prog X.w) X.A X.xe use Qf (.ref D) s3.heap.objs.size) s4 := by
  refine rV (fun n s' => ∃ i H', aE (X.blk s3 H3 scope ce fp) [] (bH σ (own.map (·.2))) H' s' /\ tn i s'.heap /\ (∀ b ∈ fp, H' b = none) /\ W i n H') ?_ m0 ⟨0, H3, I4, st4, nfp, w0⟩
  rintro n s5 ⟨i, H5, I5, st5, n5, w5⟩
  rcases turn i n H5 w5 with ⟨stop, qq⟩ | ⟨go, Nx, hNx, step⟩
  ·have td := T.done (X.blk s3 H3 scope ce fp) rfl rfl rfl hc i [] s5 _ H5 (fun _ _ => False) I5 (stat I5 n5) st5 stop
   refine wY td fun r s6 ⟨hr, I6⟩ => ?_
   subst hr
   have I7 : aE X pins σ H5 s6 := I3.call' (ch := fp) I6.os I6.base I6.hok I6.bare fun b hb => ⟨(f3 b hb).1.2.2.2.1, (f3 b hb).1.2.1, (f3 b hb).1.2.2.2.2.1, (f3 b hb).1.2.2.2.2.2⟩
   have nC : H5 s3.heap.objs.size = none := by
    have z : H5 ce.locals = none := I6.free
    rw [cL] at z
    exact z
   obtain ⟨m, hn, _⟩ := I6.loc
   have hn : s6.heap.Ns ce.locals m := hn
   rw [cL] at hn
   exact hRR D s3.heap.objs.size s6 m H5 I7 qq hn (I3.fpOk (Nat.le_refl _) nC)
  ·have ti := T.item (X.blk s3 H3 scope ce fp) rfl rfl rfl hc i [] s5 _ H5 (fun _ _ => False) I5 (stat I5 n5) st5 go
   refine wY ti fun r s6 ⟨u, hr, h6⟩ => ?_
   subst hr
   refine wY h6 fun _ s7 ⟨x, H7, I7, r7, y7, st7, n7⟩ => ?_
   have I7' := I7.pinned (stat I7 n7) (T.obj _ _ st7)
   refine wY (pg _ s7 _ H7 x u _ I7' r7 (step x H7 y7)) fun _ s8 ⟨σ8, H8, I8, hw8, q8⟩ => ?_
   refine wY (pt _ s8 σ8 H8 _ I8 q8) fun b s9 ⟨H9, I9, q9⟩ => ?_
   have fin : ∀ {s' : Shared} {H' : Hp}, aE (X.blk s3 H3 scope ce fp) ([] ++ oF fp s7.heap) σ8 H' s' -> Nx H' -> ∃ m, m < n /\ ∃ i H', aE (X.blk s3 H3 scope ce fp) [] (bH σ (own.map (·.2))) H' s' /\ tn i s'.heap /\ (∀ b ∈ fp, H' b = none) /\ W i m H' := fun {s' H'} I' nx => by
    obtain ⟨m', hm, w'⟩ := hNx H' nx
    have pin' : ∀ b ∈ fp, ∀ o, s7.heap.get? b = some o -> s'.heap.get? b = some o /\ H' b = none := fun b hb o e =>
     let z := I'.pin (b, o) (List.mem_append_right _ (List.mem_append_right _ (ku hb e)))
     ⟨z.1, z.2.1⟩
    have hl : (bH σ (own.map (·.2))).length = σ8.length := by rw [<- hw8, je]
    refine ⟨m', hm, i + 1, H', (I'.unpinned (pins := [])).weak hl (fun j v e => ?_), T.keep _ _ _ st7 fun b hb o e => (pin' b hb o e).1, fun b hb => ?_, w'⟩
    ·rw [<- hw8] at e
     exact (lI e).1
    ·obtain ⟨o, e, _⟩ := T.obj _ _ st7 b hb
     exact (pin' b hb o e).2
   cases b with
   | false =>
     simp only [Bool.false_eq_true, if_false] at q9 ⊢
     exact fin I9 q9
   | true =>
     simp only [if_true] at q9 ⊢
     refine wY (pe _ s9 σ8 H9 _ I9 q9) fun z s10 ⟨yv, H10, I10, r10, acc, hD10, hz10, nx⟩ => ?_
     exact BW (X := X.blk s3 H3 scope ce fp) I10 hD10 hz10 r10 fun s11 I11 => fin I11 nx
 exact codeAny_compStart_list loop (T.self X.A 0 _ _ _ st4 loop)
theorem eV {elt tg iter : Expr} {ifs : List Expr} {scope : Scope} {own : List (Str × Nat)} {pos : Pos} {wi : TI} {g : TG} {tt : TT} {te : TE} (hc : X.calm = true) (hN : X.N.Nodup) (hi : PI X tg iter wi) (ok : uf X.N X.env.scope scope own)
 (hg : ∀ (s : Shared) (H : Hp) (C : Addr) (cl : List (Str × Addr)) (fp : List Addr), PG (X.blk s H scope (compEnvC scope cl C X.env) fp) tg g) (ht : ∀ (s : Shared) (H : Hp) (C : Addr) (cl : List (Str × Addr)) (fp : List Addr), CB (X.blk s H scope (compEnvC scope cl C X.env) fp) ifs tt)
 (he : ∀ (s : Shared) (H : Hp) (C : Addr) (cl : List (Str × Addr)) (fp : List Addr), PE (X.blk s H scope (compEnvC scope cl C X.env) fp) elt te) (hs : ∀ x, foldedSetIterable iter X.env x = pure x := by intro _; rfl) :
 PE X (.ListComp elt [⟨tg, iter, ifs, 0⟩] scope pos) (CZ wi g tt te (own.map (·.2))) := by
 intro pins s σ H Q I h
 rw [eval_ListComp]
 refine wg hc hN I hi ok hg ht he hs h fun D C s' m H' I' q hn f => ⟨m, hn, fun h'' sb => ?_⟩
 obtain ⟨f0, f1, f2, f3, f4, f5⟩ := f
 exact ⟨.ref D, H', I'.turned (t' := s'.toks) (fun b o hb e => (sb.2 b hb).trans e) f0 f1 f3 f4 f5, rfl, q⟩
theorem kT {i : Nat} {y : Str} {py : Pos} {elt tg iter : Expr} {ifs : List Expr} {scope : Scope} {own : List (Str × Nat)} {pos spos : Pos} {wi : TI} {g : TG} {tt : TT} {te : TE} (hc : X.calm = true) (hN : X.N.Nodup) (hy : X.N[i]? = some y) (hyl : X.env.scope.names.lookup y = some .local)
 (hsw : swapsWith (.ListComp elt [⟨tg, iter, ifs, 0⟩] scope pos) (some (.Name y py)) spos.line X.env = pure true) (hi : PI X tg iter wi) (ok : uf X.N X.env.scope scope own)
 (hg : ∀ (s : Shared) (H : Hp) (C : Addr) (cl : List (Str × Addr)) (fp : List Addr), PG (X.blk s H scope (compEnvC scope cl C X.env) fp) tg g) (ht : ∀ (s : Shared) (H : Hp) (C : Addr) (cl : List (Str × Addr)) (fp : List Addr), CB (X.blk s H scope (compEnvC scope cl C X.env) fp) ifs tt)
 (he : ∀ (s : Shared) (H : Hp) (C : Addr) (cl : List (Str × Addr)) (fp : List Addr), PE (X.blk s H scope (compEnvC scope cl C X.env) fp) elt te) (hs : ∀ x, foldedSetIterable iter X.env x = pure x := by intro _; rfl) :
 PS X (.Assign [.Name y py] (.ListComp elt [⟨tg, iter, ifs, 0⟩] scope pos) spos) (yd (CZ wi g tt te (own.map (·.2))) (jF i)) := by
 intro pins s σ H D I h
 rw [exec_Assign_Name_used _ _ _ _ hsw]
 refine wpAny_bind (wpAny_standAt (wpAny_bind ?_))
 show wpAny _ X.A (do let _ <- comprehension (.ListComp elt [⟨tg, iter, ifs, 0⟩] scope pos) scope X.env (firstIterPos [⟨tg, iter, ifs, 0⟩] pos) (newList []) false (eval iter X.env) (some (assign (.Name y py) X.env))) _ _ s
 have h : CZ wi g tt te (own.map (·.2)) σ H (fun x H1 => jF i x σ H1 D.nx) := h
 refine wpAny_bind (bS (wg (Qf := fun _ s' => SP X pins D .next s') hc hN I hi ok hg ht he hs h fun L C s' m H' I' q hn f => ?_) fun _ s' hq => wpAny_pure (wpAny_pure hq))
 show wpAny _ _ (assign (.Name y py) X.env (.ref L)) _ _ _
 refine wpAny_assign_Name (pT (v := V.ref L) I' hN hy (.inl hyl) rfl (fun s2 I2 ⟨a, sb, ha⟩ => ?_) (.inr hyl))
 obtain ⟨f0, f1, f2, f3, f4, f5⟩ := f
 have haC : C ≠ a := by
  rcases ha with z | z
  ·rw [z]; exact f1
  ·exact fun e => f4 y a z e.symm
 refine ⟨m, hn.sameBut sb haC, fun h3 sb3 => ?_⟩
 exact ⟨_, H', I2.turned (t' := s2.toks) (fun b o hb e => (sb3.2 b hb).trans e) f0 f1 f3 f4 f5, q⟩
theorem nB {elt : Expr} {gs : List Comprehension} {scope : Scope} {pos py : Pos} {y : Str} {l : Nat} {env : Env} (hk : env.scope.kind = .function) (hy : env.scope.names.lookup y = some .local) (hl : (py.line == pos.line) = true)
 (ha : (scope.names.any fun (n, k) => n == y && (k == .local || k == .cell)) = false) : swapsWith (.ListComp elt gs scope pos) (some (.Name y py)) l env = pure true := by
 have ky : env.kindOf y = some .local := hy
 have hb : env.blockKind = .function := by unfold Env.blockKind; rw [hk]; rfl
 unfold swapsWith
 simp only [hb, ky, ha, Expr.pos, hl]
 rfl
end
theorem lu {lo : Int} {n : Nat} {g : TG} {tt : TT} {te : TE} {vs : List Nat} {σ : St} {H1 : Hp} {D : Addr} {Qd : Hp -> Prop} (Pv : Nat -> Hp -> Prop) (h0 : Pv 0 (aU H1 D (.lst [])))
 (hs : ∀ i H, i < n -> Pv i H -> g (.int (lo + i)) (bH σ vs) H fun σ2 H2 => bH σ2 vs = bH σ vs /\ tt σ2 H2 fun b H3 =>
  if b = true then te σ2 H3 fun y H4 => ∃ acc, H4 D = some (.lst acc) /\ acc.length < sizeLine /\ Pv (i + 1) (aU H4 D (.lst (acc ++ [y]))) else Pv (i + 1) H3) (hd : ∀ H, Pv n H -> Qd H) :
 ∃ W : Nat -> Nat -> Hp -> Prop, (∃ m, W 0 m (aU H1 D (.lst []))) /\ ∀ i m H, W i m H ->
  ((zN lo n).stop i H /\ Qd H) \/ ((zN lo n).go i H /\ ∃ Nx : Hp -> Prop, (∀ H', Nx H' -> ∃ m', m' < m /\ W (i + 1) m' H') /\ ∀ x H', (zN lo n).yld i H x H' -> g x (bH σ vs) H' fun σ2 H2 => bH σ2 vs = bH σ vs /\ tt σ2 H2 fun b H3 =>
    if b = true then te σ2 H3 fun y H4 => ∃ acc, H4 D = some (.lst acc) /\ acc.length < sizeLine /\ Nx (aU H4 D (.lst (acc ++ [y]))) else Nx H3) := by
 refine ⟨fun i m H => m = n - i /\ i <= n /\ Pv i H, ⟨n, by simp, Nat.zero_le _, h0⟩, ?_⟩
 rintro i m H ⟨rfl, hi, p⟩
 by_cases hlt : i < n
 ·refine .inr ⟨hlt, Pv (i + 1), fun H' p' => ⟨n - (i + 1), by omega, rfl, hlt, p'⟩, fun x H' y => ?_⟩
  obtain ⟨e, y⟩ := y
  subst e y
  exact hs i _ hlt p
 ·have e : i = n := by omega
  subst e
  exact .inl ⟨Nat.le_refl _, hd H p⟩
theorem eZ {K : W.Frag} {a : Addr} {xs : List V} {g : TG} {tt : TT} {te : TE} {vs : List Nat} {σ : St} {H1 : Hp} {D : Addr} {Qd : Hp -> Prop} (Pv : Nat -> Hp -> Prop) (h0 : Pv 0 (aU H1 D (.lst []))) (hl : ∀ i H, i <= xs.length -> Pv i H -> bj K H a xs)
 (hs : ∀ i x H, xs[i]? = some x -> Pv i H -> g x (bH σ vs) H fun σ2 H2 => bH σ2 vs = bH σ vs /\ tt σ2 H2 fun b H3 =>
  if b = true then te σ2 H3 fun y H4 => ∃ acc, H4 D = some (.lst acc) /\ acc.length < sizeLine /\ Pv (i + 1) (aU H4 D (.lst (acc ++ [y]))) else Pv (i + 1) H3) (hd : ∀ H, Pv xs.length H -> Qd H) :
 ∃ W : Nat -> Nat -> Hp -> Prop, (∃ m, W 0 m (aU H1 D (.lst []))) /\ ∀ i m H, W i m H ->
  ((A4 K a).stop i H /\ Qd H) \/ ((A4 K a).go i H /\ ∃ Nx : Hp -> Prop, (∀ H', Nx H' -> ∃ m', m' < m /\ W (i + 1) m' H') /\ ∀ x H', (A4 K a).yld i H x H' -> g x (bH σ vs) H' fun σ2 H2 => bH σ2 vs = bH σ vs /\ tt σ2 H2 fun b H3 =>
    if b = true then te σ2 H3 fun y H4 => ∃ acc, H4 D = some (.lst acc) /\ acc.length < sizeLine /\ Nx (aU H4 D (.lst (acc ++ [y]))) else Nx H3) := by
 refine ⟨fun i m H => m = xs.length - i /\ i <= xs.length /\ Pv i H, ⟨xs.length, by simp, Nat.zero_le _, h0⟩, ?_⟩
 rintro i m H ⟨rfl, hi, p⟩
 have q := hl i H hi p
 by_cases hlt : i < xs.length
 ·refine .inr ⟨⟨xs, xs[i], q, by simp [hlt]⟩, Pv (i + 1), fun H' p' => ⟨xs.length - (i + 1), by omega, rfl, hlt, p'⟩, fun x H' y => ?_⟩
  obtain ⟨e, y⟩ := y
  subst e
  exact hs i x _ (y xs q) p
 ·have e : i = xs.length := by omega
  subst e
  exact .inl ⟨⟨xs, q, Nat.le_refl _⟩, hd H p⟩
theorem u5 {K : W.Frag} {a : Addr} {xs : List V} {g : TG} {tt : TT} {te : TE} {vs : List Nat} {σ : St} {H1 : Hp} {D : Addr} {Qd : Hp -> Prop} (Pv : Nat -> Hp -> Prop) (h0 : Pv 0 (aU H1 D (.lst []))) (hl : ∀ i H, i <= xs.length -> Pv i H -> fV K H a xs)
 (hs : ∀ i x H, xs[i]? = some x -> Pv i H -> g x (bH σ vs) H fun σ2 H2 => bH σ2 vs = bH σ vs /\ tt σ2 H2 fun b H3 =>
  if b = true then te σ2 H3 fun y H4 => ∃ acc, H4 D = some (.lst acc) /\ acc.length < sizeLine /\ Pv (i + 1) (aU H4 D (.lst (acc ++ [y]))) else Pv (i + 1) H3) (hd : ∀ H, Pv xs.length H -> Qd H) :
 ∃ W : Nat -> Nat -> Hp -> Prop, (∃ m, W 0 m (aU H1 D (.lst []))) /\ ∀ i m H, W i m H ->
  ((A3 K a).stop i H /\ Qd H) \/ ((A3 K a).go i H /\ ∃ Nx : Hp -> Prop, (∀ H', Nx H' -> ∃ m', m' < m /\ W (i + 1) m' H') /\ ∀ x H', (A3 K a).yld i H x H' -> g x (bH σ vs) H' fun σ2 H2 => bH σ2 vs = bH σ vs /\ tt σ2 H2 fun b H3 =>
    if b = true then te σ2 H3 fun y H4 => ∃ acc, H4 D = some (.lst acc) /\ acc.length < sizeLine /\ Nx (aU H4 D (.lst (acc ++ [y]))) else Nx H3) := by
 refine ⟨fun i m H => m = xs.length - i /\ i <= xs.length /\ Pv i H, ⟨xs.length, by simp, Nat.zero_le _, h0⟩, ?_⟩
 rintro i m H ⟨rfl, hi, p⟩
 have q := hl i H hi p
 by_cases hlt : i < xs.length
 ·refine .inr ⟨⟨xs, xs[i], q, by simp [hlt]⟩, Pv (i + 1), fun H' p' => ⟨xs.length - (i + 1), by omega, rfl, hlt, p'⟩, fun x H' y => ?_⟩
  obtain ⟨e, y⟩ := y
  subst e
  exact hs i x _ (y xs q) p
 ·have e : i = xs.length := by omega
  subst e
  exact .inl ⟨⟨xs, q, Nat.le_refl _⟩, hd H p⟩
def f6 (N : List Str) (sc scope : Scope) (own : List (Str × Nat)) : Bool :=
 (match scope.kind with | .function => true | _ => false) && (scope.names.all fun y => decide (scope.names.lookup y.1 = some y.2)) && (own.all fun p => decide (N[p.2]? = some p.1)) &&
  (scope.names.all fun y => match y.2 with
   | .free => (match sc.names.lookup y.1 with | some .cell => true | some .free => true | _ => false)
   | .local => decide (y.1 ∈ own.map (·.1)) || decide (y.1 ∉ N)
   | .cell => decide (y.1 ∈ own.map (·.1)) || decide (y.1 ∉ N)
   | _ => true)
theorem bb {N : List Str} {sc scope : Scope} {own : List (Str × Nat)} (h : f6 N sc scope own = true) : uf N sc scope own := by
 unfold f6 at h
 simp only [Bool.and_eq_true, List.all_eq_true, decide_eq_true_eq] at h
 obtain ⟨⟨⟨h1, h2⟩, h3⟩, h4⟩ := h
 refine ⟨?_, h2, h3, fun y hy e => ?_, fun y hy e => ?_⟩
 ·split at h1
  ·assumption
  ·cases h1
 ·have q := h4 y hy
  simp only [e] at q
  split at q <;> first | exact .inl (by assumption) | exact .inr (by assumption) | cases q
 ·have q := h4 y hy
  rcases e with e | e <;> (simp only [e, Bool.or_eq_true, decide_eq_true_eq] at q; exact q)
end L2
namespace L2
open PySem PySem.Spec PyProof.Rows
section
variable {prog : Program} {w : World} {A : Around} {R : Result -> Shared -> Prop} {s : Shared} {elt t0 i0 t1 i1 : Expr} {ifs0 ifs1 : List Expr} {scope : Scope} {pos : Pos} {it acc : Value} {env : Env}
end
section
variable {X : Cx}
end
end L2
namespace L2
open PySem PySem.Spec PyProof.Rows
section
variable {κ : Type} [DecidableEq κ]
def ff (kvs : List (κ × V)) (k : κ) : Option V := (kvs.find? fun kv => decide (kv.1 = k)).map (·.2)
def iS (kvs : List (κ × V)) (k : κ) (v : V) : List (κ × V) :=
 if (kvs.any fun kv => decide (kv.1 = k)) = true then kvs.map (fun kv => if kv.1 = k then (kv.1, v) else kv) else kvs ++ [(k, v)]
theorem db {p : κ × V} {r : List (κ × V)} {k : κ} (e : p.1 = k) : ff (p :: r) k = some p.2 := by simp [ff, List.find?_cons, e]
theorem dc {p : κ × V} {r : List (κ × V)} {k : κ} (e : ¬ p.1 = k) : ff (p :: r) k = ff r k := by simp [ff, List.find?_cons, e]
theorem kI (k : κ) : ∀ kvs : List (κ × V), (kvs.any fun kv => decide (kv.1 = k)) = (ff kvs k).isSome
 | [] => rfl
 | p :: r => by
   rw [List.any_cons]
   by_cases e : p.1 = k
   ·simp only [db e, decide_eq_true e, Bool.true_or, Option.isSome_some]
   ·rw [dc e, decide_eq_false e, Bool.false_or]; exact kI k r
theorem sA (k j : κ) (y : V) : ∀ kvs : List (κ × V), ff (kvs.map fun kv => if kv.1 = k then (kv.1, y) else kv) j = (ff kvs j).map fun x => if j = k then y else x
 | [] => rfl
 | p :: r => by
   have ih := sA k j y r
   rw [List.map_cons]
   by_cases h : p.1 = k
   ·rw [if_pos h]
    by_cases e : p.1 = j
    ·rw [db (p := (p.1, y)) e, db e, Option.map_some, if_pos (e.symm.trans h)]
    ·rw [dc (p := (p.1, y)) e, dc e, ih]
   ·rw [if_neg h]
    by_cases e : p.1 = j
    ·rw [db (p := p) e, db e, Option.map_some, if_neg (fun z => h (e.trans z))]
    ·rw [dc (p := p) e, dc e, ih]
theorem pR (k j : κ) (y : V) : ∀ kvs : List (κ × V), ff kvs k = none -> ff (kvs ++ [(k, y)]) j = if j = k then some y else ff kvs j
 | [], _ => by
   by_cases e : k = j
   ·rw [if_pos e.symm]; exact db (p := (k, y)) e
   ·rw [if_neg (fun z => e z.symm)]; exact dc (p := (k, y)) e
 | p :: r, hn => by
   rw [List.cons_append]
   have hk : ¬ p.1 = k := fun z => by rw [db z] at hn; cases hn
   rw [dc hk] at hn
   have ih := pR k j y r hn
   by_cases e : p.1 = j
   ·rw [db e, db e, if_neg (fun z => hk (e.trans z))]
   ·rw [dc e, dc e, ih]
theorem sy (kvs : List (κ × V)) (k j : κ) (y : V) : ff (iS kvs k y) j = if j = k then some y else ff kvs j := by
 unfold iS
 by_cases a : (kvs.any fun kv => decide (kv.1 = k)) = true
 ·rw [if_pos a, sA]
  rw [kI] at a
  by_cases e : j = k
  ·obtain ⟨x, hx⟩ := Option.isSome_iff_exists.mp a
   rw [if_pos e, e, hx, Option.map_some, if_pos rfl]
  ·rw [if_neg e]
   cases ff kvs j with
   | none => rfl
   | some x => rw [Option.map_some, if_neg e]
 ·rw [if_neg a]
  refine pR k j y kvs ?_
  rw [kI] at a
  cases q : ff kvs k with
  | none => rfl
  | some x => rw [q] at a; exact (a rfl).elim
theorem jy (kvs : List (κ × V)) (k : κ) (v : V) : (iS kvs k v).length <= kvs.length + 1 := by
 unfold iS
 split
 ·rw [List.length_map]; omega
 ·rw [List.length_append, List.length_cons, List.length_nil]; omega
theorem jL.isSome_eq {o : Option V} {u : Option Value} (r : jL o u) : o.isSome = u.isSome := by
 cases o with
 | none => cases u with
   | none => rfl
   | some _ => exact (show False from r).elim
 | some _ => cases u with
   | none => exact (show False from r).elim
   | some _ => rfl
theorem KV.val {kvs : List (κ × V)} {vs : List (κ × Value)} (r : KV kvs vs) (k : κ) : jL (ff kvs k) (valueAt vs k) := by
 unfold KV at r
 induction r with
 | nil => exact True.intro
 | @cons p q ps qs h t ih =>
   obtain ⟨h1, h2⟩ := h
   by_cases e : p.1 = k
   ·have e' : q.1 = k := h1.symm.trans e
    have b : valueAt (q :: qs) k = some q.2 := by simp [valueAt, List.find?_cons, e']
    rw [db e, b]; exact h2
   ·have e' : ¬ q.1 = k := fun z => e (h1.trans z)
    have b : valueAt (q :: qs) k = valueAt qs k := by simp [valueAt, List.find?_cons, e']
    rw [dc e, b]; exact ih
theorem KV.any {kvs : List (κ × V)} {vs : List (κ × Value)} (r : KV kvs vs) (k : κ) : (kvs.any fun kv => decide (kv.1 = k)) = vs.any fun kv => decide (kv.1 = k) := by
 unfold KV at r
 induction r with
 | nil => rfl
 | cons h t ih => rw [List.any_cons, List.any_cons, ih, h.1]
theorem KV.repl {kvs : List (κ × V)} {vs : List (κ × Value)} (r : KV kvs vs) (k : κ) {y : V} {u : Value} (ry : aZ y u) :
 KV (kvs.map fun kv => if kv.1 = k then (kv.1, y) else kv) (vs.map fun kv => if kv.1 = k then (kv.1, u) else kv) := by
 unfold KV at r ⊢
 induction r with
 | nil => exact .nil
 | @cons p q ps qs h t ih =>
   rw [List.map_cons, List.map_cons]
   refine .cons ?_ ih
   obtain ⟨h1, h2⟩ := h
   by_cases e : p.1 = k
   ·rw [if_pos e, if_pos (h1.symm.trans e)]; exact ⟨h1, ry⟩
   ·rw [if_neg e, if_neg (fun z => e (h1.trans z))]; exact ⟨h1, h2⟩
theorem KV.put {kvs : List (κ × V)} {vs : List (κ × Value)} (r : KV kvs vs) (k : κ) {y : V} {u : Value} (ry : aZ y u) : KV (iS kvs k y) (stored vs k u) := by
 unfold iS stored
 rw [r.any k]
 by_cases e : (vs.any fun kv => decide (kv.1 = k)) = true
 ·rw [if_pos e, if_pos e]; exact r.repl k ry
 ·rw [if_neg e, if_neg e]; exact Paired.snoc r ⟨rfl, ry⟩
theorem KV.length {kvs : List (κ × V)} {vs : List (κ × Value)} (r : KV kvs vs) : kvs.length = vs.length := Paired.length r
end
theorem wj {P : Program} {w : World} {k : Key} {u : Value} (r : aZ (kV k) u) : (dE P w).is k u = true := by
 cases k with
 | inl i => obtain ⟨t, e⟩ := (show ∃ t, u = Value.int i t from r); subst e; exact tH P w i t
 | inr x => obtain ⟨t, e⟩ := (show ∃ t, u = Value.str x t from r); subst e; exact tG P w x t
theorem qk {P : Program} {w : World} : ∀ {ks : List Key} {us : List Value}, aR (ks.map kV) us -> ItemsAre (dE P w) ks us
 | [], _, r => by rw [List.map_nil] at r; cases r; exact .nil
 | k :: ks, _, r => by
   rw [List.map_cons] at r
   cases r with
   | cons h t => exact .cons (wj h) (qk t)
abbrev KT (H : Hp) : List (List Key × V) -> List (List Key × Addr × Value) -> Prop := Paired fun p q => p.1 = q.1 /\ H q.2.1 = some (.tup (p.1.map kV)) /\ aZ p.2 q.2.2
theorem KT.val {H : Hp} {kvs : List (List Key × V)} {xs : List (List Key × Addr × Value)} (r : KT H kvs xs) (k : List Key) : jL (ff kvs k) ((atKey xs k).map (·.2)) := by
 induction r with
 | nil => exact True.intro
 | @cons p q ps qs h t ih =>
   obtain ⟨h1, _, h2⟩ := h
   by_cases e : p.1 = k
   ·have e' : q.1 = k := h1.symm.trans e
    have b : atKey (q :: qs) k = some q.2 := by simp [atKey, List.find?_cons, e']
    rw [db e, b]; exact h2
   ·have e' : ¬ q.1 = k := fun z => e (h1.trans z)
    have b : atKey (q :: qs) k = atKey qs k := by simp [atKey, List.find?_cons, e']
    rw [dc e, b]; exact ih
theorem KT.repl {H : Hp} {kvs : List (List Key × V)} {xs : List (List Key × Addr × Value)} (r : KT H kvs xs) (k : List Key) {y : V} {u : Value} (ry : aZ y u) :
 KT H (kvs.map fun kv => if kv.1 = k then (kv.1, y) else kv) (xs.map (putAt k u)) := by
 induction r with
 | nil => exact .nil
 | @cons p q ps qs h t ih =>
   rw [List.map_cons, List.map_cons]
   refine .cons ?_ ih
   obtain ⟨h1, h2, h3⟩ := h
   unfold putAt
   by_cases e : p.1 = k
   ·rw [if_pos e, if_pos (h1.symm.trans e)]; exact ⟨h1, h2, ry⟩
   ·rw [if_neg e, if_neg (fun z => e (h1.trans z))]; exact ⟨h1, h2, h3⟩
theorem KT.put {H : Hp} {kvs : List (List Key × V)} {xs : List (List Key × Addr × Value)} (r : KT H kvs xs) (k : List Key) {b : Addr} {y : V} {u : Value} (hb : H b = some (.tup (k.map kV))) (ry : aZ y u) :
 KT H (iS kvs k y) (storedH xs k b u) := by
 have e : (kvs.any fun kv => decide (kv.1 = k)) = (atKey xs k).isSome := by
  rw [kI, (r.val k).isSome_eq, Option.isSome_map]
 unfold iS storedH
 rw [e]
 by_cases q : (atKey xs k).isSome = true
 ·rw [if_pos q, if_pos q]; exact r.repl k ry
 ·rw [if_neg q, if_neg q]; exact Paired.snoc r ⟨rfl, hb, ry⟩
theorem KT.keeps {H H' : Hp} {kvs : List (List Key × V)} {xs : List (List Key × Addr × Value)} (r : KT H kvs xs) (ht : ∀ b ys, H b = some (.tup ys) -> H' b = some (.tup ys)) : KT H' kvs xs :=
 Paired.mapP r fun _ _ z => ⟨z.1, ht _ _ z.2.1, z.2.2⟩
section
variable {P : Program} {w : World} {H : Hp} {h : Heap} {a : Addr}
theorem AM {u : HO} (ok : jb P w H h) (e : Rd H a u) : bU P w H h a u := e.ok ok
theorem wC {kvs : List (Key × V)} (ok : jb P w H h) (e : Rd H a (.dK kvs)) : kvs.length <= sizeLine /\ (a == sysModules) = false /\ ∃ vs, KV kvs vs /\ h.DictOf (dE P w) a vs :=
 show bU P w H h a (.dK kvs) from AM ok e
theorem Cy {kvs : List (Key × V)} (ok : jb P w H h) (e : H a = some (.dK kvs)) : kvs.length <= sizeLine /\ (a == sysModules) = false /\ ∃ vs, KV kvs vs /\ h.DictOf (dE P w) a vs := wC ok (.inl e)
theorem rH {ks : List Key} (ok : jb P w H h) (e : H a = some (.tup (ks.map kV))) : (tupleKind (dE P w)).is h ks a := by
 obtain ⟨_, its, r, o, h1, h2, n, h3⟩ := (show bU P w H h a (.tup (ks.map kV)) from ok a _ e)
 exact ⟨o, its.toArray, n, h1, h2, h3, by simpa using qk r⟩
theorem wB {kvs : List (List Key × V)} (ok : jb P w H h) (e : Rd H a (.dT kvs)) : kvs.length <= sizeLine /\ (a == sysModules) = false /\
 ∃ xs, KT H kvs xs /\ h.DictOfH (tupleKind (dE P w)) a xs := by
 obtain ⟨z, y, xs, r, o, es, ep, h1, h2, h3, h4, h5⟩ := (show bU P w H h a (.dT kvs) from AM ok e)
 refine ⟨z, y, xs, r, o, es, ep, h1, h2, h3, h4, fun x hx => ?_, h5⟩
 have all : ∀ {l : List (List Key × V)} {m : List (List Key × Addr × Value)}, KT H l m -> ∀ x ∈ m, (tupleKind (dE P w)).is h x.1 x.2.1 := by
  intro l m q
  induction q with
  | nil => intro x hx; exact nomatch hx
  | @cons p q ps qs hq t ih =>
    intro x hx
    rcases List.mem_cons.mp hx with e | hx
    ·subst e
     exact rH ok (by rw [<- hq.1]; exact hq.2.1)
    ·exact ih x hx
 exact all r x hx
theorem Cw {kvs : List (List Key × V)} (ok : jb P w H h) (e : H a = some (.dT kvs)) : kvs.length <= sizeLine /\ (a == sysModules) = false /\
 ∃ xs, KT H kvs xs /\ h.DictOfH (tupleKind (dE P w)) a xs := wB ok (.inl e)
end
def vp (H : Hp) (a : Addr) (y : V) (r : Option V) : Prop :=
 (∃ kvs k, Rd H a (.dK kvs) /\ y = kV k /\ r = ff kvs k) \/ ∃ kvs k b, Rd H a (.dT kvs) /\ y = .ref b /\ H b = some (.tup (k.map kV)) /\ r = ff kvs k
def xX (H : Hp) (a : Addr) (y v : V) (H' : Hp) : Prop :=
 (∃ kvs k, H a = some (.dK kvs) /\ y = kV k /\ kvs.length < sizeLine /\ H' = aU H a (.dK (iS kvs k v))) \/
 ∃ kvs k b, H a = some (.dT kvs) /\ y = .ref b /\ H b = some (.tup (k.map kV)) /\ kvs.length < sizeLine /\ H' = aU H a (.dT (iS kvs k v))
theorem xX.k {H : Hp} {a : Addr} {kvs : List (Key × V)} {k : Key} {v : V} (e : H a = some (.dK kvs)) (hl : kvs.length < sizeLine) : xX H a (kV k) v (aU H a (.dK (iS kvs k v))) := .inl ⟨kvs, k, e, rfl, hl, rfl⟩
section
variable {X : Cx} {pins : List (Addr × Obj)} {σ : St} {H : Hp} {s : Shared} {a : Addr} {y v : V} {u r : Value} {o : Option V} {A : Around} {E : Value -> Shared -> Prop}
theorem aE.big (I : aE X pins σ H s) : sysModules < s.heap.objs.size := by
 have h : mainGlobals < s.heap.objs.size := (I.mod.glob.keeps I.bk).lt
 exact Nat.lt_trans (by decide) h
theorem xP {Q : Value -> Shared -> Prop} (hu : A.units + 1 < cLine) (I : aE X pins σ H s) (g : vp H a y (some v)) (ry : aZ y u) (h : ∀ w' s', aE X pins σ H s' -> aZ v w' -> Q w' s') :
 wpAny (model X.prog X.w) A (getItem (.ref a) u) Q E s := by
 rcases g with ⟨kvs, k, e, ey, l⟩ | ⟨kvs, k, b, e, ey, eb, l⟩
 ·subst ey
  obtain ⟨z, hd, vs, rel, dd⟩ := wC I.hok e
  obtain ⟨w', hw, rw'⟩ := jL.some_of (v := v) (o := valueAt vs k) (by rw [l]; exact rel.val k)
  exact wpAny_getItem_of (wj ry) dd.mapOf hw (h w' _ (I.tok _) rw')
 ·subst ey
  cases (show u = Value.ref b from ry)
  obtain ⟨z, hd, xs, rel, dd⟩ := wB I.hok e
  obtain ⟨w', hw, rw'⟩ := jL.some_of (v := v) (o := (atKey xs k).map (·.2)) (by rw [l]; exact rel.val k)
  obtain ⟨p, hp, hp2⟩ := Option.map_eq_some_iff.mp hw
  refine wpAny_getItem_heap (tupleKind_room_in1 hu) (rH I.hok eb) dd hp ?_
  rw [hp2]
  exact h w' _ (I.tok _) rw'
theorem AB {Q : Value -> Shared -> Prop} (hu : A.units + 1 < cLine) (I : aE X pins σ H s) (g : vp H a y o) (ry : aZ y u) (h : ∀ s', aE X pins σ H s' -> Q (.bool (!o.isSome)) s') :
 wpAny (model X.prog X.w) A (compareOp .NotIn u (.ref a)) Q E s := by
 rcases g with ⟨kvs, k, e, ey, l⟩ | ⟨kvs, k, b, e, ey, eb, l⟩
 ·subst ey
  obtain ⟨z, hd, vs, rel, dd⟩ := wC I.hok e
  refine wpAny_notIn_of (wj ry) hd dd.mapOf ?_
  rw [<- (rel.val k).isSome_eq, <- l]
  exact h _ (I.tok _)
 ·subst ey
  cases (show u = Value.ref b from ry)
  obtain ⟨z, hd, xs, rel, dd⟩ := wB I.hok e
  refine wpAny_notIn_heap (tupleKind_room_in1 hu) (rH I.hok eb) hd dd ?_
  have q := (rel.val k).isSome_eq
  rw [Option.isSome_map] at q
  rw [<- q, <- l]
  exact h _ (I.tok _)
theorem wG {h' : Heap} {t' : Nat} {ob : HO} (I : aE X pins σ H s) (mu : CH (H a)) (hs : Heap.SameBut a s.heap h') (he : ∃ q, h'.get? a = some q) (new : bU X.prog X.w (aU H a ob) h' a ob) :
 aE X pins σ (aU H a ob) { s with heap := h', toks := t' } :=
 I.write (x := a) (e := a) mu (.inl rfl) (fun b q hb z => (hs.2 b hb).trans z) he new
theorem BK {P : Program} {w : World} {H' : Hp} {h' : Heap} {kvs : List (Key × V)} {vs : List (Key × Value)} (z : kvs.length <= sizeLine) (hd : (a == sysModules) = false) (rel : KV kvs vs) (dd : h'.DictOf (dE P w) a vs) :
 bU P w H' h' a (.dK kvs) := ⟨z, hd, vs, rel, dd⟩
theorem xO {H' : Hp} {Q : Unit -> Shared -> Prop} (hu : A.units + 1 < cLine) (I : aE X pins σ H s) (g : xX H a y v H') (ry : aZ y u) (rv : aZ v r) (h : ∀ s', aE X pins σ H' s' -> Q () s') :
 wpAny (model X.prog X.w) A (setItem (.ref a) u r) Q E s := by
 rcases g with ⟨kvs, k, e, ey, l, eH⟩ | ⟨kvs, k, b, e, ey, eb, l, eH⟩
 ·subst ey eH
  obtain ⟨z, hd, vs, rel, dd⟩ := Cy I.hok e
  have hz : vs.length <= sizeLine := by rw [<- rel.length]; exact z
  have hl : (iS kvs k v).length <= sizeLine := by have := jy kvs k v; omega
  refine wpAny_setItem_pairs (hsz := hz) (wj ry) dd fun h' dd' hs => h _ ?_
  have he : ∃ q, h'.get? a = some q := let ⟨q, _, _, hq, _⟩ := dd'; ⟨q, hq⟩
  exact wG I (by rw [e]; exact True.intro) hs he (BK hl hd (rel.put k rv) dd')
 ·subst ey eH
  cases (show u = Value.ref b from ry)
  obtain ⟨z, hd, xs, rel, dd⟩ := Cw I.hok e
  have hz : xs.length <= sizeLine := by rw [<- Paired.length rel]; exact z
  have hl : (iS kvs k v).length <= sizeLine := by have := jy kvs k v; omega
  refine wpAny_setItem_heap (hsz := hz) (tupleKind_room_in1 hu) (rH I.hok eb) dd fun h' dd' hs => h _ ?_
  obtain ⟨q, es, ep, hq, h2, h3, h4, _, h5⟩ := dd'
  refine wG I (by rw [e]; exact True.intro) hs ⟨q, hq⟩ ⟨hl, hd, _, (rel.put k eb rv).keeps fun c ys ec => ?_, q, es, ep, hq, h2, h3, h4, h5⟩
  rw [ak (eW ec e (fun z => nomatch z))]
  exact ec
end
section
variable {X : Cx} {pins : List (Addr × Obj)} {σ : St} {H : Hp} {s : Shared} {a : Addr} {kvs : List (Key × V)} {k : Key} {u : Value} {A : Around} {E : Value -> Shared -> Prop}
end
def CG (i : Expr) : Prop := ∀ ov iv, subscripted i false ov iv = operate [ov, iv] (getItem ov iv)
theorem zS {prog : Program} {w : World} {A : Around} {E : Value -> Shared -> Prop} {s : Shared} {env : Env} {value slice : Expr} {pos : Pos} {T id : String} {Q : Value -> Shared -> Prop}
 (hl : typeLookup (.type T) "__getitem__" = pure (some (.builtin id))) (hs : CG slice)
 (h : wpAny (model prog w) A (eval value env) (fun o s₁ => wpAny (model prog w) A (eval slice env) (fun i s₂ => s₂.TypeIs o T /\ wpAny (model prog w) A (getItem o i) Q E s₂) E s₁) E s) :
 wpAny (model prog w) A (eval (.Subscript value slice pos) env) Q E s := by
 refine Subscript_ (wpAny_mono h (fun o s₁ h₁ => wpAny_mono h₁ (fun i s₂ h₂ => ?_) fun _ _ x => x) fun _ _ x => x)
 obtain ⟨hT, h₂⟩ := h₂
 unfold subscriptTail
 refine wpAny_bind ?_
 rw [getitemInPython_of_ne hT.not_modules]
 refine wpAny_bind (wpAny_specialOf hT hl ?_)
 have fin : wpAny (model prog w) A (subscripted slice false o i) (fun r s₃ => wpAny (model prog w) A (letTemporaryGo value o r >>= fun _ => pure r) Q E s₃) E s₂ := by
  rw [hs o i]
  exact wpAny_operating (wpAny_mono h₂ (fun r s₃ h₃ => wpAny_bind (wpAny_letTemporaryGo (wpAny_pure h₃))) fun _ _ x => x)
 first
  | exact wpAny_pure (wpAny_bind fin)
  | exact wpAny_bind (wpAny_pure (wpAny_bind fin))
  | exact wpAny_bind fin
theorem tW {X : Cx} {pins : List (Addr × Obj)} {σ : St} {H : Hp} {s : Shared} {a : Addr} {y : V} {o : Option V} (I : aE X pins σ H s) (g : vp H a y o) : s.TypeIs (.ref a) "dict" := by
 rcases g with ⟨kvs, k, e, _, _⟩ | ⟨kvs, k, b, e, _, _, _⟩
 ·obtain ⟨_, _, vs, _, dd⟩ := wC I.hok e
  exact dd.typeIs
 ·obtain ⟨_, _, xs, _, dd⟩ := wB I.hok e
  exact dd.typeIs
def Cb (td ty : TE) : TE := fun σ H Q => td σ H fun x H1 => ty σ H1 fun y H2 => ∃ a v, x = .ref a /\ vp H2 a y (some v) /\ Q v H2
def zQ (ty td : TE) : TE := fun σ H Q => ty σ H fun y H1 => td σ H1 fun x H2 => ∃ a o, x = .ref a /\ vp H2 a y o /\ Q (.bl (!o.isSome)) H2
def Cg (td ty tv : TE) : TS := fun D σ H => tv σ H fun v H1 => td σ H1 fun x H2 => ty σ H2 fun y H3 => ∃ a H4, x = .ref a /\ xX H3 a y v H4 /\ D.nx σ H4
section
variable {X : Cx} {o i e value : Expr} {pos pos' tpos : Pos} {td ty tv : TE}
theorem bZ (hu : X.A.units + 1 < cLine) (ho : PE X o td) (hi : PE X i ty) (hs : CG i) : PE X (.Subscript o i pos) (Cb td ty) := by
 intro pins s σ H Q I h
 refine zS PySem.F.slot_dict_getitem.lookup hs (bS (ho pins s σ H _ I h) fun u s1 ⟨x, H1, I1, rx, q1⟩ => bS (hi pins s1 σ H1 _ I1 q1) fun iv s2 ⟨y, H2, I2, ry, a, v, ex, g, q2⟩ => ?_)
 subst ex
 obtain rfl : u = Value.ref a := rx
 exact ⟨tW I2 g, xP hu I2 g ry fun w' s3 I3 rw' => ⟨v, H2, I3, rw', q2⟩⟩
theorem lZ (hu : X.A.units + 1 < cLine) (hi : PE X i ty) (ho : PE X o td) : PC X .NotIn i o (zQ ty td) := by
 intro pins s σ H Q I h
 refine bS (hi pins s σ H _ I h) fun iv s1 ⟨y, H1, I1, ry, q1⟩ => bS (ho pins s1 σ H1 _ I1 q1) fun u s2 ⟨x, H2, I2, rx, a, ov, ex, g, q2⟩ => ?_
 subst ex
 obtain rfl : u = Value.ref a := rx
 exact AB hu I2 g ry fun s3 I3 => ⟨.bl (!ov.isSome), H2, I3, rfl, q2⟩
theorem d8 (hu : X.A.units + 1 < cLine) (ho : PE X o td) (hi : PE X i ty) (hv : PE X value tv) (hs : swapsWith value (some (.Subscript o i pos')) pos.line X.env = pure false) :
 PS X (.Assign [.Subscript o i pos'] value pos) (Cg td ty tv) := by
 intro pins s σ H D I h
 refine wpAny_Assign_Subscript (bS (hv pins s σ H _ I h) fun r s1 ⟨v, H1, I1, rv, q1⟩ => bS (ho pins s1 σ H1 _ I1 q1) fun u s2 ⟨x, H2, I2, rx, q2⟩ => bS (hi pins s2 σ H2 _ I2 q2) fun iv s3 ⟨y, H3, I3, ry, a, H4, ex, g, q3⟩ => ?_) hs
 subst ex
 obtain rfl : u = Value.ref a := rx
 exact xO hu I3 g ry rv fun s4 I4 => ⟨σ, H4, I4, q3⟩
end
theorem zk {P : Program} {w : World} {H : Hp} (h : Heap) (hb : sysModules < h.objs.size) : bU P w H (h.push { cls := .type "dict", data := .dict #[] }) h.objs.size (.dK []) :=
 ⟨Nat.zero_le _, beq_eq_false_iff_ne.mpr (Ne.symm (Nat.ne_of_lt hb)), [], .nil, Heap.DictOf.new h⟩
def tDNewK : TE := fun _ H Q => ∀ p, H p = none -> Q (.ref p) (aU H p (.dK []))
section
variable {X : Cx} {pos : Pos}
theorem yK : PE X (.Dict [] [] pos) tDNewK := fun pins s σ H Q I h =>
 wpAny_Dict_empty ⟨.ref s.heap.objs.size, _, I.laid (a := s.heap.objs.size) (o := .dK []) (t' := s.toks) (fun _ _ q => Heap.get?_push_of_some _ q) (Nat.le_refl _) (zk s.heap I.big), rfl, h _ (I.hok.fresh (Nat.le_refl _))⟩
end
section
variable {X : Cx} {pins : List (Addr × Obj)} {σ : St} {H : Hp} {s : Shared} {a : Addr} {y d : V} {u r : Value} {o : Option V} {A : Around} {E : Value -> Shared -> Prop}
end
section
variable {X : Cx} {o e f : Expr} {apos cpos : Pos} {td ty tx : TE}
end
section
variable {X : Cx} {pins : List (Addr × Obj)} {σ : St} {H : Hp} {s : Shared} {a : Addr} {kvs : List (Key × V)} {A : Around} {E : Value -> Shared -> Prop}
end
section
variable {X : Cx} {pins : List (Addr × Obj)} {σ : St} {H : Hp} {s : Shared} {a : Addr} {y : V} {u : Value} {A : Around} {E : Value -> Shared -> Prop}
end
end L2
namespace L2
open PySem PySem.Spec PyProof.Rows
section
variable {prog : Program} {w : World} {A : Around} {E : Value -> Shared -> Prop}
end
section
variable {X : Cx}
end
end L2
namespace L2
open PySem PySem.Spec PyProof.Rows
section
variable {X : Cx} {pins : List (Addr × Obj)} {σ : St} {H : Hp} {s : Shared} {h' : Heap}
theorem aE.turnedL {t' : Nat} {ch : List Addr} (I : aE X pins σ H s) (k : ∀ b o, b ∉ ch -> s.heap.get? b = some o -> h'.get? b = some o) (hf : ∀ b ∈ ch, nA X pins H b) : aE X pins σ H { s with heap := h', toks := t' } := by
 have nit : ∀ b u, H b = some u -> b ∉ ch := fun b u e z => by
  have q := (hf b z).1
  rw [q] at e; cases e
 refine I.step (g' := s.gens) (d' := s.drawn) (ch := ch) (fun b hb => ⟨(hf b hb).2.2.2.1, (hf b hb).2.1, (hf b hb).2.2.2.2.1, (hf b hb).2.2.2.2.2⟩) (fun b o _ _ hc e _ => k b o hc e) (fun b o _ _ hc e _ => ⟨o.slots, k b o hc e⟩)
  (fun _ _ _ _ n => n) (fun b o hc e => ⟨o, k b o hc e⟩) (fun _ _ e => e) (fun _ _ _ e => e) (fun b ps e => ⟨#[], by rw [e]; simp⟩) (fun m hm => ?_) (fun b u e => ?_) I.bare
 ·obtain ⟨o, es, ep, ho, r⟩ := hm
  exact ⟨o, es, ep, k _ o (fun z => (hf _ z).2.1 rfl) ho, r⟩
 ·refine (I.hok b u e).stay (fun c v hc q => k c v ?_ q) (fun _ q => q) fun _ _ q => q
  rcases hc with z | z
  ·rw [z]; exact nit b u e
  ·exact nit c _ z
theorem aE.turnedNew {t' : Nat} {ch : List Addr} {T : Addr} {ob : HO} (I : aE X pins σ H s) (k : ∀ b o, b ∉ ch -> s.heap.get? b = some o -> h'.get? b = some o) (hf : ∀ b ∈ ch, nA X pins H b) (hT : s.heap.objs.size <= T)
 (new : bU X.prog X.w (aU H T ob) h' T ob) : aE X pins σ (aU H T ob) { s with heap := h', toks := t' } := by
 have hn : H T = none := I.hok.fresh hT
 have nit : ∀ b u, H b = some u -> b ∉ ch := fun b u e z => by
  have q := (hf b z).1
  rw [q] at e; cases e
 refine I.step (g' := s.gens) (d' := s.drawn) (ch := ch) (fun b hb => ⟨(hf b hb).2.2.2.1, (hf b hb).2.1, (hf b hb).2.2.2.2.1, (hf b hb).2.2.2.2.2⟩) (fun b o _ _ hc e _ => k b o hc e) (fun b o _ _ hc e _ => ⟨o.slots, k b o hc e⟩)
  (fun b o _ e n => ?_) (fun b o hc e => ⟨o, k b o hc e⟩) (fun b xs e => ?_) (fun b o u e => ?_) (fun b ps e => ⟨#[], ?_⟩) (fun m hm => ?_) (fun b u e => ?_) I.bare
 ·rw [ak (Nat.ne_of_lt (Nat.lt_of_lt_of_le (Heap.lt_size e) hT))]; exact n
 ·rw [ak (au e hn)]; exact e
 ·rw [ak (au e hn)]; exact e
 ·rw [ak (au e hn), e]; simp
 ·obtain ⟨o, es, ep, ho, r⟩ := hm
  exact ⟨o, es, ep, k _ o (fun z => (hf _ z).2.1 rfl) ho, r⟩
 ·by_cases hb : b = T
  ·subst hb
   rw [ae] at e
   cases e
   exact new
  ·rw [ak hb] at e
   refine (I.hok b u e).stay (fun c v hc q => k c v ?_ q) (fun c q => by rw [ak (au q hn)]; exact q) fun c xs q => by rw [ak (au q hn)]; exact q
   rcases hc with z | z
   ·rw [z]; exact nit b u e
   ·exact nit c _ z
end
section
variable {X : Cx}
theorem uL {tg : Expr} {pins : List (Addr × Obj)} {σ : St} {H : Hp} {s : Shared} {R : It -> Hp -> Prop} {J : It} {tn : Nat -> Heap -> Prop} {tk : Nat} (I : aE X pins σ H s) (o : Obj)
 (T : sg X.prog X.w X.K tg J [s.heap.objs.size] s.heap.objs.size tn) (st : tn 0 (s.heap.push o)) (q : R J H) : DN X pins σ tg R (.ref s.heap.objs.size) { s with heap := s.heap.push o, toks := tk } := by
 refine ⟨s.heap.objs.size, [s.heap.objs.size], tn, J, H, rfl, I.kept fun b ob e => Heap.get?_push_of_some _ e, T, st, fun b hb => ?_, q⟩
 have e : b = s.heap.objs.size := by simpa using hb
 subst e
 exact I.fpOk (Nat.le_refl _) (I.hok.fresh (Nat.le_refl _))
end
def CL (lo c : Int) (n : Nat) : It := ⟨fun i _ => i < n, fun i H x H' => H' = H /\ x = .int (lo + (i : Nat) * c), fun i _ => n <= i⟩
theorem sC {P : Program} {w : World} {K : W.Frag} {tg : Expr} (it : Addr) (lo c : Int) (n : Nat) : sg P w K tg (CL lo c n) [it] it (fun i h => IsRangeIter h it (lo + (i : Nat) * c) ((n : Int) - (i : Nat)) c) where
 mem := by simp
 obj := fun i h st b hb => by
  have e : b = it := by simpa using hb
  subst e
  exact ⟨_, st, fun v z => nomatch z⟩
 keep := fun i h h' st k => k it (by simp) _ st
 item := by
  intro X hP hw hK hc i pins s σ H E I hf st hg
  subst hP hw hK
  obtain ⟨f0, f1, f2, f3, f4, f5⟩ := hf it (by simp)
  have W := Walks.range (prog := X.prog) (w := X.w) (I.ok.hd hc) it lo c n
  refine W.item i s _ _ hg st fun v h' tk hv st' kk => ?_
  obtain ⟨t, rfl⟩ := hv
  have I1 : aE X pins σ H { s with heap := h', toks := tk } := I.turned (fun b o hb e => kk b o (by simpa using hb) e) f0 f1 f3 f4 f5
  exact ⟨_, rfl, tL (s := { s with heap := h', toks := tk }) (n := "range_iterator") st' rfl rfl (by decide) ⟨.int (lo + (i : Nat) * c), H, I1, ⟨t, rfl⟩, ⟨rfl, rfl⟩, st', fun b hb => (hf b hb).1⟩⟩
 done := by
  intro X hP hw hK hc i pins s σ H E I hf st hg
  subst hP hw hK
  obtain ⟨f0, f1, f2, f3, f4, f5⟩ := hf it (by simp)
  exact wpAny_pyNext_range_end (I.ok.hd hc) st (by have : n <= i := hg; omega) fun h' eb => ⟨rfl, I.turned (t' := s.toks) (fun b o hb e => eb b o hb e) f0 f1 f3 f4 f5⟩
 self := fun A i s Q E st h => wpAny_pyIter_rangeiter st h
def C5 (i j c : Int) (n : Nat) : Prop := c ≠ 0 /\ c.natAbs < 1073741824 /\ Builtin.Range.small i j c = true /\ Builtin.Range.rangeSize i j c = n
theorem C5.neg {i j : Int} (ha : -(2 ^ 62) <= i) (ha' : i < 2 ^ 62) (hb : -(2 ^ 62) <= j) (hb' : j < 2 ^ 62) : C5 i j (-1) (i - j).toNat :=
 ⟨by decide, by decide, W.small_down ha ha' hb hb', W.rangeSize_downNat i j⟩
def Cq (ta : TA) : TI := fun σ H R => ta σ H fun vs H1 => ∃ (i j c : Int) (n : Nat), vs = [.int i, .int j, .int c] /\ C5 i j c n /\ R (CL i c n) H1
section
variable {X : Cx} {tg : Expr}
theorem xf {a b c : Expr} {ta : TA} {p pos : Pos} (hg : Gl X "range") (hm : X.mg "range" = none) (ha : PA X [a, b, c] ta)
 (hs : starEach [a, b, c] X.env = (false, eval a X.env) :: starEach [b, c] X.env := by rfl) (hpl : (backTo pos (starEach [b, c] X.env)).any (·.1) = false := by rfl) :
 PI X tg (.Call (.Name "range" p) [a, b, c] [] pos) (Cq ta) := by
 intro pins s σ H R I h
 refine Call_ (jB I hg hm boot_range (PyProof.Rows.callWith_type1 (bS (ha pos pins s σ H _ I h) fun us s1 ⟨vs, H1, I1, r1, q1⟩ => ?_) hs hpl))
 obtain ⟨i, j, k, n, e, ⟨c0, c1, c2, c3⟩, q⟩ := q1
 subst e
 cases r1 with
 | cons r rr =>
   cases rr with
   | cons r' rr =>
     cases rr with
     | cons r'' rr =>
       cases rr
       obtain ⟨t, rfl⟩ := r
       obtain ⟨t', rfl⟩ := r'
       obtain ⟨t'', rfl⟩ := r''
       refine call_range_3 c0 ?_ (.inl (PyProof.noPylong_small c1))
       refine wpAny_pyIter_range (IsRange.new ..) c2 ?_
       have I2 : aE X pins σ H1 { s1 with heap := s1.heap.push { cls := .type "range", data := .fields #[.int i t, .int j t', .int k t''] } } := I1.kept (t' := s1.toks) fun b o e => Heap.get?_push_of_some _ e
       refine uL (tk := s1.toks) I2 _ (sC _ i k n) ?_ q
       have e1 : i + ((0 : Nat) : Int) * k = i := by simp
       have e2 : (n : Int) - ((0 : Nat) : Int) = Builtin.Range.rangeSize i j k := by rw [c3]; simp
       show IsRangeIter _ _ (i + ((0 : Nat) : Int) * k) ((n : Int) - ((0 : Nat) : Int)) k
       rw [e1, e2]
       exact Heap.get?_push_size _ rfl
end
section
variable {X : Cx} {tg : Expr}
end
def CK (x : Str) : It := ⟨fun i _ => i < x.cps.size, fun i H v H' => H' = H /\ ∃ c, x.cps[i]? = some c /\ v = .str ⟨#[c]⟩, fun i _ => x.cps.size <= i⟩
theorem sB {P : Program} {w : World} {K : W.Frag} {tg : Expr} (it : Addr) (x : Str) (t : Tok) (ty : String) (hty : ty = "str_ascii_iterator" \/ ty = "str_iterator") :
 sg P w K tg (CK x) [it] it (fun i h => h.IsStrIter it ty x t i) where
 mem := by simp
 obj := fun i h st b hb => by
  have e : b = it := by simpa using hb
  subst e
  obtain ⟨o, e, c, d⟩ := st
  exact ⟨o, e, fun v z => by rw [d] at z; cases z⟩
 keep := fun i h h' st k => let ⟨o, ho, r⟩ := st; ⟨o, k it (by simp) o ho, r⟩
 item := by
  intro X hP hw hK hc i pins s σ H E I hf st hg
  subst hP hw hK
  obtain ⟨f0, f1, f2, f3, f4, f5⟩ := hf it (by simp)
  have W : Walks X.prog X.w X.A it [it] [it] x.cps.size (SignAt x) (fun i h => h.IsStrIter it ty x t i) := by
   rcases hty with e | e
   ·rw [e]; exact Walks.strAscii (I.ok.hd hc) it x t
   ·rw [e]; exact Walks.strWide (I.ok.hd hc) it x t
  have hno : ["enumerate", "zip", "dict_itemiterator", "dict_reverseitemiterator", "odict_iterator", "itertools.zip_longest", "itertools.pairwise"].contains ty = false := by
   rcases hty with e | e
   ·rw [e]; decide
   ·rw [e]; decide
  refine W.item i s _ _ hg st fun v h' tk hv st' kk => ?_
  obtain ⟨c, u, hcx, rfl⟩ := hv
  have I1 : aE X pins σ H { s with heap := h', toks := tk } := I.turned (fun b o hb e => kk b o (by simpa using hb) e) f0 f1 f3 f4 f5
  obtain ⟨oi, e, cc, dd⟩ := id st'
  exact ⟨_, rfl, tL (s := { s with heap := h', toks := tk }) e cc dd hno ⟨.str ⟨#[c]⟩, H, I1, ⟨u, rfl⟩, ⟨rfl, c, hcx, rfl⟩, st', fun b hb => (hf b hb).1⟩⟩
 done := by
  intro X hP hw hK hc i pins s σ H E I hf st hg
  subst hP hw hK
  obtain ⟨f0, f1, f2, f3, f4, f5⟩ := hf it (by simp)
  have hx : x.cps[i]? = none := Array.getElem?_eq_none hg
  rcases hty with e | e
  ·rw [e] at st
   exact wpAny_pyNext_ascii_end (I.ok.hd hc) st hx fun h' eb => ⟨rfl, I.turned (t' := s.toks) (fun b o hb e => eb b o hb e) f0 f1 f3 f4 f5⟩
  ·rw [e] at st
   exact wpAny_pyNext_wide_end (I.ok.hd hc) st hx fun h' eb => ⟨rfl, I.turned (t' := s.toks) (fun b o hb e => eb b o hb e) f0 f1 f3 f4 f5⟩
 self := fun A i s Q E st h => by
  rcases hty with e | e
  ·rw [e] at st; exact wpAny_pyIter_striter_ascii st h
  ·rw [e] at st; exact wpAny_pyIter_striter_wide st h
def DB (te : TE) : TI := fun σ H R => te σ H fun v H1 => ∃ x, v = .str x /\ R (CK x) H1
theorem yD {X : Cx} {tg e : Expr} {te : TE} (he : PE X e te) : PI X tg e (DB te) := by
 intro pins s σ H R I h
 refine bS (he pins s σ H _ I h) fun v s1 ⟨y, H1, I1, r1, x, ex, q⟩ => ?_
 subst ex
 obtain ⟨t, rfl⟩ := r1
 cases ha : x.cps.all (· < 128)
 ·exact wpAny_pyIter_wide ha (uL (tk := s1.toks) I1 _ (sB _ x t "str_iterator" (.inr rfl)) ⟨_, Heap.get?_push_size _ rfl, rfl, rfl⟩ q)
 ·exact wpAny_pyIter_ascii ha (uL (tk := s1.toks) I1 _ (sB _ x t "str_ascii_iterator" (.inl rfl)) ⟨_, Heap.get?_push_size _ rfl, rfl, rfl⟩ q)
section
variable {prog : Program} {w : World} {A : Around} {E : Value -> Shared -> Prop} {s : Shared}
end
section
variable {X : Cx} {pins : List (Addr × Obj)} {σ : St} {H : Hp} {s : Shared} {d : Addr} {o : Obj}
end
section
variable {P : Program} {w : World} {K : W.Frag} {tg : Expr} {d : Addr} {o : Obj} {es : Array DictEntry} {ep : Nat}
end
section
variable {X : Cx} {tg e : Expr} {td : TE} {apos cpos : Pos}
end
theorem xT : bootBuiltins "zip" = some (.type "zip") := by decide +kernel
end L2
section
namespace Bits
open PySem PyProof.Rows
end Bits
end
section
namespace TL
open PySem PySem.Builtin PySem.Builtin.Str PySem.StrLaws
abbrev tl (x : Str) : List Nat := x.cps.toList
theorem Bs (x : Str) : x.length = (tl x).length := by simp [tl, Str.length]
theorem lJ (x y : Str) : tl (x ++ y) = tl x ++ tl y := by
 show (x ++ y).cps.toList = _
 rw [Str.cps_append, Array.toList_append]
def jC (S : List Nat) : List (List Nat) -> List Nat
 | [] => []
 | [p] => p
 | p :: q :: r => p ++ (S ++ jC S (q :: r))
theorem vx (y : Str) : ∀ parts : List Str, tl (Str.join y parts) = jC (tl y) (parts.map tl)
 | [] => rfl
 | [_] => rfl
 | x :: z :: r => by
   show tl (x ++ y ++ Str.join y (z :: r)) = tl x ++ (tl y ++ jC (tl y) ((z :: r).map tl))
   rw [lJ, lJ, vx y (z :: r), List.append_assoc]
theorem Ar (y : Str) (parts : List Str) : Txt.join y parts = Str.join y parts := glued_eq_join y parts
def nw (n : Nat) : List Nat := (Nat.toDigits 10 n).map Char.toNat
theorem yc (n : Nat) : tl (Str.ofString (toString ((n : Nat) : Int))) = nw n := W.KIN.signs_num n
theorem j4 : ∀ d : Nat, d < 10 -> (Nat.digitChar d).toNat = 48 + d := by decide
theorem Al {n : Nat} (h : n < 10) : nw n = [48 + n] := by
 unfold nw
 rw [Nat.toDigits_of_lt_base h]
 show [(Nat.digitChar n).toNat] = _
 rw [j4 n h]
theorem xw {n : Nat} (h : 10 <= n) : nw n = nw (n / 10) ++ [48 + n % 10] := by
 have hm : n % 10 < 10 := Nat.mod_lt n (by decide)
 have t : Nat.toDigits 10 (n / 10) ++ Nat.toDigits 10 (n % 10) = Nat.toDigits 10 (10 * (n / 10) + n % 10) := Nat.toDigits_append_toDigits (by decide) (by omega) hm
 rw [Nat.div_add_mod] at t
 show (Nat.toDigits 10 n).map Char.toNat = _
 rw [<- t, List.map_append, Nat.toDigits_of_lt_base hm]
 show (Nat.toDigits 10 (n / 10)).map Char.toNat ++ [(Nat.digitChar (n % 10)).toNat] = _
 rw [j4 _ hm] <;> rfl
theorem tD (n : Nat) : NumText.AllDigits (nw n) := by
 induction n using Nat.strongRecOn with
 | _ n ih =>
   by_cases h : n < 10
   ·rw [Al h]
    intro c hc
    rw [List.mem_singleton.mp hc]
    omega
   ·rw [xw (by omega)]
    intro c hc
    rcases List.mem_append.mp hc with hc | hc
    ·exact ih (n / 10) (by omega) c hc
    ·have hm : n % 10 < 10 := Nat.mod_lt n (by decide)
     rw [List.mem_singleton.mp hc]
     omega
theorem oX {n k : Nat} (hk : 0 < k) (h : n < 10 ^ k) : (nw n).length <= k := by
 have z := PyProof.Rows.toString_length_le (v := (n : Int)) (by omega) hk (by
  have e : ((10 : Int) ^ k) = ((10 ^ k : Nat) : Int) := by
   first
    | exact (Int.natCast_pow 10 k).symm
    | simp
  rw [e]
  first | exact Int.ofNat_lt.mpr h | omega)
 rw [Bs, yc] at z
 exact z
end TL
end
namespace L2
open PySem PySem.Spec PyProof.Rows
theorem iK : ∀ {ys : List Str} {us : List Value}, aR (ys.map V.str) us -> StrsAre us ys
 | [], _, .nil => .nil
 | y :: ys, _, .cons r t => by
   obtain ⟨k, rfl⟩ := r
   exact .cons y k (iK t)
section
variable {X : Cx} {pins : List (Addr × Obj)} {σ : St} {H : Hp} {s : Shared} {Q : VK}
end
section
variable {X : Cx}
theorem Am : CI X "str.join" (fun x xs H Q => ∃ a p, ∃ ys : List Str, x = .str a /\ xs = [.ref p] /\ (bj X.K H p (ys.map V.str) \/ fV X.K H p (ys.map V.str)) /\
 (ys.map (·.length)).sum + ys.length * a.length <= 16777216 /\ Q (.str (Txt.join a ys)) H) := by
 intro pins s σ H x xs v us Q I rx rs h
 obtain ⟨a, p, ys, rfl, rfl, hp, hz, h⟩ := h
 obtain ⟨t, rfl⟩ := rx
 cases rs with
 | cons r1 rs =>
   cases rs
   cases r1
   rcases hp with hp | hp
   ·obtain ⟨its, r, ⟨o, n, ho, hc, _, hd⟩, _⟩ := I.list hp
    exact PyProof.Rows.join_list (items := its.toArray) ⟨o, ho, hc, n, hd⟩ (by rw [List.toList_toArray]; exact iK r) hz fun t' k => ⟨.str _, H, I.tok k, ⟨t', rfl⟩, h⟩
   ·obtain ⟨its, r, ht, _⟩ := I.tuple hp
    exact PyProof.Rows.join_tuple (items := its.toArray) ht (by rw [List.toList_toArray]; exact iK r) hz fun t' k => ⟨.str _, H, I.tok k, ⟨t', rfl⟩, h⟩
theorem rX : gP X (.type "int") (fun xs H Q => ∃ a n, xs = [.str a] /\ PySem.intText? a = some n /\ a.length <= 640 /\ Q (.int n) H) := by
 intro pins s σ H xs us Q I rs h
 obtain ⟨a, n, rfl, hn, hl, h⟩ := h
 cases rs with
 | cons r1 rs =>
   cases rs
   obtain ⟨t, rfl⟩ := r1
   exact W.KIN.call_text hn hl ⟨.int n, H, I.tok _, ⟨_, rfl⟩, h⟩
end
section
variable {X : Cx} {o e : Expr} {to te : TE}
def DQ (r : V -> List V -> Hp -> VK -> Prop) (to te : TE) : TE := fun σ H Q => to σ H fun x H1 => (∃ a, x = .str a) /\ te σ H1 fun y H2 => r x [y] H2 Q
theorem Ck {id : String} {name : Str} {apos pos : Pos} {r : V -> List V -> Hp -> VK -> Prop} (slot : Slot "str" name id) (ty : typeOf (.builtin id) = pure (.type "method_descriptor")) (rule : CI X id r) (ho : PE X o to) (he : PE X e te)
 (hs : starEach [e] X.env = [(false, eval e X.env)] := by rfl) (hbase : attributeBase o name X.env (eval o X.env) = eval o X.env := by rfl) (hline : (apos.endLine == pos.line) = true := by rfl) :
 PE X (.Call (.Attribute o name apos) [e] [] pos) (DQ r to te) := by
 intro pins s σ H Q I h
 refine PySem.Call_method1 hbase hs hline (bS (ho pins s σ H _ I h) fun v s1 ⟨x, H1, I1, r1, q1⟩ => ?_)
 obtain ⟨⟨a, rfl⟩, q1⟩ := q1
 obtain ⟨t, rfl⟩ := _root_.id r1
 refine ⟨"str", _, F.plainAttrs_str, slot, ty, typeIs_str _ _ _, (fun _ e => nomatch e), Calls.callWith_builtin rfl (Calls.evalArgs_plain (Calls.spliced_cons ?_))⟩
 exact bS (he pins s1 σ H1 _ I1 q1) fun u s2 ⟨y, H2, I2, r2, q2⟩ => Calls.spliced_nil (rule pins s2 σ H2 _ [y] _ [u] Q I2 r1 (.cons r2 .nil) q2)
theorem rk {apos pos : Pos} (ho : PE X o to) (he : PE X e te) (hs : starEach [e] X.env = [(false, eval e X.env)] := by rfl) (hbase : attributeBase o "join" X.env (eval o X.env) = eval o X.env := by rfl) (hline : (apos.endLine == pos.line) = true := by rfl) :
 PE X (.Call (.Attribute o "join" apos) [e] [] pos) (DQ (fun x xs H Q => ∃ a p, ∃ ys : List Str, x = .str a /\ xs = [.ref p] /\ (bj X.K H p (ys.map V.str) \/ fV X.K H p (ys.map V.str)) /\
  (ys.map (·.length)).sum + ys.length * a.length <= 16777216 /\ Q (.str (Txt.join a ys)) H) to te) :=
 Ck F.slot_str_join F.type_str_join Am ho he hs hbase hline
end
end L2
namespace L2
open PySem PySem.Spec PyProof.Rows
section
variable {X : Cx}
end
end L2
namespace Att
open PySem PySem.W PySem.Calls PyProof.Rows
section
variable {prog : Program} {w : World} {A : Around} {E : Value -> Shared -> Prop} {s : Shared} {K : Frag}
theorem call_fn {R : Result -> Shared -> Prop} {name qual : Str} {params : Arguments} {body : List Stmt} {scope : Scope} {dV kV doc pm cdv ct oc : Value} {an od : Option Addr} {osl : Array (Option Value)} {f : Addr} {args : Args} {binds : List (Str × Value)}
 (X : K.In s.heap) (hlim : s.heap.NoLimit) (ho : K.lookup f = some ⟨oc, od, .func (fnOf name qual params body scope dV kV doc pm an cdv ct), osl⟩) (hcd : codeIn K cdv qual = true) (hroom : A.depth < recursionLimit)
 (hbind : BindsTo s (fnOf name qual params body scope dV kV doc pm an cdv ct) args binds)
 (hkind : (binds.all fun y => scope.names.lookup y.1 == some .local || scope.names.lookup y.1 == some .cell) = true)
 (h : ∀ s₁, InCallC s s.heap.objs.size (bindL (envOfC qual scope s.heap.objs.size f cdv).kindOf binds fun _ => none) (cellsFrom (s.heap.objs.size + 1) scope.names [])
  (bindC (envOfC qual scope s.heap.objs.size f cdv).kindOf binds fun _ => none) s₁ ->
  wpAny (model prog w) (A.deeper (envOfC qual scope s.heap.objs.size f cdv)) (execs body (envOfC qual scope s.heap.objs.size f cdv))
   (fun fl s' => R (.ok (.ret (match fl with | .ret v => v | _ => .none))) s')
   (fun e s' => wpAny (model prog w) (A.deeper (envOfC qual scope s.heap.objs.size f cdv)) (leaving (envOfC qual scope s.heap.objs.size f cdv) e) (fun _ s'' => R (.error e) s'') (fun e' s'' => R (.error e') s'') s') s₁)
 (hco : scope.isCoroutine = false) (hgen : scope.isGenerator = false) (hk : scope.kind = .function) : codeAny (model prog w) A (.call (.ref f) args) R s := by
 refine codeAny_call_function hroom (X _ _ ho) rfl hco hgen rfl (codeRec_of X hcd) (hbind _ _ _ _ ?_)
 refine wpAny_newFunctionEnv_cells hk (kindsX hkind _) fun env he s₁ x => ?_
 subst he
 exact ⟨hlim.keeps x.toInCall.keep, codeAny_func (h s₁ x)⟩
end
end Att
namespace L2
open PySem PySem.Spec PyProof.Rows
end L2
namespace L2
open PySem PySem.Spec PyProof.Rows
end L2
/- THE LAST THEOREM (shape; LID, My.* are yours):
 My.Adr: a structure of the addresses that your layer names (classes, functions); My.Txt K t: a structure (Prop) of the equations over K;
 My.txt_mk : {K} {implicit addresses ..} (e1 : nsIn K mainGlobals "law" = some (some (.ref f))) (e2 : K.lookup f = some ⟨oc, od, .func (fnOf "law" "law" params body scope dV kV doc pm an cdv ct), sl⟩) (e3 : codeIn K cdv "law" = true) .. : ∃ t, My.Txt K t
theorem PySem.Challenge.cw_LID_holds : PySem.Challenge.rw_LID.Holds := by
 w_on; o_law; k_head; (case hw => w_witness2)
 k_fill
 refine L2.walk_of (l := PySem.Challenge.rw_LID) (n := 63) (k := 40) (x := "script") (CX := fun w => ..) (sp := fun _ => My.sp_law) rfl (by decide) rfl ⟨rfl, by decide, by decide⟩ (fun w h Y => W.kIn_of Y) ?F ?S ?C
 case F =>
  intro w mg fa h KX G hmg
  have T : ∃ t, My.Txt (L2.KOf KX) t := by
   dsimp only [L2.KOf]                          -- K must stand as «<heap const> w.params» for k_is
   refine' My.txt_mk ?e1 ?e2 ?e3 ..
   (case e1 => W.k_is)                    -- in the order: a name -> its address -> its object -> its parts
   (case e2 => W.k_is)
   ..
  obtain ⟨t, T⟩ := T
  have e0 := hmg.symm.trans (W.mg_of KX G T.law)
  cases e0                                       -- fa is the law's own address
  exact ⟨_, fun s u => .of_eq rfl, fun base kb nb => My.law_fn T kb nb⟩     -- if «.of_eq rfl» comes too early: refine' ⟨_, ?b, fun base kb nb => My.law_fn T kb nb⟩; exact fun s u => .of_eq rfl
 case S => exact fun w H a ns hl hO hS => ..
 case C => exact ..
(the tactic k_is has no namespace: write k_is) -/
namespace L2
open PySem PySem.Spec PyProof.Rows
def cw (s : Stmt) (j : Nat) : Stmt := match s with
 | .ClassDef _ _ _ body _ _ _ _ _ _ _ => body.getD j (.Pass ⟨0, 0, 0, 0⟩)
 | _ => .Pass ⟨0, 0, 0, 0⟩
def i6 (s : Stmt) : Arguments := match s with
 | .FunctionDef _ a _ _ _ _ _ _ _ _ => a
 | _ => { posonlyargs := [], args := [], vararg := none, kwonlyargs := [], kw_defaults := [], kwarg := none, defaults := [] }
def gZ (s : Stmt) : List Stmt := match s with
 | .FunctionDef _ _ b _ _ _ _ _ _ _ => b
 | _ => []
def ai (s : Stmt) : Scope := match s with
 | .FunctionDef _ _ _ _ _ _ sc _ _ _ => sc
 | _ => { kind := .function, names := [], isGenerator := false, isCoroutine := false }
abbrev aT : CXT := fun _ _ _ _ _ _ => False
abbrev E0 : XK := fun _ _ _ => False
theorem ay {X : Cx} : du aT X E0 := fun _ _ _ _ _ _ _ h => h.elim
structure b7 (K : W.Frag) (x qual : Str) (st : Stmt) (f : Addr) (fd : FuncData) : Prop where
 ex : ∃ (oc : Value) (od : Option Addr) (kV doc pm : Value) (an : Option Addr) (cdv ct : Value) (osl : Array (Option Value)),
  fd = W.fnOf x qual (i6 st) (gZ st) (ai st) .none kV doc pm an cdv ct /\ K.lookup f = some ⟨oc, od, .func fd, osl⟩ /\ W.codeIn K cdv qual = true
 kp : W.keepIn K (.ref f) = true
section
variable {P : Program} {w : World} {K : W.Frag} {mg : Str -> Option Value} {base : Heap}
theorem b7.ok {x qual : Str} {st : Stmt} {f : Addr} {fd : FuncData} {N ps : List Str} {k : Nat} {sp : Sp} (F : b7 K x qual st f fd) (S : ao N ps (ai st)) (len : ∀ vs H Q E, sp vs H Q E -> vs.length = ps.length)
 (hbody : ∀ (cdv : Value) (A : Around) (outer : List Env) (s : Shared) (H : Hp) (vs : List V) (Q : VK) (E : XK), dq k (A.deeper (envOfC qual (ai st) s.heap.objs.size f cdv)) -> sp vs H Q E ->
  ∃ t, uh (fg aT P w K mg base N qual (ai st) f cdv A outer s H E).nox (gZ st) t /\ t { nx := fun _ H' => Q .non H', rt := Q } (start N vs) H) : aP P w K mg base aT (k + 1) f fd ps sp := by
 obtain ⟨oc, od, kV, doc, pm, an, cdv, ct, osl, rfl, lk, hcd⟩ := F.ex
 refine AZ lk hcd S len fun A outer s H vs Q E hr hsp => ?_
 obtain ⟨t, h, q⟩ := hbody cdv A outer s H vs Q E hr hsp
 exact ⟨t, h.nox, q⟩
theorem b7.binds {x qual : Str} {st : Stmt} {f : Addr} {fd : FuncData} {ps : List Str} (F : b7 K x qual st f fd)
 (h : ∀ (kV doc pm : Value) (an : Option Addr) (cdv ct : Value) (us : List Value), us.length = ps.length -> bindArgs (W.fnOf x qual (i6 st) (gZ st) (ai st) .none kV doc pm an cdv ct) ⟨us, []⟩ = pure (ps.zip us)) : aB K fd ps [] := by
 obtain ⟨oc, od, kV, doc, pm, an, cdv, ct, osl, rfl, lk, hcd⟩ := F.ex
 exact .all (h kV doc pm an cdv ct)
end
theorem bG {A : Around} {k : Nat} (hr : dq k A) : A.units + 1 < cLine := Nat.lt_of_le_of_lt (Nat.add_le_add_left (by decide : 1 <= 64) _) hr.units
section
variable {X : Cx}
theorem pv (i : Nat) {x : Str} {pos : Pos} (hN : X.N[i]? = some x := by rfl) (hv : BX X.env.scope x := by first | exact Or.inl rfl | exact Or.inr (Or.inl rfl) | exact Or.inr (Or.inr rfl)) (hd : (x == ("__debug__" : Str)) = false := by decide)
 (hcd : (x == ("__classdict__" : Str)) = false := by decide) : PE X (.Name x pos) (sG i) := yF hN hv hd hcd
end
theorem iE {A B : Prop} (h : B) : if false = true then A else B := by
 rw [if_neg Bool.false_ne_true]
 exact h
theorem j1 {A B : Prop} (h : A) : if true = true then A else B := by
 rw [if_pos rfl]
 exact h
theorem bq {c A B : Prop} [Decidable c] (h1 : c -> A) (h2 : ¬ c -> B) : if c then A else B := by
 by_cases h : c
 ·rw [if_pos h]
  exact h1 h
 ·rw [if_neg h]
  exact h2 h
def ax (H H' : Hp) : Prop := ∀ b o, H b = some o -> H' b = some o
theorem ax.refl (H : Hp) : ax H H := fun _ _ h => h
theorem ax.trans {H H1 H2 : Hp} (a : ax H H1) (b : ax H1 H2) : ax H H2 := fun c o h => b c o (a c o h)
theorem ax.free {H H' : Hp} (e : ax H H') {l : Addr} (h : H' l = Option.none) : H l = Option.none := by
 cases q : H l with
 | none => rfl
 | some o =>
   rw [e l o q] at h
   cases h
theorem ax.seq {K : W.Frag} {H H' : Hp} {a : Addr} {xs : List V} (e : ax H H') (h : bj K H a xs) : bj K H' a xs := by
 rcases h with (h | ⟨o, h⟩) | h
 ·exact .inl (.inl (e _ _ h))
 ·exact .inl (.inr ⟨o, e _ _ h⟩)
 ·exact .inr h
section
variable {κ : Type} [DecidableEq κ]
end
theorem zr {xs : List V} {z : Int} {j : Nat} {v : V} (e : z = (j : Int)) (h : xs[j]? = some v) : zt xs z = some v := by
 rw [e]
 exact AD h
end L2
end
section
namespace Db
open PySem PySem.Spec PyProof.Rows L2
def bC (i : Nat) : Stmt := PySem.Challenge.pw_dealboards_s01_answers.main.body.getD i (.Pass ⟨0, 0, 0, 0⟩)
abbrev dW : Stmt := bC 7
abbrev jQ : Stmt := bC 8
abbrev gG : Stmt := bC 9
abbrev jP : Stmt := bC 10
abbrev gF : Stmt := bC 11
abbrev cb : Stmt := bC 12
abbrev dU : Stmt := bC 13
abbrev fz : Stmt := bC 14
abbrev iQ : Stmt := bC 15
abbrev qW : Stmt := bC 16
abbrev io : Stmt := bC 17
abbrev gh : Stmt := bC 18
abbrev fv : Stmt := bC 19
abbrev fL : Stmt := bC 20
abbrev kP : Stmt := bC 21
abbrev cM : Stmt := bC 23
abbrev gX : Stmt := bC 24
abbrev kO : Stmt := bC 29
abbrev cP : Stmt := bC 30
abbrev cH : Stmt := bC 31
abbrev cr : Stmt := bC 32
abbrev gW : Stmt := bC 35
abbrev eJ : Stmt := bC 36
abbrev dX : Stmt := bC 37
abbrev eM : Stmt := bC 38
abbrev cK : Stmt := bC 39
abbrev dA : Stmt := bC 40
abbrev dz : Stmt := bC 41
abbrev fM : Stmt := bC 42
abbrev eK : Stmt := bC 43
abbrev bi : Stmt := cw (bC 54) 0
abbrev cY : Stmt := cw (bC 55) 0
abbrev bw : Stmt := cw (bC 55) 1
abbrev bO : Stmt := cw (bC 55) 2
abbrev bN : Stmt := cw (bC 55) 3
abbrev bJ : Stmt := cw (bC 55) 4
abbrev bL : Stmt := cw (bC 55) 5
abbrev bI : Stmt := cw (bC 55) 6
abbrev bM : Stmt := cw (bC 55) 7
abbrev bK : Stmt := cw (bC 55) 8
abbrev bW : Stmt := cw (bC 55) 9
abbrev dB : Stmt := bC 56
abbrev dy : Stmt := bC 57
abbrev eL : Stmt := bC 58
abbrev cF : Stmt := bC 59
abbrev fB : Stmt := bC 70
abbrev eO : Stmt := bC 71
abbrev eQ : Stmt := bC 72
abbrev d4 : Stmt := bC 73
abbrev fG : Stmt := bC 74
abbrev gj : Stmt := bC 75
abbrev eP : Stmt := bC 76
abbrev dC : Stmt := bC 77
abbrev dZ : Stmt := bC 78
abbrev eN : Stmt := bC 79
abbrev fF : Stmt := bC 80
abbrev cX : Stmt := bC 81
abbrev fw : Stmt := bC 82
abbrev dY : Stmt := bC 83
abbrev bu : Stmt := bC 84
abbrev fE : Stmt := bC 85
abbrev d5 : Stmt := bC 86
abbrev fD : Stmt := bC 87
abbrev eS : Stmt := bC 88
abbrev d6 : Stmt := bC 89
abbrev fC : Stmt := bC 90
abbrev fA : Stmt := bC 91
abbrev cZ : Stmt := cw (bC 93) 0
abbrev bY : Stmt := cw (bC 93) 1
abbrev br : Stmt := cw (bC 93) 2
abbrev bX : Stmt := cw (bC 93) 3
abbrev bP : Stmt := cw (bC 93) 4
abbrev iR : Stmt := bC 94
abbrev cG : Stmt := bC 95
abbrev dh : Stmt := bC 96
abbrev cO : Stmt := bC 97
abbrev cW : Stmt := bC 98
abbrev fj : Stmt := bC 99
end Db
end
section
namespace Db
open PySem PySem.Spec PyProof.Rows L2
def AY : List Addr -> List Obj -> W.Frag
 | a :: as, o :: os => match W.alive o with
   | some u => (a, u) :: AY as os
   | none => AY as os
 | _, _ => []
theorem zc {a : Addr} {o : Obj} : ∀ (as : List Addr) (os : List Obj), (AY as os).lookup a = some o -> ∃ (i : Nat) (u : Obj), as[i]? = some a /\ os[i]? = some u /\ W.alive u = some o
 | [], _, e => by cases e
 | _ :: _, [], e => by cases e
 | b :: as, v :: os, e => by
   have next : (AY as os).lookup a = some o -> ∃ (i : Nat) (u : Obj), (b :: as)[i]? = some a /\ (v :: os)[i]? = some u /\ W.alive u = some o := fun q => by
    obtain ⟨i, u, h1, h2, h3⟩ := zc as os q
    exact ⟨i + 1, u, h1, h2, h3⟩
   unfold AY at e
   cases g : W.alive v with
   | none =>
     rw [g] at e
     exact next e
   | some u =>
     rw [g] at e
     dsimp only at e
     rw [List.lookup_cons] at e
     cases q : (a == b) with
     | true =>
       rw [q] at e
       cases e
       exact ⟨0, v, by rw [beq_iff_eq.mp q]; rfl, rfl, g⟩
     | false =>
       rw [q] at e
       exact next e
theorem xK {h : Heap} {a : Addr} {u o : Obj} (e : h.objs[a]? = some u) (k : W.alive u = some o) : h.get? a = some o := by
 unfold Heap.get?
 rw [e]
 obtain ⟨c, d, dt, sl⟩ := u
 cases dt <;> first | exact k | cases k
theorem BB (h : Heap) (n : Nat) : W.Frag.In (AY (List.range n) h.objs.toList) h := fun a o e => by
 obtain ⟨i, u, h1, h2, h3⟩ := zc _ _ e
 have lt := (List.getElem?_eq_some_iff.mp h1).1
 rw [List.length_range] at lt
 rw [List.getElem?_range lt] at h1
 cases h1
 rw [Array.getElem?_toList] at h2
 exact xK h2 h3
def vw : Value -> Option V
 | .int n _ => some (.int n)
 | .bool b => some (.bl b)
 | .str s _ => some (.str s)
 | .ref a => some (.ref a)
 | _ => none
def qN (e : DictEntry) : Bool := match e.key with
 | .str _ _ => true
 | _ => false
section
variable (K : W.Frag)
def gV (x : Str) : Option V := match W.nsIn K mainGlobals x with
 | some (some v) => vw v
 | _ => none
def A9 (p : Addr) : Option (Value × List V) := match K.lookup p with
 | some ⟨c, _, .seq its _, _⟩ => (its.toList.mapM vw).map fun l => (c, l)
 | _ => none
def bare (fd : FuncData) : FuncData := { fd with kwdefaults := .none, doc := .none, pyModule := .none, annotations := none, code := .none, closureTuple := .none }
def ze (x qual : Str) (st : Stmt) : FuncData := W.fnOf x qual (i6 st) (gZ st) (ai st) .none .none .none .none none .none .none
def Cu (qual : Str) (f : Addr) : Option (Value × FuncData × Bool × Bool) := match K.lookup f with
 | some ⟨oc, _, .func fd, _⟩ => some (oc, bare fd, W.codeIn K fd.code qual, W.keepIn K (.ref f))
 | _ => none
def DF (x : Str) : Option (FuncData × Bool × Bool) := match W.nsIn K mainGlobals x with
 | some (some (.ref f)) => (Cu K x f).map (·.2)
 | _ => none
def DE (C : Addr) (m qual : Str) : Option (Bool × FuncData × Bool × Bool) := match W.findIn K (.ref C) m with
 | some (some (.ref f)) => (Cu K qual f).map fun y => (W.isFn K (.ref f), y.2)
 | _ => none
def C3 (x : Str) (fs : List Str) (ms : List (Str × Str)) : Option (Bool × Option (Option Value) × List (Option (Option Value)) × List (Option (Bool × FuncData × Bool × Bool))) := match W.nsIn K mainGlobals x with
 | some (some (.ref C)) => some (W.plainGet K C Str.empty && W.hasDictIn K C && W.plainOver K C && W.makesIn K C && W.keepIn K (.ref C), W.findIn K (.ref C) "__setattr__", fs.map (W.findIn K (.ref C)), ms.map fun y => DE K C y.1 y.2)
 | _ => none
def mU {β : Type} (f : Addr -> Option β) : Value -> Option β
 | .ref z => f z
 | _ => none
def CW (x : Str) : Option (Value × List V) := match W.nsIn K mainGlobals x with
 | some (some (.ref p)) => A9 K p
 | _ => none
def C7 : Option (Value × Bool × List Value × Bool × Bool × Option Value × Bool × Bool × List (Option (Option Value)) × Option (Value × FuncData × Bool × Bool)) := match W.nsIn K mainGlobals "TextFault" with
 | some (some (.ref C)) => match K.lookup C with
   | some ⟨t, _, .cls ⟨_, _, [.ref C', m1, m2, m3], N, _, b1, _, _, _, _, b2⟩, ⟨[_, _, _, _, k4, _]⟩⟩ => match K.lookup N, W.nsIn K N "__init__" with
     | some ⟨_, _, .dict es _, _⟩, some (some (.ref fI)) => some (t, Nat.beq C C', [m1, m2, m3], b1, b2, k4, es.toList.all qN, W.keepIn K (.ref C), (["__setattr__", "__getattribute__", "__getattr__", "kind", "place"] : List Str).map (W.nsIn K N), Cu K "TextFault.__init__" fI)
     | _, _ => none
   | _ => none
 | _ => none
def Cv (nm : Str) (a : Addr) : Option (Value × Bool × Bool × (Value × List V) × Value × List (Value × List V)) := match K.lookup a with
 | some ⟨c, _, .seq ⟨[.ref f, .bool b, .ref bnd, .ref shp]⟩ _, _⟩ => match W.nsIn K mainGlobals nm, A9 K bnd, K.lookup shp with
   | some (some (.ref g)), some y, some ⟨c2, _, .seq its _, _⟩ => (its.toList.mapM (mU (A9 K))).map fun l => (c, Nat.beq f g, b, y, c2, l)
   | _, _, _ => none
 | _ => none
def DD (nms : List Str) : Option (Value × Nat × List (Option (Value × Bool × Bool × (Value × List V) × Value × List (Value × List V)))) := match W.nsIn K mainGlobals "FORMS" with
 | some (some (.ref a)) => match K.lookup a with
   | some ⟨c, _, .seq its _, _⟩ => some (c, its.toList.length, (its.toList.zip nms).map fun y => mU (Cv K y.2) y.1)
   | _ => none
 | _ => none
end
end Db
end
section
namespace Db
open PySem PySem.Spec PyProof.Rows L2
def C2 : List (Str × Bool × List Int × List (Int × Int × Int)) := [("answer_read", false, [15], [(0, 200, 255)]), ("answer_shown", true, [15], []), ("answer_count", true, [15], []), ("answer_number", true, [15], []), ("answer_deal", false, [15], [(0, 40, 9)]), ("answer_nth", true, [15, 15], [(0, 40, 9)]), ("answer_place", true, [15, 15], []), ("answer_session", false, [15, 1000000000], [(0, 40, 9)]), ("answer_rotate", true, [15, 3], []), ("answer_suits", true, [15], [(4, 4, 3)]), ("answer_hand", true, [15, 3], []), ("answer_features", true, [15, 3], []), ("answer_curtain", true, [15], [(0, 52, 51), (0, 52, 51), (0, 52, 51), (0, 52, 51)]), ("answer_know", true, [15, 51, 3], []), ("answer_forget", true, [15, 51], []), ("answer_meet", true, [15, 15, 15], []), ("answer_clear", false, [15], []), ("answer_chance", true, [15, 51, 3], []), ("answer_next", true, [15], []), ("answer_sure", true, [15], [])]
def C4 : List (Str × V) := [("SEATS", .int 4), ("RANKS", .int 13), ("CARDS", .int 52), ("HAND_SIZE", .int 13), ("NOBODY", .int 4), ("CLUBS", .int 0), ("CANNOT_GO_ON", .int 1), ("RANK_NOT_BELOW", .int 2), ("CARD_TOLD_BEFORE", .int 3), ("FOURTEENTH_CARD", .int 4), ("MARK_MISSING", .int 5), ("MARK_TOO_MUCH", .int 6), ("DONE", .int 0), ("OUT_OF_RANGE", .int (-1)), ("NO_BOARD", .int (-2)), ("NOT_WHOLE", .int (-3)), ("NO_SUCH_NUMBER", .int (-4)), ("AT_ODDS", .int (-5)), ("NOT_ALL_SUITS", .int (-6)), ("CARD_TWICE", .int (-7)), ("NO_ROOM", .int (-8)), ("SEAT_SIGNS", .str "NESW"), ("RANK_SIGNS", .str "23456789TJQKA")]
def CY : List (Str × List V) := [("SUITS_AS_TOLD", [.int 3, .int 2, .int 1, .int 0]), ("POINTS", [.int 0, .int 0, .int 0, .int 0, .int 0, .int 0, .int 0, .int 0, .int 0, .int 1, .int 2, .int 3, .int 4]), ("CONTROLS", [.int 0, .int 0, .int 0, .int 0, .int 0, .int 0, .int 0, .int 0, .int 0, .int 0, .int 0, .int 1, .int 2]), ("WINNING_RANKS", [.int 12, .int 11, .int 10]), ("SESSION_PRIMES", [.int 53, .int 59, .int 61, .int 67, .int 71, .int 73, .int 79, .int 83, .int 89, .int 97, .int 101, .int 103, .int 107])]
def C0 : List Str := ["all", "any", "enumerate", "int", "len", "list", "min", "ord", "range", "set", "sorted", "str", "sum", "zip"]
def DH : List (Str × Stmt) := ("nothing_known", dW) :: ("card_of", jQ) :: ("room_of", jP) :: ("rooms_of", gF) :: ("unknown_cards", dU) :: ("known_cards", fz) :: ("is_whole", iQ) :: ("fits", qW) :: ("rotated", io) :: ("with_suits", gh) :: ("cards_of", gG) :: ("seats_with_room", cb) :: ("with_holder", fv) :: ("with_rest", fL) :: ("joined", kP) :: ("greatest_divisor", cM) :: ("chance_of", gX) :: ("worth", kO) :: ("ranks_in_suit", cP) :: ("losers_of_suit", cH) :: ("features_of", cr) :: ("factorial", gW) :: ("ways_to_fill", eJ) :: ("count_of_fits", dX) :: ("count_of_all", eM) :: ("place_among_fits", cK) :: ("digits_of", fM) :: ("number_below", eK) :: ("session_number", dz) :: ("fit_with_place", dA) :: ("deal_from_text", dB) :: ("suit_signs", dy) :: ("hand_signs", eL) :: ("text_of_deal", cF) :: ("in_range", iR) :: ("plain_in_range", cG) :: ("row_in_range", dh) :: ("rows_in_range", cO) :: ("answer_shown", eO) :: ("answer_count", eQ) :: ("answer_number", d4) :: ("answer_deal", fG) :: ("answer_nth", gj) :: ("answer_session", dC) :: ("answer_rotate", dZ) :: ("answer_place", eP) :: ("answer_suits", eN) :: ("answer_read", fB) :: ("answer_hand", fF) :: ("answer_features", cX) :: ("answer_know", fE) :: ("answer_forget", d5) :: ("answer_meet", fD) :: ("answer_clear", eS) :: ("answer_chance", d6) :: ("answer_next", fC) :: ("answer_sure", fA) :: ("tells_twice", fw) :: ("behind_length", dY) :: ("answer_curtain", bu) :: ("answer_one_call", cW) :: ("answers", fj) :: []
def Dv : List (Str × Str × Stmt) := [("__init__", "TextReader.__init__", cY), ("stands_here", "TextReader.stands_here", bw), ("take_end", "TextReader.take_end", bW), ("rank_here", "TextReader.rank_here", bO), ("step_over", "TextReader.step_over", bN), ("take_seat", "TextReader.take_seat", bJ), ("take_card", "TextReader.take_card", bM), ("take_mark", "TextReader.take_mark", bK), ("take_suit", "TextReader.take_suit", bI), ("take_hand", "TextReader.take_hand", bL)]
def Dx : List (Str × Str × Stmt) := [("__init__", "CallReader.__init__", cZ), ("has_more", "CallReader.has_more", bY), ("take_numbers", "CallReader.take_numbers", br), ("take_row", "CallReader.take_row", bX), ("take_rows", "CallReader.take_rows", bP)]
def pW (K : W.Frag) := (C4.map (fun x => gV K x.1), CY.map (fun x => CW K x.1), C0.map (W.nsIn K mainGlobals), DH.map (fun x => DF K x.1), C3 K "TextReader" ["text", "at", "deal"] (Dv.map fun y => (y.1, y.2.1)), C3 K "CallReader" ["calls", "at"] (Dx.map fun y => (y.1, y.2.1)), C7 K, DD K (C2.map (·.1)))
def seenE := (C4.map (fun x => some x.2), CY.map (fun x => some (Value.type "tuple", x.2)), C0.map (fun _ => some (none : Option Value)), DH.map (fun x => some (ze x.1 x.1 x.2, true, true)), some (true, some (some (Value.builtin "object.__setattr__")), (["text", "at", "deal"] : List Str).map (fun _ => some (none : Option Value)), Dv.map fun y => some (true, ze y.1 y.2.1 y.2.2, true, true)), some (true, some (some (Value.builtin "object.__setattr__")), (["calls", "at"] : List Str).map (fun _ => some (none : Option Value)), Dx.map fun y => some (true, ze y.1 y.2.1 y.2.2, true, true)), some (Value.type "type", true, [Value.type "Exception", Value.type "BaseException", Value.type "object"], true, false, some (Value.builtin "Exception.__new__"), true, true, [some (none : Option Value), some none, some none, some none, some none], some (Value.type "function", ze "__init__" "TextFault.__init__" bi, true, true)), some (Value.type "tuple", C2.length, C2.map fun x => some (Value.type "tuple", true, x.2.1, (Value.type "tuple", x.2.2.1.map V.int), Value.type "tuple", x.2.2.2.map fun y => (Value.type "tuple", [V.int y.1, V.int y.2.1, V.int y.2.2]))))
end Db
end
section
namespace Db
open PySem PySem.W PySem.Calls PyProof.Rows
def zp : List Obj -> Nat -> BT -> Option BT
 | [], _, t => some t
 | o :: os, n, t => match (t.ins n o).get n with
   | some _ => zp os (n + 1) (t.ins n o)
   | none => none
theorem wK (life : Life) : ∀ (l : List Obj) (n : Nat) (t t' : BT) (pre : List Obj), zp l n t = some t' -> absHeap t n life = ⟨pre.toArray, life⟩ -> absHeap t' (n + l.length) life = ⟨(pre ++ l).toArray, life⟩
 | [], n, t, t', pre, h, e => by
   obtain rfl : t = t' := Option.some.inj h
   rw [List.append_nil]
   exact e
 | o :: os, n, t, t', pre, h, e => by
   unfold zp at h
   cases g : (t.ins n o).get n with
   | none =>
     rw [g] at h
     cases h
   | some z =>
     rw [g] at h
     have e1 : absHeap (t.ins n o) (n + 1) life = ⟨(pre ++ [o]).toArray, life⟩ := by
      rw [absHeap_ins (by rw [g]; rfl), e]
      show Heap.mk (pre.toArray.push o) life = _
      rw [List.push_toArray]
     have := wK life os (n + 1) _ t' (pre ++ [o]) h e1
     rw [List.append_assoc] at this
     rw [show n + (o :: os).length = n + 1 + os.length by rw [List.length_cons]; omega]
     exact this
def uB {β : Type} (G : Option (Shared × Thread)) (F : SharedT -> Option (Flow × SharedT × Code × Pos)) (E : Shared -> Pos -> Option Shared) (L : Shared -> β) : Option (Thread × Flow × Code × Pos × β) :=
 match G with
 | none => none
 | some (⟨⟨objs, life⟩, gens, drawn, toks, os⟩, ta) => match zp objs.toList 0 .nil with
   | none => none
   | some t => match F ⟨t, objs.size, life, gens, drawn, toks, os⟩ with
     | none => none
     | some (f, sT, c, p) => match E sT.abs p with
       | none => none
       | some s => some (ta, f, c, p, L s)
section
variable {tb : String -> Option Builtin} {p : Program} {w : World} {m : Nat} {ann : Option Value} {env : Env} {q : Pos}
theorem uA {β : Type} {L : Shared -> β} {r : β} {n1 n2 n3 n4 : Nat} {S : Shared} {stub : Thread} {b : List Stmt} {c : Code} {p0 p2 : Pos}
 (h : uB (topGo tb p w m ann n1 S stub) (fun s => segRunT tb p w m ann 1 n3 s ⟨(execs b env).wrap doneF deadEnd id id, c, p0, [topFrame q]⟩) (fun s z => topRun tb p w m ann n4 s ⟨doneF .next, c, z, [topFrame q]⟩) L = some (⟨denote tb (.body b env), c, p0, [topFrame q]⟩, .next, c, p2, r))
 (blk : ∀ s, segRun tb p w m ann 1 n2 s (blockOf b env c p0 [topFrame q]) = some (.next, s, c, p0)) : (topRun tb p w m ann (n1 + (n2 + (n3 + n4))) S stub).map L = some r := by
 unfold uB at h
 cases hG : topGo tb p w m ann n1 S stub with
 | none => rw [hG] at h; cases h
 | some z =>
   obtain ⟨⟨⟨objs, life⟩, gens, drawn, toks, os⟩, ta⟩ := z
   rw [hG] at h
   dsimp only at h
   cases hB : zp objs.toList 0 .nil with
   | none => rw [hB] at h; cases h
   | some t =>
     rw [hB] at h
     dsimp only at h
     cases hF : segRunT tb p w m ann 1 n3 ⟨t, objs.size, life, gens, drawn, toks, os⟩ ⟨(execs b env).wrap doneF deadEnd id id, c, p0, [topFrame q]⟩ with
     | none => rw [hF] at h; cases h
     | some y =>
       obtain ⟨f, sT, c', p'⟩ := y
       rw [hF] at h
       dsimp only at h
       cases hE : topRun tb p w m ann n4 sT.abs ⟨doneF .next, c, p', [topFrame q]⟩ with
       | none => rw [hE] at h; cases h
       | some s =>
         rw [hE] at h
         dsimp only at h
         obtain ⟨rfl, rfl, rfl, rfl, rfl⟩ : ta = _ /\ f = _ /\ c' = _ /\ p' = _ /\ L s = r := by simpa only [Option.some.injEq, Prod.mk.injEq] using h
         have ab : (⟨t, objs.size, life, gens, drawn, toks, os⟩ : SharedT).abs = ⟨⟨objs, life⟩, gens, drawn, toks, os⟩ := by
          have := wK life objs.toList 0 .nil t [] hB rfl
          show Shared.mk (absHeap t objs.size life) gens drawn toks os = _
          rw [Nat.zero_add, List.nil_append, Array.length_toList] at this
          rw [this]
         have seg := segRun_of hF
         rw [ab] at seg
         have k := piece_app (rest := []) seg (piece_nil hE)
         rw [List.append_nil] at k
         rw [go_top hG (piece_block (blk _) k)]
         rfl
end
structure A1 (p q : Program) (loose : List Str) (Xt : Shared -> Bool) {α : Type} (Yf : Shared -> α) (y : α) (h0 : Heap) (s : Shared) : Prop where
 ok : (staticsOk (importedModules p.main.body) h0 s.heap && namesBound p s.heap && gensDone s && laidKept h0 s.heap) = true
 seen : openSeen q loose (importedModules p.main.body) Xt true s = openGood q loose
 says : Yf s = y
theorem Aq {p q : Program} {loose : List Str} {Xt : Shared -> Bool} {α : Type} {Yf : Shared -> α} {Ya : World -> α} {N M m : Nat} {H : Params -> Heap} {gs : Array GenState} {d : Drawn} {k : Nat} {ann : Option Value}
 (op : ∀ w : World, (fencedOpening treeTable p w N).map (fun s => (s.heap, s.gens, s.drawn, s.toks)) = some (H w.params, gs, d, k))
 (sz : ∀ w : World, ((H w.params).isNs mainGlobals && gs.size == 0) = true /\ (H w.params).objs.size = m /\ (H w.params).nsMap mainGlobals "__annotations__" = ann)
 (run : ∀ (w : World) (os : OsState), ∃ s, topRun treeTable p w m ann M ⟨H w.params, gs, d, k, os⟩ (topStub p) = some s /\ A1 p q loose Xt Yf (Ya w) (H w.params) s) (le : M <= N) : LeftO p q loose Xt Yf Ya N := fun w => by
 obtain ⟨s0, e, e2⟩ := Option.map_eq_some_iff.mp (op w)
 obtain ⟨h, g, d2, k2, os⟩ := s0
 simp only [Prod.mk.injEq] at e2
 obtain ⟨rfl, rfl, rfl, rfl⟩ := e2
 obtain ⟨z1, z2, z3⟩ := sz w
 obtain ⟨s, r, t⟩ := run w os
 have r2 := topRun_mono (N - M) _ _ _ _ r
 rw [Nat.add_sub_cancel' le] at r2
 have t0 : topFrom treeTable p w N ⟨H w.params, g, d2, k2, os⟩ = some s := by
  unfold topFrom
  simp only [z1, z2, z3, r2, Option.bind_some, t.ok]
 unfold openEnds
 rw [e, Option.bind_some, t0, Option.map_some, t.seen, t.says]
end Db
end
section
namespace Db
open PySem PySem.W PySem.Calls PyProof.Rows
abbrev pw : Program := PySem.Challenge.pw_dealboards_s01_answers
abbrev p0 : Pos := ⟨0, 0, 0, 0⟩
abbrev bE : List Stmt := behindTheImports pw
abbrev AA : Env := { scope := pw.main.scope, locals := mainNs, globals := mainNs, cells := [], code := .ref 13, frame := some 14 }
abbrev cE : Code := .body bE AA
abbrev t8 : Option Value := some (.ref 6)
abbrev qE : Program := view pw ((List.range 100).filter fun i => !([0, 22, 25, 33, 44, 60] : List Nat).contains i)
abbrev AU : List Str := importedModules pw.main.body
abbrev CU (s : Shared) : Bool := xlAt qE [] s && recOk [] s
def pM : Hook where
 α := _
 obs := fun s => pW (AY (List.range s.heap.objs.size) s.heap.objs.toList)
 val := fun _ => seenE
 says := fun _ h => ∃ K : Frag, K.In h /\ pW K = seenE
 of := fun _ s e => ⟨_, BB s.heap _, e⟩
 keeps := fun _ _ _ ⟨K, X, e⟩ k => ⟨K, X.keeps k, e⟩
noncomputable abbrev S0 (w : World) (os : OsState) : Shared := ⟨boot_heap w.params, Array.mk [], boot_drawn, boot_toks, os⟩
noncomputable abbrev qY {β : Type} (w : World) (os : OsState) (L : Shared -> β) : Option (Thread × Flow × Code × Pos × β) :=
 uB (Fast.tw15667345088766844465 Fast.tw14364793385576792824 pw w 11 t8 12 (S0 w os) (topStub pw))
  (fun s => Fast.tw10110043849684766642 Fast.tw14364793385576792824 pw w 11 t8 1 3610 s ⟨(Fast.tw12563942051412417395 bE AA).wrap doneF deadEnd id id, cE, p0, [topFrame p0]⟩)
  (fun s p => Fast.tw14082659384304107361 Fast.tw14364793385576792824 pw w 11 t8 2 s ⟨doneF .next, cE, p, [topFrame p0]⟩) L
noncomputable abbrev rP {β : Type} (r : β) : Option (Thread × Flow × Code × Pos × β) := some (⟨Fast.tw11892475500146522536 Fast.tw14364793385576792824 cE, cE, p0, [topFrame p0]⟩, .next, cE, ⟨425, 0, 433, 15⟩, r)
theorem DI (w : World) (s : Shared) : segRun treeTable pw w 11 t8 1 1 s (blockOf bE AA cE p0 [topFrame p0]) = some (.next, s, cE, p0) := by kernel_rfl
theorem kd {β : Type} {L : Shared -> β} {r : β} {w : World} {os : OsState} (h : qY w os L = rP r) : (topRun treeTable pw w 11 t8 (12 + (1 + (3610 + 2))) (S0 w os) (topStub pw)).map L = some r := by
 refine uA (env := AA) (q := p0) (p0 := p0) (c := cE) (b := bE) (p2 := ⟨425, 0, 433, 15⟩) ?_ (DI w)
 unfold qY rP at h
 rw [<- Fast.te15667345088766844465, <- Fast.te14364793385576792824, <- Fast.te10110043849684766642, <- Fast.te12563942051412417395, <- Fast.te14082659384304107361, <- Fast.te11892475500146522536] at h
 exact h
theorem k1 (w : World) (os : OsState) : qY w os (fun s => ((staticsOk AU (boot_heap w.params) s.heap && namesBound pw s.heap && gensDone s && laidKept (boot_heap w.params) s.heap), s.heap.bltView, plainSeenD qE ["FORMS"] s, clsSeenW qE ["FORMS"] s)) = rP (true, bltViewBooted, plainGoodD qE ["FORMS"], clsGoodW qE ["FORMS"]) := by kernel_rfl
theorem k2 (w : World) (os : OsState) : qY w os (fun s => (Fast.tw5160383126252970620 ((recsOf qE).map (·.name)) (ownsOf qE) [] { s with gens := #[] }, pinSeenD qE (drecsOf qE) s)) = rP (expectedOf qE, pinGoodD (drecsOf qE)) := by kernel_rfl
theorem k3 (w : World) (os : OsState) : qY w os (fun s => s.heap.keysOk (looseW qE ["FORMS"]) ((recsOf qE).map (·.name)) ((litsOf qE).map (·.1)) ((clssOf qE (looseW qE ["FORMS"])).map (·.name)) && s.heap.accountedOkI AU && s.heap.isNs mainGlobals && s.heap.isNs builtinsNs && tablesOk qE s.heap && CU s && (if true then s.gens.size == 0 else !leftWithCleanup s.gens)) = rP true := by kernel_rfl
theorem k4 (w : World) (os : OsState) : qY w os (fun s => plainSeenE qE (looseW qE ["FORMS"]) s) = rP (plainGoodE qE (looseW qE ["FORMS"])) := by kernel_rfl
theorem k5 (w : World) (os : OsState) : qY w os (fun s => pW (AY (List.range s.heap.objs.size) s.heap.objs.toList)) = rP seenE := by kernel_rfl
theorem k6 (w : World) (os : OsState) : qY w os (fun s => wideSeen qE s) = rP (wideGood qE) := by kernel_rfl
theorem k7 (w : World) (os : OsState) : qY w os (fun s => tabsOk qE s) = rP true := by kernel_rfl
end Db
end
section
section
namespace L2
open PySem PySem.Spec PyProof.Rows
open PySem.W (WData Codec OpenSpec Well WellAll ReadsW ReadsAllW)
mutual
inductive Dw (K : W.Frag) (H : Hp) : V -> WData -> Prop
 | non : Dw K H .non .none
 | bl (b : Bool) : Dw K H (.bl b) (.bool b)
 | int (i : Int) : Dw K H (.int i) (.int i)
 | str (x : Str) : Dw K H (.str x) (.str x)
 | byt (b : Array UInt8) : Dw K H (.byt b) (.bytes b.toList)
 | lst {a : Addr} {xs : List V} {ds : List WData} : bj K H a xs -> jc K H xs ds -> Dw K H (.ref a) (.list ds)
 | tup {a : Addr} {xs : List V} {ds : List WData} : fV K H a xs -> jc K H xs ds -> Dw K H (.ref a) (.tuple ds)
inductive jc (K : W.Frag) (H : Hp) : List V -> List WData -> Prop
 | nil : jc K H [] []
 | cons {v : V} {vs : List V} {d : WData} {ds : List WData} : Dw K H v d -> jc K H vs ds -> jc K H (v :: vs) (d :: ds)
end
theorem wA {K : W.Frag} {H : Hp} : ∀ ns : List Int, jc K H (ns.map V.int) (ns.map WData.int)
 | [] => .nil
 | n :: r => .cons (.int n) (wA r)
theorem wo {K : W.Frag} {H : Hp} : ∀ (ns : List Int) (xs : List V), jc K H xs (ns.map WData.int) -> xs = ns.map V.int
 | [], xs, h => by
   cases h
   rfl
 | n :: r, xs, h => by
   cases h with
   | cons h1 h2 =>
     cases h1
     rw [wo r _ h2] <;> rfl
section
variable {P : Program} {w : World} {K : W.Frag} {H : Hp} {h : Heap} {R : W.WRecords} {cl : Str -> Option Addr}
theorem Bh {a : Addr} {xs : List V} (hok : jb P w H h) (KX : K.In h) (q : bj K H a xs) : ∃ (its : List Value) (o : Obj) (n : Nat), aR xs its /\ h.get? a = some o /\ o.cls = .type "list" /\ o.data = .seq its.toArray n := by
 rcases q with q | ⟨o, its, n, e, hc, _, hd, _, hv⟩
 ·obtain ⟨_, its, n, hv, e⟩ := (show bU P w H h a (.lst xs) from q.ok hok)
  exact ⟨its, _, n, hv, e, rfl, rfl⟩
 ·exact ⟨its.toList, o, n, hv, KX _ _ e, hc, by simp [hd]⟩
theorem Bg {a : Addr} {xs : List V} (hok : jb P w H h) (KX : K.In h) (q : fV K H a xs) : ∃ (its : List Value) (o : Obj) (n : Nat), aR xs its /\ h.get? a = some o /\ o.cls = .type "tuple" /\ o.data = .seq its.toArray n := by
 rcases q with q | ⟨o, its, n, e, hc, hd, _, hv⟩
 ·obtain ⟨_, its, hv, o, e, hc, n, hd⟩ := (show bU P w H h a (.tup xs) from q.ok hok)
  exact ⟨its, o, n, hv, e, hc, hd⟩
 ·exact ⟨its.toList, o, n, hv, KX _ _ e, hc, by simp [hd]⟩
mutual
theorem Dw.reads (hok : jb P w H h) (KX : K.In h) : ∀ (d : WData) (v : V) (u : Value), Dw K H v d -> aZ v u -> ∃ as, ReadsW R cl h u d as
 | .none, _, _, x, r => by
   cases x
   cases r
   exact ⟨_, ReadsW.none⟩
 | .bool b, _, _, x, r => by
   cases x
   cases r
   exact ⟨_, ReadsW.bool b⟩
 | .int i, _, _, x, r => by
   cases x
   obtain ⟨t, rfl⟩ := r
   exact ⟨_, ReadsW.int i t⟩
 | .str s, _, _, x, r => by
   cases x
   obtain ⟨t, rfl⟩ := r
   exact ⟨_, ReadsW.str s t⟩
 | .bytes b, _, _, x, r => by
   cases x
   obtain ⟨t, rfl⟩ := r
   exact ⟨_, ReadsW.bytes _ t⟩
 | .list ds, _, _, x, r => by
   cases x with
   | lst hs ha =>
     cases r
     obtain ⟨its, o, n, rv, ho, hc, hd⟩ := Bh hok KX hs
     obtain ⟨as, hr⟩ := Dw.readsAll hok KX ds _ its ha rv
     exact ⟨_, ReadsW.list ho hc hd hr⟩
 | .tuple ds, _, _, x, r => by
   cases x with
   | tup hs ha =>
     cases r
     obtain ⟨its, o, n, rv, ho, hc, hd⟩ := Bg hok KX hs
     obtain ⟨as, hr⟩ := Dw.readsAll hok KX ds _ its ha rv
     exact ⟨_, ReadsW.tuple ho hc hd hr⟩
 | .float _, _, _, x, _ => by cases x
 | .dict _, _, _, x, _ => by cases x
 | .bytearray _, _, _, x, _ => by cases x
 | .set _, _, _, x, _ => by cases x
 | .frozenset _, _, _, x, _ => by cases x
 | .obj _ _, _, _, x, _ => by cases x
theorem Dw.readsAll (hok : jb P w H h) (KX : K.In h) : ∀ (ds : List WData) (vs : List V) (us : List Value), jc K H vs ds -> aR vs us -> ∃ as, ReadsAllW R cl h us ds as
 | [], _, _, x, r => by
   cases x
   cases r
   exact ⟨_, ReadsAllW.nil⟩
 | d :: ds, _, _, x, r => by
   cases x with
   | cons h1 h2 =>
     cases r with
     | cons r1 r2 =>
       obtain ⟨as, q1⟩ := Dw.reads hok KX d _ _ h1 r1
       obtain ⟨bs, q2⟩ := Dw.readsAll hok KX ds _ _ h2 r2
       exact ⟨_, ReadsAllW.cons q1 q2⟩
end
end
mutual
def vX : WData -> Bool
 | .none => true
 | .bool _ => true
 | .int _ => true
 | .str _ => true
 | .bytes _ => true
 | .list xs => m8 xs
 | .tuple xs => m8 xs
 | _ => false
def m8 : List WData -> Bool
 | [] => true
 | x :: r => vX x && m8 r
end
theorem sX {α : Type} {f : α -> WData} (h : ∀ a, vX (f a) = true) : ∀ l : List α, m8 (l.map f) = true
 | [] => rfl
 | x :: r => by
   show (vX (f x) && m8 (r.map f)) = true
   rw [h x, sX h r] <;> rfl
theorem js : ∀ (c : Codec) (a : c.denote), vX (c.enc a) = true
 | .unit, _ => rfl
 | .bool, _ => rfl
 | .int _ _, _ => rfl
 | .nat _ _, _ => rfl
 | .u8, _ => rfl
 | .bytes _ _, _ => rfl
 | .text _ _ _ _, _ => rfl
 | .list _ _ c, a => sX (fun x => js c x) a
 | .pair c d, a => by
   show (vX (c.enc a.1) && (vX (d.enc a.2) && true)) = true
   rw [js c a.1, js d a.2] <;> rfl
 | .triple c d e, a => by
   show (vX (c.enc a.1) && (vX (d.enc a.2.1) && (vX (e.enc a.2.2) && true))) = true
   rw [js c a.1, js d a.2.1, js e a.2.2] <;> rfl
 | .option c, none => rfl
 | .option c, some x => js c x
theorem qa : ∀ (cs : List Codec) (a : Codec.denoteAll cs), m8 (Codec.encAll cs a) = true
 | [], _ => rfl
 | c :: cs, a => by
   show (vX (c.enc a.1) && m8 (Codec.encAll cs a.2)) = true
   rw [js c a.1, qa cs a.2] <;> rfl
theorem j7 : ∀ {xs : List WData} {d : WData}, d ∈ xs -> d.weight <= WData.weightAll xs
 | [], d, h => absurd h (by simp)
 | x :: r, d, h => by
   show d.weight <= x.weight + 1 + WData.weightAll r
   rcases List.mem_cons.mp h with e | m
   ·rw [e]
    omega
   ·have z := j7 m
    omega
def sF : Value -> V
 | .none => .non
 | .bool b => .bl b
 | .int i _ => .int i
 | .str x _ => .str x
 | .bytes b _ => .byt b
 | .ref a => .ref a
 | _ => .non
def xV (A : List Addr) : Value -> Prop
 | .none => True
 | .bool _ => True
 | .int _ _ => True
 | .str _ _ => True
 | .bytes _ _ => True
 | .ref a => a ∈ A
 | _ => False
theorem xV.mono {A B : List Addr} (h : ∀ a ∈ A, a ∈ B) : ∀ {u : Value}, xV A u -> xV B u := fun {u} x => by
 cases u with
 | ref a => exact h a x
 | none => trivial
 | bool b => trivial
 | int i t => trivial
 | str s t => trivial
 | bytes b t => trivial
 | _ => exact False.elim x
theorem yy {A : List Addr} {u : Value} (x : xV A u) : aZ (sF u) u := by
 cases u with
 | ref a => rfl
 | none => rfl
 | bool b => rfl
 | int i t => exact ⟨t, rfl⟩
 | str s t => exact ⟨t, rfl⟩
 | bytes b t => exact ⟨t, rfl⟩
 | _ => exact False.elim x
theorem ic {A : List Addr} : ∀ {vs : List Value}, (∀ u ∈ vs, xV A u) -> aR (vs.map sF) vs
 | [], _ => .nil
 | u :: r, h => .cons (yy (h u (List.mem_cons_self ..))) (ic fun x hx => h x (List.mem_cons_of_mem _ hx))
def jd (h : Heap) (A : List Addr) (a : Addr) : Prop := ∃ vs : List Value, vs.length <= sizeLine /\ (∀ u ∈ vs, xV A u) /\
 (h.get? a = some { cls := .type "list", data := .seq vs.toArray } \/ h.get? a = some { cls := .type "tuple", data := .seq vs.toArray })
theorem jd.mono {h : Heap} {A B : List Addr} {a : Addr} (k : ∀ a ∈ A, a ∈ B) (x : jd h A a) : jd h B a := by
 obtain ⟨vs, h1, h2, h3⟩ := x
 exact ⟨vs, h1, fun u hu => (h2 u hu).mono k, h3⟩
theorem gT {P : Params} {h : Heap} : ∀ {vs : List Value} {ds : List WData}, WellAll P h vs ds -> vs.length = ds.length
 | _, _, .nil => rfl
 | _, _, .cons _ b => by
   show _ + 1 = _ + 1
   rw [gT b]
theorem pO {P : Params} {h : Heap} {v : Value} {ds : List WData} (x : Well P h v (.list ds)) : ∃ (a : Addr) (vs : List Value), v = .ref a /\ h.get? a = some { cls := .type "list", data := .seq vs.toArray } /\ WellAll P h vs ds := by
 cases x with
 | list ho hall => exact ⟨_, _, rfl, ho, hall⟩
theorem nR {P : Params} {h : Heap} {v : Value} {ds : List WData} (x : Well P h v (.tuple ds)) : ∃ (a : Addr) (vs : List Value), v = .ref a /\ h.get? a = some { cls := .type "tuple", data := .seq vs.toArray } /\ WellAll P h vs ds := by
 cases x with
 | tuple ho hall => exact ⟨_, _, rfl, ho, hall⟩
theorem pP {P : Params} {h : Heap} {us : List Value} {d : WData} {ds : List WData} (x : WellAll P h us (d :: ds)) : ∃ (v : Value) (vs : List Value), us = v :: vs /\ Well P h v d /\ WellAll P h vs ds := by
 cases x with
 | cons a b => exact ⟨_, _, rfl, a, b⟩
theorem wc {n : Nat} (h : n <= 1048576) : n <= sizeLine := Nat.le_trans h (by decide)
section
variable {P : Params} {h : Heap}
mutual
theorem zu : ∀ (d : WData) (v : Value), Well P h v d -> vX d = true -> d.weight <= 1048576 -> ∃ A : List Addr, xV A v /\ ∀ a ∈ A, jd h A a
 | .none, _, x, _, _ => by
   cases x
   exact ⟨[], trivial, fun a m => absurd m (by simp)⟩
 | .bool b, _, x, _, _ => by
   cases x
   exact ⟨[], trivial, fun a m => absurd m (by simp)⟩
 | .int i, _, x, _, _ => by
   cases x
   exact ⟨[], trivial, fun a m => absurd m (by simp)⟩
 | .str s, _, x, _, _ => by
   cases x
   exact ⟨[], trivial, fun a m => absurd m (by simp)⟩
 | .bytes b, _, x, _, _ => by
   cases x
   exact ⟨[], trivial, fun a m => absurd m (by simp)⟩
 | .list ds, _, x, p, z => by
   obtain ⟨a, vs, rfl, ho, hall⟩ := pO x
   have z2 : WData.weightAll ds <= 1048576 := z
   obtain ⟨A, h1, h2⟩ := lG ds _ hall p fun d hd => Nat.le_trans (j7 hd) z2
   have k : ∀ b ∈ A, b ∈ a :: A := fun b hb => List.mem_cons_of_mem _ hb
   refine ⟨a :: A, List.mem_cons_self .., fun b hb => ?_⟩
   rcases List.mem_cons.mp hb with e | m
   ·rw [e]
    exact ⟨vs, wc (by rw [gT hall]; exact Nat.le_trans (W.length_le_weightAllW ds) z2), fun u hu => (h1 u hu).mono k, .inl ho⟩
   ·exact (h2 b m).mono k
 | .tuple ds, _, x, p, z => by
   obtain ⟨a, vs, rfl, ho, hall⟩ := nR x
   have z2 : WData.weightAll ds <= 1048576 := z
   obtain ⟨A, h1, h2⟩ := lG ds _ hall p fun d hd => Nat.le_trans (j7 hd) z2
   have k : ∀ b ∈ A, b ∈ a :: A := fun b hb => List.mem_cons_of_mem _ hb
   refine ⟨a :: A, List.mem_cons_self .., fun b hb => ?_⟩
   rcases List.mem_cons.mp hb with e | m
   ·rw [e]
    exact ⟨vs, wc (by rw [gT hall]; exact Nat.le_trans (W.length_le_weightAllW ds) z2), fun u hu => (h1 u hu).mono k, .inr ho⟩
   ·exact (h2 b m).mono k
 | .float _, _, _, p, _ => Bool.noConfusion (show false = true from p)
 | .dict _, _, _, p, _ => Bool.noConfusion (show false = true from p)
 | .bytearray _, _, _, p, _ => Bool.noConfusion (show false = true from p)
 | .set _, _, _, p, _ => Bool.noConfusion (show false = true from p)
 | .frozenset _, _, _, p, _ => Bool.noConfusion (show false = true from p)
 | .obj _ _, _, _, p, _ => Bool.noConfusion (show false = true from p)
theorem lG : ∀ (ds : List WData) (vs : List Value), WellAll P h vs ds -> m8 ds = true -> (∀ d ∈ ds, d.weight <= 1048576) -> ∃ A : List Addr, (∀ u ∈ vs, xV A u) /\ ∀ a ∈ A, jd h A a
 | [], _, x, _, _ => by
   cases x
   exact ⟨[], fun u m => absurd m (by simp), fun a m => absurd m (by simp)⟩
 | d :: ds, _, x, p, z => by
   obtain ⟨v, vs, rfl, x1, x2⟩ := pP x
   have q : vX d = true /\ m8 ds = true := Bool.and_eq_true_iff.mp p
   obtain ⟨A, a1, a2⟩ := zu d v x1 q.1 (z d (List.mem_cons_self ..))
   obtain ⟨B, b1, b2⟩ := lG ds vs x2 q.2 fun e he => z e (List.mem_cons_of_mem _ he)
   have kA : ∀ b ∈ A, b ∈ A ++ B := fun b hb => List.mem_append.mpr (.inl hb)
   have kB : ∀ b ∈ B, b ∈ A ++ B := fun b hb => List.mem_append.mpr (.inr hb)
   refine ⟨A ++ B, fun u hu => ?_, fun b hb => ?_⟩
   ·rcases List.mem_cons.mp hu with e | m
    ·rw [e]
     exact a1.mono kA
    ·exact (b1 u m).mono kB
   ·rcases List.mem_append.mp hb with m | m
    ·exact (a2 b m).mono kA
    ·exact (b2 b m).mono kB
end
end
def Au (o : Obj) : Option HO := match o.data with
 | .seq vs _ => if (o.cls == Value.type "list") = true then some (.frz o (.lst (vs.toList.map sF))) else some (.frz o (.tup (vs.toList.map sF)))
 | _ => none
def i9 (K : W.Frag) (h : Heap) (A : List Addr) : Hp := fun b => if b ∈ A then (if (K.lookup b).isNone = true then (h.get? b).bind Au else none) else none
def ud (H : Hp) : Prop := ∀ b, H b = none \/ ∃ o u, H b = some (.frz o u)
theorem tK (vs : List Value) : Au { cls := .type "list", data := .seq vs.toArray } = some (.frz { cls := .type "list", data := .seq vs.toArray } (.lst (vs.map sF))) := by
 show (if (Value.type "list" == Value.type "list") = true then some (HO.frz { cls := .type "list", data := .seq vs.toArray } (.lst (vs.toArray.toList.map sF))) else some (HO.frz { cls := .type "list", data := .seq vs.toArray } (.tup (vs.toArray.toList.map sF)))) = _
 rw [if_pos (beq_self_eq_true _)]
theorem tJ (vs : List Value) : Au { cls := .type "tuple", data := .seq vs.toArray } = some (.frz { cls := .type "tuple", data := .seq vs.toArray } (.tup (vs.map sF))) := by
 show (if (Value.type "tuple" == Value.type "list") = true then some (HO.frz { cls := .type "tuple", data := .seq vs.toArray } (.lst (vs.toArray.toList.map sF))) else some (HO.frz { cls := .type "tuple", data := .seq vs.toArray } (.tup (vs.toArray.toList.map sF)))) = _
 rw [if_neg (by decide)]
section
variable {P : Program} {w : World} {K : W.Frag} {h : Heap} {A : List Addr}
theorem nN {b : Addr} {o : Obj} (hb : b ∈ A) (hk : K.lookup b = none) (e : h.get? b = some o) : i9 K h A b = Au o := by
 unfold i9
 rw [if_pos hb, hk, if_pos (show (none : Option Obj).isNone = true from rfl), e] <;> rfl
theorem Ak {b : Addr} {u : HO} (q : i9 K h A b = some u) : b ∈ A /\ K.lookup b = none := by
 unfold i9 at q
 by_cases hb : b ∈ A
 ·rw [if_pos hb] at q
  cases hk : K.lookup b with
  | none => exact ⟨hb, rfl⟩
  | some o =>
    rw [hk, if_neg (by simp)] at q
    cases q
 ·rw [if_neg hb] at q
  cases q
theorem nM (ar : ∀ a ∈ A, jd h A a) {b : Addr} {u : HO} (q : i9 K h A b = some u) : K.lookup b = none /\ ∃ vs : List Value, vs.length <= sizeLine /\ (∀ u ∈ vs, xV A u) /\
 ((h.get? b = some { cls := .type "list", data := .seq vs.toArray } /\ u = .frz { cls := .type "list", data := .seq vs.toArray } (.lst (vs.map sF))) \/
  (h.get? b = some { cls := .type "tuple", data := .seq vs.toArray } /\ u = .frz { cls := .type "tuple", data := .seq vs.toArray } (.tup (vs.map sF)))) := by
 obtain ⟨hb, hk⟩ := Ak q
 obtain ⟨vs, h1, h2, h3⟩ := ar b hb
 refine ⟨hk, vs, h1, h2, ?_⟩
 rcases h3 with e | e
 ·rw [nN hb hk e, tK] at q
  exact .inl ⟨e, (Option.some.inj q).symm⟩
 ·rw [nN hb hk e, tJ] at q
  exact .inr ⟨e, (Option.some.inj q).symm⟩
theorem xU (ar : ∀ a ∈ A, jd h A a) : ud (i9 K h A) := fun b => by
 cases q : i9 K h A b with
 | none => exact .inl rfl
 | some u =>
   obtain ⟨_, vs, _, _, ⟨_, e⟩ | ⟨_, e⟩⟩ := nM ar q
   ·exact .inr ⟨_, _, by rw [e]⟩
   ·exact .inr ⟨_, _, by rw [e]⟩
theorem AE (ar : ∀ a ∈ A, jd h A a) : jb P w (i9 K h A) h := fun b u q => by
 obtain ⟨_, vs, h1, h2, ⟨e, rfl⟩ | ⟨e, rfl⟩⟩ := nM ar q
 ·exact ⟨e, by rw [List.length_map]; exact h1, vs, _, ic h2, e⟩
 ·exact ⟨e, by rw [List.length_map]; exact h1, vs, ic h2, _, e, rfl, _, rfl⟩
theorem nH {c c' : Value} {vs us : List Value} (e : (some { cls := c, data := .seq vs.toArray } : Option Obj) = some { cls := c', data := .seq us.toArray }) : c = c' /\ vs = us := by
 have e1 := Option.some.inj e
 have e2 : c = c' := congrArg Obj.cls e1
 have e3 : Data.seq vs.toArray = Data.seq us.toArray := congrArg Obj.data e1
 injection e3 with e4
 refine ⟨e2, ?_⟩
 have e5 := congrArg Array.toList e4
 simpa using e5
theorem DK (KX : K.In h) (ar : ∀ a ∈ A, jd h A a) {a : Addr} {vs : List Value} (ha : a ∈ A) (e : h.get? a = some { cls := .type "list", data := .seq vs.toArray }) : (∀ u ∈ vs, xV A u) /\ bj K (i9 K h A) a (vs.map sF) := by
 obtain ⟨us, h1, h2, h3⟩ := ar a ha
 have hu : us = vs := by
  rcases h3 with q | q
  ·rw [e] at q
   exact (nH q).2.symm
  ·rw [e] at q
   exact absurd (Value.type.inj (nH q).1) (by decide)
 subst hu
 refine ⟨h2, ?_⟩
 cases hk : K.lookup a with
 | none => exact .inl (.inr ⟨_, by rw [nN ha hk e, tK]⟩)
 | some o =>
   have e2 := KX a o hk
   rw [e] at e2
   obtain rfl := Option.some.inj e2
   exact .inr ⟨_, us.toArray, _, hk, rfl, rfl, rfl, by rw [List.size_toArray]; exact h1, by simpa using ic h2⟩
theorem DJ (KX : K.In h) (ar : ∀ a ∈ A, jd h A a) {a : Addr} {vs : List Value} (ha : a ∈ A) (e : h.get? a = some { cls := .type "tuple", data := .seq vs.toArray }) : (∀ u ∈ vs, xV A u) /\ fV K (i9 K h A) a (vs.map sF) := by
 obtain ⟨us, h1, h2, h3⟩ := ar a ha
 have hu : us = vs := by
  rcases h3 with q | q
  ·rw [e] at q
   exact absurd (Value.type.inj (nH q).1) (by decide)
  ·rw [e] at q
   exact (nH q).2.symm
 subst hu
 refine ⟨h2, ?_⟩
 cases hk : K.lookup a with
 | none => exact .inl (.inr ⟨_, by rw [nN ha hk e, tJ]⟩)
 | some o =>
   have e2 := KX a o hk
   rw [e] at e2
   obtain rfl := Option.some.inj e2
   exact .inr ⟨_, us.toArray, _, hk, rfl, rfl, by rw [List.size_toArray]; exact h1, by simpa using ic h2⟩
mutual
theorem BI {Pm : Params} (KX : K.In h) (ar : ∀ a ∈ A, jd h A a) : ∀ (d : WData) (v : Value), Well Pm h v d -> vX d = true -> xV A v -> Dw K (i9 K h A) (sF v) d
 | .none, _, x, _, _ => by
   cases x
   exact .non
 | .bool b, _, x, _, _ => by
   cases x
   exact .bl b
 | .int i, _, x, _, _ => by
   cases x
   exact .int i
 | .str s, _, x, _, _ => by
   cases x
   exact .str s
 | .bytes b, _, x, _, _ => by
   cases x
   have z := Dw.byt (K := K) (H := i9 K h A) b.toArray
   exact z
 | .list ds, _, x, p, hu => by
   obtain ⟨a, vs, rfl, ho, hall⟩ := pO x
   obtain ⟨h2, hs⟩ := DK KX ar hu ho
   exact .lst hs (rQ KX ar ds _ hall p h2)
 | .tuple ds, _, x, p, hu => by
   obtain ⟨a, vs, rfl, ho, hall⟩ := nR x
   obtain ⟨h2, hs⟩ := DJ KX ar hu ho
   exact .tup hs (rQ KX ar ds _ hall p h2)
 | .float _, _, _, p, _ => Bool.noConfusion (show false = true from p)
 | .dict _, _, _, p, _ => Bool.noConfusion (show false = true from p)
 | .bytearray _, _, _, p, _ => Bool.noConfusion (show false = true from p)
 | .set _, _, _, p, _ => Bool.noConfusion (show false = true from p)
 | .frozenset _, _, _, p, _ => Bool.noConfusion (show false = true from p)
 | .obj _ _, _, _, p, _ => Bool.noConfusion (show false = true from p)
theorem rQ {Pm : Params} (KX : K.In h) (ar : ∀ a ∈ A, jd h A a) : ∀ (ds : List WData) (vs : List Value), WellAll Pm h vs ds -> m8 ds = true -> (∀ u ∈ vs, xV A u) -> jc K (i9 K h A) (vs.map sF) ds
 | [], _, x, _, _ => by
   cases x
   exact .nil
 | d :: ds, _, x, p, hu => by
   obtain ⟨v, vs, rfl, x1, x2⟩ := pP x
   have q : vX d = true /\ m8 ds = true := Bool.and_eq_true_iff.mp p
   exact .cons (BI KX ar d v x1 q.1 (hu _ (List.mem_cons_self ..))) (rQ KX ar ds vs x2 q.2 fun u m => hu u (List.mem_cons_of_mem _ m))
end
end
theorem w9 {P : Program} {w : World} {K : W.Frag} {mg mb : Str -> Option Value} {CX : CXT} {k : Nat} {fa : Addr} {fd : FuncData} {ps : List Str} {sp : Sp} {s₁ : Shared} {vals : List Value} {ds : List WData} {R : W.WRecords} {cl : Str -> Option Addr} {d0 : WData}
 (KX : K.In s₁.heap) (hns : s₁.heap.Ns mainGlobals mg) (hb : s₁.heap.Ns builtinsNs mb) (hbb : ∀ x : Str, x ≠ "__name__" -> mb x = bootBuiltins x) (hlim : s₁.heap.NoLimit) (hg : s₁.gens = #[])
 (hwl : WellAll w.params s₁.heap vals ds) (hpl : m8 ds = true) (hwt : ∀ d ∈ ds, d.weight <= 1048576) (hr : dq k callerA)
 (F : ∀ base : Heap, K.In base -> base.Ns mainGlobals mg -> aP P w K mg base CX k fa fd ps sp) (hbind : ∀ (s : Shared) (us : List Value), us.length = ps.length -> BindsTo s fd ⟨us, []⟩ (ps.zip us)) (hlen : ds.length = ps.length)
 (hsp : ∀ (H : Hp) (xs : List V), ud H -> jc K H xs ds -> sp xs H (fun v H' => Dw K H' v d0) fun _ _ _ => False)
 (hCX : ∀ H e s', CX [] H s₁ (fun _ _ _ => False) e s' -> False) :
 codeAny (model P w) callerA (.call (.ref fa) ⟨vals, []⟩) (fun r s' => ∃ u as, r = .ok (.ret u) /\ ReadsW R cl s'.heap u d0 as /\ OldK s₁.heap s'.heap /\ s'.os = s₁.os /\ AllBare s'.gens) s₁ := by
 obtain ⟨A, ho, ar⟩ := lG ds vals hwl hpl hwt
 have hO : ud (i9 K s₁.heap A) := xU ar
 have hok : jb P w (i9 K s₁.heap A) s₁.heap := AE ar
 have hS := rQ KX ar ds vals hwl hpl ho
 have hV := ic ho
 have hK : ∀ b u, i9 K s₁.heap A b = some u -> K.lookup b = none := fun b u q => (nM ar q).1
 have noA : ∀ {b : Addr} {o : Obj} {es : Array DictEntry} {ep : Nat}, s₁.heap.get? b = some o -> o.data = .dict es ep -> i9 K s₁.heap A b = none := fun {b o es ep} e d => by
  cases q : i9 K s₁.heap A b with
  | none => rfl
  | some u =>
    obtain ⟨_, vs, _, _, ⟨e2, _⟩ | ⟨e2, _⟩⟩ := nM ar q
    ·rw [e2] at e
     cases e
     have d' : Data.seq vs.toArray _ = Data.dict es ep := d
     cases d'
    ·rw [e2] at e
     cases e
     have d' : Data.seq vs.toArray _ = Data.dict es ep := d
     cases d'
 generalize i9 K s₁.heap A = H at hO hok hS hK noA
 have base_of : ∀ {b : Addr} {o : Obj}, s₁.heap.get? b = some o -> H b = none -> (rN s₁.heap H).get? b = some o := fun e n => y6 e n
 have nsK : ∀ {b : Addr} {m : Str -> Option Value}, s₁.heap.Ns b m -> (rN s₁.heap H).Ns b m := fun {b m} ⟨o, es, ep, e, d, r⟩ => ⟨o, es, ep, base_of e (noA e d), d, r⟩
 have nK : ∀ b o, K.lookup b = some o -> H b = none := fun b o e => by
  cases q : H b with
  | none => rfl
  | some u =>
    rw [hK b u q] at e
    cases e
 have hKb : K.In (rN s₁.heap H) := fun b o e => base_of (KX b o e) (nK b o e)
 have hM : Mod K mg (rN s₁.heap H) := ⟨hKb, nsK hns, ⟨mb, nsK hb, hbb⟩, let ⟨mc, h1, h2⟩ := hlim; ⟨mc, nsK h1, h2⟩⟩
 have e0 : vo P w K mg (rN s₁.heap H) callerA [] s₁ H := ⟨rfl, hM, fun b o e => Aj e, Nat.le_of_eq (xI _ _), trivial, fun b hb => absurd (show b ∈ ([] : List Addr) from hb) (by simp), hok, .of_eq hg⟩
 have hl : vals.length = ps.length := by rw [gT hwl]; exact hlen
 refine codeAny_mono ((F _ hKb (nsK hns)).run callerA [] s₁ H ⟨vals, []⟩ vals (vals.map sF) _ _ hr e0 (hbind s₁ vals hl) hV (hsp H _ hO hS)) fun r s' x => ?_
 cases r with
 | error e => exact (hCX H e s' x).elim
 | ok fl =>
   cases fl with
   | next => exact False.elim x
   | brk => exact False.elim x
   | cont => exact False.elim x
   | ret u =>
     obtain ⟨v, H', os, bare, un, hok', r', q⟩ := x
     have kept : ∀ b o, s₁.heap.get? b = some o -> s'.heap.get? b = some o := fun b o e => by
      cases q2 : H b with
      | none => exact un.keep b o e q2 (by intro z; exact absurd (show b ∈ ([] : List Addr) from z) (by simp)) (by simp)
      | some u2 =>
        rcases hO b with z | ⟨ob, u3, z⟩
        ·rw [q2] at z
         cases z
        ·have z2 := un.frzs b ob _ z
         obtain ⟨e1, _⟩ := hok b _ z
         obtain ⟨e2, _⟩ := hok' b _ z2
         rw [e] at e1
         cases e1
         exact e2
     have KX' : K.In s'.heap := fun b o e => kept b o (KX b o e)
     obtain ⟨as, hrd⟩ := Dw.reads (R := R) (cl := cl) hok' KX' d0 v u q r'
     exact ⟨u, as, rfl, hrd, OldK.of_keep kept, os, bare⟩
theorem o7 {ds : List WData} (h : WData.layableAll ds = true) : ∀ d ∈ ds, d.weight <= 1048576 := fun d hd =>
 (W.layableW_iff.mp (List.all_eq_true.mp h d hd)).2.2
theorem pi : ∀ (cs : List Codec) (a : Codec.denoteAll cs), (Codec.encAll cs a).length = cs.length
 | [], _ => rfl
 | c :: cs, a => by
   show (Codec.encAll cs a.2).length + 1 = cs.length + 1
   rw [pi cs a.2]
theorem wV {r : OpenSpec} {k : Nat} {q : Program} {loose : List Str} {XP : (Str -> Option Value) -> Heap -> Prop} {YP : World -> Heap -> Prop} {d : DefRec} {K : Params -> W.Frag} {CX : World -> CXT} {ps : List Str} {sp : World -> Sp}
 (hwell : r.wellSaid = true) (hdf : d.params.defaults = []) (hlen : r.args.length = ps.length) (hr : dq k callerA)
 (hY : ∀ (w : World) (h : Heap), YP w h -> (K w.params).In h)
 (F : ∀ (w : World) (mg : Str -> Option Value) (fa : Addr) (h : Heap), YP w h -> (K w.params).In h -> h.Ns mainGlobals mg -> mg d.name = some (.ref fa) ->
  ∃ fd : FuncData, (∀ (s : Shared) (us : List Value), us.length = ps.length -> BindsTo s fd ⟨us, []⟩ (ps.zip us)) /\
   ∀ base : Heap, (K w.params).In base -> base.Ns mainGlobals mg -> aP r.prog w (K w.params) mg base (CX w) k fa fd ps (sp w))
 (hsp : ∀ (w : World) (H : Hp) (xs : List V) (a : Codec.denoteAll r.args), ud H -> Codec.withinAll r.args a = true -> Codec.app r.args r.asked a = true -> jc (K w.params) H xs (Codec.encAll r.args a) ->
  sp w xs H (fun v H' => Dw (K w.params) H' v (r.ret.enc (Codec.app r.args r.f a))) fun _ _ _ => False)
 (hCX : ∀ (w : World) (H : Hp) (s : Shared) (e : Value) (s' : Shared), CX w [] H s (fun _ _ _ => False) e s' -> False) :
 W.WalkOS q loose XP YP r d [] (fun f vs => PySem.call f vs) := by
 intro w s_0 s₁ mg mb G Y fa o pm cd doc dV kV ho hd hcd hD hmg hg args vals as hpre hlay hrd hwl hlo
 obtain ⟨a, e1, e2⟩ := W.os_pre_some hpre
 obtain ⟨e3, hwi⟩ := Codec.encAll_of_decAll r.args args a e1
 subst e3
 have KX := hY w _ Y
 obtain ⟨fd, hb, hF⟩ := F w mg fa _ Y KX G.T.g hmg
 refine W.enter_call (codeAny_mono (w9 (R := []) (cl := classAt s_0.heap) (d0 := r.ret.enc (Codec.app r.args r.f a)) KX G.T.g G.T.b G.T.builtins G.T.nolimit hg hwl (qa _ _) (o7 hlay) hr hF hb (by rw [pi]; exact hlen)
  (fun H xs hO hS => hsp w H xs a hO hwi e2 hS) fun H e s' => hCX w H s₁ e s') fun r' s' hq => ?_)
 obtain ⟨u, as', rfl, h1, h2, h3, h4⟩ := hq
 exact ⟨.inl ⟨u, _, as', rfl, fun _ => rfl, h1, (OpenSpec.post_iff hwell hwi _ _).mpr rfl, fun z => Bool.noConfusion (show false = true from z)⟩, h2, h3, h4⟩
theorem uk {r : OpenSpec} {k : Nat} {q : Program} {loose : List Str} {XP : (Str -> Option Value) -> Heap -> Prop} {YP : World -> Heap -> Prop} {d : DefRec} {K : Params -> W.Frag} {CX : CXT} {ps : List Str} {sp : W.Frag -> Sp}
 (hwell : r.wellSaid = true) (hdf : d.params.defaults = []) (hlen : r.args.length = ps.length) (hr : dq k callerA)
 (hY : ∀ (w : World) (h : Heap), YP w h -> (K w.params).In h)
 (F : ∀ (w : World) (mg : Str -> Option Value) (fa : Addr) (h : Heap), YP w h -> (K w.params).In h -> h.Ns mainGlobals mg -> mg d.name = some (.ref fa) ->
  ∃ fd : FuncData, (∀ (s : Shared) (us : List Value), us.length = ps.length -> BindsTo s fd ⟨us, []⟩ (ps.zip us)) /\
   ∀ base : Heap, (K w.params).In base -> base.Ns mainGlobals mg -> aP r.prog w (K w.params) mg base CX k fa fd ps (sp (K w.params)))
 (hsp : ∀ (K : W.Frag) (H : Hp) (xs : List V) (a : Codec.denoteAll r.args), ud H -> Codec.withinAll r.args a = true -> Codec.app r.args r.asked a = true -> jc K H xs (Codec.encAll r.args a) ->
  sp K xs H (fun v H' => Dw K H' v (r.ret.enc (Codec.app r.args r.f a))) fun _ _ _ => False)
 (hCX : ∀ (H : Hp) (s : Shared) (e : Value) (s' : Shared), CX [] H s (fun _ _ _ => False) e s' -> False) :
 W.WalkOS q loose XP YP r d [] (fun f vs => PySem.call f vs) :=
 wV (K := K) (CX := fun _ => CX) (sp := fun w => sp (K w.params)) hwell hdf hlen hr hY F (fun w H xs a h1 h2 h3 h4 => hsp (K w.params) H xs a h1 h2 h3 h4) fun _ H s e s' => hCX H s e s'
end L2
end
end
section
namespace Db
open Vbbraa
theorem lC : ∀ n, 0 < fact n
 | 0 => Nat.one_pos
 | n + 1 => by unfold fact; exact Nat.mul_pos (Nat.succ_pos n) (lC n)
theorem iH (n : Nat) : fact (n + 1) = (n + 1) * fact n := rfl
theorem zq : ∀ (n a b : Nat), a + b = n -> ∃ k, fact n = k * (fact a * fact b)
 | 0, a, b, h => by
   have ha : a = 0 := by omega
   have hb : b = 0 := by omega
   subst ha hb
   exact ⟨1, rfl⟩
 | n + 1, 0, b, h => by
   have hb : b = n + 1 := by omega
   subst hb
   exact ⟨1, by simp [fact]⟩
 | n + 1, a + 1, 0, h => by
   have ha : a = n := by omega
   subst ha
   exact ⟨1, by simp [fact]⟩
 | n + 1, a + 1, b + 1, h => by
   obtain ⟨k1, h1⟩ := zq n a (b + 1) (by omega)
   obtain ⟨k2, h2⟩ := zq n (a + 1) b (by omega)
   refine ⟨k1 + k2, ?_⟩
   have e : n + 1 = (a + 1) + (b + 1) := by omega
   have e1 : (a + 1) * fact n = k1 * (fact (a + 1) * fact (b + 1)) := by
    rw [h1, iH a]
    simp only [Nat.mul_assoc, Nat.mul_left_comm, Nat.mul_comm]
   have e2 : (b + 1) * fact n = k2 * (fact (a + 1) * fact (b + 1)) := by
    rw [h2, iH b]
    simp only [Nat.mul_assoc, Nat.mul_left_comm, Nat.mul_comm]
   rw [iH n, Nat.add_mul k1 k2, <- e1, <- e2, <- Nat.add_mul, e]
theorem sum_cons (a : Nat) (l : List Nat) : Vbbraa.sum (a :: l) = a + Vbbraa.sum l := rfl
def kU (c : List Nat) : Nat := product (c.map fact)
theorem fk (a : Nat) (l : List Nat) : kU (a :: l) = fact a * kU l := rfl
theorem lX : ∀ c, 0 < kU c
 | [] => Nat.one_pos
 | a :: l => by rw [fk]; exact Nat.mul_pos (lC a) (lX l)
theorem AT : ∀ c : List Nat, ∃ k, fact (Vbbraa.sum c) = k * kU c
 | [] => ⟨1, rfl⟩
 | a :: l => by
   obtain ⟨k, h⟩ := AT l
   obtain ⟨m, h2⟩ := zq (a + Vbbraa.sum l) a (Vbbraa.sum l) rfl
   refine ⟨m * k, ?_⟩
   rw [sum_cons, h2, h, fk]
   simp only [Nat.mul_assoc, Nat.mul_left_comm, Nat.mul_comm]
theorem lH (c : List Nat) : words c * kU c = fact (Vbbraa.sum c) := by
 obtain ⟨k, h⟩ := AT c
 unfold words
 show fact (Vbbraa.sum c) / kU c * kU c = _
 rw [h, Nat.mul_div_cancel _ (lX c)]
theorem pN (c : List Nat) : 0 < words c := by
 have h := lH c
 have := lC (Vbbraa.sum c)
 rcases Nat.eq_zero_or_pos (words c) with e | e
 ·rw [e, Nat.zero_mul] at h; omega
 ·exact e
theorem jw (a : Nat) (l : List Nat) : less (a :: l) 0 = (a - 1) :: l := rfl
theorem jx (a : Nat) (l : List Nat) (y : Nat) : less (a :: l) (y + 1) = a :: less l y := rfl
theorem eB (c : List Nat) (y : Nat) : (less c y).length = c.length := by unfold less; simp
theorem ie : ∀ (c : List Nat) (y : Nat), c.getD y 0 ≠ 0 -> Vbbraa.sum (less c y) + 1 = Vbbraa.sum c
 | [], y, h => by simp at h
 | a :: l, 0, h => by
   rw [jw, sum_cons, sum_cons]
   have : a ≠ 0 := by simpa using h
   omega
 | a :: l, y + 1, h => by
   rw [jx, sum_cons, sum_cons]
   have := ie l y (by simpa using h)
   omega
theorem oE : ∀ (c : List Nat) (y : Nat), c.getD y 0 ≠ 0 -> kU c = c.getD y 0 * kU (less c y)
 | [], y, h => by simp at h
 | a :: l, 0, h => by
   rw [jw, fk, fk]
   have h' : a ≠ 0 := by simpa using h
   obtain ⟨b, rfl⟩ : ∃ b, a = b + 1 := ⟨a - 1, by omega⟩
   rw [iH]
   simp [Nat.mul_assoc]
 | a :: l, y + 1, h => by
   rw [jx, fk, fk, oE l y (by simpa using h)]
   simp only [List.getD_cons_succ, Nat.mul_left_comm]
theorem gv (c : List Nat) (y : Nat) : words c * c.getD y 0 = Vbbraa.sum c * wordsWith c y := by
 unfold wordsWith
 by_cases h : c.getD y 0 = 0
 ·rw [if_pos h, h, Nat.mul_zero, Nat.mul_zero]
 ·rw [if_neg h]
  have e1 := lH c
  have e2 := lH (less c y)
  have e3 := ie c y h
  have e4 := oE c y h
  have e5 : fact (Vbbraa.sum c) = Vbbraa.sum c * fact (Vbbraa.sum (less c y)) := by rw [<- e3]; rfl
  refine Nat.eq_of_mul_eq_mul_right (lX (less c y)) ?_
  rw [Nat.mul_assoc, <- e4, e1, e5, <- e2, Nat.mul_assoc]
theorem sv (c : List Nat) (y : Nat) (h : 0 < Vbbraa.sum c) : words c * c.getD y 0 / Vbbraa.sum c = wordsWith c y := by
 rw [gv, Nat.mul_div_cancel_left _ h]
theorem nX (a b c d : Nat) (h : 0 < Vbbraa.sum [a, b, c, d]) :
 wordsWith [a, b, c, d] 0 + (wordsWith [a, b, c, d] 1 + (wordsWith [a, b, c, d] 2 + wordsWith [a, b, c, d] 3)) = words [a, b, c, d] := by
 have e0 := gv [a, b, c, d] 0
 have e1 := gv [a, b, c, d] 1
 have e2 := gv [a, b, c, d] 2
 have e3 := gv [a, b, c, d] 3
 have es : Vbbraa.sum [a, b, c, d] = a + (b + (c + (d + 0))) := rfl
 refine Nat.eq_of_mul_eq_mul_left h ?_
 rw [Nat.mul_add, Nat.mul_add, Nat.mul_add, <- e0, <- e1, <- e2, <- e3, <- Nat.mul_add, <- Nat.mul_add, <- Nat.mul_add, Nat.mul_comm]
 congr 1
theorem A7 (a b c d : Nat) : fact (Vbbraa.sum [a, b, c, d]) / fact a / fact b / fact c / fact d = words [a, b, c, d] := by
 rw [Nat.div_div_eq_div_mul, Nat.div_div_eq_div_mul, Nat.div_div_eq_div_mul]
 unfold words
 show _ = _ / (fact a * (fact b * (fact c * (fact d * 1))))
 rw [Nat.mul_one]
theorem qb (c : List Nat) : ∀ (k y n : Nat), n < Vbbraa.sum ((List.range (k + 1)).map fun i => wordsWith c (y + i)) ->
 ∃ z, y <= z /\ z <= y + k /\ (pick c k y n).1 = z /\ (pick c k y n).2 < wordsWith c z /\
  n = Vbbraa.sum ((List.range (z - y)).map fun i => wordsWith c (y + i)) + (pick c k y n).2
 | 0, y, n, h => by
   refine ⟨y, Nat.le_refl _, Nat.le_refl _, rfl, ?_, ?_⟩
   ·show n < wordsWith c y
    simpa [Vbbraa.sum, List.range, List.range.loop] using h
   ·simp [pick, Vbbraa.sum, List.range, List.range.loop]
 | k + 1, y, n, h => by
   have hr : (List.range (k + 2)).map (fun i => wordsWith c (y + i)) = wordsWith c y :: (List.range (k + 1)).map (fun i => wordsWith c (y + 1 + i)) := by
    rw [List.range_succ_eq_map, List.map_cons, List.map_map]
    congr 1
    apply List.map_congr_left
    intro i _
    show wordsWith c (y + (i + 1)) = _
    congr 1
    omega
   rw [hr, sum_cons] at h
   by_cases q : n < wordsWith c y
   ·refine ⟨y, Nat.le_refl _, Nat.le_add_right _ _, ?_, ?_, ?_⟩
    ·simp [pick, q]
    ·simp [pick, q]
    ·simp [pick, q, Vbbraa.sum]
   ·obtain ⟨z, h1, h2, h3, h4, h5⟩ := qb c k (y + 1) (n - wordsWith c y) (by omega)
    have e : pick c (k + 1) y n = pick c k (y + 1) (n - wordsWith c y) := by simp [pick, q]
    refine ⟨z, by omega, by omega, by rw [e]; exact h3, by rw [e]; exact h4, ?_⟩
    have hr2 : (List.range (z - y)).map (fun i => wordsWith c (y + i)) = wordsWith c y :: (List.range (z - (y + 1))).map (fun i => wordsWith c (y + 1 + i)) := by
     obtain ⟨m, hm⟩ : ∃ m, z - y = m + 1 := ⟨z - y - 1, by omega⟩
     have hm2 : z - (y + 1) = m := by omega
     rw [hm, hm2, List.range_succ_eq_map, List.map_cons, List.map_map]
     congr 1
     apply List.map_congr_left
     intro i _
     show wordsWith c (y + (i + 1)) = _
     congr 1
     omega
    rw [hr2, sum_cons, e]
    omega
theorem aw (x : Nat) (d : Deal) (s : Nat) : countOf (x :: d) s = (if x = s then 1 else 0) + countOf d s := by
 unfold countOf
 rw [List.filter_cons]
 by_cases h : x = s
 ·subst h
  simp [Nat.add_comm]
 ·simp [h]
theorem cJ (d e : Deal) (s : Nat) : countOf (d ++ e) s = countOf d s + countOf e s := by
 unfold countOf
 rw [List.filter_append, List.length_append]
theorem fK (d : Deal) (s : Nat) : countOf d s = d.count s := by
 unfold countOf
 rw [List.count_eq_length_filter]
theorem kE (d : Deal) (s : Nat) : countOf d s <= d.length := by
 unfold countOf
 exact List.length_filter_le _ _
structure bB (d : Deal) : Prop where
 len : d.length = 52
 le4 : ∀ x ∈ d, x <= 4
 most : ∀ s, s < 4 -> countOf d s <= 13
theorem Aw (d : Deal) : (∀ x ∈ d, x <= 4) -> countOf d 0 + countOf d 1 + countOf d 2 + countOf d 3 + countOf d 4 = d.length := by
 induction d with
 | nil => intro _; rfl
 | cons x d ih =>
   intro h
   have := ih fun y hy => h y (List.mem_cons_of_mem _ hy)
   have hx := h x List.mem_cons_self
   rw [aw, aw, aw, aw, aw, List.length_cons]
   rcases Nat.lt_or_ge x 4 with q | q
   ·rcases Nat.lt_or_ge x 2 with q2 | q2
    ·rcases Nat.lt_or_ge x 1 with q3 | q3
     ·have : x = 0 := by omega
      subst this; simp; omega
     ·have : x = 1 := by omega
      subst this; simp; omega
    ·rcases Nat.lt_or_ge x 3 with q3 | q3
     ·have : x = 2 := by omega
      subst this; simp; omega
     ·have : x = 3 := by omega
      subst this; simp; omega
   ·have : x = 4 := by omega
    subst this; simp; omega
theorem jR (d : Deal) : room d = [13 - countOf d 0, 13 - countOf d 1, 13 - countOf d 2, 13 - countOf d 3] := rfl
theorem sU {d : Deal} (g : bB d) : Vbbraa.sum (room d) = countOf d 4 := by
 rw [jR]
 show (13 - countOf d 0) + ((13 - countOf d 1) + ((13 - countOf d 2) + ((13 - countOf d 3) + 0))) = _
 have h := Aw d g.le4
 have h0 := g.most 0 (by omega)
 have h1 := g.most 1 (by omega)
 have h2 := g.most 2 (by omega)
 have h3 := g.most 3 (by omega)
 have := g.len
 omega
theorem jD (d : Deal) : isWhole d = true ↔ countOf d 4 = 0 := by
 unfold isWhole
 exact beq_iff_eq
theorem rS {d : Deal} {s : Nat} (h : countOf d s = 0) : ∀ x ∈ d, x ≠ s := by
 intro x hx e
 subst e
 unfold countOf at h
 have : x ∈ d.filter (fun y => y == x) := List.mem_filter.mpr ⟨hx, by simp⟩
 rw [List.length_eq_zero_iff.mp h] at this
 cases this
theorem uj {d : Deal} (g : bB d) (h : isWhole d = true) : ∀ s, s < 4 -> countOf d s = 13 := by
 have h4 := (jD d).mp h
 have h5 := Aw d g.le4
 have h0 := g.most 0 (by omega)
 have h1 := g.most 1 (by omega)
 have h2 := g.most 2 (by omega)
 have h3 := g.most 3 (by omega)
 have := g.len
 intro s hs
 have : s = 0 \/ s = 1 \/ s = 2 \/ s = 3 := by omega
 rcases this with rfl | rfl | rfl | rfl <;> omega
theorem aY : bB unknown := by
 refine ⟨by decide, fun x hx => ?_, fun s hs => ?_⟩
 ·have := List.eq_of_mem_replicate hx
  omega
 ·have : s = 0 \/ s = 1 \/ s = 2 \/ s = 3 := by omega
  rcases this with rfl | rfl | rfl | rfl <;> decide
def dJ : Deal -> List Nat -> Nat -> Deal
 | [], _, _ => []
 | x :: d, c, n => if x = 4 then (pick c 3 0 n).1 :: dJ d (less c (pick c 3 0 n).1) (pick c 3 0 n).2 else x :: dJ d c n
theorem mz : ∀ (d : Deal) (c : List Nat) (n : Nat), c.length = 4 -> dJ d c n = fill d (unrank (countOf d 4) c n)
 | [], c, n, _ => by simp [dJ, fill]
 | x :: d, c, n, hc => by
   by_cases h : x = 4
   ·subst h
    rw [aw, if_pos rfl, Nat.add_comm]
    show _ = fill (4 :: d) (unrank (countOf d 4 + 1) c n)
    unfold unrank
    rw [hc]
    show dJ (4 :: d) c n = _
    unfold dJ fill
    rw [if_pos rfl, if_pos rfl]
    simp only [List.headD_cons, List.drop_succ_cons, List.drop_zero]
    rw [mz d _ _ (by rw [eB]; exact hc)]
   ·rw [aw, if_neg h, Nat.zero_add]
    unfold dJ fill
    rw [if_neg h, if_neg h, mz d c n hc]
theorem yS (d : Deal) (n : Nat) : nth d n = dJ d (room d) n := (mz d (room d) n rfl).symm
theorem rG {c : List Nat} (h : c.length = 4) : ∃ a b e f, c = [a, b, e, f] := by
 match c, h with
 | [a, b, e, f], _ => exact ⟨a, b, e, f, rfl⟩
theorem vY {c : List Nat} {n : Nat} (hc : c.length = 4) (hs : 0 < Vbbraa.sum c) (hn : n < words c) :
 (pick c 3 0 n).1 < 4 /\ c.getD (pick c 3 0 n).1 0 ≠ 0 /\ (pick c 3 0 n).2 < words (less c (pick c 3 0 n).1) /\
  n = Vbbraa.sum ((List.range (pick c 3 0 n).1).map (wordsWith c)) + (pick c 3 0 n).2 := by
 obtain ⟨a, b, e, f, rfl⟩ := rG hc
 have h := nX a b e f hs
 obtain ⟨z, _, h2, h3, h4, h5⟩ := qb [a, b, e, f] 3 0 n (by
  show n < wordsWith _ (0 + 0) + (wordsWith _ (0 + 1) + (wordsWith _ (0 + 2) + (wordsWith _ (0 + 3) + 0)))
  simp only [Nat.zero_add, Nat.add_zero]
  omega)
 subst h3
 have hne : [a, b, e, f].getD (pick [a, b, e, f] 3 0 n).1 0 ≠ 0 := fun q => by
  unfold wordsWith at h4
  rw [if_pos q] at h4
  omega
 refine ⟨by omega, hne, ?_, ?_⟩
 ·unfold wordsWith at h4
  rw [if_neg hne] at h4
  exact h4
 ·simp only [Nat.zero_add, Nat.sub_zero] at h5
  exact h5
theorem mB (c : List Nat) (y s : Nat) (hy : y < c.length) : (less c y).getD s 0 = if s = y then c.getD y 0 - 1 else c.getD s 0 := by
 unfold less
 by_cases h : s = y
 ·subst h
  simp [List.getD_eq_getElem?_getD, hy]
 ·rw [if_neg h, List.getD_eq_getElem?_getD, List.getElem?_set_ne (Ne.symm h), List.getD_eq_getElem?_getD]
theorem mx : ∀ (d : Deal) (c : List Nat) (n : Nat), c.length = 4 -> Vbbraa.sum c = countOf d 4 -> n < words c -> (∀ x ∈ d, x <= 4) ->
 (dJ d c n).length = d.length /\ (∀ x ∈ dJ d c n, x < 4) /\ ∀ s, s < 4 -> countOf (dJ d c n) s = countOf d s + c.getD s 0
 | [], c, n, hc, hs, hn, _ => by
   obtain ⟨a, b, e, f, rfl⟩ := rG hc
   have hs' : a + (b + (e + (f + 0))) = 0 := hs
   have ha : a = 0 := by omega
   have hb : b = 0 := by omega
   have he : e = 0 := by omega
   have hf : f = 0 := by omega
   subst ha hb he hf
   refine ⟨rfl, fun x hx => (by cases hx), fun s h => ?_⟩
   have : s = 0 \/ s = 1 \/ s = 2 \/ s = 3 := by omega
   rcases this with rfl | rfl | rfl | rfl <;> rfl
 | x :: d, c, n, hc, hs, hn, hx => by
   have hx' : ∀ y ∈ d, y <= 4 := fun y hy => hx y (List.mem_cons_of_mem _ hy)
   by_cases h : x = 4
   ·subst h
    rw [aw, if_pos rfl] at hs
    obtain ⟨p1, p2, p3, p4⟩ := vY hc (by omega) hn
    have e1 := ie c (pick c 3 0 n).1 p2
    obtain ⟨q1, q2, q3⟩ := mx d (less c (pick c 3 0 n).1) (pick c 3 0 n).2 (by rw [eB]; exact hc) (by omega) p3 hx'
    unfold dJ
    rw [if_pos rfl]
    refine ⟨by rw [List.length_cons, List.length_cons, q1], fun y hy => ?_, fun s hs4 => ?_⟩
    ·rcases List.mem_cons.mp hy with rfl | hy
     ·exact p1
     ·exact q2 y hy
    ·rw [aw, aw, q3 s hs4, mB _ _ _ (by omega)]
     rw [if_neg (by omega : ¬ 4 = s)]
     by_cases hsz : s = (pick c 3 0 n).1
     ·rw [if_pos hsz.symm, if_pos hsz, hsz]
      omega
     ·rw [if_neg (fun q => hsz q.symm), if_neg hsz]
      omega
   ·rw [aw, if_neg h, Nat.zero_add] at hs
    obtain ⟨q1, q2, q3⟩ := mx d c n hc hs hn hx'
    unfold dJ
    rw [if_neg h]
    have hx4 := hx x List.mem_cons_self
    refine ⟨by rw [List.length_cons, List.length_cons, q1], fun y hy => ?_, fun s hs4 => ?_⟩
    ·rcases List.mem_cons.mp hy with rfl | hy
     ·omega
     ·exact q2 y hy
    ·rw [aw, aw, q3 s hs4]
     omega
theorem ju {d : Deal} {n : Nat} (g : bB d) (h : n < fits d) : bB (nth d n) /\ isWhole (nth d n) = true := by
 rw [yS]
 obtain ⟨q1, q2, q3⟩ := mx d (room d) n rfl (sU g) h g.le4
 refine ⟨⟨by rw [q1]; exact g.len, fun x hx => Nat.le_of_lt (q2 x hx), fun s hs => ?_⟩, ?_⟩
 ·rw [q3 s hs]
  have := g.most s hs
  have : s = 0 \/ s = 1 \/ s = 2 \/ s = 3 := by omega
  rcases this with rfl | rfl | rfl | rfl <;> (rw [jR]; simp; omega)
 ·rw [jD]
  refine Nat.eq_zero_of_not_pos fun hp => ?_
  unfold countOf at hp
  obtain ⟨x, hx⟩ := List.exists_mem_of_length_pos hp
  obtain ⟨h1, h2⟩ := List.mem_filter.mp hx
  have := q2 x h1
  simp at h2
  omega
theorem sk : ALL = fits unknown := by
 unfold ALL fits
 rw [show room unknown = [13, 13, 13, 13] from by decide]
def gN : Deal -> Deal -> List Nat -> Nat
 | x :: d, y :: e, c => if x = 4 then Vbbraa.sum ((List.range y).map (wordsWith c)) + gN d e (less c y) else gN d e c
 | _, _, _ => 0
theorem mw : ∀ (d e : Deal) (c : List Nat), gN d e c = rank c (wordIn d e)
 | [], _, c => by simp [gN, wordIn, rank]
 | x :: d, [], c => by simp [gN, wordIn, rank]
 | x :: d, y :: e, c => by
   unfold gN wordIn
   by_cases h : x = 4
   ·rw [if_pos h, if_pos h, mw d e]
    rfl
   ·rw [if_neg h, if_neg h, mw d e]
theorem uK (d e : Deal) : placeOf d e = gN d e (room d) := (mw d e _).symm
theorem kG : ∀ (d e : Deal), d.length = e.length -> agrees d e = true -> ∀ s, s < 4 -> countOf e s = countOf d s + countOf (wordIn d e) s
 | [], [], _, _, s, hs => rfl
 | x :: d, [], h, _, _, _ => by simp at h
 | [], y :: e, h, _, _, _ => by simp at h
 | x :: d, y :: e, h, ha, s, hs => by
   have hl : d.length = e.length := by simpa using h
   have ha' : ((x == 4 || x == y) && agrees d e) = true := ha
   rw [Bool.and_eq_true, Bool.or_eq_true] at ha'
   have ih := kG d e hl ha'.2 s hs
   unfold wordIn
   by_cases q : x = 4
   ·rw [if_pos q, aw, aw, aw, ih, if_neg (by omega : ¬ x = s)]
    omega
   ·have e1 : x = y := by
     rcases ha'.1 with z | z
     ·exact absurd (eq_of_beq z) q
     ·exact eq_of_beq z
    rw [if_neg q, aw, aw, ih, e1]
    omega
theorem pZ {d e : Deal} (g : bB d) (ge : bB e) (hw : isWhole e = true) (ha : agrees d e = true) (s : Nat) (hs : s < 4) : (room d).getD s 0 = countOf (wordIn d e) s := by
 have h1 := kG d e (g.len.trans ge.len.symm) ha s hs
 have h2 := uj ge hw s hs
 have : s = 0 \/ s = 1 \/ s = 2 \/ s = 3 := by omega
 rcases this with rfl | rfl | rfl | rfl <;> (rw [jR]; simp; omega)
theorem dm (e : Deal) : agrees unknown e = true := by
 have : ∀ (n : Nat) (e : Deal), agrees (List.replicate n 4) e = true := by
  intro n
  induction n with
  | zero => intro e; cases e <;> rfl
  | succ n ih =>
    intro e
    cases e with
    | nil => rfl
    | cons y e =>
      show ((4 == 4 || 4 == y) && agrees (List.replicate n 4) e) = true
      rw [ih e]
      rfl
 exact this 52 e
end Db
end
section
namespace Db
open Vbbraa
theorem mT (s : State) (b c : Nat) (d : Deal) : boardOf (setBoard s b d) c = if c = b then some d else boardOf s c := by
 unfold boardOf setBoard
 by_cases h : c = b
 ·subst h
  rw [if_pos rfl, List.find?_cons_of_pos (by simp)]
  rfl
 ·rw [if_neg h, List.find?_cons_of_neg (by simpa using fun q => h q.symm)]
  congr 1
  induction s with
  | nil => rfl
  | cons p s ih =>
    by_cases q : p.1 = b
    ·rw [List.filter_cons_of_neg (by simpa using q), ih, List.find?_cons_of_neg (by simpa [q] using fun z => h z.symm)]
    ·rw [List.filter_cons_of_pos (by simpa using q)]
     by_cases z : p.1 = c
     ·rw [List.find?_cons_of_pos (by simpa using z), List.find?_cons_of_pos (by simpa using z)]
     ·rw [List.find?_cons_of_neg (by simpa using z), List.find?_cons_of_neg (by simpa using z), ih]
def zG (s : State) : Prop := ∀ b d, boardOf s b = some d -> bB d
theorem mP : ∀ (d : Deal) (i y s : Nat), i < d.length -> countOf (d.set i y) s + (if d.getD i 4 = s then 1 else 0) = countOf d s + (if y = s then 1 else 0)
 | [], i, y, s, h => by simp at h
 | x :: d, 0, y, s, h => by
   rw [List.set_cons_zero, aw, aw, List.getD_cons_zero]
   omega
 | x :: d, i + 1, y, s, h => by
   rw [List.set_cons_succ, aw, aw, List.getD_cons_succ]
   have := mP d i y s (by simpa using h)
   omega
theorem bB.set {d : Deal} (g : bB d) {i y : Nat} (hi : i < 52) (hy : y <= 4) (h : y < 4 -> d.getD i 4 = y \/ countOf d y < 13) : bB (d.set i y) := by
 refine ⟨by rw [List.length_set]; exact g.len, fun x hx => ?_, fun s hs => ?_⟩
 ·rcases List.mem_or_eq_of_mem_set hx with q | q
  ·exact g.le4 x q
  ·omega
 ·have e := mP d i y s (by rw [g.len]; exact hi)
  have := g.most s hs
  by_cases q : y = s
  ·subst q
   rcases h hs with z | z
   ·rw [if_pos z, if_pos rfl] at e
    omega
   ·rw [if_pos rfl] at e
    omega
  ·rw [if_neg q] at e
   omega
theorem rO {d : Deal} (g : bB d) (i : Nat) : d.getD i 4 <= 4 := by
 rw [List.getD_eq_getElem?_getD]
 cases h : d[i]? with
 | none => simp
 | some x => simpa using g.le4 x (List.mem_of_getElem? h)
theorem qZ {d : Deal} (g : bB d) (k : Nat) : bB (rotated d k) := by
 have key : ∀ (d : Deal) (s : Nat), s < 4 -> (∀ x ∈ d, x <= 4) -> countOf (rotated d k) s = countOf d ((s + 4 * k - k) % 4) := by
  intro d s hs
  induction d with
  | nil => intro _; rfl
  | cons x d ih =>
    intro h
    have hx := h x List.mem_cons_self
    have := ih fun y hy => h y (List.mem_cons_of_mem _ hy)
    show countOf ((if x = 4 then 4 else (x + k) % 4) :: rotated d k) s = _
    rw [aw, aw, this]
    congr 1
    by_cases q : x = 4
    ·rw [if_pos q, if_neg (by omega), if_neg (by omega)]
    ·rw [if_neg q]
     by_cases z : (x + k) % 4 = s
     ·rw [if_pos z, if_pos (by omega)]
     ·rw [if_neg z, if_neg (by omega)]
 refine ⟨by unfold rotated; rw [List.length_map]; exact g.len, fun x hx => ?_, fun s hs => ?_⟩
 ·unfold rotated at hx
  obtain ⟨y, _, rfl⟩ := List.mem_map.mp hx
  by_cases q : y = 4
  ·rw [if_pos q]; omega
  ·rw [if_neg q]; omega
 ·rw [key d s hs g.le4]
  exact g.most _ (by omega)
def g6 (d : Deal) (i : Nat) : Deal := (List.range 13).map fun r => d.getD (13 * i + r) 4
theorem vV : List.range 52 = (List.range 13).map (fun r => 13 * 0 + r) ++ ((List.range 13).map (fun r => 13 * 1 + r) ++ ((List.range 13).map (fun r => 13 * 2 + r) ++ (List.range 13).map (fun r => 13 * 3 + r))) := by decide
theorem sO {d : Deal} {n : Nat} (h : d.length = n) : d = (List.range n).map fun c => d.getD c 4 := by
 apply List.ext_getElem
 ·simp [h]
 ·intro i h1 h2
  simp [List.getD_eq_getElem?_getD, h1]
theorem BS {d : Deal} (h : d.length = 52) : d = g6 d 0 ++ (g6 d 1 ++ (g6 d 2 ++ g6 d 3)) := by
 have e := sO h
 rw [vV, List.map_append, List.map_append, List.map_append, List.map_map, List.map_map, List.map_map, List.map_map] at e
 exact e
theorem m7 (d : Deal) (p : List Nat) : resuited d p =
 g6 d (p.findIdx fun x => x == 0) ++ (g6 d (p.findIdx fun x => x == 1) ++ (g6 d (p.findIdx fun x => x == 2) ++ g6 d (p.findIdx fun x => x == 3))) := by
 unfold resuited
 rw [vV, List.map_append, List.map_append, List.map_append, List.map_map, List.map_map, List.map_map, List.map_map]
 have key : ∀ j, (List.range 13).map ((fun c => d.getD (13 * (p.findIdx fun x => x == c / 13) + c % 13) 4) ∘ fun r => 13 * j + r) = g6 d (p.findIdx fun x => x == j) := by
  intro j
  unfold g6
  apply List.map_congr_left
  intro r hr
  have hr : r < 13 := List.mem_range.mp hr
  have e1 : (13 * j + r) / 13 = j := by omega
  have e2 : (13 * j + r) % 13 = r := by omega
  show d.getD (13 * (p.findIdx fun x => x == (13 * j + r) / 13) + (13 * j + r) % 13) 4 = _
  rw [e1, e2]
 rw [key 0, key 1, key 2, key 3]
theorem yE {p : List Nat} (h : isPermutation p = true) : p ∈ [[0,1,2,3],[0,1,3,2],[0,2,1,3],[0,2,3,1],[0,3,1,2],[0,3,2,1],[1,0,2,3],[1,0,3,2],[1,2,0,3],[1,2,3,0],[1,3,0,2],[1,3,2,0],[2,0,1,3],[2,0,3,1],[2,1,0,3],[2,1,3,0],[2,3,0,1],[2,3,1,0],[3,0,1,2],[3,0,2,1],[3,1,0,2],[3,1,2,0],[3,2,0,1],[3,2,1,0]] := by
 unfold isPermutation at h
 rw [Bool.and_eq_true] at h
 obtain ⟨h1, h2⟩ := h
 have hl : p.length = 4 := by simpa using h1
 obtain ⟨a, b, c, d, rfl⟩ := rG hl
 have h3 := List.all_eq_true.mp h2
 have m0 := h3 0 (by decide)
 have m1 := h3 1 (by decide)
 have m2 := h3 2 (by decide)
 have m3 := h3 3 (by decide)
 simp only [List.contains_eq_mem, List.mem_cons, List.not_mem_nil, or_false, decide_eq_true_eq] at m0 m1 m2 m3
 rcases m0 with rfl | rfl | rfl | rfl <;> rcases m1 with m1 | m1 | m1 | m1 <;> (try omega) <;> subst m1 <;> rcases m2 with m2 | m2 | m2 | m2 <;> (try omega) <;> subst m2 <;> rcases m3 with m3 | m3 | m3 | m3 <;> (try omega) <;> subst m3 <;> decide
theorem pC {d : Deal} (g : bB d) {p : List Nat} (h : isPermutation p = true) : bB (resuited d p) := by
 have hc : ∀ s, countOf (resuited d p) s = countOf d s := by
  intro s
  have e : countOf d s = countOf (g6 d 0) s + (countOf (g6 d 1) s + (countOf (g6 d 2) s + countOf (g6 d 3) s)) := by
   conv => lhs; rw [BS g.len]
   rw [cJ, cJ, cJ]
  rw [m7, cJ, cJ, cJ, e]
  have := yE h
  simp only [List.mem_cons, List.not_mem_nil, or_false] at this
  rcases this with rfl | rfl | rfl | rfl | rfl | rfl | rfl | rfl | rfl | rfl | rfl | rfl | rfl | rfl | rfl | rfl | rfl | rfl | rfl | rfl | rfl | rfl | rfl | rfl <;>
   simp [List.findIdx_cons] <;> omega
 refine ⟨by unfold resuited; simp, fun x hx => ?_, fun s hs => by rw [hc]; exact g.most s hs⟩
 unfold resuited at hx
 obtain ⟨c, _, rfl⟩ := List.mem_map.mp hx
 exact rO g _
theorem xS {d e m : Deal} (gd : bB d) (ge : bB e) (h : both d e = some m) : bB m := by
 unfold both at h
 by_cases q : agrees d ((List.range 52).map fun c => if d.getD c 4 = 4 then e.getD c 4 else d.getD c 4) = true /\ agrees e ((List.range 52).map fun c => if d.getD c 4 = 4 then e.getD c 4 else d.getD c 4) = true /\
  ((List.range 4).all fun s => decide (countOf ((List.range 52).map fun c => if d.getD c 4 = 4 then e.getD c 4 else d.getD c 4) s <= 13)) = true
 ·simp only [q, and_self, if_true, Option.some.injEq] at h
  subst h
  refine ⟨by simp, fun x hx => ?_, fun s hs => ?_⟩
  ·obtain ⟨c, _, rfl⟩ := List.mem_map.mp hx
   by_cases z : d.getD c 4 = 4
   ·rw [if_pos z]; exact rO ge c
   ·rw [if_neg z]; exact rO gd c
  ·have := List.all_eq_true.mp q.2.2 s (List.mem_range.mpr hs)
   exact of_decide_eq_true this
 ·rw [if_neg q] at h
  cases h
theorem lD (s : Nat) (hs : s < 4) : ∀ (d : Deal) (t : Nat), t < 4 -> countOf (d.map fun x => if x = 4 then s else x) t = countOf d t + (if t = s then countOf d 4 else 0)
 | [], t, _ => by by_cases h : t = s <;> simp [countOf, h]
 | x :: d, t, ht => by
   rw [List.map_cons, aw, aw, aw, lD s hs d t ht]
   by_cases q : x = 4
   ·rw [if_pos q, if_pos q, if_neg (show ¬ x = t by omega)]
    by_cases z : t = s
    ·rw [if_pos z.symm, if_pos z, if_pos z]
     omega
    ·rw [if_neg (fun y => z y.symm), if_neg z, if_neg z]
     omega
   ·rw [if_neg q, if_neg q, Nat.zero_add]
    omega
theorem j5 (s : Nat) (hs : s < 4) : ∀ (d : Deal), countOf (d.map fun x => if x = 4 then s else x) 4 = 0
 | [] => rfl
 | x :: d => by
   rw [List.map_cons, aw, j5 s hs d]
   by_cases q : x = 4
   ·rw [if_pos q, if_neg (by omega)]
   ·rw [if_neg q, if_neg q]
theorem w6 {d : Deal} (g : bB d) : bB (sure d) := by
 unfold sure
 split
 ·rename_i s hs
  have hm : s ∈ (List.range 4).filter fun s => decide (countOf d s < 13) := by rw [hs]; exact List.mem_singleton.mpr rfl
  have hs4 : s < 4 := List.mem_range.mp (List.mem_filter.mp hm).1
  have ho : ∀ t, t < 4 -> t ≠ s -> countOf d t = 13 := by
   intro t ht hne
   have := g.most t ht
   by_cases q : countOf d t < 13
   ·have hm2 : t ∈ (List.range 4).filter fun s => decide (countOf d s < 13) := List.mem_filter.mpr ⟨List.mem_range.mpr ht, decide_eq_true q⟩
    rw [hs] at hm2
    exact absurd (List.mem_singleton.mp hm2) hne
   ·omega
  have h5 := Aw d g.le4
  have hl := g.len
  refine ⟨by rw [List.length_map]; exact hl, fun x hx => ?_, fun t ht => ?_⟩
  ·obtain ⟨y, hy, rfl⟩ := List.mem_map.mp hx
   have := g.le4 y hy
   by_cases q : y = 4
   ·rw [if_pos q]; omega
   ·rw [if_neg q]; omega
  ·rw [lD s hs4 d t ht]
   by_cases q : t = s
   ·subst q
    rw [if_pos rfl]
    have : t = 0 \/ t = 1 \/ t = 2 \/ t = 3 := by omega
    rcases this with rfl | rfl | rfl | rfl
    ·have := ho 1 (by omega) (by omega); have := ho 2 (by omega) (by omega); have := ho 3 (by omega) (by omega); omega
    ·have := ho 0 (by omega) (by omega); have := ho 2 (by omega) (by omega); have := ho 3 (by omega) (by omega); omega
    ·have := ho 0 (by omega) (by omega); have := ho 1 (by omega) (by omega); have := ho 3 (by omega) (by omega); omega
    ·have := ho 0 (by omega) (by omega); have := ho 1 (by omega) (by omega); have := ho 2 (by omega) (by omega); omega
   ·rw [if_neg q]
    have := g.most t ht
    omega
 ·exact g
theorem mJ {c k : Nat} (h : rankSign c = some k) : k < 13 := by
 unfold rankSign at h
 obtain ⟨h1, _⟩ := List.findIdx?_eq_some_iff_getElem.mp h
 simpa [signs] using h1
theorem jq : ∀ (b : Bytes) (d : Deal) (seat suit last p : Nat) (x : Deal × Bytes × Nat), seat < 4 -> suit < 4 -> bB d -> readRanks b d seat suit last p = .ok x -> bB x.1
 | [], d, seat, suit, last, p, x, _, _, g, h => by
   unfold readRanks at h
   cases h
   exact g
 | c :: r, d, seat, suit, last, p, x, h1, h2, g, h => by
   unfold readRanks at h
   cases e : rankSign c with
   | none =>
     rw [e] at h
     cases h
     exact g
   | some k =>
     rw [e] at h
     have hk := mJ e
     dsimp only at h
     by_cases q1 : last <= k
     ·rw [if_pos q1] at h; cases h
     ·rw [if_neg q1] at h
      by_cases q2 : d.getD (13 * suit + k) 4 ≠ 4
      ·rw [if_pos q2] at h; cases h
      ·rw [if_neg q2] at h
       by_cases q3 : 13 <= countOf d seat
       ·rw [if_pos q3] at h; cases h
       ·rw [if_neg q3] at h
        exact jq r _ seat suit k (p + 1) x h1 h2 (g.set (by omega) (by omega) fun _ => .inr (by omega)) h
theorem jp : ∀ (k : Nat) (b : Bytes) (d : Deal) (seat p : Nat) (x : Deal × Bytes × Nat), k <= 4 -> seat < 4 -> bB d -> readSuits k b d seat p = .ok x -> bB x.1
 | 0, b, d, seat, p, x, _, _, g, h => by
   unfold readSuits at h
   cases h
   exact g
 | k + 1, b, d, seat, p, x, hk, h1, g, h => by
   unfold readSuits at h
   cases e : readRanks b d seat k 13 p with
   | error z => rw [e] at h; cases h
   | ok y =>
     rw [e] at h
     have gy := jq b d seat k 13 p y h1 (by omega) g e
     dsimp only at h
     by_cases q : k = 0
     ·rw [if_pos q] at h
      cases h
      exact gy
     ·rw [if_neg q] at h
      split at h
      ·exact jp k _ _ seat _ x (by omega) h1 gy h
      ·cases h
theorem pE {b : Bytes} {d : Deal} {seat p : Nat} {x : Deal × Bytes × Nat} (h1 : seat < 4) (g : bB d) (h : readHand b d seat p = .ok x) : bB x.1 := by
 unfold readHand at h
 split at h
 ·cases h
  exact g
 ·split at h
  ·cases h
  ·rename_i y e
   have gy := jp 4 b d seat p y (by omega) h1 g e
   split at h
   ·split at h
    ·cases h
    ·cases h
     exact gy
   ·split at h
    ·cases h
    ·cases h
     exact gy
theorem gH : ∀ (k : Nat) (b : Bytes) (d : Deal) (seat p : Nat) (x : Deal), seat < 4 -> bB d -> readHands k b d seat p = .ok x -> bB x
 | 0, b, d, seat, p, x, _, g, h => by
   unfold readHands at h
   split at h
   ·cases h
    exact g
   ·cases h
 | k + 1, b, d, seat, p, x, h1, g, h => by
   unfold readHands at h
   split at h
   ·cases h
   ·rename_i y e
    have gy := pE h1 g e
    split at h
    ·exact gH 0 _ _ seat _ x h1 gy h
    ·split at h
     ·exact gH k _ _ _ _ x (by omega) gy h
     ·cases h
theorem pF {b : Bytes} {d : Deal} (h : readDeal b = .ok d) : bB d := by
 unfold readDeal at h
 split at h
 ·cases h
 ·split at h
  ·cases h
  ·rename_i seat e
   obtain ⟨h1, _⟩ := List.findIdx?_eq_some_iff_getElem.mp e
   split at h
   ·exact gH 4 _ _ seat 2 d (by simpa [seatSigns] using h1) aY h
   ·cases h
end Db
end
section
namespace Db
open Vbbraa
def nY (d p : Deal) (acc : Deal) (card : Nat) : Deal := acc.set (13 * p.getD (card / 13) 0 + card % 13) (d.getD card 4)
theorem jO (d p : Deal) : ∀ (l : List Nat) (acc : Deal), (l.foldl (nY d p) acc).length = acc.length
 | [], acc => rfl
 | c :: l, acc => by
   rw [List.foldl_cons, jO d p l]
   unfold nY
   rw [List.length_set]
theorem kf {p : Deal} (h : isPermutation p = true) : p.length = 4 /\ (∀ i, i < 4 -> p.getD i 0 < 4) /\ ∀ j, j < 4 -> ∀ s, s < 4 -> (p.getD j 0 = s ↔ p.findIdx (fun x => x == s) = j) := by
 have hp := yE h
 simp only [List.mem_cons, List.not_mem_nil, or_false] at hp
 rcases hp with rfl | rfl | rfl | rfl | rfl | rfl | rfl | rfl | rfl | rfl | rfl | rfl | rfl | rfl | rfl | rfl | rfl | rfl | rfl | rfl | rfl | rfl | rfl | rfl <;> decide
theorem y9 (l : List Nat) (i j x : Nat) (h : i < l.length) : (l.set i x).getD j 4 = if j = i then x else l.getD j 4 := by
 by_cases e : j = i
 ·subst e
  rw [if_pos rfl, List.getD_eq_getElem?_getD, List.getElem?_set_self h]
  rfl
 ·rw [if_neg e, List.getD_eq_getElem?_getD, List.getElem?_set_ne (Ne.symm e), <- List.getD_eq_getElem?_getD]
theorem sI (d : Deal) {p : Deal} (h : isPermutation p = true) : ∀ i, i <= 52 -> ∀ c, c < 52 ->
 ((List.range i).foldl (nY d p) unknown).getD c 4 = if 13 * (p.findIdx fun x => x == c / 13) + c % 13 < i then d.getD (13 * (p.findIdx fun x => x == c / 13) + c % 13) 4 else 4
 | 0, _, c, hc => by
   rw [if_neg (Nat.not_lt_zero _)]
   show (List.replicate 52 4).getD c 4 = 4
   rw [List.getD_eq_getElem?_getD, List.getElem?_replicate, if_pos hc]
   rfl
 | i + 1, hi, c, hc => by
   obtain ⟨lp, lt, inv⟩ := kf h
   have ih := sI d h i (by omega) c hc
   have a1 := lt (i / 13) (by omega)
   have a2 := inv (i / 13) (by omega) (c / 13) (by omega)
   have a3 := inv (p.findIdx fun x => x == c / 13)
   rw [List.range_succ, List.foldl_append, List.foldl_cons, List.foldl_nil]
   generalize hf : (p.findIdx fun x => x == c / 13) = f at *
   unfold nY
   rw [y9 _ _ _ _ (by rw [show ((List.range i).foldl (fun acc card => acc.set (13 * p.getD (card / 13) 0 + card % 13) (d.getD card 4)) unknown).length = 52 from jO d p _ _]; omega)]
   have ih' : ((List.range i).foldl (fun acc card => acc.set (13 * p.getD (card / 13) 0 + card % 13) (d.getD card 4)) unknown).getD c 4 = _ := ih
   rw [ih']
   by_cases q : c = 13 * p.getD (i / 13) 0 + i % 13
   ·have e1 : p.getD (i / 13) 0 = c / 13 := by omega
    have e2 : f = i / 13 := a2.mp e1
    have e3 : 13 * f + c % 13 = i := by omega
    rw [if_pos q, e3, if_pos (Nat.lt_succ_self i)]
   ·rw [if_neg q]
    have ne : 13 * f + c % 13 ≠ i := fun z => by
     have e2 : f = i / 13 := by omega
     have e1 := a2.mpr e2
     omega
    by_cases z : 13 * f + c % 13 < i
    ·rw [if_pos z, if_pos (by omega)]
    ·rw [if_neg z, if_neg (by omega)]
theorem zg {l m : List Nat} {n : Nat} (h1 : l.length = n) (h2 : m.length = n) (h : ∀ c, c < n -> l.getD c 4 = m.getD c 4) : l = m := by
 refine List.ext_getElem (by omega) fun i a b => ?_
 have := h i (by omega)
 rw [List.getD_eq_getElem?_getD, List.getD_eq_getElem?_getD, List.getElem?_eq_getElem a, List.getElem?_eq_getElem b] at this
 exact this
theorem w8 (d : Deal) {p : Deal} (h : isPermutation p = true) : (List.range 52).foldl (nY d p) unknown = resuited d p := by
 obtain ⟨lp, lt, inv⟩ := kf h
 refine zg (n := 52) (by rw [jO]; rfl) (by unfold resuited; rw [List.length_map, List.length_range]) fun c hc => ?_
 rw [sI d h 52 (Nat.le_refl _) c hc]
 have hlt : (p.findIdx fun x => x == c / 13) < 4 := by
  have mem : ∃ j, j < 4 /\ p.getD j 0 = c / 13 := by
   have hs : c / 13 < 4 := by omega
   have hp := yE h
   simp only [List.mem_cons, List.not_mem_nil, or_false] at hp
   generalize c / 13 = s at hs
   rcases hp with rfl | rfl | rfl | rfl | rfl | rfl | rfl | rfl | rfl | rfl | rfl | rfl | rfl | rfl | rfl | rfl | rfl | rfl | rfl | rfl | rfl | rfl | rfl | rfl <;> (revert s; decide)
  obtain ⟨j, hj, e⟩ := mem
  rw [(inv j hj (c / 13) (by omega)).mp e]
  exact hj
 rw [if_pos (by omega)]
 unfold resuited
 rw [List.getD_eq_getElem?_getD (l := List.map _ _), List.getElem?_map, List.getElem?_range hc]
 rfl
end Db
end
section
namespace Db
open Vbbraa
theorem ur (a b : List Nat) : Vbbraa.sum (a ++ b) = Vbbraa.sum a + Vbbraa.sum b := by
 induction a with
 | nil => simp [Vbbraa.sum]
 | cons x a ih => rw [List.cons_append, sum_cons, sum_cons, ih, Nat.add_assoc]
theorem de (f : Nat -> Nat) (k : Nat) : Vbbraa.sum ((List.range (k + 1)).map f) = Vbbraa.sum ((List.range k).map f) + f k := by
 rw [List.range_succ, List.map_append, ur]
 rfl
theorem Ay : ∀ x, x <= 13 -> fact x <= 6227020800 := by decide
theorem yg (a b c d : Nat) : Vbbraa.sum [a, b, c, d] = a + (b + (c + (d + 0))) := rfl
theorem yf {c : List Nat} (l : c.length = 4) (h : ∀ x ∈ c, x <= 13) : Vbbraa.sum c <= 52 := by
 obtain ⟨a, b, e, f, rfl⟩ := rG l
 have h1 := h a (by simp)
 have h2 := h b (by simp)
 have h3 := h e (by simp)
 have h4 := h f (by simp)
 rw [yg]
 omega
def ve (n : Nat) (l : List Nat) : Nat := l.foldl (fun w x => w / fact x) n
theorem vd {c : List Nat} (l : c.length = 4) : ve (fact (Vbbraa.sum c)) c = words c := by
 obtain ⟨a, b, e, f, rfl⟩ := rG l
 exact A7 a b e f
theorem xN (n x : Nat) (l : List Nat) : ve n (l ++ [x]) = ve n l / fact x := by
 unfold ve
 rw [List.foldl_append]
 rfl
theorem fN (d : Deal) : (room d).length = 4 := by rw [jR]; rfl
theorem nI (d : Deal) : ∀ x ∈ room d, x <= 13 := by
 intro x hx
 rw [jR] at hx
 simp at hx
 omega
theorem kN {c : List Nat} {y : Nat} (h : 0 < Vbbraa.sum c) : ((words c : Nat) : Int) * ((c.getD y 0 : Nat) : Int) / ((Vbbraa.sum c : Nat) : Int) = ((wordsWith c y : Nat) : Int) := by
 rw [<- sv c y h]
 norm_cast
theorem ib {c : List Nat} {y : Nat} (h : c.getD y 0 ≠ 0) : wordsWith c y = words (less c y) := by
 unfold wordsWith
 rw [if_neg h]
theorem dH {l : List Nat} {i : Nat} (h : i < l.length) (z : Nat) : l.drop i = l.getD i z :: l.drop (i + 1) := by
 rw [List.getD_eq_getElem?_getD, List.getElem?_eq_getElem h]
 exact List.drop_eq_getElem_cons h
structure fc (d e : Deal) (i : Nat) (c : List Nat) (pl : Nat) : Prop where
 len : c.length = 4
 rest : ∀ s, s < 4 -> c.getD s 0 = countOf (wordIn (d.drop i) (e.drop i)) s
 val : pl + gN (d.drop i) (e.drop i) c = placeOf d e
theorem rT (l : List Nat) (h : ∀ x ∈ l, x < 4) : countOf l 0 + countOf l 1 + countOf l 2 + countOf l 3 = l.length := by
 have := Aw l fun x hx => Nat.le_of_lt (h x hx)
 have h4 : countOf l 4 = 0 := by
  rw [fK, List.count_eq_zero]
  exact fun q => absurd (h 4 q) (by omega)
 omega
theorem jM {e : Deal} (h : ∀ x ∈ e, x < 4) : ∀ (d : Deal) (f : Deal), (∀ x ∈ f, x ∈ e) -> ∀ x ∈ wordIn d f, x < 4
 | [], f, _, x, hx => by simp [wordIn] at hx
 | a :: d, [], _, x, hx => by simp [wordIn] at hx
 | a :: d, b :: f, hf, x, hx => by
   unfold wordIn at hx
   split at hx
   ·rcases List.mem_cons.mp hx with z | z
    ·rw [z]
     exact h b (hf b (by simp))
    ·exact jM h d f (fun y hy => hf y (List.mem_cons_of_mem _ hy)) x z
   ·exact jM h d f (fun y hy => hf y (List.mem_cons_of_mem _ hy)) x hx
theorem sx {e : Deal} (g : bB e) (h : isWhole e = true) : ∀ x ∈ e, x < 4 := fun x hx => by
 have := g.le4 x hx
 have := rS ((jD e).mp h) x hx
 omega
theorem kJ {c : List Nat} (l : c.length = 4) : Vbbraa.sum c = c.getD 0 0 + c.getD 1 0 + c.getD 2 0 + c.getD 3 0 := by
 obtain ⟨a, b, e, f, rfl⟩ := rG l
 rw [yg]
 show _ = a + b + e + f
 omega
section
variable {d e : Deal} {i : Nat} {c : List Nat} {pl : Nat}
theorem fc.start (gd : bB d) (ge : bB e) (hw : isWhole e = true) (ha : agrees d e = true) : fc d e 0 (room d) 0 :=
 ⟨fN d, fun s hs => pZ gd ge hw ha s hs, by rw [Nat.zero_add, uK]; rfl⟩
theorem fc.skip (r : fc d e i c pl) (ld : d.length = 52) (le : e.length = 52) (hi : i < 52) (h : d.getD i 4 ≠ 4) : fc d e (i + 1) c pl := by
 have e1 := dH (l := d) (i := i) (by omega) 4
 have e2 := dH (l := e) (i := i) (by omega) 4
 refine ⟨r.len, fun s hs => ?_, ?_⟩
 ·have := r.rest s hs
  rw [e1, e2] at this
  unfold wordIn at this
  rw [if_neg h] at this
  exact this
 ·have := r.val
  rw [e1, e2] at this
  unfold gN at this
  rw [if_neg h] at this
  exact this
theorem fc.pos (r : fc d e i c pl) (ge : bB e) (hw : isWhole e = true) (ld : d.length = 52) (hi : i < 52) (h : d.getD i 4 = 4) :
 e.getD i 4 < 4 /\ c.getD (e.getD i 4) 0 ≠ 0 /\ 0 < Vbbraa.sum c /\ Vbbraa.sum c <= 52 := by
 have le := ge.len
 have e1 := dH (l := d) (i := i) (by omega) 4
 have e2 := dH (l := e) (i := i) (by omega) 4
 have lt := sx ge hw
 have hy : e.getD i 4 < 4 := lt _ (by rw [List.getD_eq_getElem?_getD, List.getElem?_eq_getElem (by omega)]; exact List.getElem_mem _)
 have hr : c.getD (e.getD i 4) 0 ≠ 0 := by
  rw [r.rest _ hy, e1, e2]
  unfold wordIn
  rw [if_pos h, aw, if_pos rfl]
  omega
 have hs := kJ r.len
 have hl := rT (wordIn (d.drop i) (e.drop i)) (jM lt _ _ fun x hx => List.mem_of_mem_drop hx)
 have h0 := r.rest 0 (by omega)
 have h1 := r.rest 1 (by omega)
 have h2 := r.rest 2 (by omega)
 have h3 := r.rest 3 (by omega)
 have len : (wordIn (d.drop i) (e.drop i)).length <= 52 := by
  have gen : ∀ (a b : Deal), (wordIn a b).length <= a.length := by
   intro a
   induction a with
   | nil => intro b; simp [wordIn]
   | cons x a ih =>
     intro b
     cases b with
     | nil => simp [wordIn]
     | cons y b =>
       unfold wordIn
       have := ih b
       split
       ·simp only [List.length_cons]
        omega
       ·simp only [List.length_cons]
        omega
  have := gen (d.drop i) (e.drop i)
  rw [List.length_drop] at this
  omega
 refine ⟨hy, hr, ?_, by omega⟩
 match e.getD i 4, hy, hr with
 | 0, _, hr => omega
 | 1, _, hr => omega
 | 2, _, hr => omega
 | 3, _, hr => omega
theorem fc.take (r : fc d e i c pl) (ge : bB e) (hw : isWhole e = true) (ld : d.length = 52) (hi : i < 52) (h : d.getD i 4 = 4) :
 fc d e (i + 1) (less c (e.getD i 4)) (pl + Vbbraa.sum ((List.range (e.getD i 4)).map (wordsWith c))) := by
 have le := ge.len
 obtain ⟨hy, hr, _, _⟩ := r.pos ge hw ld hi h
 have e1 := dH (l := d) (i := i) (by omega) 4
 have e2 := dH (l := e) (i := i) (by omega) 4
 refine ⟨by rw [eB]; exact r.len, fun s hs => ?_, ?_⟩
 ·have q := r.rest s hs
  rw [mB c _ s (by rw [r.len]; exact hy)]
  rw [e1, e2] at q
  unfold wordIn at q
  rw [if_pos h, aw] at q
  by_cases z : s = e.getD i 4
  ·subst z
   rw [if_pos rfl] at q
   rw [if_pos rfl]
   omega
  ·rw [if_neg (fun y => z y.symm)] at q
   rw [if_neg z]
   omega
 ·have q := r.val
  rw [e1, e2] at q
  unfold gN at q
  rw [if_pos h] at q
  omega
theorem fc.done (r : fc d e 52 c pl) (ld : d.length = 52) : pl = placeOf d e := by
 have q := r.val
 rw [List.drop_of_length_le (by omega)] at q
 unfold gN at q
 omega
end
structure ia (d : Deal) (full : Deal) (i : Nat) (c : List Nat) (m : Nat) : Prop where
 len : c.length = 4
 sum : Vbbraa.sum c = countOf (d.drop i) 4
 lt : m < words c
 eq : full.drop i = dJ (d.drop i) c m
section
variable {d full : Deal} {i m : Nat} {c : List Nat}
theorem ia.start {n : Nat} (gd : bB d) (h : n < fits d) : ia d (nth d n) 0 (room d) n := ⟨fN d, sU gd, h, yS d n⟩
theorem ia.skip (r : ia d full i c m) (ld : d.length = 52) (hi : i < 52) (h : d.getD i 4 ≠ 4) : ia d full (i + 1) c m /\ full[i]? = some (d.getD i 4) := by
 have e1 := dH (l := d) (i := i) (by omega) 4
 have q := r.eq
 rw [e1] at q
 unfold dJ at q
 rw [if_neg h] at q
 refine ⟨⟨r.len, ?_, r.lt, ?_⟩, ?_⟩
 ·have := r.sum
  rw [e1, aw, if_neg h] at this
  omega
 ·rw [<- List.drop_drop (i := 1), q]
  rfl
 ·have : (full.drop i)[0]? = some (d.getD i 4) := by
   rw [q]
   rfl
  rw [List.getElem?_drop] at this
  exact this
theorem ia.take (r : ia d full i c m) (ld : d.length = 52) (hi : i < 52) (h : d.getD i 4 = 4) :
 0 < Vbbraa.sum c /\ Vbbraa.sum c <= 52 /\ (pick c 3 0 m).1 < 4 /\ c.getD (pick c 3 0 m).1 0 ≠ 0 /\ m = Vbbraa.sum ((List.range (pick c 3 0 m).1).map (wordsWith c)) + (pick c 3 0 m).2 /\ (pick c 3 0 m).2 < wordsWith c (pick c 3 0 m).1 /\
  ia d full (i + 1) (less c (pick c 3 0 m).1) (pick c 3 0 m).2 /\ full[i]? = some (pick c 3 0 m).1 := by
 have e1 := dH (l := d) (i := i) (by omega) 4
 have hs : Vbbraa.sum c = 1 + countOf (d.drop (i + 1)) 4 := by
  rw [r.sum, e1, aw, if_pos h]
 have hle : countOf (d.drop i) 4 <= 52 := by
  have := kE (d.drop i) 4
  rw [List.length_drop] at this
  omega
 obtain ⟨p1, p2, p3, p4⟩ := vY r.len (by omega) r.lt
 have q := r.eq
 rw [e1] at q
 unfold dJ at q
 rw [if_pos h] at q
 have sl := ie c _ p2
 refine ⟨by omega, by have := r.sum; omega, p1, p2, p4, by rw [ib p2]; exact p3, ⟨by rw [eB]; exact r.len, by omega, p3, ?_⟩, ?_⟩
 ·rw [<- List.drop_drop (i := 1), q]
  rfl
 ·have : (full.drop i)[0]? = some (pick c 3 0 m).1 := by
   rw [q]
   rfl
  rw [List.getElem?_drop] at this
  exact this
end
theorem wd (c : List Nat) (y : Nat) : less c y = c.set y (c.getD y 0 - 1) := rfl
end Db
end
section
namespace Db
open Vbbraa
def dI (t : List Nat) (p : Nat) : Option Nat := (t[p]?).bind rankSign
theorem wz : ∀ {l : List Nat} {c : Nat} (i : Nat), l[i]? = some c -> (∀ j, j < i -> l[j]? ≠ some c) -> l.findIdx? (fun x => x == c) = some i
 | [], c, i, h, _ => by simp at h
 | x :: l, c, 0, h, _ => by
   have e : x = c := Option.some.inj h
   rw [List.findIdx?_cons, if_pos (by rw [e]; exact beq_self_eq_true c)]
 | x :: l, c, i + 1, h, hn => by
   have ne : x ≠ c := fun e => hn 0 (Nat.succ_pos _) (by rw [e]; rfl)
   rw [List.findIdx?_cons, if_neg (by simpa using ne), wz (l := l) i h fun j hj => hn (j + 1) (by omega)]
   rfl
theorem wy : ∀ {l : List Nat} {c : Nat}, (∀ j : Nat, j < l.length -> l[j]? ≠ some c) -> l.findIdx? (fun x => x == c) = none
 | [], c, _ => rfl
 | x :: l, c, hn => by
   have ne : x ≠ c := fun e => hn 0 (Nat.succ_pos _) (by rw [e]; rfl)
   rw [List.findIdx?_cons, if_neg (by simpa using ne), wy (l := l) fun j hj => hn (j + 1) (by simpa using hj)]
   rfl
theorem dG {t : List Nat} {p c : Nat} (h : t[p]? = some c) : t.drop p = c :: t.drop (p + 1) := by
 obtain ⟨hl, e⟩ := List.getElem?_eq_some_iff.mp h
 rw [List.drop_eq_getElem_cons hl, e]
theorem gu {t : List Nat} {p : Nat} (h : t[p]? = none) : t.drop p = [] := List.drop_eq_nil_of_le (List.getElem?_eq_none_iff.mp h)
section
variable {t : List Nat} {p seat suit last : Nat} {d : Deal}
theorem vR (h : dI t p = none) : readRanks (t.drop p) d seat suit last p = .ok (d, t.drop p, p) := by
 unfold dI at h
 cases e : t[p]? with
 | none =>
   rw [gu e]
   rfl
 | some c =>
   rw [e] at h
   have hc : rankSign c = none := h
   rw [dG e]
   unfold readRanks
   rw [hc]
theorem vS {k : Nat} (h : dI t p = some k) : readRanks (t.drop p) d seat suit last p = if last <= k then .error (2, p) else if d.getD (13 * suit + k) 4 ≠ 4 then .error (3, p) else if 13 <= countOf d seat then .error (4, p) else readRanks (t.drop (p + 1)) (d.set (13 * suit + k) seat) seat suit k (p + 1) := by
 unfold dI at h
 cases e : t[p]? with
 | none =>
   rw [e] at h
   cases h
 | some c =>
   rw [e] at h
   have hc : rankSign c = some k := h
   rw [dG e]
   conv => lhs; unfold readRanks
   rw [hc]
theorem pk {k : Nat} (h : dI t p = some k) : k < 13 /\ p < t.length := by
 unfold dI at h
 cases e : t[p]? with
 | none =>
   rw [e] at h
   cases h
 | some c =>
   rw [e] at h
   exact ⟨mJ h, (List.getElem?_eq_some_iff.mp e).1⟩
end
theorem uC : ∀ (n : Nat) (t : List Nat) (p seat suit last : Nat) (d : Deal) (x : Deal × Bytes × Nat), t.length - p = n -> readRanks (t.drop p) d seat suit last p = .ok x -> x.2.1 = t.drop x.2.2 /\ p <= x.2.2
 | n, t, p, seat, suit, last, d, x, hn, h => by
   cases e : dI t p with
   | none =>
     rw [vR e] at h
     cases h
     exact ⟨rfl, Nat.le_refl _⟩
   | some k =>
     obtain ⟨_, hp⟩ := pk e
     rw [vS e] at h
     split at h
     ·cases h
     ·split at h
      ·cases h
      ·split at h
       ·cases h
       ·match n, hn with
        | 0, hn => omega
        | n + 1, hn =>
          obtain ⟨h1, h2⟩ := uC n t (p + 1) seat suit k _ x (by omega) h
          exact ⟨h1, by omega⟩
theorem vQ {t : List Nat} {p seat k : Nat} {d : Deal} : readSuits (k + 1) (t.drop p) d seat p = match readRanks (t.drop p) d seat k 13 p with
 | .error e => .error e
 | .ok x => if k = 0 then .ok x else if t[x.2.2]? = some 46 then readSuits k (t.drop (x.2.2 + 1)) x.1 seat (x.2.2 + 1) else .error (1, x.2.2) := by
 conv => lhs; unfold readSuits
 cases e : readRanks (t.drop p) d seat k 13 p with
 | error z => rfl
 | ok x =>
   obtain ⟨x1, x2, x3⟩ := x
   obtain ⟨e1, _⟩ := uC _ t p seat k 13 d _ rfl e
   dsimp only at e1 ⊢
   subst e1
   by_cases hk : k = 0
   ·rw [if_pos hk, if_pos hk]
   ·rw [if_neg hk, if_neg hk]
    cases e2 : t[x3]? with
    | none =>
      rw [gu e2, if_neg (by simp)]
    | some c =>
      rw [dG e2]
      by_cases hc : c = 46
      ·subst hc
       rw [if_pos rfl]
       rfl
      ·rw [if_neg (fun q => hc (Option.some.inj q))]
       split
       ·rename_i r q
        injection q with q1 _
        exact absurd q1 hc
       ·rfl
theorem yu : ∀ (k : Nat) (t : List Nat) (p seat : Nat) (d : Deal) (x : Deal × Bytes × Nat), readSuits k (t.drop p) d seat p = .ok x -> x.2.1 = t.drop x.2.2
 | 0, t, p, seat, d, x, h => by
   unfold readSuits at h
   cases h
   rfl
 | k + 1, t, p, seat, d, x, h => by
   rw [vQ] at h
   cases e : readRanks (t.drop p) d seat k 13 p with
   | error z =>
     rw [e] at h
     cases h
   | ok y =>
     rw [e] at h
     dsimp only at h
     split at h
     ·cases h
      exact (uC _ t p seat k 13 d _ rfl e).1
     ·split at h
      ·exact yu k t _ seat _ x h
      ·cases h
def ph (t : List Nat) (d : Deal) (seat p : Nat) : Except (Nat × Nat) (Deal × Nat) :=
 if t[p]? = some 63 then (if 13 <= countOf d seat then .error (6, p) else .ok (d, p + 1)) else if countOf d seat < 13 then .error (5, p) else .ok (d, p)
theorem BH (t : List Nat) (d : Deal) (seat p : Nat) : (match t.drop p with
 | 63 :: r => if 13 <= countOf d seat then (.error (6, p) : Except (Nat × Nat) (Deal × Bytes × Nat)) else .ok (d, r, p + 1)
 | _ => if countOf d seat < 13 then .error (5, p) else .ok (d, t.drop p, p)) = match ph t d seat p with
 | .error e => .error e
 | .ok x => .ok (x.1, t.drop x.2, x.2) := by
 unfold ph
 cases e3 : t[p]? with
 | none =>
   rw [if_neg (show ¬ ((none : Option Nat) = some 63) by simp), gu e3]
   by_cases h : countOf d seat < 13
   ·rw [if_pos h]
    dsimp only
    rw [if_pos h]
   ·show (if countOf d seat < 13 then (.error (5, p) : Except (Nat × Nat) (Deal × Bytes × Nat)) else .ok (d, [], p)) = _
    rw [if_neg h, if_neg h]
    show _ = (.ok (d, t.drop p, p) : Except (Nat × Nat) (Deal × Bytes × Nat))
    rw [gu e3]
 | some c =>
   by_cases hc : c = 63
   ·subst hc
    rw [if_pos rfl, dG e3]
    show (if 13 <= countOf d seat then (.error (6, p) : Except (Nat × Nat) (Deal × Bytes × Nat)) else .ok (d, t.drop (p + 1), p + 1)) = _
    by_cases h : 13 <= countOf d seat
    ·rw [if_pos h, if_pos h]
    ·rw [if_neg h, if_neg h]
   ·rw [if_neg (fun q => hc (Option.some.inj q)), dG e3]
    have e4 : (match (c :: t.drop (p + 1) : List Nat) with
     | 63 :: r => if 13 <= countOf d seat then (.error (6, p) : Except (Nat × Nat) (Deal × Bytes × Nat)) else .ok (d, r, p + 1)
     | _ => if countOf d seat < 13 then .error (5, p) else .ok (d, c :: t.drop (p + 1), p)) = if countOf d seat < 13 then .error (5, p) else .ok (d, c :: t.drop (p + 1), p) := by
     split
     ·rename_i r q
      injection q with q1 _
      exact absurd q1 hc
     ·rfl
    rw [e4]
    by_cases h : countOf d seat < 13
    ·rw [if_pos h, if_pos h]
    ·rw [if_neg h, if_neg h]
     dsimp only
     rw [dG e3]
def iZ (t : List Nat) (d : Deal) (seat p : Nat) : Except (Nat × Nat) (Deal × Nat) :=
 if t[p]? = some 45 then .ok (d, p + 1) else match readSuits 4 (t.drop p) d seat p with
  | .error e => .error e
  | .ok x => ph t x.1 seat x.2.2
theorem Ch (t : List Nat) (d : Deal) (seat p : Nat) : readHand (t.drop p) d seat p = match iZ t d seat p with
 | .error e => .error e
 | .ok x => .ok (x.1, t.drop x.2, x.2) := by
 unfold iZ
 by_cases h : t[p]? = some 45
 ·rw [if_pos h, dG h]
  rfl
 ·rw [if_neg h]
  have e1 : readHand (t.drop p) d seat p = match readSuits 4 (t.drop p) d seat p with
   | .error e => .error e
   | .ok x => match x.2.1 with
     | 63 :: r => if 13 <= countOf x.1 seat then .error (6, x.2.2) else .ok (x.1, r, x.2.2 + 1)
     | _ => if countOf x.1 seat < 13 then .error (5, x.2.2) else .ok x := by
   cases e : t[p]? with
   | none =>
     rw [gu e]
     rfl
   | some c =>
     rw [dG e]
     unfold readHand
     split
     ·rename_i r q
      injection q with q1 _
      exact absurd (by rw [e, q1]) h
     ·rfl
  rw [e1]
  cases e : readSuits 4 (t.drop p) d seat p with
  | error z => rfl
  | ok x =>
    obtain ⟨x1, x2, x3⟩ := x
    have e2 : x2 = t.drop x3 := yu 4 t p seat d _ e
    subst e2
    exact BH t x1 seat x3
def b6 (t : List Nat) : Nat -> Deal -> Nat -> Nat -> Except (Nat × Nat) Deal
 | 0, d, _, p => if t.length <= p then .ok d else .error (1, p)
 | k + 1, d, seat, p => match iZ t d seat p with
   | .error e => .error e
   | .ok x => if k = 0 then b6 t 0 x.1 seat x.2 else if t[x.2]? = some 32 then b6 t k x.1 ((seat + 1) % 4) (x.2 + 1) else .error (1, x.2)
theorem uF (t : List Nat) : ∀ (k : Nat) (d : Deal) (seat p : Nat), readHands k (t.drop p) d seat p = b6 t k d seat p
 | 0, d, seat, p => by
   unfold readHands b6
   by_cases h : t.length <= p
   ·rw [if_pos h, List.drop_eq_nil_of_le h, if_pos rfl]
   ·rw [if_neg h, if_neg (fun q => h (List.drop_eq_nil_iff.mp q))]
 | k + 1, d, seat, p => by
   unfold readHands b6
   rw [Ch]
   cases e : iZ t d seat p with
   | error z => rfl
   | ok x =>
     dsimp only
     by_cases hk : k = 0
     ·subst hk
      rw [if_pos rfl, if_pos rfl]
      exact uF t 0 _ _ _
     ·rw [if_neg hk, if_neg hk]
      cases e2 : t[x.2]? with
      | none =>
        rw [gu e2, if_neg (by simp)]
      | some c =>
        rw [dG e2]
        by_cases hc : c = 32
        ·subst hc
         rw [if_pos rfl]
         exact uF t k _ _ _
        ·rw [if_neg (fun q => hc (Option.some.inj q))]
         split
         ·rename_i r q
          injection q with q1 _
          exact absurd q1 hc
         ·rfl
def vf (t : List Nat) : Except (Nat × Nat) Deal := match (t[0]?).bind fun c => seatSigns.findIdx? fun x => x == c with
 | none => .error (1, 0)
 | some seat => if t[1]? = some 58 then b6 t 4 unknown seat 2 else .error (1, 1)
theorem Ci (t : List Nat) : readDeal t = vf t := by
 unfold vf
 cases t with
 | nil => rfl
 | cons c r =>
   have e0 : ((c :: r)[0]?).bind (fun c => seatSigns.findIdx? fun x => x == c) = seatSigns.findIdx? fun x => x == c := rfl
   rw [e0]
   clear e0
   cases e : seatSigns.findIdx? fun x => x == c with
   | none =>
     show (match seatSigns.findIdx? fun x => x == c with | none => (.error (1, 0) : Except (Nat × Nat) Deal) | some seat => _) = _
     rw [e]
   | some seat =>
     have e1 : readDeal (c :: r) = match r with | 58 :: l => readHands 4 l unknown seat 2 | _ => .error (1, 1) := by
      show (match seatSigns.findIdx? fun x => x == c with | none => (.error (1, 0) : Except (Nat × Nat) Deal) | some seat => _) = _
      rw [e]
      rfl
     rw [e1]
     dsimp only
     cases r with
     | nil => rfl
     | cons c2 l =>
       show _ = if (some c2 : Option Nat) = some 58 then _ else _
       by_cases hc : c2 = 58
       ·subst hc
        rw [if_pos rfl, <- uF]
        rfl
       ·rw [if_neg (fun q => hc (Option.some.inj q))]
        split
        ·rename_i q
         injection q with q1 _
         exact absurd q1 hc
        ·rfl
end Db
end
section
namespace Db
open Vbbraa
theorem sw : ∀ (n : Nat) (c : List Nat), c.length = 4 -> Vbbraa.sum c = n -> words c <= 4 ^ n
 | 0, c, l, h => by
   obtain ⟨a, b, e, f, rfl⟩ := rG l
   rw [yg] at h
   obtain ⟨rfl, rfl, rfl, rfl⟩ : a = 0 /\ b = 0 /\ e = 0 /\ f = 0 := ⟨by omega, by omega, by omega, by omega⟩
   decide
 | n + 1, c, l, h => by
   have each : ∀ y, wordsWith c y <= 4 ^ n := fun y => by
    by_cases z : c.getD y 0 = 0
    ·unfold wordsWith
     rw [if_pos z]
     exact Nat.zero_le _
    ·rw [ib z]
     exact sw n _ (by rw [eB]; exact l) (by have := ie c y z; omega)
   obtain ⟨a, b, e, f, rfl⟩ := rG l
   rw [<- nX a b e f (by omega), Nat.pow_succ]
   have := each 0
   have := each 1
   have := each 2
   have := each 3
   omega
theorem Ax {d : Deal} : fits d <= 4 ^ 52 := by
 have h := sw _ (room d) (fN d) rfl
 exact Nat.le_trans h (Nat.pow_le_pow_right (by decide) (yf (fN d) (nI d)))
theorem i4 {d : Deal} : fits d < 10 ^ 50 := Nat.lt_of_le_of_lt Ax (by decide +kernel)
theorem vU : ∀ (w c : List Nat), c.length = 4 -> (∀ x ∈ w, x < 4) -> (∀ s, s < 4 -> c.getD s 0 = countOf w s) -> rank c w < words c
 | [], c, _, _, _ => pN c
 | x :: r, c, l, h4, hc => by
   have x4 := h4 x List.mem_cons_self
   have cx := hc x x4
   rw [aw, if_pos rfl] at cx
   have nz : c.getD x 0 ≠ 0 := by omega
   have ih := vU r (less c x) (by rw [eB]; exact l) (fun y hy => h4 y (List.mem_cons_of_mem _ hy)) (fun s hs => by
    have e := hc s hs
    rw [aw] at e
    rw [mB c x s (by omega)]
    by_cases z : s = x
    ·subst z
     rw [if_pos rfl] at e ⊢
     omega
    ·rw [if_neg z, e, if_neg (fun q => z q.symm)]
     omega)
   rw [<- ib nz] at ih
   show Vbbraa.sum ((List.range x).map (wordsWith c)) + rank (less c x) r < words c
   have pos : 0 < Vbbraa.sum c := by
    have := ie c x nz
    omega
   obtain ⟨a, b, e, f, rfl⟩ := rG l
   have tot := nX a b e f pos
   match x, x4, ih with
   | 0, _, ih =>
     show 0 + _ < _
     omega
   | 1, _, ih =>
     show wordsWith [a, b, e, f] 0 + 0 + _ < _
     omega
   | 2, _, ih =>
     show wordsWith [a, b, e, f] 0 + (wordsWith [a, b, e, f] 1 + 0) + _ < _
     omega
   | 3, _, ih =>
     show wordsWith [a, b, e, f] 0 + (wordsWith [a, b, e, f] 1 + (wordsWith [a, b, e, f] 2 + 0)) + _ < _
     omega
theorem gI {d e : Deal} (g : bB d) (ge : bB e) (hw : isWhole e = true) (ha : agrees d e = true) : placeOf d e < fits d := by
 refine vU (wordIn d e) (room d) (fN d) (jM (sx ge hw) d e (fun x hx => hx)) (fun s hs => pZ g ge hw ha s hs)
end Db
end
section
namespace Db
open PySem
structure xW (S : List Addr) (e : Addr) (X : Addr -> Prop) (h h' : Heap) : Prop where
 keep : ∀ b o, b ∉ S -> b ≠ e -> ¬ X b -> h.get? b = some o -> h'.get? b = some o
 slot : ∀ b o, b ∈ S -> b ≠ e -> ¬ X b -> h.get? b = some o -> ∃ sl, h'.get? b = some { o with slots := sl }
structure mV (h : Heap) (e T : Addr) (oe : Obj) (vs : Array Value) (fl : Value) : Prop where
 at_ : h.get? e = some { oe with data := .fields vs }
 one : vs[1]? = some (.ref T)
 ne : T ≠ e
 ent : ∃ oT ts, h.get? T = some oT /\ oT.data = .fields ts /\ ts[3]? = some fl
section
variable {M : Model} {A : Around} {E : Value -> Shared -> Prop} {s : Shared} {base : Heap} {env : Env} {outer : List Env} {L e : Addr} {oe : Obj} {vs : Array Value}
theorem uU {o : Obj} {vs : Array Value} (hd : o.data = .fields vs) (g : Array Value -> Array Value) : o.mapFields g = { o with data := .fields (g vs) } := by
 obtain ⟨c, d, dt, sl⟩ := o
 cases hd
 rfl
theorem eX {h : Heap} {l : List Env} (hl : h.FunFrames base l) {b : Addr} {o : Obj} {us : Array Value} (hb : h.get? b = some o) (hd : o.data = .fields us) : b ∉ l.filterMap (·.frame) := fun m => by
 obtain ⟨_, o', ho', hn⟩ := hl.mem m
 rw [hb] at ho'
 cases ho'
 exact hn us hd
theorem qz {head : Value} {hadNext : Bool} {Q : Unit -> Shared -> Prop} (hfr : A.frames = some (env :: outer)) (hl : s.heap.FunFrames base (env :: outer)) (hf : env.frame = some L)
 (he : s.heap.get? e = some oe) (hd : oe.data = .fields vs) (hz : 1 < vs.size)
 (hq : ∀ h' T, xW ((env :: outer).filterMap (·.frame)) e (fun _ => False) s.heap h' -> s.heap.objs.size <= T -> mV h' e T oe (vs.setIfInBounds 1 (.ref T)) (rawInt L) -> Q () { s with heap := h' }) :
 wpAny M A (frameOf env >>= fun a => entryPlaceOf L hadNext >>= fun pl => EntryCells.newEntry head a .none (rawInt L) .none pl >>= fun b => setField (.ref e) 1 b) Q E s := by
 have nf : e ∉ (env :: outer).filterMap (·.frame) := eX hl he hd
 refine wpAny_bind (wpAny_frameOf_fun hfr hl hf fun g1 sl1 => ?_)
 refine wpAny_bind (wpAny_entryPlaceOf fun pl ip => ?_)
 unfold EntryCells.newEntry newFields
 refine wpAny_bind (wpAny_newObj_type ?_ (ip.sizeOk5 _ _ _ _ _))
 have e1 : g1.get? e = some oe := by rw [sl1.2.1 e nf]; exact he
 generalize hO : ({ cls := Value.type "traceback", dict := none, data := Data.fields ([head, Value.ref L, .none, rawInt L, .none] ++ (if pl.isEmpty then List.replicate 6 Value.none else pl)).toArray } : Obj) = ob
 have e2 := Heap.get?_push_of_some ob e1
 have nT : g1.objs.size ≠ e := Nat.ne_of_gt (Heap.lt_size e1)
 refine wpAny_setField e2 hd hz (hq _ g1.objs.size ⟨fun b o hb hbe _ eb => ?_, fun b o hb hbe _ eb => ?_⟩ ?_ ⟨?_, ?_, nT, ob, ([head, Value.ref L, .none, rawInt L, .none] ++ (if pl.isEmpty then List.replicate 6 Value.none else pl)).toArray, ?_, ?_, ?_⟩)
 ·rw [Heap.get?_update_other _ _ (Ne.symm hbe)]
  refine Heap.get?_push_of_some _ ?_
  rw [sl1.2.1 b hb]
  exact eb
 ·obtain ⟨sl, q⟩ := sl1.2.2 b o eb
  refine ⟨sl, ?_⟩
  rw [Heap.get?_update_other _ _ (Ne.symm hbe)]
  exact Heap.get?_push_of_some _ q
 ·rw [sl1.1]
  exact Nat.le_refl _
 ·have q := Heap.get?_update_self (Obj.mapFields (·.setIfInBounds 1 (Value.ref g1.objs.size))) e2 (Obj.isFreed_of_fields (Obj.data_mapFields hd _))
  rw [uU hd] at q
  exact q
 ·rw [Array.getElem?_setIfInBounds_self_of_lt hz]
 ·rw [Heap.get?_update_other _ _ (Ne.symm nT)]
  refine Heap.get?_push_size g1 ?_
  subst hO
  rfl
 ·subst hO
  rfl
 ·simp
theorem o4 {T : Addr} {fl : Value} {Q : Unit -> Shared -> Prop} (x : mV s.heap e T oe vs fl)
 (hq : ∀ h', xW [] e (fun b => b = T) s.heap h' -> mV h' e T oe vs .none -> Q () { s with heap := h' }) : wpAny M A (setFlight (.ref e) none) Q E s := by
 obtain ⟨oT, ts, hT, dT, h3⟩ := x.ent
 have z3 : 3 < ts.size := (Array.getElem?_eq_some_iff.mp h3).1
 unfold setFlight
 refine wpAny_bind (wpAny_field x.at_ rfl x.one ?_)
 rw [if_pos (show (Value.ref T != Value.none) = true by simp)]
 refine wpAny_setField hT dT z3 (hq _ ⟨fun b o _ _ nb eb => ?_, fun b o hb => nomatch hb⟩ ⟨?_, x.one, x.ne, oT.mapFields (·.setIfInBounds 3 .none), ts.setIfInBounds 3 .none, ?_, Obj.data_mapFields dT _, ?_⟩)
 ·rw [Heap.get?_update_other _ _ (fun q => nb q.symm)]
  exact eb
 ·rw [Heap.get?_update_other _ _ x.ne]
  exact x.at_
 ·exact Heap.get?_update_self _ hT (Obj.isFreed_of_fields (Obj.data_mapFields dT _))
 ·rw [Array.getElem?_setIfInBounds_self_of_lt z3]
theorem uV {Q : Unit -> Shared -> Prop} (hfr : A.frames = some (env :: outer)) (hl : s.heap.FunFrames base (env :: outer)) (hf : env.frame = some L)
 (he : s.heap.get? e = some oe) (hd : oe.data = .fields vs) (h1 : vs[1]? = some .none)
 (hq : ∀ h' T, xW ((env :: outer).filterMap (·.frame)) e (fun _ => False) s.heap h' -> s.heap.objs.size <= T -> mV h' e T oe (vs.setIfInBounds 1 (.ref T)) .none -> Q () { s with heap := h' }) :
 wpAny M A (noteFrame (.ref e) env) (fun _ s2 => wpAny M A (setFlight (.ref e) none) Q E s2) E s := by
 unfold noteFrame
 simp only [hf]
 refine wpAny_bind (wpAny_field he hd h1 ?_)
 rw [if_neg (by decide)]
 refine qz hfr hl hf he hd (Array.getElem?_eq_some_iff.mp h1).1 fun h' T n zT x => ?_
 have nT : s.heap.get? T = none := Heap.get?_none_of_le zT
 refine o4 (s := { s with heap := h' }) x fun g m y => hq g T ⟨fun b o hb hbe _ eb => ?_, fun b o hb hbe _ eb => ?_⟩ zT y
 ·refine m.keep b o (by simp) hbe (fun q => ?_) (n.keep b o hb hbe id eb)
  rw [q, nT] at eb
  cases eb
 ·obtain ⟨sl, q⟩ := n.slot b o hb hbe id eb
  refine ⟨sl, m.keep b _ (by simp) hbe (fun z => ?_) q⟩
  rw [z, nT] at eb
  cases eb
theorem qe {T0 : Addr} {Q : Unit -> Shared -> Prop} (hfr : A.frames = some (env :: outer)) (hl : s.heap.FunFrames base (env :: outer)) (hf : env.frame = some L) (x : mV s.heap e T0 oe vs .none)
 (hq : ∀ h' T, xW ((env :: outer).filterMap (·.frame)) e (fun b => b = T0) s.heap h' -> s.heap.objs.size <= T -> mV h' e T oe (vs.setIfInBounds 1 (.ref T)) .none -> Q () { s with heap := h' }) :
 wpAny M A (noteFrame (.ref e) env) (fun _ s2 => wpAny M A (setFlight (.ref e) none) Q E s2) E s := by
 obtain ⟨oT, ts, hT, dT, h3⟩ := x.ent
 have z3 : 3 < ts.size := (Array.getElem?_eq_some_iff.mp h3).1
 unfold noteFrame
 simp only [hf]
 refine wpAny_bind (wpAny_field x.at_ rfl x.one ?_)
 rw [if_pos (show (Value.ref T0 != Value.none) = true by simp)]
 refine wpAny_bind (wpAny_field hT dT h3 ?_)
 rw [if_neg (show ¬ ((Value.none == rawInt L) = true) by simp [rawInt])]
 refine wpAny_bind (wpAny_setField hT dT z3 ?_)
 have other : ∀ b, b ≠ T0 -> (s.heap.update T0 (Obj.mapFields (·.setIfInBounds 3 .none))).get? b = s.heap.get? b := fun b hb => Heap.get?_update_other _ _ (Ne.symm hb)
 have nfT : ∀ b ∈ (env :: outer).filterMap (·.frame), b ≠ T0 := fun b hb q => eX hl hT dT (q ▸ hb)
 refine qz (s := { s with heap := s.heap.update T0 (Obj.mapFields (·.setIfInBounds 3 .none)) }) (oe := { oe with data := .fields vs }) hfr (hl.of_keeps fun b o eb nd => ⟨o, ?_, rfl⟩) hf ((other e (Ne.symm x.ne)).trans x.at_) rfl (Array.getElem?_eq_some_iff.mp x.one).1 fun h' T n zT y => ?_
 ·rw [other b (fun q => by rw [q, hT] at eb; cases eb; exact nd ts dT)]
  exact eb
 ·have zT' : s.heap.objs.size <= T := by
   have q : (s.heap.update T0 (Obj.mapFields (·.setIfInBounds 3 .none))).objs.size = s.heap.objs.size := (Heap.SameBut.update ..).1
   rw [<- q]
   exact zT
  have nT' : s.heap.get? T = none := Heap.get?_none_of_le zT'
  refine o4 (s := { s with heap := h' }) y fun g m z => hq g T ⟨fun b o hb hbe hbT eb => ?_, fun b o hb hbe hbT eb => ?_⟩ zT' ⟨z.at_, z.one, z.ne, z.ent⟩
  ·refine m.keep b o (by simp) hbe (fun q => ?_) (n.keep b o hb hbe id ((other b hbT).trans eb))
   rw [q, nT'] at eb
   cases eb
  ·obtain ⟨sl, q⟩ := n.slot b o hb hbe id ((other b hbT).trans eb)
   refine ⟨sl, m.keep b _ (by simp) hbe (fun z => ?_) q⟩
   rw [z, nT'] at eb
   cases eb
end
end Db
end
section
namespace Db
open PySem
open Builtin Builtin.ObjectAttr
section
variable {M : Model} {A : Around} {E : Value -> Shared -> Prop} {env : Env} {h : Heap} {g : Array GenState} {d : Drawn} {t : Nat} {os : OsState}
variable {nm q : Str} {C N : Addr} {bs bm : List Value} {hdct : Bool} {sn : List Str} {sub : List Value} {ab : Bool} {col : Option Bool} {dd : Option Addr} {k0 k1 k2 k3 k5 : Option Value} {newId : String}
theorem xc {s : Shared} {y : Sem Value} {Q : Flow -> Shared -> Prop} (hb : bm.contains (.type "BaseException") = true) (hh : A.handled = none)
 (hy : wpAny M A y (fun v s1 => ∃ e dx tp, v = .ref e /\ s1.heap.get? C = some (excClassObj nm q C N bs bm hdct sn sub ab col dd k0 k1 k2 k3 k5 newId) /\ s1.heap.get? e = some { cls := .ref C, dict := dx, data := .fields #[.ref tp, .none, .none, .none, .bool false, .none] } /\ E (.ref e) s1) E s) :
 wpAny M A (raiseStmt env (some y) none) Q E s := by
 have hc1 : (Value.ref C :: bm).contains (.type "BaseException") = true := by
  rw [List.contains_cons, hb, Bool.or_true]
 unfold raiseStmt
 refine wpAny_bind (wpAny_mono hy (fun v s1 z => ?_) fun _ _ z => z)
 obtain ⟨e, dx, tp, rfl, hC, he, hE⟩ := z
 obtain ⟨hp, gg, dr, tk, o2⟩ := s1
 repeat (first
  | with_reducible refine wpAny_loadPart_at he ?_
  | with_reducible refine wpAny_loadPart_at hC ?_
  | (with_reducible refine wpAny_isSubtype_exc hC ?_; rw [hc1])
  | wp_step)
 exact wpAny_raiseNew_none hh hE
end
section
variable {prog : Program} {w : World} {A : Around} {E : Value -> Shared -> Prop} {h : Heap} {g : Array GenState} {d : Drawn} {t : Nat} {os : OsState}
variable {nm q : Str} {C N x : Addr} {bs bm : List Value} {sn : List Str} {sub : List Value} {ab : Bool} {col : Option Bool} {dd : Option Addr} {k0 k1 k2 k3 k5 : Option Value} {B newId : String}
 {mN mA : Str -> Option Value} {name : Str} {v : Value}
theorem ss {tk : Tok} {Q : Fin -> Shared -> Prop} (FB : ExcAttrBase B bm)
 (hC : h.get? C = some (excClassObj nm q C N bs bm true sn sub ab col dd k0 k1 k2 k3 k5 newId)) (hn : h.Ns N mN) (hna : mN name = none)
 (hB : typeLookup (.type B) name = pure none) (I : h.Inst x C mA) (hv : mA name = some v) (hq : Q (.done (.ret v)) ⟨h, g, d, t, os⟩) :
 wpAny (model prog w) A (Builtin.«object.__getattribute__» ⟨[.ref x, .str name tk], []⟩) Q E ⟨h, g, d, t, os⟩ := by
 obtain ⟨o, hx, hc, hnc, hd⟩ := I
 rcases hd with ⟨_, z⟩ | ⟨dx, hdx, hne, hns⟩
 ·rw [z name] at hv
  cases hv
 unfold Builtin.«object.__getattribute__»
 repeat (first
  | (with_reducible refine wpAny_loadPart_at hx ?_; rw [hc])
  | (with_reducible refine wpAny_typeLookup_exc hC hn FB.mro hB ?_; rw [hna])
  | wp_step)
 split
 ·rename_i c hcd
  exact absurd hcd (hnc c)
 unfold instanceDict
 repeat (first
  | (with_reducible refine wpAny_loadPart_at hx ?_; rw [hc])
  | with_reducible refine wpAny_loadPart_at hC ?_
  | wp_step)
 rw [hdx]
 repeat (first
  | (with_reducible refine wpAny_nsGet hns.ns ?_; rw [hv])
  | wp_step)
 exact hq
theorem wU {M : Model} {o : Obj} {nameV : Value} {Q : Unit -> Shared -> Prop} (FB : ExcAttrBase B bm) (hC : h.get? C = some (excClassObj nm q C N bs bm true sn sub ab col dd k0 k1 k2 k3 k5 newId))
 (hx : h.get? x = some o) (hc : o.cls = .ref C) (hq : Q () ⟨h, g, d, t, os⟩) : wpAny M A (checkBuiltinCall "BaseException.__getattribute__" ⟨[.ref x, nameV], []⟩) Q E ⟨h, g, d, t, os⟩ := by
 have z1 : builtinKind "BaseException.__getattribute__" = some .slot := by decide +kernel
 have z2 : splitId "BaseException.__getattribute__" = some ("BaseException", "__getattribute__") := by decide +kernel
 have z3 : (Value.ref C :: bm).contains (.type "BaseException") = true := by
  rw [List.contains_cons, FB.hasBase, Bool.or_true]
 have ha := F.args_bexc_ga (.ref x) nameV
 simp only [checkBuiltinCall, z1, z2]
 refine wpAny_bind ?_
 unfold isInstance
 repeat (first
  | (with_reducible refine wpAny_loadPart_at hx ?_; rw [hc])
  | (with_reducible refine wpAny_isSubtype_exc hC ?_; rw [z3])
  | wp_step)
 exact hq
theorem ui {expr : Bool} {Q : Value -> Shared -> Prop} (FB : ExcAttrBase B bm)
 (hC : h.get? C = some (excClassObj nm q C N bs bm true sn sub ab col dd k0 k1 k2 k3 k5 newId)) (hn : h.Ns N mN) (hn1 : mN "__getattribute__" = none) (hn2 : mN "__getattr__" = none) (hna : mN name = none)
 (hB : typeLookup (.type B) name = pure none) (I : h.Inst x C mA) (hv : mA name = some v) (hh : handedOut v = pure v) (hq : Q v ⟨h, g, d, t + 1, os⟩) :
 wpAny (model prog w) A (getAttr (.ref x) name expr) Q E ⟨h, g, d, t, os⟩ := by
 obtain ⟨o, hx, hc, _⟩ := id I
 have f3 := FB.ga.bind (.ref x)
 have y0 : (expr && onTheHeap (Value.builtin "BaseException.__getattribute__")) = false := by cases expr <;> rfl
 have y2 : (Value.builtin "BaseException.__getattribute__" == Value.builtin "object.__getattribute__") = false := by decide +kernel
 have y1 : (onTheHeap (Value.ref C) && Value.builtin "BaseException.__getattribute__" == Value.builtin "object.__getattribute__") = false := by
  rw [y2]
  rfl
 unfold getAttr
 repeat (any_goals (first
  | assumption
  | (with_reducible refine wpAny_loadPart_at hx ?_; rw [hc])
  | (with_reducible refine wpAny_typeLookup_exc hC hn FB.mro FB.ga.lookup ?_; rw [hn1])
  | (with_reducible refine wpAny_typeLookup_exc hC hn FB.mro FB.noGetattr ?_; rw [hn2])
  | wp_step))
 refine codeAny_call_builtin FB.ga.plain F.entry_bexc_ga (wU FB hC hx hc (ss FB hC hn hna hB I hv ?_))
 show wpAny _ _ (handedOut v) _ _ _
 rw [hh]
 exact wpAny_pure hq
end
end Db
end
section
namespace Db
open PySem
open Builtin Builtin.ObjectAttr
abbrev qM : List Value := [.type "Exception", .type "BaseException", .type "object"]
section
variable {prog : Program} {w : World} {A : Around} {E : Value -> Shared -> Prop} {h : Heap} {g : Array GenState} {d : Drawn} {t : Nat} {os : OsState}
variable {nm q : Str} {C N x : Addr} {bs : List Value} {sn : List Str} {sub : List Value} {ab : Bool} {col : Option Bool} {dd : Option Addr} {k0 k1 k2 k3 k5 : Option Value} {newId sa owner : String}
 {mN : Str -> Option Value} {fld : Str} {val : Value} {ob : Obj}
theorem wT {tk : Tok} {Q : Fin -> Shared -> Prop} (SF : StoreFacts "Exception" qM sa owner) (cl : h.get? C = some (excClassObj nm q C N bs qM true sn sub ab col dd k0 k1 k2 k3 k5 newId)) (nn : h.Ns N mN) (n1 : mN fld = none)
 (nb : typeLookup (.type "Exception") fld = pure none) (ox : h.get? x = some ob) (oc : ob.cls = .ref C) (od : ob.dict = none) (nc : ∀ c, ob.data ≠ .cls c)
 (fin : ∀ h2 tk2, h2.Ns1 h.objs.size (fun y => if y = fld then some val else none) -> h2.get? x = some { cls := ob.cls, dict := some h.objs.size, data := ob.data, slots := ob.slots } ->
  (∀ b u, b ≠ x -> h.get? b = some u -> h2.get? b = some u) -> Q (.done (.ret .none)) ⟨h2, g, d, tk2, os⟩) :
 wpAny (model prog w) A (Builtin.«object.__setattr__» ⟨[.ref x, .str fld tk, val], []⟩) Q E ⟨h, g, d, t, os⟩ := by
 have lp := SF.passes (.ref x)
 have mr := SF.mro
 unfold Builtin.«object.__setattr__»
 repeat (first
  | rw [refuse_eq]
  | (rw [refuseLoop_ref, lp])
  | (with_reducible refine wpAny_loadPart_at ox ?_; rw [oc])
  | with_reducible refine wpAny_mroOf_exc cl ?_
  | (with_reducible refine wpAny_typeLookup_exc cl nn mr nb ?_; rw [n1])
  | wp_step)
 rw [od, if_neg (by simp [typeHasDict])]
 split
 ·rename_i z
  cases z
 split
 ·rename_i c z
  exact absurd z (nc c)
 have ox2 : (h.push { cls := .type "dict", data := .dict #[] }).get? x = some ob := Heap.get?_push_of_some _ ox
 have lt : x ≠ h.objs.size := Nat.ne_of_lt (Heap.lt_size ox)
 refine wpAny_bind (wpAny_alloc' (wpAny_bind (wpAny_update' ox2 (wpAny_pure ?_))))
 generalize hg : ((h.push { cls := .type "dict", data := .dict #[] }).update x fun o => { cls := o.cls, dict := some h.objs.size, data := o.data, slots := o.slots }) = g1
 have atD : g1.get? h.objs.size = some { cls := .type "dict", data := .dict #[] } := by
  rw [<- hg, Heap.get?_update_ne _ _ _ _ (Ne.symm lt)]
  exact Heap.get?_push_at rfl rfl
 have e0 : g1.Ns h.objs.size (fun _ => none) := ⟨_, #[], _, atD, rfl, fun e he => absurd he (by simp), fun _ => rfl⟩
 have atX : g1.get? x = some { cls := ob.cls, dict := some h.objs.size, data := ob.data, slots := ob.slots } := by
  rw [<- hg]
  refine Heap.get?_update_self _ ox2 ?_
  have fr := (Heap.get?_some_iff.mp ox).2
  obtain ⟨c1, c2, c3, c4⟩ := ob
  cases c3 <;> first | rfl | exact fr
 have kp : ∀ b u, b ≠ x -> h.get? b = some u -> g1.get? b = some u := fun b u nb eb => by
  rw [<- hg, Heap.get?_update_ne _ _ _ _ nb]
  exact Heap.get?_push_of_some _ eb
 clear hg
 show wpAny _ _ (storeInDict h.objs.size (.str fld tk) fld val) _ _ _
 unfold storeInDict newKeyGuard
 refine wpAny_bind (wpAny_pure (wpAny_bind (wpAny_nsSet1 (Heap.Ns1.of_empty e0) fun h2 n2 sb => ?_)))
 obtain ⟨oD, esD, epD, aD, bD, cD⟩ := n2.count (Within.cons fld val Within.nil)
 refine wpAny_bind (wpAny_lookBehind aD (by rw [bD]; exact pastItsLine_dict (Nat.le_trans cD (by rw [List.length_cons, List.length_nil, sizeLine_eq]; omega))) ?_)
 wp_walk
 exact fin h2 _ n2 ((sb.2 x lt).trans atX) fun b u nb eb => (sb.2 b (Nat.ne_of_lt (Heap.lt_size eb))).trans (kp b u nb eb)
theorem su {tk : Tok} {R : Result -> Shared -> Prop} (SF : StoreFacts "Exception" qM sa owner) (cl : h.get? C = some (excClassObj nm q C N bs qM true sn sub ab col dd k0 k1 k2 k3 k5 newId)) (nn : h.Ns N mN) (n1 : mN fld = none)
 (nb : typeLookup (.type "Exception") fld = pure none) (ox : h.get? x = some ob) (oc : ob.cls = .ref C) (od : ob.dict = none) (nc : ∀ c, ob.data ≠ .cls c)
 (fin : ∀ h2 tk2, h2.Ns1 h.objs.size (fun y => if y = fld then some val else none) -> h2.get? x = some { cls := ob.cls, dict := some h.objs.size, data := ob.data, slots := ob.slots } ->
  (∀ b u, b ≠ x -> h.get? b = some u -> h2.get? b = some u) -> R (.ok (.ret .none)) ⟨h2, g, d, tk2, os⟩) :
 codeAny (model prog w) A (.call (.builtin sa) ⟨[.ref x, .str fld tk, val], []⟩) R ⟨h, g, d, t, os⟩ :=
 codeAny_call_builtin SF.slot.plain SF.entry (wpAny_check_sa SF cl ox oc (wT SF cl nn n1 nb ox oc od nc fin))
theorem A6 {Q : Unit -> Shared -> Prop} (SF : StoreFacts "Exception" qM sa owner) (cl : h.get? C = some (excClassObj nm q C N bs qM true sn sub ab col dd k0 k1 k2 k3 k5 newId)) (nn : h.Ns N mN) (n0 : mN "__setattr__" = none) (n1 : mN fld = none)
 (nb : typeLookup (.type "Exception") fld = pure none) (ox : h.get? x = some ob) (oc : ob.cls = .ref C) (od : ob.dict = none) (nc : ∀ c, ob.data ≠ .cls c)
 (fin : ∀ h2 tk2, h2.Ns1 h.objs.size (fun y => if y = fld then some val else none) -> h2.get? x = some { cls := ob.cls, dict := some h.objs.size, data := ob.data, slots := ob.slots } ->
  (∀ b u, b ≠ x -> h.get? b = some u -> h2.get? b = some u) -> Q () ⟨h2, g, d, tk2, os⟩) :
 wpAny (model prog w) A (setAttr (.ref x) fld val) Q E ⟨h, g, d, t, os⟩ := by
 have bd := SF.slot.bind (.ref x)
 unfold setAttr callSpecial? specialOf
 repeat (any_goals (first
  | assumption
  | (with_reducible refine wpAny_loadPart_at ox ?_; rw [oc])
  | (with_reducible refine wpAny_typeLookup_exc cl nn SF.mro SF.slot.lookup ?_; rw [n0])
  | wp_step))
 refine su SF cl nn n1 nb ox oc od nc fun h2 tk2 a b c => ?_
 repeat (any_goals (first | assumption | wp_step))
 exact fin h2 tk2 a b c
end
end Db
end
section
namespace L2
open PySem PySem.Spec PyProof.Rows Db
structure zH (C : Addr) (h0 : Heap) (H : Hp) (h : Heap) (a dx : Addr) : Prop where
 new : h0.get? a = none
 free : H a = none
 ne : dx ≠ a
 ex : ∃ (oe : Obj) (vs : Array Value) (T : Addr), h0.get? T = none /\ H T = none /\ oe.cls = .ref C /\ oe.dict = some dx /\ mV h a T oe vs .none
def f7 (P : Program) (w : World) (C : Addr) : CXT := fun outer H s E e s' => ∃ (a dx : Addr) (H' : Hp), e = .ref a /\ s'.os = s.os /\ AllBare s'.gens /\ Un (sr outer) [] H H' s.heap s'.heap /\ jb P w H' s'.heap /\
 zH C s.heap H' s'.heap a dx /\ E (.ref C) (some dx) H'
section
variable {P : Program} {w : World} {K : W.Frag} {mg : Str -> Option Value} {base : Heap} {N : List Str} {qual : Str} {scope : Scope} {f C : Addr} {cd : Value} {A : Around} {outer : List Env} {s_0 : Shared} {H_0 : Hp} {E : XK}
variable {pins : List (Addr × Obj)} {σ : St} {H : Hp} {s : Shared} {h' : Heap} {a dx T : Addr} {S0 : Addr -> Prop} {oe : Obj} {vs : Array Value}
theorem lq {env : Env} {L b : Addr} (e : env.frame = some L) (h : b ∈ (env :: outer).filterMap (·.frame)) : b = L \/ b ∈ sr outer := by
 rw [List.filterMap_cons, e] at h
 exact List.mem_cons.mp h
theorem i3 {env : Env} {b : Addr} (h : b ∈ sr outer) : b ∈ (env :: outer).filterMap (·.frame) := by
 rw [List.filterMap_cons]
 split
 ·exact h
 ·exact List.mem_cons_of_mem _ h
theorem we (I : aE (fg (f7 P w C) P w K mg base N qual scope f cd A outer s_0 H_0 E) pins σ H s)
 (n : xW ((envOfC qual scope s_0.heap.objs.size f cd :: outer).filterMap (·.frame)) a S0 s.heap h') (ha : s_0.heap.get? a = none) (fa : H a = none) (hS : ∀ b, S0 b -> s_0.heap.get? b = none /\ H b = none)
 (zT : s.heap.objs.size <= T) (x : mV h' a T oe vs .none) (c1 : oe.cls = .ref C) (c2 : oe.dict = some dx) (ne : dx ≠ a) (q : E (.ref C) (some dx) H) :
 f7 P w C outer H_0 s_0 E (.ref a) { s with heap := h' } := by
 have sz : s_0.heap.objs.size <= s.heap.objs.size := I.sz
 have B : Un (sr outer) [] H_0 H s_0.heap s.heap := I.base
 have frm : ∀ b o, s_0.heap.get? b = some o -> b ∈ (envOfC qual scope s_0.heap.objs.size f cd :: outer).filterMap (·.frame) -> b ∈ sr outer := fun b o e hb => by
  rcases lq (L := s_0.heap.objs.size) rfl hb with z | z
  ·exact absurd (Heap.lt_size e) (by rw [z]; exact Nat.lt_irrefl _)
  ·exact z
 have old : ∀ b o, s_0.heap.get? b = some o -> b ≠ a /\ ¬ S0 b := fun b o e => by
  refine ⟨fun z => ?_, fun z => ?_⟩
  ·rw [z, ha] at e
   cases e
  ·rw [(hS b z).1] at e
   cases e
 refine ⟨a, dx, H, rfl, I.os, I.bare, ⟨fun b o e n0 hf _ => ?_, fun b o e n0 hf _ => ?_, fun b o e n0 _ => B.free b o e n0 (by simp), fun b o e _ => ?_, B.tups, B.frzs, B.tbls⟩, fun b o e => ?_, ⟨ha, fa, ne, oe, vs, T, Heap.get?_none_of_le (Nat.le_trans sz zT), I.hok.fresh zT, c1, c2, x⟩, q⟩
 ·exact n.keep b o (fun z => hf (frm b o e z)) (old b o e).1 (old b o e).2 (B.keep b o e n0 hf (by simp))
 ·obtain ⟨sl, e1⟩ := B.slot b o e n0 hf (by simp)
  obtain ⟨sl2, e2⟩ := n.slot b _ (i3 hf) (old b o e).1 (old b o e).2 e1
  exact ⟨sl2, e2⟩
 ·obtain ⟨o1, e1⟩ := B.there b o e (by simp)
  by_cases hb : b ∈ (envOfC qual scope s_0.heap.objs.size f cd :: outer).filterMap (·.frame)
  ·obtain ⟨sl2, e2⟩ := n.slot b _ hb (old b o e).1 (old b o e).2 e1
   exact ⟨_, e2⟩
  ·exact ⟨_, n.keep b _ hb (old b o e).1 (old b o e).2 e1⟩
 ·refine (I.hok b o e).stay (fun c u hc ec => ?_) (fun _ z => z) fun _ _ z => z
  have hn : H c ≠ none := by
   rcases hc with z | z
   ·rw [z, e]
    intro y
    cases y
   ·rw [z]
    intro y
    cases y
  exact n.keep c u (fun z => hn (I.stkFree c z)) (fun z => hn (by rw [z]; exact fa)) (fun z => hn (hS c z).2) ec
theorem yX {h0 : Heap} (I : aE (fg (f7 P w C) P w K mg base N qual scope f cd A outer s_0 H_0 E) pins σ H s) (fl : zH C h0 H s.heap a dx) (hlo : ∀ b, h0.get? b = none -> s_0.heap.get? b = none) (q : E (.ref C) (some dx) H) :
 (fg (f7 P w C) P w K mg base N qual scope f cd A outer s_0 H_0 E).xe (.ref a) s := by
 obtain ⟨l1, f1, ne, oe, vs, T, l2, f2, c1, c2, x⟩ := fl
 show wpAny _ _ (leaving _ _) _ _ _
 unfold leaving
 refine wpAny_bind (qe (base := base) I.ok.frames I.stack rfl x fun h' T' n zT y => ?_)
 exact we I n (hlo _ l1) f1 (fun b z => by rw [z]; exact ⟨hlo _ l2, f2⟩) zT y c1 c2 ne q
theorem xB (I : aE (fg (f7 P w C) P w K mg base N qual scope f cd A outer s_0 H_0 E) pins σ H s) (he : s.heap.get? a = some oe) (hd : oe.data = .fields vs) (h1 : vs[1]? = some .none)
 (c1 : oe.cls = .ref C) (c2 : oe.dict = some dx) (ha : s_0.heap.get? a = none) (fa : H a = none) (ne : dx ≠ a) (q : E (.ref C) (some dx) H) :
 (fg (f7 P w C) P w K mg base N qual scope f cd A outer s_0 H_0 E).xe (.ref a) s := by
 show wpAny _ _ (leaving _ _) _ _ _
 unfold leaving
 refine wpAny_bind (uV (base := base) I.ok.frames I.stack rfl he hd h1 fun h' T' n zT y => ?_)
 exact we I n ha fa (fun b z => z.elim) zT y c1 c2 ne q
theorem aE.older (I : aE (fg (f7 P w C) P w K mg base N qual scope f cd A outer s_0 H_0 E) pins σ H s) (b : Addr) (h : s.heap.get? b = none) : s_0.heap.get? b = none := by
 cases q : s_0.heap.get? b with
 | none => rfl
 | some o =>
   obtain ⟨o', e⟩ := (show Un (sr outer) [] H_0 H s_0.heap s.heap from I.base).there b o q (by simp)
   rw [h] at e
   cases e
theorem kW : du (f7 P w C) (fg (f7 P w C) P w K mg base N qual scope f cd A outer s_0 H_0 E) E := by
 intro pins σ H s e s' I h
 obtain ⟨a, dx, H', rfl, os, bare, un, hok, fl, q⟩ := h
 exact yX (I.call' os un hok bare fun b hb => absurd hb (by simp)) fl I.older q
theorem Ac : PassesOwn (model (fg (f7 P w C) P w K mg base N qual scope f cd A outer s_0 H_0 E).prog (fg (f7 P w C) P w K mg base N qual scope f cd A outer s_0 H_0 E).w) (fg (f7 P w C) P w K mg base N qual scope f cd A outer s_0 H_0 E).A
 (fg (f7 P w C) P w K mg base N qual scope f cd A outer s_0 H_0 E).env (fg (f7 P w C) P w K mg base N qual scope f cd A outer s_0 H_0 E).xe := PassesOwn.leaving
end
theorem b7.okX {P : Program} {w : World} {K : W.Frag} {mg : Str -> Option Value} {base : Heap} {C : Addr} {x qual : Str} {st : Stmt} {f : Addr} {fd : FuncData} {N ps : List Str} {k : Nat} {sp : Sp} (F : b7 K x qual st f fd) (S : ao N ps (ai st)) (len : ∀ vs H Q E, sp vs H Q E -> vs.length = ps.length)
 (hbody : ∀ (cdv : Value) (A : Around) (outer : List Env) (s : Shared) (H : Hp) (vs : List V) (Q : VK) (E : XK), dq k (A.deeper (envOfC qual (ai st) s.heap.objs.size f cdv)) -> sp vs H Q E ->
  ∃ t, uh (fg (f7 P w C) P w K mg base N qual (ai st) f cdv A outer s H E) (gZ st) t /\ t { nx := fun _ H' => Q .non H', rt := Q } (start N vs) H) : aP P w K mg base (f7 P w C) (k + 1) f fd ps sp := by
 obtain ⟨oc, od, kV, doc, pm, an, cdv, ct, osl, rfl, lk, hcd⟩ := F.ex
 exact AZ lk hcd S len fun A outer s H vs Q E hr hsp => hbody cdv A outer s H vs Q E hr hsp
structure jK (K : W.Frag) (C N fI : Addr) (f1 f2 : Str) : Prop where
 obj : ∃ (nm q : Str) (bs : List Value) (sn : List Str) (sub : List Value) (ab : Bool) (col : Option Bool) (dd : Option Addr) (k0 k1 k2 k3 k5 : Option Value),
  K.lookup C = some (excClassObj nm q C N bs qM true sn sub ab col dd k0 k1 k2 k3 k5 "Exception.__new__")
 ns : ∃ (c : Value) (d : Option Addr) (es : Array DictEntry) (n : Nat) (sl : Array (Option Value)), K.lookup N = some ⟨c, d, .dict es n, sl⟩ /\ es.toList.all qN = true
 init : W.nsIn K N "__init__" = some (some (.ref fI))
 n0 : W.nsIn K N "__setattr__" = some none
 n1 : W.nsIn K N "__getattribute__" = some none
 n2 : W.nsIn K N "__getattr__" = some none
 n3 : W.nsIn K N f1 = some none
 n4 : W.nsIn K N f2 = some none
 kp : W.keepIn K (.ref C) = true
 b1 : typeLookup (.type "Exception") f1 = pure none
 b2 : typeLookup (.type "Exception") f2 = pure none
theorem xx {K : W.Frag} {N : Addr} {c : Value} {d : Option Addr} {es : Array DictEntry} {n : Nat} {sl : Array (Option Value)} {x : Str} {v : Value} (hl : K.lookup N = some ⟨c, d, .dict es n, sl⟩)
 (e : W.nsIn K N x = some (some v)) : nsFind es x = some v := by
 unfold W.nsIn at e
 rw [hl] at e
 dsimp only at e
 unfold nsFind findBy
 rw [<- Array.find?_toList]
 split at e
 ·rename_i en he
  cases e
  rw [he]
  rfl
 ·split at e <;> cases e
theorem iC {K : W.Frag} {N : Addr} {c : Value} {d : Option Addr} {es : Array DictEntry} {n : Nat} {sl : Array (Option Value)} {x : Str} (hl : K.lookup N = some ⟨c, d, .dict es n, sl⟩)
 (e : W.nsIn K N x = some none) : nsFind es x = none := by
 unfold W.nsIn at e
 rw [hl] at e
 dsimp only at e
 unfold nsFind findBy
 rw [<- Array.find?_toList]
 split at e
 ·cases e
 ·rename_i he
  rw [he]
  rfl
structure D0 (h : Heap) (N fI : Addr) (f1 f2 : Str) (mN : Str -> Option Value) : Prop where
 ns : h.Ns N mN
 init : mN "__init__" = some (.ref fI)
 n0 : mN "__setattr__" = none
 n1 : mN "__getattribute__" = none
 n2 : mN "__getattr__" = none
 n3 : mN f1 = none
 n4 : mN f2 = none
theorem jK.at {K : W.Frag} {C N fI : Addr} {f1 f2 : Str} (x : jK K C N fI f1 f2) {h : Heap} (KX : K.In h) : ∃ mN, D0 h N fI f1 f2 mN := by
 obtain ⟨c, d, es, n, sl, hl, ks⟩ := x.ns
 refine ⟨nsFind es, ⟨_, es, n, KX _ _ hl, rfl, fun e he => ?_, fun _ => rfl⟩, xx hl x.init, iC hl x.n0, iC hl x.n1, iC hl x.n2, iC hl x.n3, iC hl x.n4⟩
 have q := List.all_eq_true.mp ks e (by simpa using he)
 unfold qN at q
 split at q
 ·rename_i a b z
  exact ⟨a, b, z⟩
 ·cases q
end L2
end
section
namespace L2
open PySem PySem.Spec PyProof.Rows Db
def u6 (f1 f2 : Str) (p1 p2 p3 p4 p5 p6 p7 p8 : Pos) : List Stmt :=
 [.Assign [.Attribute (.Name "self" p1) f1 p2] (.Name f1 p3) p4, .Assign [.Attribute (.Name "self" p5) f2 p6] (.Name f2 p7) p8]
structure ja (K : W.Frag) (fI : Addr) (f1 f2 : Str) : Prop where
 ex : ∃ (oc : Value) (od : Option Addr) (nm qual : Str) (params : Arguments) (p1 p2 p3 p4 p5 p6 p7 p8 : Pos) (scope : Scope) (dV kV doc pm : Value) (an : Option Addr) (cdv ct : Value) (osl : Array (Option Value)),
  K.lookup fI = some ⟨oc, od, .func (W.fnOf nm qual params (u6 f1 f2 p1 p2 p3 p4 p5 p6 p7 p8) scope dV kV doc pm an cdv ct), osl⟩ /\ W.codeIn K cdv qual = true /\ oc = .type "function" /\
  (∀ us : List Value, us.length = 3 -> bindArgs (W.fnOf nm qual params (u6 f1 f2 p1 p2 p3 p4 p5 p6 p7 p8) scope dV kV doc pm an cdv ct) ⟨us, []⟩ = pure ((["self", f1, f2] : List Str).zip us)) /\
  scope.names.lookup ("self" : Str) = some .local /\ scope.names.lookup f1 = some .local /\ scope.names.lookup f2 = some .local /\ scope.kind = .function /\ scope.isCoroutine = false /\ scope.isGenerator = false
 ne : f1 ≠ f2
 s1 : f1 ≠ "self"
 s2 : f2 ≠ "self"
 d1 : (f1 == ("__debug__" : Str)) = false
 d2 : (f2 == ("__debug__" : Str)) = false
section
variable {prog : Program} {w : World} {A : Around} {E : Value -> Shared -> Prop} {s : Shared} {K : W.Frag} {C N fI e : Addr} {f1 f2 : Str} {vs : Array Value} {v1 v2 : Value} {Q : Value -> Shared -> Prop}
theorem B1 (KX : K.In s.heap) (lim : s.heap.NoLimit) (XC : jK K C N fI f1 f2) (XI : ja K fI f1 f2) (hroom : A.depth < recursionLimit) (heK : K.lookup e = none)
 (he : s.heap.get? e = some { cls := .ref C, data := .fields vs })
 (fin : ∀ (h' : Heap) (tk : Nat) (dx : Addr), (∀ b o, b ≠ e -> s.heap.get? b = some o -> h'.get? b = some o) -> s.heap.objs.size <= dx -> h'.Ns1 dx (fun y => if y = f2 then some v2 else if y = f1 then some v1 else none) ->
  h'.get? e = some { cls := .ref C, dict := some dx, data := .fields vs } -> Q .none { s with heap := h', toks := tk }) :
 wpAny (model prog w) A (call (.ref fI) [.ref e, v1, v2]) Q E s := by
 obtain ⟨oc, od, nm, qual, params, p1, p2, p3, p4, p5, p6, p7, p8, scope, dV, kV, doc, pm, an, cdv, ct, osl, lk, hcd, _, hb, k0, k1, k2, hk, hco, hgen⟩ := XI.ex
 have ne := XI.ne
 have s1 := XI.s1
 have s2 := XI.s2
 refine wpAny_call (Att.call_fn (binds := [("self", .ref e), (f1, v1), (f2, v2)]) KX lim lk hcd hroom (.of_eq (hb [.ref e, v1, v2] rfl)) ?_ (fun z x => ?_) hco hgen hk)
 ·simp [k0, k1, k2]
 obtain ⟨h1, tk1, rfl, kp⟩ := x.done
 have hn := x.toInCall.ns
 generalize hm : bindL (envOfC qual scope s.heap.objs.size fI cdv).kindOf [("self", .ref e), (f1, v1), (f2, v2)] (fun _ => none) = m at hn
 have kk0 : (envOfC qual scope s.heap.objs.size fI cdv).kindOf "self" = some .local := k0
 have kk1 : (envOfC qual scope s.heap.objs.size fI cdv).kindOf f1 = some .local := k1
 have kk2 : (envOfC qual scope s.heap.objs.size fI cdv).kindOf f2 = some .local := k2
 have m0 : m "self" = some (.ref e) := by
  rw [<- hm]
  simp [bindL, kk0, kk1, kk2, Ne.symm s1, Ne.symm s2]
 have m1 : m f1 = some v1 := by
  rw [<- hm]
  simp [bindL, kk0, kk1, kk2, ne]
 have m2 : m f2 = some v2 := by
  rw [<- hm]
  simp [bindL, kk0, kk1, kk2]
 have KX1 : K.In h1 := KX.keeps kp
 obtain ⟨mN, a⟩ := XC.at KX1
 obtain ⟨cn, cq, bs, sn, sub, ab, col, dd, c0, c1, c2, c3, c5, lc⟩ := XC.obj
 have he1 := kp _ _ he
 have hel : e < s.heap.objs.size := Heap.lt_size he
 have hsz : s.heap.objs.size <= h1.objs.size := Nat.le_of_lt hn.lt
 have hLe : s.heap.objs.size ≠ e := Nat.ne_of_gt hel
 have notK : ∀ b o, K.lookup b = some o -> b ≠ e := fun b o q z => by
  rw [z, heK] at q
  cases q
 unfold u6
 refine wpAny_execs_cons (plainObj_wpAny_Assign_Attribute (wpAny_Name (wpAny_loadName_local hk kk1 hn m1 (wpAny_Name (wpAny_loadName_local hk kk0 hn m0 ?_) (by decide))) XI.d1))
 refine A6 F.store_Exception (KX1 _ _ lc) a.ns a.n0 a.n3 XC.b1 he1 rfl rfl (fun c z => by cases z) fun h2 tk2 n2 x2 kp2 => ?_
 have hn2 : h2.Ns s.heap.objs.size m := by
  obtain ⟨o, es, ep, q1, q2⟩ := hn
  exact ⟨o, es, ep, kp2 _ _ hLe q1, q2⟩
 have KX2 : K.In h2 := fun b o q => kp2 b o (notK b o q) (KX1 _ _ q)
 obtain ⟨mN2, a2⟩ := XC.at KX2
 have hde : h1.objs.size ≠ e := Nat.ne_of_gt (Nat.lt_of_lt_of_le hel hsz)
 refine wpAny_execs_cons (plainObj_wpAny_Assign_Attribute (wpAny_Name (wpAny_loadName_local hk kk2 hn2 m2 (wpAny_Name (wpAny_loadName_local hk kk0 hn2 m0 ?_) (by decide))) XI.d2))
 refine store_attr F.store_Exception (KX2 _ _ lc) a2.ns a2.n0 a2.n4 XC.b2 (Ne.symm (notK _ _ lc)) ⟨_, x2, rfl, (fun c z => by cases z), .inr ⟨_, rfl, hde, n2⟩⟩ (fun h3 tk3 I3 kp3 same => ?_) (Within.cons f1 v1 Within.nil)
 obtain ⟨o1, g1, y1, y2, y3, y4⟩ := same _ x2
 have hd1 := y4 _ rfl
 obtain ⟨ca, da, dta, sla⟩ := o1
 dsimp only at y1 y2 y3 hd1
 subst y1 y2 y3 hd1
 obtain ⟨o3, g3, _, _, q3⟩ := I3
 rw [g1] at g3
 cases g3
 refine wpAny_execs_nil (fin h3 tk3 h1.objs.size (fun b o nb eb => ?_) hsz ?_ g1)
 ·refine kp3 b o nb (fun o0 d0 z1 z2 => ?_) (kp2 b o nb (kp b o eb))
  rw [x2] at z1
  cases z1
  cases z2
  exact Nat.ne_of_lt (Nat.lt_of_lt_of_le (Heap.lt_size eb) hsz)
 ·rcases q3 with ⟨z, _⟩ | ⟨d3, z, _, n3⟩
  ·cases z
  ·cases z
   exact n3
end
theorem bU.there {P : Program} {w : World} {H : Hp} {h : Heap} {a : Addr} {o : HO} (x : bU P w H h a o) : ∃ u, h.get? a = some u := by
 cases o with
 | lst xs => obtain ⟨_, _, _, _, e⟩ := x; exact ⟨_, e⟩
 | tup xs => obtain ⟨_, _, _, _, e, _⟩ := x; exact ⟨_, e⟩
 | dK kvs => obtain ⟨_, _, _, _, _, _, _, e, _⟩ := x; exact ⟨_, e⟩
 | dT kvs => obtain ⟨_, _, _, _, _, _, _, e, _⟩ := x; exact ⟨_, e⟩
 | set S n => obtain ⟨_, _, _, _, e, _⟩ := x; exact ⟨_, e⟩
 | ins C dx fs => obtain ⟨_, _, _, e, _⟩ := x; exact ⟨_, e⟩
 | own y => exact x
 | xd fs => obtain ⟨_, ⟨_, _, _, e, _⟩, _⟩ := x; exact ⟨_, e⟩
 | rng lo hi => obtain ⟨_, _, _, e⟩ := x; exact ⟨_, e⟩
 | frz ob u => exact ⟨_, x.1⟩
 | tbl ps => exact ⟨_, x⟩
 | met f y => exact ⟨_, x⟩
 | ext φ => exact x.2.1
theorem jb.not_there {P : Program} {w : World} {H : Hp} {h : Heap} {a : Addr} (x : jb P w H h) (e : h.get? a = none) : H a = none := by
 cases q : H a with
 | none => rfl
 | some o =>
   obtain ⟨u, z⟩ := bU.there (x a o q)
   rw [e] at z
   cases z
section
variable {X : Cx} {pins : List (Addr × Obj)} {σ : St} {H : Hp} {s : Shared} {C N fI : Addr} {f1 f2 : Str} {x1 x2 : V} {u1 u2 : Value}
theorem aE.laidN {h' : Heap} {t' : Nat} {a : Addr} {o : HO} (I : aE X pins σ H s) (k : ∀ b u, s.heap.get? b = some u -> h'.get? b = some u) (hp : s.heap.get? a = none) (new : bU X.prog X.w (aU H a o) h' a o) :
 aE X pins σ (aU H a o) { s with heap := h', toks := t' } := by
 have hn := I.hok.not_there hp
 have ne : ∀ b u, H b = some u -> b ≠ a := fun b u e => au e hn
 refine I.step (ch := []) (d' := s.drawn) (fun b hb => absurd hb (by simp)) (fun b u _ _ _ e _ => k b u e) (fun b u _ _ _ e _ => ⟨u.slots, k b u e⟩) (fun b u _ e n => ?_) (fun b u _ e => ⟨u, k b u e⟩) (fun b xs e => by rw [ak (ne b _ e)]; exact e)
  (fun b ob u e => by rw [ak (ne b _ e)]; exact e) (fun b ps e => ⟨#[], by rw [ak (ne b _ e), Array.append_empty]; exact e⟩) (fun m hm => ?_) (fun b u e => ?_) I.bare
 ·rw [ak (fun z => by rw [z, hp] at e; cases e)]
  exact n
 ·obtain ⟨ob, es, ep, q1, q2⟩ := hm
  exact ⟨ob, es, ep, k _ _ q1, q2⟩
 ·by_cases hb : b = a
  ·subst hb
   rw [ae] at e
   cases e
   exact new
  ·rw [ak hb] at e
   exact (I.hok b u e).stay (fun c v _ q => k c v q) (fun c q => by rw [ak (ne c _ q)]; exact q) fun c xs q => by rw [ak (ne c _ q)]; exact q
theorem B0 {Q : Value -> Shared -> Prop} {E : Value -> Shared -> Prop} (I : aE X pins σ H s) (XC : jK X.K C N fI f1 f2) (XI : ja X.K fI f1 f2) (hroom : X.A.depth + 1 < recursionLimit) (r1 : aZ x1 u1) (r2 : aZ x2 u2)
 (fin : ∀ (e dx tp : Addr) (s' : Shared), aE X pins σ (aU H dx (.xd [(f2, x2), (f1, x1)])) s' -> H dx = none -> dx ≠ e -> aU H dx (.xd [(f2, x2), (f1, x1)]) e = none -> s.heap.get? e = none ->
  s'.heap.get? e = some { cls := .ref C, dict := some dx, data := .fields #[.ref tp, .none, .none, .none, .bool false, .none] } -> Q (.ref e) s') :
 wpAny (model X.prog X.w) X.A (call (.ref C) [u1, u2]) Q E s := by
 obtain ⟨cn, cq, bs, sn, sub, ab, col, dd, c0, c1, c2, c3, c5, lc⟩ := XC.obj
 obtain ⟨mN, a⟩ := XC.at I.kIn
 obtain ⟨oc, od, nm, qual, params, p1, p2, p3, p4, p5, p6, p7, p8, scope, dV, kV, doc, pm, an, cdv, ct, osl, lk, hcd, hoc, _⟩ := XI.ex
 obtain ⟨h, g, d, t, os⟩ := s
 refine wpAny_call_exc_init F.excBase_Exception (I.kIn _ _ lc) a.ns a.init (I.kIn _ _ lk) hoc fun h1 e m => ?_
 obtain ⟨tp, m1, m2, m3⟩ := m.there
 have KX1 : X.K.In h1 := I.kIn.keeps m.keeps
 have heK : X.K.lookup e = none := by
  cases q : X.K.lookup e with
  | none => rfl
  | some o =>
    have z := I.kIn _ _ q
    rw [m.new] at z
    cases z
 refine B1 (s := ⟨h1, g, d, t, os⟩) KX1 (I.nolimit.keeps m.keeps) XC XI hroom heK m1 fun h2 tk dx kp hz n2 e2 => ⟨rfl, ?_⟩
 have kp2 : ∀ b o, h.get? b = some o -> h2.get? b = some o := fun b o q => kp b o (fun z => by rw [z, m.new] at q; cases q) (m.keeps b o q)
 have nd : h.get? dx = none := by
  cases q : h.get? dx with
  | none => rfl
  | some o =>
    have z := m.keeps _ _ q
    rw [Heap.get?_none_of_le hz] at z
    cases z
 have hde : dx ≠ e := Nat.ne_of_gt (Nat.lt_of_lt_of_le (Heap.lt_size m1) hz)
 have hH : H dx = none := I.hok.not_there nd
 have I2 : aE X pins σ (aU H dx (.xd [(f2, x2), (f1, x1)])) ⟨h2, g, d, tk, os⟩ := I.laidN kp2 nd ⟨_, n2, fun f => ?_⟩
 ·refine fin e dx tp _ I2 hH hde ?_ m.new e2
  rw [ak (Ne.symm hde)]
  exact I.hok.not_there m.new
 ·by_cases z2 : f = f2
  ·subst z2
   rw [List.lookup_cons, beq_self_eq_true, if_pos rfl]
   exact r2
  ·rw [if_neg z2, List.lookup_cons, beq_eq_false_iff_ne.mpr z2]
   by_cases z1 : f = f1
   ·subst z1
    rw [if_pos rfl]
    dsimp only
    rw [List.lookup_cons, beq_self_eq_true]
    exact r1
   ·rw [if_neg z1]
    dsimp only
    rw [List.lookup_cons, beq_eq_false_iff_ne.mpr z1]
    trivial
end
end L2
end
section
namespace L2
open PySem PySem.Spec PyProof.Rows Db
def Bd (C : Addr) (f1 f2 : Str) (E : XK) (ta : TA) : TS := fun _ σ H => ta σ H fun vs H1 => ∃ x1 x2, vs = [x1, x2] /\ ∀ dx, H1 dx = none -> E (.ref C) (some dx) (aU H1 dx (.xd [(f2, x2), (f1, x1)]))
section
variable {P : Program} {w : World} {K : W.Frag} {mg : Str -> Option Value} {base : Heap} {N : List Str} {qual : Str} {scope : Scope} {f C : Addr} {cd : Value} {A : Around} {outer : List Env} {s_0 : Shared} {H_0 : Hp} {E : XK}
theorem fP {k : Nat} {x f1 f2 : Str} {p cp pos : Pos} {e1 e2 : Expr} {ta : TA} {N' fI : Addr} (XC : jK K C N' fI f1 f2) (XI : ja K fI f1 f2) (hr : dq k (fg (f7 P w C) P w K mg base N qual scope f cd A outer s_0 H_0 E).A)
 (hg : Gl (fg (f7 P w C) P w K mg base N qual scope f cd A outer s_0 H_0 E) x) (hm : mg x = some (.ref C)) (ha : PA (fg (f7 P w C) P w K mg base N qual scope f cd A outer s_0 H_0 E) [e1, e2] ta)
 (hdb : (x == ("__debug__" : Str)) = false := by decide) (he : starEach [e1, e2] (fg (f7 P w C) P w K mg base N qual scope f cd A outer s_0 H_0 E).env = (false, eval e1 (fg (f7 P w C) P w K mg base N qual scope f cd A outer s_0 H_0 E).env) :: starEach [e2] (fg (f7 P w C) P w K mg base N qual scope f cd A outer s_0 H_0 E).env := by rfl)
 (hpl : (backTo cp (starEach [e2] (fg (f7 P w C) P w K mg base N qual scope f cd A outer s_0 H_0 E).env)).any (·.1) = false := by rfl) :
 PS (fg (f7 P w C) P w K mg base N qual scope f cd A outer s_0 H_0 E) (.Raise (some (.Call (.Name x p) [e1, e2] [] cp)) none pos) (Bd C f1 f2 E ta) := by
 intro pins s σ H D I h
 obtain ⟨cn, cq, bs, sn, sub, ab, col, dd, c0, c1, c2, c3, c5, lc⟩ := XC.obj
 rw [arm_exec_Raise]
 refine wpAny_bind (wpAny_standAt (xc (nm := cn) (q := cq) (C := C) (N := N') (bs := bs) (bm := qM) (hdct := true) (sn := sn) (sub := sub) (ab := ab) (col := col) (dd := dd) (k0 := c0) (k1 := c1) (k2 := c2) (k3 := c3) (k5 := c5) (newId := "Exception.__new__") (by decide +kernel) hr.hd (wpAny_bind ?_)))
 refine bS (Q := fun v s1 => ∃ (e : Addr) (dx : Option Addr) (tp : Addr), v = .ref e /\ s1.heap.get? C = some (excClassObj cn cq C N' bs qM true sn sub ab col dd c0 c1 c2 c3 c5 "Exception.__new__") /\
  s1.heap.get? e = some { cls := .ref C, dict := dx, data := .fields #[.ref tp, .none, .none, .none, .bool false, .none] } /\ (fg (f7 P w C) P w K mg base N qual scope f cd A outer s_0 H_0 E).xe (.ref e) s1) ?_ fun v s1 z => wpAny_bind (wpAny_standAt (wpAny_pure z))
 refine wpAny_Call_Name_kw (jT I hg hm ?_ hdb)
 refine W.callWith_K (h₀ := base) I.ok.mod.kin XC.kp (bS (ha cp pins s σ H _ I h) fun us s1 ⟨vs, H1, I1, r, q⟩ => ⟨I1.kIn, ?_⟩) he hpl
 obtain ⟨x1, x2, rfl, q⟩ := q
 obtain ⟨u1, u2, rfl, r1, r2⟩ := AH r
 have hd := hr.dp
 refine B0 I1 XC XI (by omega) r1 r2 fun e dx tp s2 I2 hn hne fe new ge => ⟨e, some dx, tp, rfl, I2.kIn _ _ lc, ge, ?_⟩
 exact xB I2 ge rfl rfl rfl rfl (I1.older _ new) fe hne (q dx hn)
end
section
variable {X : Cx} {pins : List (Addr × Obj)} {σ : St} {H : Hp} {s : Shared} {h' : Heap} {a : Addr} {S0 : Addr -> Prop} {S : List Addr}
theorem aE.noted (I : aE X pins σ H s) (n : xW S a S0 s.heap h') (hS : ∀ b ∈ S, b = X.env.locals \/ b ∈ X.fs)
 (hx : ∀ b, b = a \/ S0 b -> X.s_0.heap.get? b = none /\ H b = none /\ (∃ o vs, s.heap.get? b = some o /\ o.data = .fields vs) /\ ∀ p ∈ X.pn ++ pins, p.1 ≠ b) (hex : X.ex = []) : aE X pins σ H { s with heap := h' } := by
 have any : ∀ b o, (∀ vs, o.data ≠ .fields vs) -> s.heap.get? b = some o -> ∃ sl, h'.get? b = some { o with slots := sl } := fun b o nd e => by
  have ne : ¬ (b = a \/ S0 b) := fun z => by
   obtain ⟨_, _, ⟨o', vs, e', d'⟩, _⟩ := hx b z
   rw [e] at e'
   cases e'
   exact nd vs d'
  by_cases hb : b ∈ S
  ·exact n.slot b o hb (fun z => ne (.inl z)) (fun z => ne (.inr z)) e
  ·exact ⟨o.slots, n.keep b o hb (fun z => ne (.inl z)) (fun z => ne (.inr z)) e⟩
 have old : ∀ b o, X.s_0.heap.get? b = some o -> b ≠ a /\ ¬ S0 b /\ b ≠ X.env.locals := fun b o e => by
  refine ⟨fun z => ?_, fun z => ?_, Nat.ne_of_lt (Nat.lt_of_lt_of_le (Heap.lt_size e) I.ok.above)⟩
  ·rw [(hx b (.inl z)).1] at e
   cases e
  ·rw [(hx b (.inr z)).1] at e
   cases e
 have isc : ∀ c v, s.heap.IsCell c v -> h'.IsCell c v := fun c v z => by
  obtain ⟨o, e, d⟩ := z
  obtain ⟨sl, e2⟩ := any c o (fun vs q => by rw [d] at q; cases q) e
  exact ⟨_, e2, d⟩
 have nx : ∀ b, b ∉ X.ex := fun b => by rw [hex]; simp
 refine ⟨I.ok, I.os, I.bare, ⟨fun b o e n0 hf _ => ?_, fun b o e n0 hf _ => ?_, fun b o e n0 _ => I.base.free b o e n0 (nx b), fun b o e _ => ?_, I.base.tups, I.base.frzs, I.base.tbls⟩, ?_, fun y c e => ?_, I.free, I.freeC, fun p hp => ?_, fun b o e => ?_, I.len⟩
 ·refine n.keep b o (fun z => ?_) (old b o e).1 (old b o e).2.1 (I.base.keep b o e n0 hf (nx b))
  rcases hS b z with q | q
  ·exact (old b o e).2.2 q
  ·exact hf q
 ·obtain ⟨sl, e1⟩ := I.base.slot b o e n0 hf (nx b)
  by_cases hb : b ∈ S
  ·obtain ⟨sl2, e2⟩ := n.slot b _ hb (old b o e).1 (old b o e).2.1 e1
   exact ⟨sl2, e2⟩
  ·exact ⟨sl, n.keep b _ hb (old b o e).1 (old b o e).2.1 e1⟩
 ·obtain ⟨o1, e1⟩ := I.base.there b o e (nx b)
  by_cases hb : b ∈ S
  ·obtain ⟨sl2, e2⟩ := n.slot b _ hb (old b o e).1 (old b o e).2.1 e1
   exact ⟨_, e2⟩
  ·exact ⟨_, n.keep b _ hb (old b o e).1 (old b o e).2.1 e1⟩
 ·obtain ⟨m, hn, hl⟩ := I.loc
  obtain ⟨o, es, ep, e, d, r⟩ := hn
  obtain ⟨sl, e2⟩ := any _ o (fun vs q => by rw [d] at q; cases q) e
  refine ⟨m, ⟨_, es, ep, e2, d, r⟩, fun i x v h1 h2 h3 => ?_⟩
  obtain ⟨u, ru, q⟩ := hl i x v h1 h2 h3
  rcases q with q | ⟨k, c, e3, z⟩
  ·exact ⟨u, ru, .inl q⟩
  ·exact ⟨u, ru, .inr ⟨k, c, e3, isc _ _ z⟩⟩
 ·obtain ⟨v, z⟩ := I.cell y c e
  exact ⟨v, isc _ _ z⟩
 ·obtain ⟨e, n0, ne, nf, d⟩ := I.pin p hp
  refine ⟨n.keep _ _ (fun z => ?_) (fun z => (hx _ (.inl z)).2.2.2 p hp rfl) (fun z => (hx _ (.inr z)).2.2.2 p hp rfl) e, n0, ne, nf, d⟩
  rcases hS _ z with q | q
  ·exact ne q
  ·exact nf q
 ·refine (I.hok b o e).stay (fun c u hc ec => ?_) (fun _ z => z) fun _ _ z => z
  have hn : H c ≠ none := by
   rcases hc with z | z
   ·rw [z, e]
    intro y
    cases y
   ·rw [z]
    intro y
    cases y
  refine n.keep c u (fun z => ?_) (fun z => hn (hx c (.inl z)).2.1) (fun z => hn (hx c (.inr z)).2.1) ec
  rcases hS c z with q | q
  ·rw [q] at hn
   exact hn I.free
  ·have w2 := I.base
   exact hn (by
    rcases I.ok.stk with y | ⟨y, _⟩
    ·exact I.stkFree c (by rw [y]; exact q)
    ·exact I.stkFree c (by rw [y]; exact i3 q))
theorem aE.lost {m' : Str -> Option Value} {t' : Nat} (I : aE X pins σ H s) (hs : Heap.SameBut X.env.locals s.heap h') (hn : h'.Ns X.env.locals m') (hex : X.ex = []) :
 aE X pins (List.replicate σ.length none) H { s with heap := h', toks := t' } := by
 have nx : ∀ b, b ∉ X.ex := fun b => by rw [hex]; simp
 have old : ∀ b o, X.s_0.heap.get? b = some o -> b ≠ X.env.locals := fun b o e => Nat.ne_of_lt (Nat.lt_of_lt_of_le (Heap.lt_size e) I.ok.above)
 refine ⟨I.ok, I.os, I.bare, ⟨fun b o e n0 hf _ => (hs.2 b (old b o e)).trans (I.base.keep b o e n0 hf (nx b)), fun b o e n0 hf _ => ?_, fun b o e n0 _ => I.base.free b o e n0 (nx b), fun b o e _ => ?_, I.base.tups, I.base.frzs, I.base.tbls⟩,
  ⟨m', hn, fun i x v h1 h2 h3 => ?_⟩, fun y c e => ?_, I.free, I.freeC, fun p hp => ?_, fun b o e => ?_, by rw [List.length_replicate]; exact I.len⟩
 ·obtain ⟨sl, e1⟩ := I.base.slot b o e n0 hf (nx b)
  exact ⟨sl, (hs.2 b (old b o e)).trans e1⟩
 ·obtain ⟨o1, e1⟩ := I.base.there b o e (nx b)
  exact ⟨o1, (hs.2 b (old b o e)).trans e1⟩
 ·rw [List.getElem?_replicate] at h2
  split at h2
  ·cases h2
  ·cases h2
 ·obtain ⟨v, z⟩ := I.cell y c e
  exact ⟨v, z.sameBut hs (I.cne y c e)⟩
 ·obtain ⟨e, n0, ne, nf, d⟩ := I.pin p hp
  exact ⟨(hs.2 _ ne).trans e, n0, ne, nf, d⟩
 ·refine (I.hok b o e).stay (fun c u hc ec => (hs.2 c ?_).trans ec) (fun _ z => z) fun _ _ z => z
  rintro rfl
  rcases hc with z | z
  ·rw [<- z, I.free] at e
   cases e
  ·rw [I.free] at z
   cases z
end
abbrev Cx.tried (X : Cx) (pins : List (Addr × Obj)) (W : Value -> Shared -> Prop) : Cx := { X with pn := X.pn ++ pins, xe := W }
abbrev Cx.suite (X : Cx) (pins : List (Addr × Obj)) (a : Addr) (oe : Obj) : Cx := { X with A := X.A.mark (some (.ref a)), calm := false, pn := X.pn ++ (pins ++ [(a, oe)]), xe := fun _ _ => False }
section
variable {X : Cx} {pins pins' : List (Addr × Obj)} {σ : St} {H : Hp} {s : Shared} {W : Value -> Shared -> Prop} {a : Addr} {oe : Obj}
theorem aE.tried (I : aE X pins σ H s) (W : Value -> Shared -> Prop) : aE (X.tried pins W) [] σ H s :=
 ⟨⟨I.ok.mod, I.ok.kind, I.ok.glob, I.ok.blt, I.ok.above, I.ok.inj, I.ok.has, I.ok.cab, I.ok.hd, I.ok.frames, I.ok.stk, I.ok.exf, I.ok.bs, I.ok.bsz, I.ok.noex, I.ok.exfs, I.ok.funs, I.ok.frf⟩,
   I.os, I.bare, I.base, I.loc, I.cell, I.free, I.freeC, fun p hp => I.pin p (by simpa using hp), I.hok, I.len⟩
theorem aE.untried (I : aE (X.tried pins W) pins' σ H s) : aE X pins σ H s :=
 ⟨⟨I.ok.mod, I.ok.kind, I.ok.glob, I.ok.blt, I.ok.above, I.ok.inj, I.ok.has, I.ok.cab, I.ok.hd, I.ok.frames, I.ok.stk, I.ok.exf, I.ok.bs, I.ok.bsz, I.ok.noex, I.ok.exfs, I.ok.funs, I.ok.frf⟩,
   I.os, I.bare, I.base, I.loc, I.cell, I.free, I.freeC, fun p hp => I.pin p (List.mem_append_left _ hp), I.hok, I.len⟩
theorem aE.suite (I : aE X pins σ H s) (e : s.heap.get? a = some oe) (f1 : H a = none) (f2 : a ≠ X.env.locals) (f3 : a ∉ X.fs) (f4 : ∀ v, oe.data ≠ .cell v) : aE (X.suite pins a oe) [] σ H s :=
 ⟨⟨I.ok.mod, I.ok.kind, I.ok.glob, I.ok.blt, I.ok.above, I.ok.inj, I.ok.has, I.ok.cab, (fun z => nomatch z), I.ok.frames, I.ok.stk, I.ok.exf, I.ok.bs, I.ok.bsz, I.ok.noex, I.ok.exfs, I.ok.funs, I.ok.frf⟩,
   I.os, I.bare, I.base, I.loc, I.cell, I.free, I.freeC, fun p hp => by
    have hp' : p ∈ (X.pn ++ pins) \/ p = (a, oe) := by
     simp only [List.mem_append, List.mem_singleton, List.append_nil] at hp ⊢
     rcases hp with z | z | z
     ·exact .inl (.inl z)
     ·exact .inl (.inr z)
     ·exact .inr z
    rcases hp' with z | z
    ·exact I.pin p z
    ·subst z
     exact ⟨e, f1, f2, f3, f4⟩, I.hok, I.len⟩
theorem aE.unsuite (ok : X.Ok) (I : aE (X.suite pins a oe) pins' σ H s) : aE X pins σ H s :=
 ⟨ok, I.os, I.bare, I.base, I.loc, I.cell, I.free, I.freeC, fun p hp => I.pin p (by
  simp only [List.mem_append] at hp ⊢
  rcases hp with z | z
  ·exact .inl (.inl z)
  ·exact .inl (.inr (.inl z))), I.hok, I.len⟩
end
def C8 (C : Addr) (i : Nat) (Eb : XK) (tb : TS) (ts : Addr -> Addr -> TS) : TS := fun D σ H => tb D σ H /\ ∀ (dx : Addr) (H' : Hp) (n : Nat), i < n -> Eb (.ref C) (some dx) H' -> ∀ a : Addr, H' a = none -> dx ≠ a ->
 ts a dx { nx := fun _ _ => False, rt := D.rt } ((List.replicate n none).set i (some (.ref a))) H'
theorem Bn {X : Cx} {C N' fI : Addr} {f1 f2 cn nm : Str} {i : Nat} {Eb : XK} {tb : TS} {ts : Addr -> Addr -> TS} {body suite : List Stmt} {b0 : Stmt} {p1 hp pos : Pos} (XC : jK X.K C N' fI f1 f2)
 (hst : X.stack = X.env :: X.outer) (hfr : X.env.frame = some X.env.locals) (hex : X.ex = []) (hN : X.N.Nodup) (hi : X.N[i]? = some nm) (hl : X.env.scope.names.lookup nm = some .local) (hg : Gl X cn) (hm : X.mg cn = some (.ref C))
 (hb : ∀ (pins : List (Addr × Obj)) (W : Value -> Shared -> Prop), du (f7 X.prog X.w C) (X.tried pins W) Eb -> uh (X.tried pins W) body tb)
 (hsu : ∀ (pins : List (Addr × Obj)) (a dx : Addr) (oe : Obj) (vs : Array Value), oe.cls = .ref C -> oe.dict = some dx -> oe.data = .fields vs -> uh (X.suite pins a oe) (b0 :: suite) (ts a dx)) (hdb : (cn == ("__debug__" : Str)) = false := by decide) :
 PS X (.Try body [.ExceptHandler (some (.Name cn p1)) (some nm) (b0 :: suite) hp] [] [] pos) (C8 C i Eb tb ts) := by
 intro pins s σ H D I h
 obtain ⟨h1, h2⟩ := h
 obtain ⟨qn, qq, bs, sn, sub, ab, col, dd, c0, c1, c2, c3, c5, lc⟩ := XC.obj
 generalize hW : (fun (e : Value) (s1 : Shared) => ∃ (a dx : Addr) (H' : Hp) (σ' : St) (h0 : Heap), e = .ref a /\ aE X pins σ' H' s1 /\ zH C h0 H' s1.heap a dx /\ (∀ b, h0.get? b = none -> X.s_0.heap.get? b = none) /\ (∀ p ∈ X.pn ++ pins, h0.get? p.1 ≠ none) /\ Eb (.ref C) (some dx) H') = W
 have pas : du (f7 X.prog X.w C) (X.tried pins W) Eb := by
  intro pins' σ' H' s' e s2 I' hc
  obtain ⟨a, dx, H2, rfl, os, bare, un, hok, fl, q⟩ := hc
  subst hW
  refine ⟨a, dx, H2, σ', s'.heap, rfl, (I'.call' os un hok bare fun b hb => absurd hb (by simp)).untried, fl, fun b hn => ?_, fun p hp => ?_, q⟩
  ·cases z : X.s_0.heap.get? b with
   | none => rfl
   | some o =>
     obtain ⟨o', e⟩ := I'.base.there b o z (by show b ∉ X.ex; rw [hex]; simp)
     rw [hn] at e
     cases e
  ·rw [(I'.pin p (List.mem_append_left _ hp)).1]
   intro z
   cases z
 refine wpAny_Try_except ?_
 have run := hb pins W pas [] s σ H D (I.tried W) h1
 refine wpAny_mono run (fun fl s1 z => ?_) fun e s1 z => ?_
 ·cases fl with
  | next =>
    obtain ⟨σ', H', I', q⟩ := z
    exact wpAny_execs_nil ⟨σ', H', I'.untried, q⟩
  | brk =>
    obtain ⟨σ', H', I', q⟩ := z
    exact ⟨σ', H', I'.untried, q⟩
  | cont =>
    obtain ⟨σ', H', I', q⟩ := z
    exact ⟨σ', H', I'.untried, q⟩
  | ret u =>
    obtain ⟨v, σ', H', I', r, q⟩ := z
    exact ⟨v, σ', H', I'.untried, r, q⟩
 ·subst hW
  obtain ⟨a, dx, H', σ', h0, rfl, I', fl, hold, hpin, q⟩ := z
  obtain ⟨l1, fa, ne, oe, vs, T, l2, fT, cc1, cc2, x⟩ := fl
  have hfs : X.fs = sr X.outer := rfl
  have nf : ∀ (t : Shared) (I'' : aE X pins σ' H' t) (b : Addr) (o : Obj) (us : Array Value), t.heap.get? b = some o -> o.data = .fields us -> b ≠ X.env.locals /\ b ∉ X.fs := fun t I'' b o us e d => by
   have fun1 := I''.stack
   rw [hst] at fun1
   have z := eX fun1 e d
   refine ⟨fun y => z ?_, fun y => z (i3 y)⟩
   rw [List.filterMap_cons, hfr]
   exact List.mem_cons.mpr (.inl y)
  obtain ⟨oT, ts0, eT, dT, tT⟩ := x.ent
  have hS : ∀ b ∈ (X.env :: X.outer).filterMap (·.frame), b = X.env.locals \/ b ∈ X.fs := fun b hb => lq hfr hb
  refine qe (base := X.base) (by rw [I'.ok.frames, hst]) (by rw [<- hst]; exact I'.stack) hfr x fun h2' T' n zT y => ?_
  have npin : ∀ b, h0.get? b = none -> ∀ p ∈ X.pn ++ pins, p.1 ≠ b := fun b hb p hp z => hpin p hp (by rw [z]; exact hb)
  have I2 : aE X pins σ' H' { s1 with heap := h2' } := I'.noted n hS (fun b hb => by
   rcases hb with z | z
   ·rw [z]
    exact ⟨hold _ l1, fa, ⟨_, vs, x.at_, rfl⟩, npin _ l1⟩
   ·rw [z]
    exact ⟨hold _ l2, fT, ⟨oT, ts0, eT, dT⟩, npin _ l2⟩) hex
  obtain ⟨d1, d2⟩ := nf _ I2 a _ _ y.at_ rfl
  refine wpAny_handleBy_cons (codeAny_handlers_test ?_) (by intro z; cases z)
  have I3 := I2.suite y.at_ fa d1 d2 (fun v z => by cases z)
  refine jT I3 hg hm ?_ hdb
  refine wpAny_excMatches_sub_self (I2.kIn _ _ lc) y.at_ cc1 (by decide +kernel) ?_
  refine codeAny_handlers_suite_as ?_
  refine o4 (s := { s1 with heap := h2' }) y fun h3 n3 y3 => ?_
  obtain ⟨oT', ts1, eT', dT', tT'⟩ := y.ent
  have hT' : s1.heap.get? T' = none := Heap.get?_none_of_le zT
  have I4 : aE X pins σ' H' { s1 with heap := h3 } := I2.noted n3 (fun b hb => absurd hb (by simp)) (fun b hb => by
   rcases hb with z | z
   ·rw [z]
    exact ⟨hold _ l1, fa, ⟨_, _, y.at_, rfl⟩, npin _ l1⟩
   ·rw [z]
    refine ⟨?_, I'.hok.fresh zT, ⟨oT', ts1, eT', dT'⟩, fun p hp z' => ?_⟩
    ·cases zz : X.s_0.heap.get? T' with
     | none => rfl
     | some o =>
       obtain ⟨o', e'⟩ := I'.base.there T' o zz (by rw [hex]; simp)
       rw [hT'] at e'
       cases e'
    ·have w1 := (I'.pin p hp).1
     rw [z', hT'] at w1
     cases w1) hex
  have I5 := I4.suite y3.at_ fa d1 d2 (fun v z => by cases z)
  refine kK (X := X.suite pins a { cls := oe.cls, dict := oe.dict, data := .fields (vs.setIfInBounds 1 (.ref T')), slots := oe.slots }) I5 hN hi (.inl hl) (v := .ref a) rfl (fun s4 I6 => ?_) (.inr hl)
  have I7 : aE _ [] ((List.replicate σ'.length none).set i (some (.ref a))) H' s4 := I6.weak (by simp) fun j v ej => by
   by_cases hj : j = i
   ·subst hj
    have lt : j < σ'.length := by
     rw [I'.len]
     exact (List.getElem?_eq_some_iff.mp hi).1
    rw [List.getElem?_set_self (by simpa using lt)] at ej
    rw [List.getElem?_set_self lt]
    exact ej
   ·rw [List.getElem?_set_ne (Ne.symm hj), List.getElem?_replicate] at ej
    split at ej
    ·cases ej
    ·cases ej
  refine wpAny_mono (hsu pins a dx { cls := oe.cls, dict := oe.dict, data := .fields (vs.setIfInBounds 1 (.ref T')), slots := oe.slots } _ cc1 cc2 rfl [] s4 _ H' _ I7 (h2 dx H' σ'.length (by rw [I'.len]; exact (List.getElem?_eq_some_iff.mp hi).1) q a fa ne)) (fun f s5 z => ?_) fun _ _ z => z.elim
  cases f with
  | next =>
    obtain ⟨_, _, _, z⟩ := z
    exact z.elim
  | brk =>
    obtain ⟨_, _, _, z⟩ := z
    exact z.elim
  | cont =>
    obtain ⟨_, _, _, z⟩ := z
    exact z.elim
  | ret u =>
    obtain ⟨v, σ5, H5, I8, rv, q5⟩ := z
    have I9 : aE X pins σ5 H5 s5 := I8.unsuite I.ok
    obtain ⟨m5, n5, _⟩ := I9.loc
    refine wpAny_nameGoes hl n5 (by rw [I.ok.kind]; rfl) fun h6 m6 n6 sb => ⟨v, _, H5, I9.lost sb n6 hex, rv, q5⟩
theorem v0 {X : Cx} {C N' fI a dx : Addr} {f1 f2 g : Str} {oe : Obj} {vs : Array Value} {e : Expr} {te : TE} {pos : Pos} (XC : jK X.K C N' fI f1 f2) (hp : (a, oe) ∈ X.pn) (cc1 : oe.cls = .ref C) (cc2 : oe.dict = some dx) (cc3 : oe.data = .fields vs) (hg : g = f1 \/ g = f2)
 (he : PE X e te) (hb : attributeBase e g X.env (eval e X.env) = eval e X.env := by rfl) :
 PE X (.Attribute e g pos) (fun σ H Q => te σ H fun x H1 => x = .ref a /\ ∃ fs i, H1 dx = some (.xd fs) /\ fs.lookup g = some (.int i) /\ Q (.int i) H1) := by
 intro pins s σ H Q I h
 obtain ⟨qn, qq, bs, sn, sub, ab, col, dd, c0, c1, c2, c3, c5, lc⟩ := XC.obj
 refine wL hb (bS (he pins s σ H _ I h) fun u s1 ⟨x, H1, I1, rx, z⟩ => ?_)
 obtain ⟨rfl, fs, i, hd, hl, q⟩ := z
 obtain rfl : u = .ref a := rx
 obtain ⟨mN, at'⟩ := XC.at I1.kIn
 obtain ⟨ea, na, _⟩ := I1.pin (a, oe) (List.mem_append_left _ hp)
 obtain ⟨mA, n1, rl⟩ := (show bU X.prog X.w H1 s1.heap dx (.xd fs) from I1.hok dx _ hd)
 have ne : dx ≠ a := au hd na
 obtain ⟨v, hv, rv⟩ := jL.some_of (v := .int i) (o := mA g) (by rw [<- hl]; exact rl g)
 obtain ⟨t, rfl⟩ := rv
 have nn : mN g = none := by
  rcases hg with z | z
  ·rw [z]
   exact at'.n3
  ·rw [z]
   exact at'.n4
 have nb : typeLookup (.type "Exception") g = pure none := by
  rcases hg with z | z
  ·rw [z]
   exact XC.b1
  ·rw [z]
   exact XC.b2
 obtain ⟨hh, gg, d, tk, os⟩ := s1
 refine ui F.attrBase_Exception (I1.kIn _ _ lc) at'.ns at'.n1 at'.n2 nn nb ⟨oe, ea, cc1, (fun c z => by rw [cc3] at z; cases z), .inr ⟨dx, cc2, ne, n1⟩⟩ hv rfl ?_
 exact ⟨.int i, H1, I1.tok _, ⟨t, rfl⟩, q⟩
end L2
end
section
namespace L2
open PySem PySem.Spec PyProof.Rows
section
variable {X : Cx}
def Bm (K : W.Frag) : V -> List V -> Hp -> VK -> Prop := fun x xs H Q => ∃ (a : Addr) (ns : List Int) (k : Int), x = V.ref a /\ xs = [.int k] /\ bj K H a (ns.map V.int) /\ Q (.int (ns.count k : Nat)) H
theorem qg : CI X "list.count" (Bm X.K) := by
 intro pins s σ H x xs v us Q I rx rxs h
 obtain ⟨a, ns, k, rfl, rfl, hs, q⟩ := h
 cases rx
 obtain ⟨u, rfl, t, rfl⟩ := pQ rxs
 obtain ⟨its, rv, p, _⟩ := I.list hs
 exact count_list_ints p.isList (aR.ints rv) ⟨.int _, H, I.tok _, ⟨_, rfl⟩, q⟩
def zK (i j : Int) : Prop := 0 < j /\ j < 2 ^ 200
theorem o6 {j : Int} (h1 : 0 < j) (h2 : j < 2 ^ 200) : j.natAbs.log2 < 9000 := by
 have h3 : j.natAbs < 2 ^ 200 := by
  have e : ((j.natAbs : Nat) : Int) = j := Int.natAbs_of_nonneg (Int.le_of_lt h1)
  omega
 have h4 : j.natAbs.log2 < 200 := (Nat.log2_lt (by omega)).mpr h3
 omega
theorem fS : kF X (binaryOp .FloorDiv) (rI zK fun i j => .int (i / j)) := Cl fun i j _ _ _ _ _ hc q => by
 have h1 : (0 : Int) < j := hc.1
 exact floordiv_int (by omega) (by rw [Int.fdiv_eq_ediv_of_nonneg i (Int.le_of_lt h1)]; exact q) (.inl (PyProof.noPylong_of_log2 (o6 h1 hc.2)))
theorem xG : kF X (inplaceOp .FloorDiv) (rI zK fun i j => .int (i / j)) := Cl fun i j _ _ _ _ _ hc q => by
 have h1 : (0 : Int) < j := hc.1
 exact ifloordiv_int (by omega) (by rw [Int.fdiv_eq_ediv_of_nonneg i (Int.le_of_lt h1)]; exact q) (.inl (PyProof.noPylong_of_log2 (o6 h1 hc.2)))
def Bf (X : Cx) (i : Nat) (E : XK) (t : TA) : TE := fun σ H Q => ∃ f, σ[i]? = some (some (.ref f)) /\ W.keepIn X.K (.ref f) = true /\ t σ H fun vs H1 =>
 ∃ (CX : CXT) (k : Nat) (fd : FuncData) (ps : List Str) (sp : Sp), aP X.prog X.w X.K X.mg X.base CX k f fd ps sp /\ dq k X.A /\ aB X.K fd ps [] /\ du CX X E /\ sp vs H1 Q E
theorem yL {i : Nat} {x : Str} {p pos : Pos} {e : Expr} {es : List Expr} {t : TA} {E : XK} (hN : X.N[i]? = some x) (hv : BX X.env.scope x) (ha : PA X (e :: es) t)
 (hdb : (x == ("__debug__" : Str)) = false := by decide) (hcd : (x == ("__classdict__" : Str)) = false := by decide)
 (he : starEach (e :: es) X.env = (false, eval e X.env) :: starEach es X.env := by rfl) (hpl : (backTo pos (starEach es X.env)).any (·.1) = false := by rfl) :
 PE X (.Call (.Name x p) (e :: es) [] pos) (Bf X i E t) := by
 intro pins s σ H Q I h
 obtain ⟨f, hf, hk, h⟩ := h
 refine wpAny_Call_Name_kw (bS (yF hN hv hdb hcd pins s σ H (fun v H' => v = .ref f /\ H' = H) I ⟨_, hf, rfl, rfl⟩) fun u s1 ⟨v, H', I1, r, e1, e2⟩ => ?_)
 subst e1 e2
 obtain rfl : u = .ref f := r
 refine W.callWith_K (h₀ := X.base) I1.ok.mod.kin hk (bS (ha pos pins s1 σ H' _ I1 h) fun us s2 ⟨vs, H1, I2, r2, q⟩ => ⟨I2.kIn, ?_⟩) he hpl
 obtain ⟨CX, k, fd, ps, sp, F, hr, hb, hx, q⟩ := q
 exact oo F hr hb .nil hx I2 r2 (by rw [List.append_nil]; exact q)
end
def zF (x : Str) : It :=
 ⟨fun i _ => i < x.cps.size, fun i H v H' => ∃ T c, v = .ref T /\ H T = none /\ H' = aU H T (.tup [.int (i : Nat), .str ⟨#[c]⟩]) /\ x.cps[i]? = some c, fun i _ => x.cps.size <= i⟩
theorem uo {P : Program} {w : World} {K : W.Frag} {elts : List Expr} {kk : Nat} {tpos : Pos} (e it : Addr) (x : Str) (t : Tok) (ty : String) (hty : ty = "str_ascii_iterator" \/ ty = "str_iterator") :
 sg P w K (.Tuple elts kk tpos) (zF x) [e, it] e (fun i h => (∃ old, IsEnum h e it ((i : Nat) : Int) old) /\ h.IsStrIter it ty x t i /\ e ≠ it /\ i <= x.cps.size) where
 mem := by simp
 obj := fun i h st b hb => by
  obtain ⟨⟨old, he⟩, ⟨o, ho, hc, hd⟩, _⟩ := st
  have z : b = e \/ b = it := by simpa using hb
  rcases z with z | z
  ·rw [z]
   exact ⟨_, he, fun v q => nomatch q⟩
  ·rw [z]
   exact ⟨o, ho, fun v q => by rw [hd] at q; cases q⟩
 keep := fun i h h' st k => by
  obtain ⟨⟨old, he⟩, ⟨o, ho, r⟩, ne, le⟩ := st
  exact ⟨⟨old, k e (by simp) _ he⟩, ⟨o, k it (by simp) _ ho, r⟩, ne, le⟩
 item := by
  intro X hP hw hK hc i pins s σ H E I hf st hg
  subst hP hw hK
  obtain ⟨⟨old, he⟩, hit, hne, hle⟩ := st
  have D : Draws X.prog X.w X.A.in1 it [it] x.cps.size (fun i v => ∃ c u, x.cps[i]? = some c /\ v = .str ⟨#[c]⟩ u) (fun i h => h.IsStrIter it ty x t i) := by
   rcases hty with z | z
   ·rw [z]
    exact Draws.strAscii (A := X.A.in1) (I.ok.hd hc) it x t
   ·rw [z]
    exact Draws.strWide (A := X.A.in1) (I.ok.hd hc) it x t
  have hel : e < s.heap.objs.size := Heap.lt_size he
  have hil : it < s.heap.objs.size := by
   obtain ⟨_, q, _⟩ := hit
   exact Heap.lt_size q
  refine wpAny_pyNext_enum_itemD D he hit hg hne (by simp [hne]) fun y h1 tk hy ho hit1 hT hsz hk => ?_
  obtain ⟨c, u, hcx, rfl⟩ := hy
  refine ⟨_, rfl, wpAny_letOwnedTupleGo_enum (s := { s with heap := h1, toks := tk + 1 }) ho fun h2 he2 sb => ?_⟩
  have hT2 : h2.get? s.heap.objs.size = some { cls := .type "tuple", data := .seq #[.int i tk, .str ⟨#[c]⟩ u] } := (sb.2 _ (Nat.ne_of_gt hel)).trans hT
  have new : bU X.prog X.w (aU H s.heap.objs.size (.tup [.int (i : Nat), .str ⟨#[c]⟩])) h2 s.heap.objs.size (.tup [.int (i : Nat), .str ⟨#[c]⟩]) :=
   ⟨by show 2 <= sizeLine; decide, [.int i tk, .str ⟨#[c]⟩ u], .cons ⟨_, rfl⟩ (.cons ⟨_, rfl⟩ .nil), ⟨_, hT2, rfl, _, rfl⟩⟩
  have I1 : aE X pins σ (aU H s.heap.objs.size (.tup [.int (i : Nat), .str ⟨#[c]⟩])) { s with heap := h2, toks := tk + 1 } :=
   I.turnedNew (ch := [e, it]) (fun b ob hb q => (sb.2 b (fun z => hb (by simp [z]))).trans (hk b ob (fun z => hb (by simp [z])) (fun z => hb (by simp [z])) q)) hf (Nat.le_refl _) new
  refine ⟨.ref s.heap.objs.size, _, I1, rfl, ⟨_, c, rfl, I.hok.fresh (Nat.le_refl _), rfl, hcx⟩, ⟨⟨.str ⟨#[c]⟩ u, ?_⟩, ?_, hne, hg⟩, fun b hb => ?_⟩
  ·have e1 : ((i + 1 : Nat) : Int) = (i : Int) + 1 := by omega
   rw [e1]
   exact he2
  ·obtain ⟨o, q, r⟩ := hit1
   exact ⟨o, (sb.2 it (Ne.symm hne)).trans q, r⟩
  ·have lt : b < s.heap.objs.size := by
    have z : b = e \/ b = it := by simpa using hb
    rcases z with z | z
    ·rw [z]
     exact hel
    ·rw [z]
     exact hil
   rw [ak (Nat.ne_of_lt lt)]
   exact (hf b hb).1
 done := by
  intro X hP hw hK hc i pins s σ H E I hf st hg
  subst hP hw hK
  obtain ⟨⟨old, he⟩, hit, hne, hle⟩ := st
  have D : Draws X.prog X.w X.A.in1 it [it] x.cps.size (fun i v => ∃ c u, x.cps[i]? = some c /\ v = .str ⟨#[c]⟩ u) (fun i h => h.IsStrIter it ty x t i) := by
   rcases hty with z | z
   ·rw [z]
    exact Draws.strAscii (A := X.A.in1) (I.ok.hd hc) it x t
   ·rw [z]
    exact Draws.strWide (A := X.A.in1) (I.ok.hd hc) it x t
  have ei : i = x.cps.size := Nat.le_antisymm hle hg
  subst ei
  obtain ⟨f0, f1, f2, f3, f4, f5⟩ := hf it (by simp)
  exact wpAny_pyNext_enum_endD D he hit fun h1 eb => ⟨rfl, I.turned (t' := s.toks) (fun b o hb q => eb b o hb q) f0 f1 f3 f4 f5⟩
 self := fun A i s Q E st h => by
  obtain ⟨⟨_, he⟩, _⟩ := st
  exact wpAny_pyIter_enum he h
def By (ta : TA) : TI := fun σ H R => ta σ H fun vs H1 => ∃ x, vs = [.str x] /\ R (zF x) H1
theorem sY {X : Cx} {e : Expr} {ta : TA} {p pos tpos : Pos} {elts : List Expr} {kk : Nat} (hg : Gl X "enumerate") (hm : X.mg "enumerate" = none) (ha : PA X [e] ta) (hs : starEach [e] X.env = [(false, eval e X.env)] := by rfl) :
 PI X (.Tuple elts kk tpos) (.Call (.Name "enumerate" p) [e] [] pos) (By ta) := by
 intro pins s σ H R I h
 refine Call_ (jB I hg hm boot_enumerate (PyProof.Rows.callWith_type1 (bS (ha pos pins s σ H _ I h) fun us s1 ⟨vs, H1, I1, r1, q1⟩ => ?_) hs rfl))
 obtain ⟨x, rfl, q⟩ := q1
 obtain ⟨u, rfl, t, rfl⟩ := pQ r1
 refine call_enumerate_str fun h1 he hit hsz hk => wpAny_pyIter_enum he ?_
 have I2 : aE X pins σ H1 { s1 with heap := h1 } := I1.kept (t' := s1.toks) hk
 have hty : strIterType x = "str_ascii_iterator" \/ strIterType x = "str_iterator" := by
  unfold strIterType
  split
  ·exact .inl rfl
  ·exact .inr rfl
 refine ⟨s1.heap.objs.size + 1, [s1.heap.objs.size + 1, s1.heap.objs.size], _, _, H1, rfl, I2, uo (s1.heap.objs.size + 1) s1.heap.objs.size x t (strIterType x) hty, ⟨⟨.none, he⟩, hit, Nat.succ_ne_self _, Nat.zero_le _⟩, fun b hb => ?_, q⟩
 have hle : s1.heap.objs.size <= b := by
  have z : b = s1.heap.objs.size + 1 \/ b = s1.heap.objs.size := by simpa using hb
  rcases z with z | z
  ·rw [z]
   exact Nat.le_succ _
  ·rw [z]
   exact Nat.le_refl _
 exact I1.fpOk hle (I1.hok.fresh hle)
end L2
end
section
namespace L2
open PySem PySem.Spec PyProof.Rows
structure ck (P : Program) (w : World) (K : W.Frag) (mg : Str -> Option Value) (base : Heap) (CX : CXT) (k : Nat) (x : Str) (ps : List Str) (sp : Sp) : Prop where
 ex : ∃ (f : Addr) (fd : FuncData), aP P w K mg base CX k f fd ps sp /\ aB K fd ps [] /\ mg x = some (.ref f) /\ W.keepIn K (.ref f) = true
structure jW (P : Program) (w : World) (K : W.Frag) (mg : Str -> Option Value) (base : Heap) (CX : CXT) (k : Nat) (C : Addr) (m : Str) (ps : List Str) (sp : Sp) : Prop where
 ex : ∃ (f : Addr) (fd : FuncData), aP P w K mg base CX k f fd ps sp /\ aB K fd ps [] /\ mH K C m f
structure CN (P : Program) (w : World) (K : W.Frag) (mg : Str -> Option Value) (base : Heap) (CX : CXT) (k : Nat) (x : Str) (C : Addr) (ps : List Str) (sp : Sp) : Prop where
 cl : ue K C
 mgC : mg x = some (.ref C)
 ex : ∃ (f : Addr) (fd : FuncData), aP P w K mg base CX k f fd ps sp /\ aB K fd ps [] /\ Mk K C f
def GI (mg : Str -> Option Value) (x : Str) (n : Int) : Prop := ∃ t, mg x = some (.int n t)
def GS (mg : Str -> Option Value) (x : Str) (z : Str) : Prop := ∃ t, mg x = some (.str z t)
structure GT (K : W.Frag) (mg : Str -> Option Value) (x : Str) (a : Addr) (xs : List V) : Prop where
 at_ : mg x = some (.ref a)
 sq : ∃ (o : Obj) (its : Array Value) (n : Nat), K.lookup a = some o /\ o.cls = .type "tuple" /\ o.data = .seq its n /\ its.size <= sizeLine /\ aR xs its.toList
theorem GT.sqT {K : W.Frag} {mg : Str -> Option Value} {x : Str} {a : Addr} {xs : List V} (g : GT K mg x a xs) (H : Hp) : fV K H a xs := .inr g.sq
section
variable {X : Cx} {CX : CXT} {k : Nat} {x m : Str} {ps : List Str} {sp : Sp} {E : XK} {e o : Expr} {es : List Expr} {t : TA} {ta : TE} {p pos apos : Pos} {C : Addr}
theorem aI (F : ck X.prog X.w X.K X.mg X.base CX k x ps sp) (hr : dq k X.A) (hx : du CX X E) (ha : PA X (e :: es) t) (hg : Gl X x := by rfl) (hdb : (x == ("__debug__" : Str)) = false := by decide)
 (he : starEach (e :: es) X.env = (false, eval e X.env) :: starEach es X.env := by rfl) (hpl : (backTo pos (starEach es X.env)).any (·.1) = false := by rfl) : PE X (.Call (.Name x p) (e :: es) [] pos) (vz sp [] E t) := by
 obtain ⟨f, fd, G, b, mg, kp⟩ := F.ex
 exact Ab G hr hg mg kp b .nil hx ha hdb he hpl
theorem fq (F : ck X.prog X.w X.K X.mg X.base CX k x ps sp) (hr : dq k X.A) (hx : du CX X E) (hg : Gl X x := by rfl) (hdb : (x == ("__debug__" : Str)) = false := by decide) : PE X (.Call (.Name x p) [] [] pos) (vz sp [] E tNil) := by
 obtain ⟨f, fd, G, b, mg, kp⟩ := F.ex
 exact yM G hr hg mg kp b .nil hx hdb
theorem fR {pl : Sem Bool} (F : jW X.prog X.w X.K X.mg X.base CX k C m ps sp) (c : ue X.K C) (hr : dq k X.A) (hx : du CX X E) (ho : PE X o ta) (ha : PA X (e :: es) t)
 (hst : starEach (e :: es) X.env = (false, eval e X.env) :: starEach es X.env := by rfl) (hpl : (backTo pos (starEach es X.env)).any (·.1) = false := by rfl)
 (ht : eval (.Call (.Attribute o m apos) (e :: es) [] pos) X.env = (do
  let ov <- eval o X.env
  standAt apos.atName
  let (f, first) <- holding [ov] (getMethod ov m pl)
  callWith pos f first (backTo pos (starEach (e :: es) X.env)) (backToKw pos (keywordEach [] X.env))) := by rfl) :
 PE X (.Call (.Attribute o m apos) (e :: es) [] pos) (vy C m sp [] E ta t) := by
 obtain ⟨f, fd, G, b, mt⟩ := F.ex
 exact z9 ho c mt G hr b .nil hx ha hst hpl ht
theorem lY {pl : Sem Bool} (F : jW X.prog X.w X.K X.mg X.base CX k C m ps sp) (c : ue X.K C) (hr : dq k X.A) (hx : du CX X E) (ho : PE X o ta)
 (ht : eval (.Call (.Attribute o m apos) [] [] pos) X.env = (do
  let ov <- eval o X.env
  standAt apos.atName
  let (f, first) <- holding [ov] (getMethod ov m pl)
  callWith pos f first (backTo pos (starEach [] X.env)) (backToKw pos (keywordEach [] X.env))) := by rfl) :
 PE X (.Call (.Attribute o m apos) [] [] pos) (vy C m sp [] E ta tNil) := by
 obtain ⟨f, fd, G, b, mt⟩ := F.ex
 exact yI ho c mt G hr b .nil hx ht
theorem yH (F : CN X.prog X.w X.K X.mg X.base CX k x C ps sp) (hr : dq (k + 1) X.A) (hx : du CX X E) (ha : PA X (e :: es) t) (hg : Gl X x := by rfl) (hdb : (x == ("__debug__" : Str)) = false := by decide)
 (he : starEach (e :: es) X.env = (false, eval e X.env) :: starEach es X.env := by rfl) (hpl : (backTo pos (starEach es X.env)).any (·.1) = false := by rfl) : PE X (.Call (.Name x p) (e :: es) [] pos) (AJ C sp [] E t) := by
 obtain ⟨f, fd, G, b, M⟩ := F.ex
 exact Aa M G hr hg F.mgC b .nil hx ha hdb he hpl
theorem aC {n : Int} (h : GI X.mg x n) (hg : Gl X x := by rfl) (hd : (x == ("__debug__" : Str)) = false := by decide) : PE X (.Name x pos) (tC (.int n)) := by
 obtain ⟨t, e⟩ := h
 exact rp hg e ⟨t, rfl⟩ hd
theorem yJ {z : Str} (h : GS X.mg x z) (hg : Gl X x := by rfl) (hd : (x == ("__debug__" : Str)) = false := by decide) : PE X (.Name x pos) (tC (.str z)) := by
 obtain ⟨t, e⟩ := h
 exact rp hg e ⟨t, rfl⟩ hd
theorem mK {a : Addr} {xs : List V} (h : GT X.K X.mg x a xs) (hg : Gl X x := by rfl) (hd : (x == ("__debug__" : Str)) = false := by decide) : PE X (.Name x pos) (tC (.ref a)) := rp hg h.at_ (v := .ref a) rfl hd
end
section
variable {P : Program} {w : World} {K : W.Frag} {mg : Str -> Option Value} {base : Heap}
end
theorem jX {σ : St} {H : Hp} {A B : Hp -> Prop} (h : A H) : tYes σ H (fun b H3 => if b = true then A H3 else B H3) := by
 show (if true = true then A H else B H)
 rw [if_pos rfl]
 exact h
theorem ax.new {H : Hp} {p : Addr} {o : HO} (h : H p = none) : ax H (aU H p o) := fun b u e => by
 rw [ak (au e h)]
 exact e
theorem ax.seqT {K : W.Frag} {H H' : Hp} {a : Addr} {xs : List V} (e : ax H H') (h : fV K H a xs) : fV K H' a xs := by
 rcases h with (h | ⟨o, h⟩) | h
 ·exact .inl (.inl (e _ _ h))
 ·exact .inl (.inr ⟨o, e _ _ h⟩)
 ·exact .inr h
end L2
end
section
namespace L2
open PySem PySem.Spec PyProof.Rows
theorem tM {X : Cx} : CD X (fun o i H Q => ∃ p xs k j v, o = .ref p /\ i = .int k /\ bj X.K H p xs /\ k = ((j : Nat) : Int) /\ xs[j]? = some v /\ Q v H) := by
 intro pins s σ H o i ov iv Q I ro ri h
 obtain ⟨p, xs, k, j, v, rfl, rfl, hq, rfl, hj, q⟩ := h
 cases ro
 obtain ⟨t, rfl⟩ := ri
 obtain ⟨its, r, pl, hz⟩ := I.list hq
 obtain ⟨u, eu, ru⟩ := r.get hj
 have lt : j < xs.length := (List.getElem?_eq_some_iff.mp hj).1
 have l63 := ml
 exact wpAny_getItem_list pl.isList (Int.natCast_nonneg j) (by omega) (by simpa using eu) ⟨v, H, I, ru, q⟩
section
variable {prog : Program} {w : World} {A : Around}
theorem zi (hh : A.handled = none) (itr tp : Addr) (hne : tp ≠ itr) (cells : Array Value) :
 Draws prog w A itr [itr, tp] cells.size (fun i v => cells[i]? = some v) (fun i h => h.IsTupleIter itr tp i /\ h.IsTuple tp cells) where
 live := fun _ _ st => by
  obtain ⟨⟨o, ho, _⟩, _⟩ := st
  exact ⟨o, ho⟩
 frame := fun _ _ _ st k => by
  obtain ⟨⟨o, ho, r⟩, q, hq, r2⟩ := st
  exact ⟨⟨o, k itr (by simp) _ ho, r⟩, q, k tp (by simp) _ hq, r2⟩
 item := fun i s Q E hi st hQ => by
  obtain ⟨⟨oi, ei, ci, di⟩, ot, et, ct, nt, dt⟩ := st
  have found : cells[i]? = some cells[i] := by simp [hi]
  unfold Builtin.SmallTypes.nextOf
  have ty : s.TypeIs (.ref itr) "tuple_iterator" := ⟨oi, ei, ci⟩
  refine wpAny_bind (wpAny_callSpecial?_slot (name := Str.ofString "__next__") ty F.slot_tuple_iterator_next (wpAny_call_entry F.slot_tuple_iterator_next ty F.entry_tuple_iterator_next ?_ (F.args_tuple_iterator_next_1 _)))
  show wpAny _ _ (field (.ref itr) 0 >>= _) _ _ s
  refine wpAny_bind (wpAny_field ei di (x := .ref tp) rfl ?_)
  show wpAny _ _ (if (Value.ref tp == Value.none) = true then _ else _) _ _ s
  rw [if_neg (show ¬ ((Value.ref tp == Value.none) = true) from Bool.false_ne_true)]
  show wpAny _ _ (field (.ref itr) 1 >>= _) _ _ s
  refine wpAny_bind (wpAny_field ei di (x := .int i 0) rfl ?_)
  show wpAny _ _ (seqItems? (.ref tp) >>= _) _ _ s
  refine wpAny_bind (wpAny_seqItems et dt ?_)
  simp only [Int.toNat_natCast, found]
  refine wpAny_bind (wpAny_setField ei di (by simp) (wpAny_pure ⟨cells[i], rfl, wpAny_pure (hQ _ _ s.toks found ⟨⟨_, Heap.get?_update_self _ ei (Obj.isFreed_of_fields (Obj.data_mapFields di _)), (Obj.cls_mapFields ..).trans ci, ?_⟩, ot, ?_, ct, nt, dt⟩ (Heap.SameBut.update ..))⟩))
  ·rw [Obj.data_mapFields di]
   simp [rawInt]
  ·exact (Heap.get?_update_other _ _ (Ne.symm hne)).trans et
 done := fun s Q E st hE => by
  obtain ⟨⟨oi, ei, ci, di⟩, ot, et, ct, nt, dt⟩ := st
  have gone : cells[cells.size]? = none := by simp
  unfold Builtin.SmallTypes.nextOf
  have ty : s.TypeIs (.ref itr) "tuple_iterator" := ⟨oi, ei, ci⟩
  refine wpAny_bind (wpAny_callSpecial?_slot (name := Str.ofString "__next__") ty F.slot_tuple_iterator_next (wpAny_call_entry F.slot_tuple_iterator_next ty F.entry_tuple_iterator_next ?_ (F.args_tuple_iterator_next_1 _)))
  show wpAny _ _ (field (.ref itr) 0 >>= _) _ _ s
  refine wpAny_bind (wpAny_field ei di (x := .ref tp) rfl ?_)
  show wpAny _ _ (if (Value.ref tp == Value.none) = true then _ else _) _ _ s
  rw [if_neg (show ¬ ((Value.ref tp == Value.none) = true) from Bool.false_ne_true)]
  show wpAny _ _ (field (.ref itr) 1 >>= _) _ _ s
  refine wpAny_bind (wpAny_field ei di (x := .int cells.size 0) rfl ?_)
  show wpAny _ _ (seqItems? (.ref tp) >>= _) _ _ s
  refine wpAny_bind (wpAny_seqItems et dt ?_)
  simp only [Int.toNat_natCast, gone]
  refine wpAny_bind (wpAny_rule (wpAny_bind (wpAny_setField ei di (by simp) ?_)))
  refine wpAny_bind (m := newExc (.type "StopIteration") []) ?_
  unfold newExc newTuple
  refine wpAny_bind (wpAny_newObj_type (wpAny_bind (m := firstArgMember _ _) (wpAny_of_eq (a := Value.none) (by simp only [firstArgMember]; rfl) (wpAny_newObj_type ?_ (by size_fits)))) (by size_fits))
  exact wpAny_raiseNew_none hh (hE _ _ (fun b o nb eb => Heap.get?_push_of_some _ (Heap.get?_push_of_some _ ((Heap.get?_update_other _ _ (Ne.symm nb)).trans eb))) ⟨_, Heap.get?_push_size _ rfl, rfl⟩)
end
structure sf (z TI TO i1 i2 : Addr) (fp1 fp2 : List Addr) : Prop where
 tz : TO ≠ z
 z1 : i1 ≠ z
 z2 : i2 ≠ z
 t1 : TO ≠ i1
 t2 : TO ≠ i2
 n12 : i1 ≠ i2
 f1z : z ∉ fp1
 f1t : TO ∉ fp1
 f12 : i2 ∉ fp1
 f2z : z ∉ fp2
 f2t : TO ∉ fp2
 f21 : i1 ∉ fp2
section
variable {prog : Program} {w : World} {A : Around} {E : Value -> Shared -> Prop} {s : Shared} {z TI TO i1 i2 : Addr} {fp1 fp2 : List Addr} {n1 n2 k : Nat} {P1 P2 : Nat -> Value -> Prop} {S1 S2 : Nat -> Heap -> Prop} {a b : Value}
theorem wS {Q : Value -> Shared -> Prop} (D1 : Draws prog w A i1 fp1 n1 P1 S1) (D2 : Draws prog w A i2 fp2 n2 P2 S2) (far : sf z TI TO i1 i2 fp1 fp2)
 (gz : IsZip s.heap z TI TO .none) (gi : IsPair s.heap TI (.ref i1) (.ref i2)) (go : IsPair s.heap TO a b) (st1 : S1 k s.heap) (st2 : S2 k s.heap) (lt1 : k < n1) (lt2 : k < n2)
 (fin : ∀ x y h' tk, P1 k x -> P2 k y -> IsZip h' z TI TO (rawInt s.heap.objs.size) -> IsPair h' TO x y -> S1 (k + 1) h' -> S2 (k + 1) h' -> IsPair h' s.heap.objs.size x y ->
  (∀ c o, c ≠ z -> c ≠ TO -> c ≠ i1 -> c ≠ i2 -> s.heap.get? c = some o -> h'.get? c = some o) -> Q (.ref s.heap.objs.size) { s with heap := h', toks := tk }) :
 wpAny (model prog w) A (Builtin.«zip.__next__» ⟨[.ref z], []⟩) (fun fn s' => ∃ v, fn = .done (.ret v) /\ Q v s') E s := by
 show wpAny _ _ (field (.ref z) 2 >>= _) _ _ _
 refine wpAny_bind (wpAny_field gz rfl (x := .bool false) rfl ?_)
 show wpAny _ _ (field (.ref z) 3 >>= _) _ _ _
 refine wpAny_bind (wpAny_field gz rfl (x := .ref TI) rfl (wpAny_bind (wpAny_seqItems gi rfl ?_)))
 show wpAny _ _ (Builtin.SmallTypes.ownedTupleIsFree (.ref z) >>= _) _ _ _
 refine wpAny_bind ?_
 unfold Builtin.SmallTypes.ownedTupleIsFree
 refine wpAny_bind (wpAny_field gz rfl (x := .none) rfl (wpAny_pure ?_))
 simp only [if_true]
 refine wpAny_bind (wpAny_rule (wpAny_bind (wpAny_field gz rfl (x := .ref TO) rfl (wpAny_bind (wpAny_setField_rec gz (by simp) fun g1 gz1 e1 => ?_)))))
 replace gz1 : IsZip g1 z TI TO .ellipsis := gz1
 refine wpAny_bind ?_
 simp only [List.zipIdx_cons, List.zipIdx_nil, List.forIn_cons, List.forIn_nil]
 have a1 : S1 k g1 := D1.frame _ _ _ st1 fun c hc o q => e1.extBut c o (fun y => far.f1z (y ▸ hc)) q
 have a2 : S2 k g1 := D2.frame _ _ _ st2 fun c hc o q => e1.extBut c o (fun y => far.f2z (y ▸ hc)) q
 refine wpAny_bind (wpAny_bind (wpAny_onRaise ?_))
 show wpAny _ _ (Builtin.SmallTypes.nextOf (.ref i1) >>= _) _ _ _
 refine wpAny_bind (D1.item k { s with heap := g1 } _ _ lt1 a1 fun x g2 tk2 px b1 e2 => wpAny_pure ?_)
 replace e2 : Heap.SameBut i1 g1 g2 := e2
 have go2 : IsPair g2 TO a b := e2.extBut _ _ far.t1 (e1.extBut _ _ far.tz go)
 refine wpAny_bind (wpAny_seqItems go2 rfl (wpAny_bind (wpAny_updateSeq_pair go2 fun g3 go3 e3 => ?_)))
 replace go3 : IsPair g3 TO x b := go3
 replace e3 : Heap.SameBut TO g2 g3 := e3
 refine wpAny_bind (wpAny_letGo (wpAny_pure ?_))
 have a3 : S2 k g3 := D2.frame _ _ _ a2 fun c hc o q => e3.extBut c o (fun y => far.f2t (y ▸ hc)) (e2.extBut c o (fun y => far.f21 (y ▸ hc)) q)
 refine wpAny_bind (wpAny_bind (wpAny_onRaise ?_))
 show wpAny _ _ (Builtin.SmallTypes.nextOf (.ref i2) >>= _) _ _ _
 refine wpAny_bind (D2.item k { s with heap := g3, toks := tk2 } _ _ lt2 a3 fun y g4 tk4 py b4 e4 => wpAny_pure ?_)
 replace e4 : Heap.SameBut i2 g3 g4 := e4
 have go4 : IsPair g4 TO x b := e4.extBut _ _ far.t2 go3
 refine wpAny_bind (wpAny_seqItems go4 rfl (wpAny_bind (wpAny_updateSeq_pair go4 fun g5 go5 e5 => ?_)))
 replace go5 : IsPair g5 TO x y := go5
 replace e5 : Heap.SameBut TO g4 g5 := e5
 refine wpAny_bind (wpAny_letGo (wpAny_pure (wpAny_pure (wpAny_bind (wpAny_seqItems go5 rfl (wpAny_bind (wpAny_newTuple ?_)))))))
 have sz : g5.objs.size = s.heap.objs.size := by rw [e5.1, e4.1, e3.1, e2.1, e1.1]
 have gz5 : IsZip g5 z TI TO .ellipsis := e5.extBut _ _ far.tz.symm (e4.extBut _ _ far.z2.symm (e3.extBut _ _ far.tz.symm (e2.extBut _ _ far.z1.symm gz1)))
 have kp : ∀ c o, c ≠ z -> c ≠ TO -> c ≠ i1 -> c ≠ i2 -> s.heap.get? c = some o -> g5.get? c = some o := fun c o c1 c2 c3 c4 q => e5.extBut _ _ c2 (e4.extBut _ _ c4 (e3.extBut _ _ c2 (e2.extBut _ _ c3 (e1.extBut _ _ c1 q))))
 have b1' : S1 (k + 1) g5 := D1.frame _ _ _ b1 fun c hc o q => e5.extBut _ _ (fun y => far.f1t (y ▸ hc)) (e4.extBut _ _ (fun y => far.f12 (y ▸ hc)) (e3.extBut _ _ (fun y => far.f1t (y ▸ hc)) q))
 have b2' : S2 (k + 1) g5 := D2.frame _ _ _ b4 fun c hc o q => e5.extBut _ _ (fun y => far.f2t (y ▸ hc)) q
 have zl : z < g5.objs.size := Heap.lt_size gz5
 show wpAny _ _ (Builtin.SmallTypes.ownedTupleHandOut (.ref z) (.ref g5.objs.size) >>= _) _ _ _
 refine wpAny_bind ?_
 unfold Builtin.SmallTypes.ownedTupleHandOut
 have gz6 : IsZip (g5.push { cls := .type "tuple", data := .seq #[x, y] }) z TI TO .ellipsis := Heap.get?_push_of_some _ gz5
 refine wpAny_bind (wpAny_setField_rec gz6 (by simp) fun g7 gz7 e7 => ?_)
 replace gz7 : IsZip g7 z TI TO (rawInt g5.objs.size) := gz7
 refine wpAny_setField_rec gz7 (by simp) fun g8 gz8 e8 => ?_
 replace gz8 : IsZip g8 z TI TO (rawInt g5.objs.size) := gz8
 have up : ∀ c o, c ≠ z -> g5.get? c = some o -> g8.get? c = some o := fun c o c1 q => e8.extBut _ _ c1 (e7.extBut _ _ c1 (Heap.get?_push_of_some _ q))
 have new : IsPair g8 g5.objs.size x y := e8.extBut _ _ (Nat.ne_of_gt zl) (e7.extBut _ _ (Nat.ne_of_gt zl) (Heap.get?_push_size _ rfl))
 rw [sz] at gz8 new
 refine wpAny_pure ⟨_, rfl, ?_⟩
 show Q (.ref g5.objs.size) _
 rw [sz]
 exact fin x y g8 _ px py gz8 (up _ _ far.tz go5) (D1.frame _ _ _ b1' fun c hc o q => up c o (fun y => far.f1z (y ▸ hc)) q) (D2.frame _ _ _ b2' fun c hc o q => up c o (fun y => far.f2z (y ▸ hc)) q) new
  fun c o c1 c2 c3 c4 q => up c o c1 (kp c o c1 c2 c3 c4 q)
theorem x6 {Q : Fin -> Shared -> Prop} (D1 : Draws prog w A i1 fp1 n1 P1 S1) (D2 : Draws prog w A i2 fp2 n2 P2 S2) (far : sf z TI TO i1 i2 fp1 fp2)
 (gz : IsZip s.heap z TI TO .none) (gi : IsPair s.heap TI (.ref i1) (.ref i2)) (go : IsPair s.heap TO a b) (st1 : S1 k s.heap) (st2 : S2 k s.heap) (over : k = n1 \/ (k < n1 /\ k = n2))
 (fin : ∀ h' e tk, (∀ c o, c ≠ z -> c ≠ TO -> c ≠ i1 -> c ≠ i2 -> s.heap.get? c = some o -> h'.get? c = some o) -> (∃ o, h'.get? e = some o /\ o.cls = .type "StopIteration") -> E (.ref e) { s with heap := h', toks := tk }) :
 wpAny (model prog w) A (Builtin.«zip.__next__» ⟨[.ref z], []⟩) Q E s := by
 show wpAny _ _ (field (.ref z) 2 >>= _) _ _ _
 refine wpAny_bind (wpAny_field gz rfl (x := .bool false) rfl ?_)
 show wpAny _ _ (field (.ref z) 3 >>= _) _ _ _
 refine wpAny_bind (wpAny_field gz rfl (x := .ref TI) rfl (wpAny_bind (wpAny_seqItems gi rfl ?_)))
 show wpAny _ _ (Builtin.SmallTypes.ownedTupleIsFree (.ref z) >>= _) _ _ _
 refine wpAny_bind ?_
 unfold Builtin.SmallTypes.ownedTupleIsFree
 refine wpAny_bind (wpAny_field gz rfl (x := .none) rfl (wpAny_pure ?_))
 simp only [if_true]
 refine wpAny_bind (wpAny_rule (wpAny_bind (wpAny_field gz rfl (x := .ref TO) rfl (wpAny_bind (wpAny_setField_rec gz (by simp) fun g1 gz1 e1 => ?_)))))
 replace gz1 : IsZip g1 z TI TO .ellipsis := gz1
 refine wpAny_bind ?_
 simp only [List.zipIdx_cons, List.zipIdx_nil, List.forIn_cons, List.forIn_nil]
 have a1 : S1 k g1 := D1.frame _ _ _ st1 fun c hc o q => e1.extBut c o (fun y => far.f1z (y ▸ hc)) q
 have a2 : S2 k g1 := D2.frame _ _ _ st2 fun c hc o q => e1.extBut c o (fun y => far.f2z (y ▸ hc)) q
 refine wpAny_bind (wpAny_bind (wpAny_onRaise ?_))
 show wpAny _ _ (Builtin.SmallTypes.nextOf (.ref i1) >>= _) _ _ _
 rcases over with ek | ⟨lt1, ek⟩
 ·subst ek
  refine wpAny_bind (D1.done { s with heap := g1 } _ _ a1 fun g2 e e2 he => ?_)
  obtain ⟨oe, q1, q2⟩ := he
  have gz2 : IsZip g2 z TI TO .ellipsis := e2 _ _ far.z1.symm gz1
  have ne : e ≠ z := fun y => by
   subst y
   rw [gz2] at q1
   cases q1
   simp at q2
  exact wpAny_setField_rec gz2 (by simp) fun g3 _ e3 => fin g3 e s.toks (fun c o c1 _ c3 _ q => e3.extBut _ _ c1 (e2 _ _ c3 (e1.extBut _ _ c1 q))) ⟨oe, e3.extBut _ _ ne q1, q2⟩
 ·refine wpAny_bind (D1.item k { s with heap := g1 } _ _ lt1 a1 fun x g2 tk2 px b1 e2 => wpAny_pure ?_)
  replace e2 : Heap.SameBut i1 g1 g2 := e2
  have go2 : IsPair g2 TO a b := e2.extBut _ _ far.t1 (e1.extBut _ _ far.tz go)
  refine wpAny_bind (wpAny_seqItems go2 rfl (wpAny_bind (wpAny_updateSeq_pair go2 fun g3 go3 e3 => ?_)))
  replace e3 : Heap.SameBut TO g2 g3 := e3
  refine wpAny_bind (wpAny_letGo (wpAny_pure ?_))
  have a3 : S2 k g3 := D2.frame _ _ _ a2 fun c hc o q => e3.extBut c o (fun y => far.f2t (y ▸ hc)) (e2.extBut c o (fun y => far.f21 (y ▸ hc)) q)
  subst ek
  refine wpAny_bind (wpAny_bind (wpAny_onRaise ?_))
  show wpAny _ _ (Builtin.SmallTypes.nextOf (.ref i2) >>= _) _ _ _
  refine wpAny_bind (D2.done { s with heap := g3, toks := tk2 } _ _ a3 fun g4 e e4 he => ?_)
  obtain ⟨oe, q1, q2⟩ := he
  have gz4 : IsZip g4 z TI TO .ellipsis := e4 _ _ far.z2.symm (e3.extBut _ _ far.tz.symm (e2.extBut _ _ far.z1.symm gz1))
  have ne : e ≠ z := fun y => by
   subst y
   rw [gz4] at q1
   cases q1
   simp at q2
  exact wpAny_setField_rec gz4 (by simp) fun g5 _ e5 => fin g5 e tk2 (fun c o c1 c2 c3 c4 q => e5.extBut _ _ c1 (e4 _ _ c4 (e3.extBut _ _ c2 (e2.extBut _ _ c3 (e1.extBut _ _ c1 q))))) ⟨oe, e5.extBut _ _ ne q1, q2⟩
end
def zE (K : W.Frag) (a b : Addr) : It :=
 ⟨fun i H => ∃ (xs ys : List V) (x y : V), bj K H a xs /\ fV K H b ys /\ xs[i]? = some x /\ ys[i]? = some y,
  fun i H v H' => ∃ T x y, v = .ref T /\ H T = none /\ H' = aU H T (.tup [x, y]) /\ (∀ xs, bj K H a xs -> xs[i]? = some x) /\ ∀ ys, fV K H b ys -> ys[i]? = some y,
  fun i H => ∃ xs ys : List V, bj K H a xs /\ fV K H b ys /\ (xs.length = i \/ (i < xs.length /\ ys.length = i))⟩
theorem wW {P : Program} {w : World} {K : W.Frag} {elts : List Expr} {kk : Nat} {tpos : Pos} {a b z TI TO i1 i2 : Addr} (D : ZipApart z TI TO i1 i2 a b) :
 sg P w K (.Tuple elts kk tpos) (zE K a b) [z, TI, TO, i1, i2] z (fun i h => IsZip h z TI TO .none /\ IsPair h TI (.ref i1) (.ref i2) /\ (∃ x y, IsPair h TO x y) /\ h.IsListIter i1 a i /\ h.IsTupleIter i2 b i) where
 mem := by simp
 obj := fun i h st c hc => by
  obtain ⟨hz, hTI, ⟨x, y, hTO⟩, ⟨o1, e1, _, d1⟩, ⟨o2, e2, _, d2⟩⟩ := st
  have e' : c = z \/ c = TI \/ c = TO \/ c = i1 \/ c = i2 := by simpa using hc
  rcases e' with q | q | q | q | q
  ·rw [q]; exact ⟨_, hz, fun v q => nomatch q⟩
  ·rw [q]; exact ⟨_, hTI, fun v q => nomatch q⟩
  ·rw [q]; exact ⟨_, hTO, fun v q => nomatch q⟩
  ·rw [q]; exact ⟨o1, e1, fun v q => by rw [d1] at q; cases q⟩
  ·rw [q]; exact ⟨o2, e2, fun v q => by rw [d2] at q; cases q⟩
 keep := fun i h h' st k => by
  obtain ⟨hz, hTI, ⟨x, y, hTO⟩, ⟨o1, e1, r1⟩, ⟨o2, e2, r2⟩⟩ := st
  exact ⟨k z (by simp) _ hz, k TI (by simp) _ hTI, ⟨x, y, k TO (by simp) _ hTO⟩, ⟨o1, k i1 (by simp) _ e1, r1⟩, ⟨o2, k i2 (by simp) _ e2, r2⟩⟩
 item := by
  intro X hP hw hK hc i pins s σ H E I hf st hg
  subst hP hw hK
  obtain ⟨hz, hTI, ⟨x0, y0, hTO⟩, h1, h2⟩ := st
  obtain ⟨xs, ys, x, y, hqx, hqy, hx, hy⟩ := hg
  obtain ⟨its, rv, p, _⟩ := I.list hqx
  obtain ⟨its2, rv2, p2, _⟩ := I.tuple hqy
  obtain ⟨u, hu, ru⟩ := rv.get hx
  obtain ⟨u2, hu2, ru2⟩ := rv2.get hy
  have hzl : z < s.heap.objs.size := Heap.lt_size hz
  have far : sf z TI TO i1 i2 [i1, a] [i2, b] := ⟨D.TOz, D.i1z, D.i2z, D.TOi1, D.TOi2, D.i12, by simp [D.i1z.symm, D.l1z.symm], by simp [D.TOi1, D.l1TO.symm], by simp [D.i12.symm, D.l1i2.symm], by simp [D.i2z.symm, D.l2z.symm], by simp [D.TOi2, D.l2TO.symm], by simp [D.i12, D.l2i1.symm]⟩
  have D1 := Draws.list (prog := X.prog) (w := X.w) (A := X.A.in1) (I.ok.hd hc) i1 a D.l1i1 its.toArray
  have D2 := zi (prog := X.prog) (w := X.w) (A := X.A.in1) (I.ok.hd hc) i2 b D.l2i2 its2.toArray
  have hT : s.TypeIs (.ref z) "zip" := ⟨_, hz, rfl⟩
  have t2 : s.heap.IsTuple b its2.toArray := by
   obtain ⟨o, q1, q2, q3⟩ := p2
   exact ⟨o, q1, q2, q3⟩
  unfold pyNext
  refine wpAny_bind (wpAny_attempt (wpAny_callSpecial?_slot (name := Str.ofString "__next__") hT F.slot_zip_next (wpAny_call_entry F.slot_zip_next hT F.entry_zip_next
   (wS (k := i) D1 D2 far hz hTI hTO ⟨h1, p.isList⟩ ⟨h2, t2⟩ (by simpa using (List.getElem?_eq_some_iff.mp hu).1) (by simpa using (List.getElem?_eq_some_iff.mp hu2).1) fun v1 v2 g tk pv1 pv2 gz go st1 st2 new hk => wpAny_pure ?_) (F.args_zip_next_1 _))))
  have ev1 : u = v1 := by
   have q : its.toArray[i]? = some v1 := pv1
   rw [show its.toArray[i]? = its[i]? by simp, hu] at q
   exact Option.some.inj q
  have ev2 : u2 = v2 := by
   have q : its2.toArray[i]? = some v2 := pv2
   rw [show its2.toArray[i]? = its2[i]? by simp, hu2] at q
   exact Option.some.inj q
  subst ev1 ev2
  refine ⟨_, rfl, wpAny_letOwnedTupleGo_zip (s := { s with heap := g, toks := tk }) gz fun h2' z'' sb => ?_⟩
  replace sb : Heap.SameBut z g h2' := sb
  have hT2 : h2'.get? s.heap.objs.size = some { cls := .type "tuple", data := .seq #[u, u2] } := (sb.2 _ (Nat.ne_of_gt hzl)).trans new
  have new' : bU X.prog X.w (aU H s.heap.objs.size (.tup [x, y])) h2' s.heap.objs.size (.tup [x, y]) :=
   ⟨by show 2 <= sizeLine; decide, [u, u2], .cons ru (.cons ru2 .nil), ⟨_, hT2, rfl, _, rfl⟩⟩
  have I1 : aE X pins σ (aU H s.heap.objs.size (.tup [x, y])) { s with heap := h2', toks := tk } :=
   I.turnedNew (ch := [z, TI, TO, i1, i2]) (fun c o hb q => (sb.2 c (fun q' => hb (by simp [q']))).trans (hk c o (fun q' => hb (by simp [q'])) (fun q' => hb (by simp [q'])) (fun q' => hb (by simp [q'])) (fun q' => hb (by simp [q'])) q)) hf (Nat.le_refl _) new'
  refine ⟨.ref s.heap.objs.size, _, I1, rfl, ⟨_, x, y, rfl, I.hok.fresh (Nat.le_refl _), rfl, fun l hl => by rw [I.list_inj hl hqx]; exact hx, fun l hl => by rw [I.tuple_inj hl hqy]; exact hy⟩, ⟨z'', ?_, ⟨u, u2, ?_⟩, ?_, ?_⟩, fun c hcm => ?_⟩
  ·exact (sb.2 _ D.TIz).trans (hk _ _ D.TIz D.TITO D.TIi1 D.TIi2 hTI)
  ·exact (sb.2 _ D.TOz).trans go
  ·obtain ⟨⟨o, q, r⟩, _⟩ := st1
   exact ⟨o, (sb.2 _ D.i1z).trans q, r⟩
  ·obtain ⟨⟨o, q, r⟩, _⟩ := st2
   exact ⟨o, (sb.2 _ D.i2z).trans q, r⟩
  ·have hlt : c < s.heap.objs.size := by
    have e' : c = z \/ c = TI \/ c = TO \/ c = i1 \/ c = i2 := by simpa using hcm
    rcases e' with q | q | q | q | q
    ·rw [q]; exact hzl
    ·rw [q]; exact Heap.lt_size hTI
    ·rw [q]; exact Heap.lt_size hTO
    ·rw [q]; obtain ⟨_, e1, _⟩ := h1; exact Heap.lt_size e1
    ·rw [q]; obtain ⟨_, e2, _⟩ := h2; exact Heap.lt_size e2
   rw [ak (Nat.ne_of_lt hlt)]
   exact (hf c hcm).1
 done := by
  intro X hP hw hK hc i pins s σ H E I hf st hg
  subst hP hw hK
  obtain ⟨hz, hTI, ⟨x0, y0, hTO⟩, h1, h2⟩ := st
  obtain ⟨xs, ys, hqx, hqy, hend⟩ := hg
  obtain ⟨its, rv, p, _⟩ := I.list hqx
  obtain ⟨its2, rv2, p2, _⟩ := I.tuple hqy
  have l1 := rv.length
  have l2 := rv2.length
  have far : sf z TI TO i1 i2 [i1, a] [i2, b] := ⟨D.TOz, D.i1z, D.i2z, D.TOi1, D.TOi2, D.i12, by simp [D.i1z.symm, D.l1z.symm], by simp [D.TOi1, D.l1TO.symm], by simp [D.i12.symm, D.l1i2.symm], by simp [D.i2z.symm, D.l2z.symm], by simp [D.TOi2, D.l2TO.symm], by simp [D.i12, D.l2i1.symm]⟩
  have D1 := Draws.list (prog := X.prog) (w := X.w) (A := X.A.in1) (I.ok.hd hc) i1 a D.l1i1 its.toArray
  have D2 := zi (prog := X.prog) (w := X.w) (A := X.A.in1) (I.ok.hd hc) i2 b D.l2i2 its2.toArray
  have hT : s.TypeIs (.ref z) "zip" := ⟨_, hz, rfl⟩
  have t2 : s.heap.IsTuple b its2.toArray := by
   obtain ⟨o, q1, q2, q3⟩ := p2
   exact ⟨o, q1, q2, q3⟩
  unfold pyNext
  refine wpAny_bind (wpAny_attempt (wpAny_callSpecial?_slot (name := Str.ofString "__next__") hT F.slot_zip_next (wpAny_call_entry F.slot_zip_next hT F.entry_zip_next
   (x6 (k := i) D1 D2 far hz hTI hTO ⟨h1, p.isList⟩ ⟨h2, t2⟩ (by
    rcases hend with q | ⟨q, q2⟩
    ·exact .inl (by simp; omega)
    ·exact .inr ⟨by simp; omega, by simp; omega⟩) fun g e tk hk he => ?_) (F.args_zip_next_1 _))))
  obtain ⟨o, ho, hcl⟩ := he
  refine wpAny_bind (wpAny_isInstance (T := "StopIteration") (b := true) ⟨o, ho, hcl⟩ isSubtype_stop (wpAny_pure ⟨rfl, ?_⟩))
  exact I.turnedL (ch := [z, TI, TO, i1, i2]) (fun c o hb q => hk c o (fun q' => hb (by simp [q'])) (fun q' => hb (by simp [q'])) (fun q' => hb (by simp [q'])) (fun q' => hb (by simp [q'])) q) hf
 self := fun A i s Q E st h => wpAny_pyIter_zip st.1 h
abbrev CS (h : Heap) (p : Addr) : Heap := h.push { cls := .type "list_iterator", data := .fields #[.ref p, .int 0 0] }
abbrev CQ (h : Heap) (p q : Addr) : Heap := (CS h p).push { cls := .type "tuple_iterator", data := .fields #[.ref q, .int 0 0] }
abbrev CP (h : Heap) (p q : Addr) : Heap := (CQ h p q).push { cls := .type "tuple", data := .seq #[.ref h.objs.size, .ref (CS h p).objs.size] }
abbrev CO (h : Heap) (p q : Addr) : Heap := (CP h p q).push { cls := .type "tuple", data := .seq #[.none, .none] }
abbrev BZ (h : Heap) (p q : Addr) : Heap := (CO h p q).push { cls := .type "zip", data := .fields #[.none, .bool false, .bool false, .ref (CQ h p q).objs.size, .ref (CP h p q).objs.size] }
theorem uW (p q : Addr) (xs ys : Array Value) :
 Meets (Builtin.«zip.__new__» ⟨[.type "zip", .ref p, .ref q], []⟩) (fun _ R s => s.heap.IsList p xs /\ s.heap.IsTuple q ys /\ R (.ok (.ret (.ref (CO s.heap p q).objs.size))) { s with heap := BZ s.heap p q }) :=
 .of_wp fun prog w A R s h => by
  obtain ⟨hp, g, d, tk, os⟩ := s
  obtain ⟨m1, m2, h⟩ := h
  have hsub := sub_zip
  have u1 : Heap.IsList (Shared.heap ⟨hp, g, d, tk, os⟩) p xs := m1
  have u2 : Heap.IsTuple (Shared.heap ⟨hp.push { cls := .type "list_iterator", data := .fields #[.ref p, .int 0 0] }, g, d, tk, os⟩) q ys := by
   obtain ⟨o, e, r⟩ := m2
   exact ⟨o, Heap.get?_push_of_some _ e, r⟩
  wp_walk using wpAny_pyIter_list u1, wpAny_pyIter_tuple u2
  exact ⟨_, rfl, h⟩
theorem xR {prog : Program} {w : World} {A : Around} {E : Value -> Shared -> Prop} {s : Shared} {p q : Addr} {xs ys : Array Value} {Q : Value -> Shared -> Prop} (m1 : s.heap.IsList p xs) (m2 : s.heap.IsTuple q ys)
 (fin : ∀ h', IsZip h' (s.heap.objs.size + 4) (s.heap.objs.size + 2) (s.heap.objs.size + 3) .none -> IsPair h' (s.heap.objs.size + 2) (.ref s.heap.objs.size) (.ref (s.heap.objs.size + 1)) -> IsPair h' (s.heap.objs.size + 3) .none .none ->
  h'.IsListIter s.heap.objs.size p 0 -> h'.IsTupleIter (s.heap.objs.size + 1) q 0 -> (∀ c o, s.heap.get? c = some o -> h'.get? c = some o) -> Q (.ref (s.heap.objs.size + 4)) { s with heap := h' }) :
 wpAny (model prog w) A (call (.type "zip") [.ref p, .ref q]) Q E s := by
 refine callType_new F.called_zip (by decide) (F.typeCall_zip_2 _ _) (F.newCall_zip_2 _ _) (fun obj => F.args_object_init_3 obj _ _) F.entry_zip_new (uW p q xs ys) ⟨m1, m2, ?_⟩
 have y1 : (CS s.heap p).objs.size = s.heap.objs.size + 1 := Heap.size_push ..
 have y2 : (CQ s.heap p q).objs.size = s.heap.objs.size + 2 := by rw [Heap.size_push, y1]
 have y3 : (CP s.heap p q).objs.size = s.heap.objs.size + 3 := by rw [Heap.size_push, y2]
 have y4 : (CO s.heap p q).objs.size = s.heap.objs.size + 4 := by rw [Heap.size_push, y3]
 have g5 : (BZ s.heap p q).get? (CO s.heap p q).objs.size = some _ := Heap.get?_push_size _ rfl
 have g4 : (BZ s.heap p q).get? (CP s.heap p q).objs.size = some _ := Heap.get?_push_of_some _ (Heap.get?_push_size _ rfl)
 have g3 : (BZ s.heap p q).get? (CQ s.heap p q).objs.size = some _ := Heap.get?_push_of_some _ (Heap.get?_push_of_some _ (Heap.get?_push_size _ rfl))
 have g2 : (BZ s.heap p q).get? (CS s.heap p).objs.size = some _ := Heap.get?_push_of_some _ (Heap.get?_push_of_some _ (Heap.get?_push_of_some _ (Heap.get?_push_size _ rfl)))
 have g1 : (BZ s.heap p q).get? s.heap.objs.size = some _ := Heap.get?_push_of_some _ (Heap.get?_push_of_some _ (Heap.get?_push_of_some _ (Heap.get?_push_of_some _ (Heap.get?_push_size _ rfl))))
 show _ /\ _
 rw [y2, y3, y4] at g5
 rw [y1, y2] at g3
 rw [y3] at g4
 rw [y1] at g2
 rw [y4]
 exact ⟨⟨_, g5, rfl⟩, fin _ g5 g3 g4 ⟨_, g1, rfl, rfl⟩ ⟨_, g2, rfl, rfl⟩ fun c o e => Heap.get?_push_of_some _ (Heap.get?_push_of_some _ (Heap.get?_push_of_some _ (Heap.get?_push_of_some _ (Heap.get?_push_of_some _ e))))⟩
def Cp (K : W.Frag) (ta : TA) : TI := fun σ H R => ta σ H fun vs H1 => ∃ a b xs ys, vs = [.ref a, .ref b] /\ bj K H1 a xs /\ fV K H1 b ys /\ R (zE K a b) H1
theorem vZ {X : Cx} {e e2 : Expr} {ta : TA} {p pos tpos : Pos} {elts : List Expr} {kk : Nat} (hg : Gl X "zip") (hm : X.mg "zip" = none) (ha : PA X [e, e2] ta)
 (hs : starEach [e, e2] X.env = (false, eval e X.env) :: starEach [e2] X.env := by rfl) (hpl : (backTo pos (starEach [e2] X.env)).any (·.1) = false := by rfl) :
 PI X (.Tuple elts kk tpos) (.Call (.Name "zip" p) [e, e2] [] pos) (Cp X.K ta) := by
 intro pins s σ H R I h
 refine Call_ (jB I hg hm xT (PyProof.Rows.callWith_type1 (bS (ha pos pins s σ H _ I h) fun us s1 ⟨vs, H1, I1, r1, q1⟩ => ?_) hs hpl))
 obtain ⟨a, b, xs, ys, rfl, hqx, hqy, q⟩ := q1
 obtain ⟨u, u2, rfl, r, r'⟩ := AH r1
 cases r
 cases r'
 obtain ⟨its, rv, p1, _⟩ := I1.list hqx
 obtain ⟨its2, rv2, p2, _⟩ := I1.tuple hqy
 have la : a < s1.heap.objs.size := p1.lt
 have t2 : s1.heap.IsTuple b its2.toArray := by
  obtain ⟨o, q1, q2, q3⟩ := p2
  exact ⟨o, q1, q2, q3⟩
 have lb : b < s1.heap.objs.size := by
  obtain ⟨o, q1, _⟩ := t2
  exact Heap.lt_size q1
 refine xR p1.isList t2 fun h1 hz hTI hTO i1 i2 hk => wpAny_pyIter_zip hz ?_
 have I2 : aE X pins σ H1 { s1 with heap := h1 } := I1.kept (t' := s1.toks) hk
 refine ⟨s1.heap.objs.size + 4, [s1.heap.objs.size + 4, s1.heap.objs.size + 2, s1.heap.objs.size + 3, s1.heap.objs.size, s1.heap.objs.size + 1], _, _, H1, rfl, I2, wW (W.ktu_apart s1.heap.objs.size a b la lb), ⟨hz, hTI, ⟨_, _, hTO⟩, i1, i2⟩, fun c hcm => ?_, q⟩
 have e' : c = s1.heap.objs.size + 4 \/ c = s1.heap.objs.size + 2 \/ c = s1.heap.objs.size + 3 \/ c = s1.heap.objs.size \/ c = s1.heap.objs.size + 1 := by simpa using hcm
 have hle : s1.heap.objs.size <= c := by
  rcases e' with z | z | z | z | z
  ·rw [z]; exact Nat.le_add_right _ _
  ·rw [z]; exact Nat.le_add_right _ _
  ·rw [z]; exact Nat.le_add_right _ _
  ·rw [z]; exact Nat.le_refl _
  ·rw [z]; exact Nat.le_add_right _ _
 exact I1.fpOk hle (I1.hok.fresh hle)
theorem wf {K : W.Frag} {a b : Addr} {xs ys : List V} {g : TG} {tt : TT} {te : TE} {vs : List Nat} {σ : St} {H1 : Hp} {D : Addr} {Qd : Hp -> Prop} (Pv : Nat -> Hp -> Prop) (hlen : xs.length = ys.length) (h0 : Pv 0 (aU H1 D (.lst [])))
 (hl : ∀ i H, i <= xs.length -> Pv i H -> bj K H a xs /\ fV K H b ys)
 (hs : ∀ i x y T H, xs[i]? = some x -> ys[i]? = some y -> Pv i H -> H T = none -> g (.ref T) (bH σ vs) (aU H T (.tup [x, y])) fun σ2 H2 => bH σ2 vs = bH σ vs /\ tt σ2 H2 fun b H3 =>
  if b = true then te σ2 H3 fun y H4 => ∃ acc, H4 D = some (.lst acc) /\ acc.length < sizeLine /\ Pv (i + 1) (aU H4 D (.lst (acc ++ [y]))) else Pv (i + 1) H3) (hd : ∀ H, Pv xs.length H -> Qd H) :
 ∃ W : Nat -> Nat -> Hp -> Prop, (∃ m, W 0 m (aU H1 D (.lst []))) /\ ∀ i m H, W i m H ->
  ((zE K a b).stop i H /\ Qd H) \/ ((zE K a b).go i H /\ ∃ Nx : Hp -> Prop, (∀ H', Nx H' -> ∃ m', m' < m /\ W (i + 1) m' H') /\ ∀ x H', (zE K a b).yld i H x H' -> g x (bH σ vs) H' fun σ2 H2 => bH σ2 vs = bH σ vs /\ tt σ2 H2 fun b H3 =>
    if b = true then te σ2 H3 fun y H4 => ∃ acc, H4 D = some (.lst acc) /\ acc.length < sizeLine /\ Nx (aU H4 D (.lst (acc ++ [y]))) else Nx H3) := by
 refine ⟨fun i m H => Pv i H /\ i <= xs.length /\ m = xs.length - i, ⟨_, h0, Nat.zero_le _, rfl⟩, fun i m H ⟨hP, hle, hm⟩ => ?_⟩
 obtain ⟨qx, qy⟩ := hl i H hle hP
 by_cases hi : i < xs.length
 ·have ex : xs[i]? = some xs[i] := List.getElem?_eq_getElem hi
  have ey : ys[i]? = some (ys[i]'(by omega)) := List.getElem?_eq_getElem (by omega)
  refine .inr ⟨⟨xs, ys, _, _, qx, qy, ex, ey⟩, fun H' => Pv (i + 1) H', fun H' h => ⟨_, ?_, h, hi, rfl⟩, fun v H' hy => ?_⟩
  ·omega
  ·obtain ⟨T, x, y, rfl, hT, rfl, w1, w2⟩ := hy
   exact hs i x y T H (w1 xs qx) (w2 ys qy) hP hT
 ·have e : i = xs.length := by omega
  subst e
  exact .inl ⟨⟨xs, ys, qx, qy, .inl rfl⟩, hd H hP⟩
end L2
end
section
namespace Db
open PySem PySem.Spec PyProof.Rows L2
def iY (ns : List Int) : Nat := (firstMet (fun i => ns.getD i 0) ns.length).length
section
variable {X : Cx}
def rSetL (K : W.Frag) : List V -> Hp -> VK -> Prop := fun vs H Q => ∃ (a : Addr) (ns : List Int), vs = [V.ref a] /\ bj K H a (ns.map V.int) /\ ns.length <= 1000 /\ ∀ (p : Addr) (S : Int -> Bool), H p = none -> Q (.ref p) (aU H p (.set S (iY ns)))
theorem t4 (hc : X.calm = true) : gP X (.type "set") (rSetL X.K) := by
 intro pins s σ H vs us Q I r h
 obtain ⟨a, ns, rfl, hs, hn, q⟩ := h
 obtain ⟨its, rv, hl, _⟩ := I.list hs
 rw [aR.ref1 r]
 have hi := rv.ints
 have el : its.length = ns.length := hi.length
 refine call_set_list (I.ok.hd hc) hl.isList hi (by rw [List.size_toArray, el]; show ns.length + 1 < 4096; omega) fun h' tk hS hk => ?_
 have ez : its.toArray.size = ns.length := by rw [List.size_toArray, el]
 rw [ez] at hS
 exact ⟨.ref _, aU H s.heap.objs.size (.set _ (iY ns)), I.laid (t' := tk) (fun b u e => hk b u (Heap.lt_size e) e) (Nat.le_refl _) hS, rfl, q _ _ (I.hok.fresh (Nat.le_refl _))⟩
theorem call_len_set : gP X (.builtin "len") (fun xs H Q => ∃ a S n, xs = [V.ref a] /\ H a = some (.set S n) /\ Q (.int (n : Nat)) H) := by
 intro pins s σ H xs us Q I r h
 obtain ⟨a, S, n, rfl, ha, q⟩ := h
 rw [aR.ref1 r]
 obtain ⟨o, es, ep, t, ho, hex, hd, _, _, hb, hf, rfl⟩ := I.hok a _ ha
 have hb2 : es.size < 4096 := hb
 refine PySem.call_len_set ho hex hd hf (by omega) ⟨.int _, H, I.kept (t' := s.toks + 1 + 1) fun _ _ e => e, ⟨_, rfl⟩, q⟩
def Bk (K : W.Frag) : List V -> Hp -> VK -> Prop := fun vs H Q => ∃ (a : Addr) (ns : List Int), vs = [V.ref a] /\ bj K H a (ns.map V.int) /\ ns.length < 64 /\
 ∀ (ns' : List Int) (p : Addr), ns'.Perm ns -> ns'.Pairwise (· >= ·) -> H p = none -> Q (.ref p) (aU H p (.lst (ns'.map V.int)))
theorem yG {e : Expr} {t : TA} {p pos q1 q2 : Pos} {z : Nat} (hg : Gl X "sorted") (hm : X.mg "sorted" = none) (hv : bootBuiltins "sorted" = some (.builtin "sorted")) (ha : PA X [e] t)
 (he : backTo pos (starEach [e] X.env) = (false, eval e X.env) :: backTo pos (starEach [] X.env) := by rfl) : PE X (.Call (.Name "sorted" p) [e] [⟨some "reverse", .Constant (.bool true) z q1, q2⟩] pos) (De (Bk X.K) t) := by
 intro pins s σ H Q I h
 refine wpAny_Call_Name_kw (jB I hg hm hv ?_)
 refine callWith_kw (bS (ha pos pins s σ H _ I h) fun us s1 ⟨vs, H1, I1, r1, q⟩ => ?_) he (by rw [he]; rfl) rfl rfl
 refine wpAny_evalAll_cons (wpAny_bind (Constant_bool (wpAny_bind (wpAny_standAt (wpAny_pure (wpAny_evalAll_nil ?_))))))
 obtain ⟨a, ns, rfl, hs, h64, q⟩ := q
 obtain ⟨its, rv, hl, _⟩ := I1.list hs
 rw [aR.ref1 r1]
 have hi := rv.ints
 refine sorted_ints_rev hl.isList hi (by rw [hi.length]; exact h64) fun out ns' h1 h2 h3 => ?_
 obtain ⟨ep, he'⟩ := PyProof.Rows.sortedAll_at s1.heap its out
 have hlen : (ns'.map V.int).length <= sizeLine := by rw [List.length_map, h2.length_eq]; exact vN h64
 exact ⟨.ref _, aU H1 (s1.heap.objs.size + 1) (.lst (ns'.map V.int)), I1.laid (t' := s1.toks) (fun _ _ => PyProof.Rows.sortedAll_old) (Nat.le_succ _) ⟨hlen, out.toList, ep, iJ h1, he'⟩, rfl, q ns' _ h2 h3 (I1.hok.fresh (Nat.le_succ _))⟩
end
section
variable {prog : Program} {w : World} {A : Around} {E : Value -> Shared -> Prop} {s : Shared}
theorem lA {t sl : Addr} {items : Array Value} {vl vu : Value} {lo hi : Option Int} {Q : Value -> Shared -> Prop} (ht : IsTup s.heap t items) (hs : s.heap.IsSliceOf sl vl vu .none) (pl : IsPart vl lo) (pu : IsPart vu hi)
 (h1 : HT.eU items.size 0 lo = 0) (h2 : HT.eU items.size items.size hi = items.size) (h : Q (.ref t) s) : wpAny (model prog w) A (getItem (.ref t) (.ref sl)) Q E s := by
 obtain ⟨os, hos, hcs, hds⟩ := id hs
 have hTs : s.TypeIs (.ref sl) "slice" := ⟨os, hos, hcs⟩
 unfold getItem
 try with_reducible refine wpAny_holding ?_
 first | refine wpAny_bind (wpAny_pure ?_) | skip
 refine wpAny_bind (wpAny_sequenceKey ht.typeIs (by decide) ?_)
 refine wpAny_bind (wpAny_callSpecial?_slot (name := Str.ofString "__getitem__") ht.typeIs PyProof.Rows.slot_tuple_getitem
  (wpAny_call_entry PyProof.Rows.slot_tuple_getitem ht.typeIs entry_tuple_getitem ?_ (args_tuple_getitem _ _)))
 show wpAny _ _ (Builtin.Tuple.tupleItemsOf (.ref t) >>= _) _ _ s
 refine wpAny_bind (tupleItemsOf_ ht ?_)
 refine wpAny_bind (wpAny_typeOf hTs ?_)
 rw [if_pos (by decide)]
 refine wpAny_bind (HT.ig hs pl pu ?_)
 rw [h1, h2]
 show wpAny _ _ (if (((0 : Nat) : Int) == 0 && (1 : Int) == 1 && (items.size - 0) == items.size) = true then _ else _) _ _ s
 rw [if_pos (by simp)]
 refine wpAny_bind (m := Builtin.Tuple.tupleIsExact _) (wpAny_bind (wpAny_typeOf ht.typeIs (wpAny_pure ?_)))
 rw [if_pos (by decide)]
 exact wpAny_bind (wpAny_rule (wpAny_pure ⟨_, rfl, wpAny_pure h⟩))
end
section
variable {X : Cx}
def Dk (K : W.Frag) : V -> Option Int -> Option Int -> Hp -> VK -> Prop := fun x lo hi H Q => ∃ a xs, x = .ref a /\ fV K H a xs /\ HT.eU xs.length 0 lo = 0 /\ HT.eU xs.length xs.length hi = xs.length /\ Q (.ref a) H
theorem zV : CA X (Dk X.K) := by
 intro pins s σ H x v vl vu lo hi sl Q I rx hs pl pu h
 obtain ⟨a, xs, rfl, hx, h1, h2, q⟩ := h
 cases rx
 obtain ⟨its, r, ht, hz⟩ := I.tuple hx
 have hlen : its.toArray.size = xs.length := by rw [List.size_toArray]; exact r.length.symm
 refine ⟨"tuple", _, PyProof.Rows.slot_tuple_getitem.lookup, ht.typeIs, ?_⟩
 exact lA ht hs pl pu (by rw [hlen]; exact h1) (by rw [hlen]; exact h2) ⟨.ref a, H, I, rfl, q⟩
def Dn (K : W.Frag) : V -> Option Int -> Option Int -> Hp -> VK -> Prop := fun x lo hi H Q => ∃ a xs, x = .ref a /\ fV K H a xs /\ ∀ p H', ax H H' -> fV K H' p (ny xs lo hi) -> Q (.ref p) H'
theorem zW : CA X (Dn X.K) := by
 intro pins s σ H x v vl vu lo hi sl Q I rx hs pl pu h
 obtain ⟨a, xs, rfl, hx, q⟩ := h
 by_cases hw : HT.eU xs.length 0 lo = 0 /\ HT.eU xs.length xs.length hi = xs.length
 ·refine zV pins s σ H _ v vl vu lo hi sl Q I rx hs pl pu ⟨a, xs, rfl, hx, hw.1, hw.2, q a H (ax.refl H) ?_⟩
  unfold ny
  rw [hw.1, hw.2, List.drop_zero, Nat.sub_zero, List.take_length]
  exact hx
 ·exact Bi pins s σ H _ v vl vu lo hi sl Q I rx hs pl pu ⟨a, xs, rfl, hx, hw, fun p hp => q p _ (ax.new hp) (.inl (.inl ae))⟩
theorem BL (xs : List V) (n : Nat) : ny xs none (some (n : Int)) = xs.take n := by
 unfold ny
 rw [HT.qX, HT.yr, List.drop_zero, Nat.sub_zero]
 by_cases h : n <= xs.length
 ·rw [Nat.min_eq_left h]
 ·rw [Nat.min_eq_right (by omega), List.take_of_length_le (Nat.le_refl _), List.take_of_length_le (by omega)]
def Cj (K : W.Frag) : List V -> Hp -> VK -> Prop := fun xs H Q => ∃ p ys, xs = [.ref p] /\ (bj K H p ys \/ fV K H p ys) /\ Q (.int ys.length) H
end
end Db
end
section
namespace Db
open PySem PySem.Spec PyProof.Rows L2
theorem lN : ao [] [] (ai dW) := ⟨rfl, rfl, rfl, by decide +kernel, rfl, by decide +kernel, by decide +kernel⟩
theorem uz : ao ["suit", "rank"] ["suit", "rank"] (ai jQ) := ⟨rfl, rfl, rfl, by decide +kernel, rfl, by decide +kernel, by decide +kernel⟩
theorem jj : ao ["deal", "seat", "card"] ["deal", "seat"] (ai gG) := ⟨rfl, rfl, rfl, by decide +kernel, rfl, by decide +kernel, by decide +kernel⟩
theorem uy : ao ["deal", "seat"] ["deal", "seat"] (ai jP) := ⟨rfl, rfl, rfl, by decide +kernel, rfl, by decide +kernel, by decide +kernel⟩
theorem jh : ao ["deal", "seat"] ["deal"] (ai gF) := ⟨rfl, rfl, rfl, by decide +kernel, rfl, by decide +kernel, by decide +kernel⟩
theorem d9 : ao ["deal", "seat"] ["deal"] (ai cb) := ⟨rfl, rfl, rfl, by decide +kernel, rfl, by decide +kernel, by decide +kernel⟩
theorem lM : ao ["deal"] ["deal"] (ai dU) := ⟨rfl, rfl, rfl, by decide +kernel, rfl, by decide +kernel, by decide +kernel⟩
theorem ol : ao ["deal"] ["deal"] (ai fz) := ⟨rfl, rfl, rfl, by decide +kernel, rfl, by decide +kernel, by decide +kernel⟩
theorem sQ : ao ["deal"] ["deal"] (ai iQ) := ⟨rfl, rfl, rfl, by decide +kernel, rfl, by decide +kernel, by decide +kernel⟩
theorem vO : ao ["whole", "deal", "card"] ["whole", "deal"] (ai qW) := ⟨rfl, rfl, rfl, by decide +kernel, rfl, by decide +kernel, by decide +kernel⟩
theorem j8 : ao ["deal", "steps", "holder"] ["deal", "steps"] (ai io) := ⟨rfl, rfl, rfl, by decide +kernel, rfl, by decide +kernel, by decide +kernel⟩
theorem g9 : ao ["deal", "row", "changed", "card"] ["deal", "row"] (ai gh) := ⟨rfl, rfl, rfl, by decide +kernel, rfl, by decide +kernel, by decide +kernel⟩
theorem jg : ao ["deal", "card", "holder", "changed"] ["deal", "card", "holder"] (ai fv) := ⟨rfl, rfl, rfl, by decide +kernel, rfl, by decide +kernel, by decide +kernel⟩
theorem iM : ao ["deal", "seat", "holder"] ["deal", "seat"] (ai fL) := ⟨rfl, rfl, rfl, by decide +kernel, rfl, by decide +kernel, by decide +kernel⟩
theorem lO : ao ["deal", "other", "both", "card"] ["deal", "other"] (ai kP) := ⟨rfl, rfl, rfl, by decide +kernel, rfl, by decide +kernel, by decide +kernel⟩
theorem bo : ao ["first", "second", "larger", "smaller", "rest"] ["first", "second"] (ai cM) := ⟨rfl, rfl, rfl, by decide +kernel, rfl, by decide +kernel, by decide +kernel⟩
theorem gf : ao ["deal", "card", "seat", "room", "unknown", "divisor"] ["deal", "card", "seat"] (ai gX) := ⟨rfl, rfl, rfl, by decide +kernel, rfl, by decide +kernel, by decide +kernel⟩
theorem oh : ao ["hand", "worths", "card"] ["hand", "worths"] (ai kO) := ⟨rfl, rfl, rfl, by decide +kernel, rfl, by decide +kernel, by decide +kernel⟩
theorem fi : ao ["hand", "suit", "card"] ["hand", "suit"] (ai cP) := ⟨rfl, rfl, rfl, by decide +kernel, rfl, by decide +kernel, by decide +kernel⟩
theorem cU : ao ["ranks", "asked", "rank"] ["ranks"] (ai cH) := ⟨rfl, rfl, rfl, by decide +kernel, rfl, by decide +kernel, by decide +kernel⟩
theorem bz : ao ["hand", "suits", "lengths", "losers", "suit", "ranks"] ["hand"] (ai cr) := ⟨rfl, rfl, rfl, by decide +kernel, rfl, by decide +kernel, by decide +kernel⟩
theorem gc : ao ["number", "product", "factor"] ["number"] (ai gW) := ⟨rfl, rfl, rfl, by decide +kernel, rfl, by decide +kernel, by decide +kernel⟩
theorem dR : ao ["rooms", "ways", "room"] ["rooms"] (ai eJ) := ⟨rfl, rfl, rfl, by decide +kernel, rfl, by decide +kernel, by decide +kernel⟩
theorem lP : ao ["deal"] ["deal"] (ai dX) := ⟨rfl, rfl, rfl, by decide +kernel, rfl, by decide +kernel, by decide +kernel⟩
theorem mW : ao [] [] (ai eM) := ⟨rfl, rfl, rfl, by decide +kernel, rfl, by decide +kernel, by decide +kernel⟩
theorem aS : ao ["deal", "whole", "rooms", "ways", "place", "card", "unknown", "seat", "lower"] ["deal", "whole"] (ai cK) := ⟨rfl, rfl, rfl, by decide +kernel, rfl, by decide +kernel, by decide +kernel⟩
theorem aL : ao ["deal", "place", "whole", "rooms", "ways", "rest", "card", "unknown", "seat", "share"] ["deal", "place"] (ai dA) := ⟨rfl, rfl, rfl, by decide +kernel, rfl, by decide +kernel, by decide +kernel⟩
theorem cS : ao ["start", "board", "step", "prime"] ["start", "board"] (ai dz) := ⟨rfl, rfl, rfl, by decide +kernel, rfl, by decide +kernel, by decide +kernel⟩
theorem iN : ao ["number", "sign"] ["number"] (ai fM) := ⟨rfl, rfl, rfl, by decide +kernel, rfl, by decide +kernel, by decide +kernel⟩
theorem dS : ao ["digits", "bound", "number", "digit"] ["digits", "bound"] (ai eK) := ⟨rfl, rfl, rfl, by decide +kernel, rfl, by decide +kernel, by decide +kernel⟩
theorem vP : ao ["self", "kind", "place"] ["self", "kind", "place"] (ai bi) := ⟨rfl, rfl, rfl, by decide +kernel, rfl, by decide +kernel, by decide +kernel⟩
theorem j9 : ao ["self", "text"] ["self", "text"] (ai cY) := ⟨rfl, rfl, rfl, by decide +kernel, rfl, by decide +kernel, by decide +kernel⟩
theorem gQ : ao ["self", "sign"] ["self", "sign"] (ai bw) := ⟨rfl, rfl, rfl, by decide +kernel, rfl, by decide +kernel, by decide +kernel⟩
theorem cC : ao ["self", "rank", "sign"] ["self"] (ai bO) := ⟨rfl, rfl, rfl, by decide +kernel, rfl, by decide +kernel, by decide +kernel⟩
theorem im : ao ["self", "sign"] ["self", "sign"] (ai bN) := ⟨rfl, rfl, rfl, by decide +kernel, rfl, by decide +kernel, by decide +kernel⟩
theorem cA : ao ["self", "seat", "sign"] ["self"] (ai bJ) := ⟨rfl, rfl, rfl, by decide +kernel, rfl, by decide +kernel, by decide +kernel⟩
theorem em : ao ["self", "seat", "suit"] ["self", "seat"] (ai bL) := ⟨rfl, rfl, rfl, by decide +kernel, rfl, by decide +kernel, by decide +kernel⟩
theorem bh : ao ["self", "seat", "suit", "bound", "rank"] ["self", "seat", "suit"] (ai bI) := ⟨rfl, rfl, rfl, by decide +kernel, rfl, by decide +kernel, by decide +kernel⟩
theorem ik : ao ["self", "seat", "card"] ["self", "seat", "card"] (ai bM) := ⟨rfl, rfl, rfl, by decide +kernel, rfl, by decide +kernel, by decide +kernel⟩
theorem cB : ao ["self", "seat", "marked", "full"] ["self", "seat"] (ai bK) := ⟨rfl, rfl, rfl, by decide +kernel, rfl, by decide +kernel, by decide +kernel⟩
theorem iO : ao ["self"] ["self"] (ai bW) := ⟨rfl, rfl, rfl, by decide +kernel, rfl, by decide +kernel, by decide +kernel⟩
theorem cV : ao ["text", "reader", "first", "turn"] ["text"] (ai dB) := ⟨rfl, rfl, rfl, by decide +kernel, rfl, by decide +kernel, by decide +kernel⟩
theorem dM : ao ["deal", "seat", "suit", "ranks", "rank"] ["deal", "seat", "suit"] (ai dy) := ⟨rfl, rfl, rfl, by decide +kernel, rfl, by decide +kernel, by decide +kernel⟩
theorem dN : ao ["deal", "seat", "room", "mark", "suit"] ["deal", "seat"] (ai eL) := ⟨rfl, rfl, rfl, by decide +kernel, rfl, by decide +kernel, by decide +kernel⟩
theorem b8 : ao ["deal", "hands", "seat", "sign"] ["deal"] (ai cF) := ⟨rfl, rfl, rfl, by decide +kernel, rfl, by decide +kernel, by decide +kernel⟩
theorem gC : ao ["boards", "plain", "rows", "deal", "fault"] ["boards", "plain", "rows"] (ai fB) := ⟨rfl, rfl, rfl, by decide +kernel, rfl, by decide +kernel, by decide +kernel⟩
theorem mY : ao ["boards", "plain", "rows"] ["boards", "plain", "rows"] (ai eO) := ⟨rfl, rfl, rfl, by decide +kernel, rfl, by decide +kernel, by decide +kernel⟩
theorem mZ : ao ["boards", "plain", "rows"] ["boards", "plain", "rows"] (ai eQ) := ⟨rfl, rfl, rfl, by decide +kernel, rfl, by decide +kernel, by decide +kernel⟩
theorem ii : ao ["boards", "plain", "rows", "deal"] ["boards", "plain", "rows"] (ai d4) := ⟨rfl, rfl, rfl, by decide +kernel, rfl, by decide +kernel, by decide +kernel⟩
theorem jo : ao ["boards", "plain", "rows", "number"] ["boards", "plain", "rows"] (ai fG) := ⟨rfl, rfl, rfl, by decide +kernel, rfl, by decide +kernel, by decide +kernel⟩
theorem hJ : ao ["boards", "plain", "rows", "deal", "number"] ["boards", "plain", "rows"] (ai gj) := ⟨rfl, rfl, rfl, by decide +kernel, rfl, by decide +kernel, by decide +kernel⟩
theorem fX : ao ["boards", "plain", "rows", "deal", "whole"] ["boards", "plain", "rows"] (ai eP) := ⟨rfl, rfl, rfl, by decide +kernel, rfl, by decide +kernel, by decide +kernel⟩
theorem gU : ao ["boards", "plain", "rows", "start"] ["boards", "plain", "rows"] (ai dC) := ⟨rfl, rfl, rfl, by decide +kernel, rfl, by decide +kernel, by decide +kernel⟩
theorem lR : ao ["boards", "plain", "rows"] ["boards", "plain", "rows"] (ai dZ) := ⟨rfl, rfl, rfl, by decide +kernel, rfl, by decide +kernel, by decide +kernel⟩
theorem mX : ao ["boards", "plain", "rows"] ["boards", "plain", "rows"] (ai eN) := ⟨rfl, rfl, rfl, by decide +kernel, rfl, by decide +kernel, by decide +kernel⟩
theorem om : ao ["boards", "plain", "rows"] ["boards", "plain", "rows"] (ai fF) := ⟨rfl, rfl, rfl, by decide +kernel, rfl, by decide +kernel, by decide +kernel⟩
theorem gE : ao ["boards", "plain", "rows", "deal"] ["boards", "plain", "rows"] (ai cX) := ⟨rfl, rfl, rfl, by decide +kernel, rfl, by decide +kernel, by decide +kernel⟩
theorem oj : ao ["row"] ["row"] (ai fw) := ⟨rfl, rfl, rfl, by decide +kernel, rfl, by decide +kernel, by decide +kernel⟩
theorem lQ : ao ["cards"] ["cards"] (ai dY) := ⟨rfl, rfl, rfl, by decide +kernel, rfl, by decide +kernel, by decide +kernel⟩
theorem aQ : ao ["boards", "plain", "rows", "deal", "told", "seat", "found", "missing", "strange", "row", "card"] ["boards", "plain", "rows"] (ai bu) := ⟨rfl, rfl, rfl, by decide +kernel, rfl, by decide +kernel, by decide +kernel⟩
theorem jm : ao ["boards", "plain", "rows", "deal"] ["boards", "plain", "rows"] (ai fE) := ⟨rfl, rfl, rfl, by decide +kernel, rfl, by decide +kernel, by decide +kernel⟩
theorem ij : ao ["boards", "plain", "rows", "deal"] ["boards", "plain", "rows"] (ai d5) := ⟨rfl, rfl, rfl, by decide +kernel, rfl, by decide +kernel, by decide +kernel⟩
theorem jk : ao ["boards", "plain", "rows", "both"] ["boards", "plain", "rows"] (ai fD) := ⟨rfl, rfl, rfl, by decide +kernel, rfl, by decide +kernel, by decide +kernel⟩
theorem m4 : ao ["boards", "plain", "rows"] ["boards", "plain", "rows"] (ai eS) := ⟨rfl, rfl, rfl, by decide +kernel, rfl, by decide +kernel, by decide +kernel⟩
theorem lS : ao ["boards", "plain", "rows"] ["boards", "plain", "rows"] (ai d6) := ⟨rfl, rfl, rfl, by decide +kernel, rfl, by decide +kernel, by decide +kernel⟩
theorem gD : ao ["boards", "plain", "rows", "deal", "number"] ["boards", "plain", "rows"] (ai fC) := ⟨rfl, rfl, rfl, by decide +kernel, rfl, by decide +kernel, by decide +kernel⟩
theorem gB : ao ["boards", "plain", "rows", "deal", "seats"] ["boards", "plain", "rows"] (ai fA) := ⟨rfl, rfl, rfl, by decide +kernel, rfl, by decide +kernel, by decide +kernel⟩
theorem kc : ao ["self", "calls"] ["self", "calls"] (ai cZ) := ⟨rfl, rfl, rfl, by decide +kernel, rfl, by decide +kernel, by decide +kernel⟩
theorem iP : ao ["self"] ["self"] (ai bY) := ⟨rfl, rfl, rfl, by decide +kernel, rfl, by decide +kernel, by decide +kernel⟩
theorem dg : ao ["self", "how_many", "first"] ["self", "how_many"] (ai br) := ⟨rfl, rfl, rfl, by decide +kernel, rfl, by decide +kernel, by decide +kernel⟩
theorem eI : ao ["self", "length"] ["self"] (ai bX) := ⟨rfl, rfl, rfl, by decide +kernel, rfl, by decide +kernel, by decide +kernel⟩
theorem eA : ao ["self", "how_many", "rows"] ["self", "how_many"] (ai bP) := ⟨rfl, rfl, rfl, by decide +kernel, rfl, by decide +kernel, by decide +kernel⟩
theorem sR : ao ["number", "highest"] ["number", "highest"] (ai iR) := ⟨rfl, rfl, rfl, by decide +kernel, rfl, by decide +kernel, by decide +kernel⟩
theorem cT : ao ["plain", "bounds", "number", "highest"] ["plain", "bounds"] (ai cG) := ⟨rfl, rfl, rfl, by decide +kernel, rfl, by decide +kernel, by decide +kernel⟩
theorem fW : ao ["row", "shape", "number"] ["row", "shape"] (ai dh) := ⟨rfl, rfl, rfl, by decide +kernel, rfl, by decide +kernel, by decide +kernel⟩
theorem dw : ao ["rows", "shapes", "row", "shape"] ["rows", "shapes"] (ai cO) := ⟨rfl, rfl, rfl, by decide +kernel, rfl, by decide +kernel, by decide +kernel⟩
theorem bT : ao ["reader", "boards", "form", "plain", "rows", "answer"] ["reader", "boards"] (ai cW) := ⟨rfl, rfl, rfl, by decide +kernel, rfl, by decide +kernel, by decide +kernel⟩
theorem gA : ao ["calls", "reader", "boards", "told", "answer"] ["calls"] (ai fj) := ⟨rfl, rfl, rfl, by decide +kernel, rfl, by decide +kernel, by decide +kernel⟩
structure Tx (K : W.Frag) (mg : Str -> Option Value) (CF : Addr) (ta : Str -> Addr) : Prop where
 g_SEATS : GI mg "SEATS" 4
 g_RANKS : GI mg "RANKS" 13
 g_CARDS : GI mg "CARDS" 52
 g_HAND_SIZE : GI mg "HAND_SIZE" 13
 g_NOBODY : GI mg "NOBODY" 4
 g_CLUBS : GI mg "CLUBS" 0
 g_CANNOT_GO_ON : GI mg "CANNOT_GO_ON" 1
 g_RANK_NOT_BELOW : GI mg "RANK_NOT_BELOW" 2
 g_CARD_TOLD_BEFORE : GI mg "CARD_TOLD_BEFORE" 3
 g_FOURTEENTH_CARD : GI mg "FOURTEENTH_CARD" 4
 g_MARK_MISSING : GI mg "MARK_MISSING" 5
 g_MARK_TOO_MUCH : GI mg "MARK_TOO_MUCH" 6
 g_DONE : GI mg "DONE" 0
 g_OUT_OF_RANGE : GI mg "OUT_OF_RANGE" (-1)
 g_NO_BOARD : GI mg "NO_BOARD" (-2)
 g_NOT_WHOLE : GI mg "NOT_WHOLE" (-3)
 g_NO_SUCH_NUMBER : GI mg "NO_SUCH_NUMBER" (-4)
 g_AT_ODDS : GI mg "AT_ODDS" (-5)
 g_NOT_ALL_SUITS : GI mg "NOT_ALL_SUITS" (-6)
 g_CARD_TWICE : GI mg "CARD_TWICE" (-7)
 g_NO_ROOM : GI mg "NO_ROOM" (-8)
 g_SEAT_SIGNS : GS mg "SEAT_SIGNS" "NESW"
 g_RANK_SIGNS : GS mg "RANK_SIGNS" "23456789TJQKA"
 g_SUITS_AS_TOLD : GT K mg "SUITS_AS_TOLD" (ta "SUITS_AS_TOLD") [.int 3, .int 2, .int 1, .int 0]
 g_POINTS : GT K mg "POINTS" (ta "POINTS") [.int 0, .int 0, .int 0, .int 0, .int 0, .int 0, .int 0, .int 0, .int 0, .int 1, .int 2, .int 3, .int 4]
 g_CONTROLS : GT K mg "CONTROLS" (ta "CONTROLS") [.int 0, .int 0, .int 0, .int 0, .int 0, .int 0, .int 0, .int 0, .int 0, .int 0, .int 0, .int 1, .int 2]
 g_WINNING_RANKS : GT K mg "WINNING_RANKS" (ta "WINNING_RANKS") [.int 12, .int 11, .int 10]
 g_SESSION_PRIMES : GT K mg "SESSION_PRIMES" (ta "SESSION_PRIMES") [.int 53, .int 59, .int 61, .int 67, .int 71, .int 73, .int 79, .int 83, .int 89, .int 97, .int 101, .int 103, .int 107]
 n_all : mg "all" = none
 n_any : mg "any" = none
 n_enumerate : mg "enumerate" = none
 n_int : mg "int" = none
 n_len : mg "len" = none
 n_list : mg "list" = none
 n_min : mg "min" = none
 n_ord : mg "ord" = none
 n_range : mg "range" = none
 n_set : mg "set" = none
 n_sorted : mg "sorted" = none
 n_str : mg "str" = none
 n_sum : mg "sum" = none
 n_zip : mg "zip" = none
 g_TextFault : mg "TextFault" = some (.ref CF)
end Db
end
section
namespace Db
open PySem PySem.Spec PyProof.Rows L2
open Vbbraa (Deal countOf room words fits unknown isWhole)
abbrev zz (l : List Nat) : List Int := Vbbraa.«ints» l
def dl (d : List Nat) : List V := (zz d).map V.int
theorem ql (x : Nat) (d : List Nat) : zz (x :: d) = (x : Int) :: zz d := rfl
theorem fZ (d : List Nat) : dl d = d.map fun (n : Nat) => V.int (n : Int) := by
 unfold dl zz Vbbraa.«ints»
 rw [List.map_map]
 rfl
theorem aG (d : List Nat) : (dl d).length = d.length := by rw [fZ, List.length_map]
theorem BJ {d : List Nat} {i x : Nat} (h : d[i]? = some x) : (dl d)[i]? = some (V.int x) := by
 rw [fZ, List.getElem?_map, h]
 rfl
theorem fb {d : List Nat} {i : Nat} {v : V} (h : (dl d)[i]? = some v) : ∃ x, d[i]? = some x /\ v = V.int x := by
 rw [fZ, List.getElem?_map] at h
 cases e : d[i]? with
 | none =>
   rw [e] at h
   cases h
 | some x =>
   rw [e] at h
   exact ⟨x, rfl, (Option.some.inj h).symm⟩
theorem kC (d : List Nat) (i x : Nat) : (dl d).set i (V.int x) = dl (d.set i x) := by rw [fZ, fZ, List.map_set]
theorem bp (d e : List Nat) : dl (d ++ e) = dl d ++ dl e := by rw [fZ, fZ, fZ, List.map_append]
theorem rR (d : List Nat) : (dl d).all lB = true := by
 rw [fZ, List.all_map]
 exact List.all_eq_true.mpr fun _ _ => rfl
theorem iF {d : List Nat} {i : Nat} (h : i < d.length) (z : Nat) : d[i]? = some (d.getD i z) := by
 rw [List.getD_eq_getElem?_getD, List.getElem?_eq_getElem h]
 rfl
theorem zj {d : List Nat} {i : Nat} (h : i < d.length) (z : Nat) : (dl d)[i]? = some (V.int (d.getD i z)) := BJ (iF h z)
theorem bn {d : List Nat} {i : Nat} {z : Int} (e : z = (i : Int)) (h : i < d.length) (y : Nat) : zt (dl d) z = some (V.int (d.getD i y)) := zr e (zj h y)
theorem o8 (d : List Nat) (s : Nat) : (zz d).count (s : Int) = countOf d s := by
 rw [fK]
 induction d with
 | nil => rfl
 | cons x d ih =>
   rw [ql, List.count_cons, List.count_cons, ih]
   congr 1
   by_cases h : x = s
   ·subst h
    rw [beq_self_eq_true, beq_self_eq_true]
   ·rw [beq_eq_false_iff_ne.mpr h, beq_eq_false_iff_ne.mpr (fun q => h (by omega))]
theorem jE (d : List Nat) : (zz d).sum = ((Vbbraa.sum d : Nat) : Int) := by
 induction d with
 | nil => rfl
 | cons x d ih =>
   rw [ql, List.sum_cons, ih, sum_cons]
   omega
theorem u7 (d : List Nat) (k : Nat) : Co (V.int k) (dl d) = d.contains k := by
 unfold Co
 rw [fZ, List.any_map, List.contains_eq_any_beq]
 congr 1
 funext x
 show ((x : Int) == (k : Int)) = (k == x)
 by_cases h : x = k
 ·subst h
  rw [beq_self_eq_true, beq_self_eq_true]
 ·rw [beq_eq_false_iff_ne.mpr (fun q => h (by omega)), beq_eq_false_iff_ne.mpr (fun q => h q.symm)]
def gS (H H' : Hp) (p : Addr) (xs : List V) : Prop := ax H H' /\ H p = none /\ H' p = some (.lst xs)
theorem aX {n : Nat} (h : n <= 20000) : n < sizeLine := by
 have := sizeLine_eq
 omega
theorem eY {n : Nat} (h : n <= 20000) : n <= sizeLine := Nat.le_of_lt (aX h)
end Db
end
section
namespace Db
open PySem PySem.Spec PyProof.Rows L2
open Vbbraa (Deal countOf room words fits unknown isWhole)
def spNK : Sp := fun vs H Q _ => vs = [] /\ ∀ H' p, gS H H' p (dl unknown) -> Q (.ref p) H'
def spCard : Sp := fun vs H Q _ => ∃ s r : Nat, vs = [.int s, .int r] /\ Q (.int ((13 * s + r : Nat) : Int)) H
def iL (K : W.Frag) : Sp := fun vs H Q _ => ∃ (a : Addr) (d : Deal) (s : Nat), vs = [.ref a, .int s] /\ bj K H a (dl d) /\ Q (.int (13 - (countOf d s : Nat))) H
def ke (d : Deal) : List Int := (List.range 4).map fun i => 13 - ((countOf d i : Nat) : Int)
def kM (K : W.Frag) : Sp := fun vs H Q _ => ∃ (a : Addr) (d : Deal), vs = [.ref a] /\ bj K H a (dl d) /\ ((bB d /\ ∀ H' p, gS H H' p (dl (room d)) -> Q (.ref p) H') \/ ∀ H' p, gS H H' p ((ke d).map V.int) -> Q (.ref p) H')
def vC (K : W.Frag) : Sp := fun vs H Q _ => ∃ (a : Addr) (d : Deal), vs = [.ref a] /\ bj K H a (dl d) /\ Q (.int ((countOf d 4 : Nat) : Int)) H
def vL (K : W.Frag) : Sp := fun vs H Q _ => ∃ (a : Addr) (d : Deal), vs = [.ref a] /\ bj K H a (dl d) /\ bB d /\ Q (.int ((52 - countOf d 4 : Nat) : Int)) H
def kL (K : W.Frag) : Sp := fun vs H Q _ => ∃ (a : Addr) (d : Deal), vs = [.ref a] /\ bj K H a (dl d) /\ Q (.bl (isWhole d)) H
def ym (K : W.Frag) : Sp := fun vs H Q _ => ∃ (a b : Addr) (e d : Deal), vs = [.ref a, .ref b] /\ bj K H a (dl e) /\ bj K H b (dl d) /\ e.length = 52 /\ d.length = 52 /\ Q (.bl (Vbbraa.agrees d e)) H
def AK (K : W.Frag) : Sp := fun vs H Q _ => ∃ (a : Addr) (d : Deal) (k : Nat), vs = [.ref a, .int k] /\ bj K H a (dl d) /\ d.length = 52 /\ ∀ H' p, gS H H' p (dl (Vbbraa.rotated d k)) -> Q (.ref p) H'
def vE (K : W.Frag) : Sp := fun vs H Q _ => ∃ (a b : Addr) (d p : Deal), vs = [.ref a, .ref b] /\ bj K H a (dl d) /\ bj K H b (dl p) /\ d.length = 52 /\ Vbbraa.isPermutation p = true /\ ∀ H' q, gS H H' q (dl (Vbbraa.resuited d p)) -> Q (.ref q) H'
theorem yT (d : Deal) : (!d.contains 4) = isWhole d := by
 unfold Vbbraa.isWhole
 rw [fK]
 by_cases h : (4 : Nat) ∈ d
 ·have e := List.count_pos_iff.mpr h
  rw [List.contains_iff_mem.mpr h, beq_eq_false_iff_ne.mpr (by omega)]
  rfl
 ·rw [List.count_eq_zero.mpr h, Bool.eq_false_iff.mpr (fun q => h (List.contains_iff_mem.mp q))]
  rfl
theorem gO : ∀ (d e : Deal), d.length = e.length -> (Vbbraa.agrees d e = true ↔ ∀ j, j < d.length -> d.getD j 4 = 4 \/ d.getD j 4 = e.getD j 4)
 | [], [], _ => by
   refine ⟨fun _ j h => ?_, fun _ => rfl⟩
   simp at h
 | x :: d, y :: e, h => by
   have ih := gO d e (by simpa using h)
   show ((x == 4 || x == y) && Vbbraa.agrees d e) = true ↔ _
   rw [Bool.and_eq_true, Bool.or_eq_true, beq_iff_eq, beq_iff_eq, ih]
   constructor
   ·rintro ⟨h1, h2⟩ j hj
    cases j with
    | zero => exact h1
    | succ j => exact h2 j (by simpa using hj)
   ·intro hall
    exact ⟨hall 0 (by simp), fun j hj => hall (j + 1) (by simpa using hj)⟩
theorem hZ {x y : Int} (h : (!decide (V.int x = V.int y)) = true) : x ≠ y := fun e => by
 subst e
 simp at h
theorem h8 {x y : Int} (h : ¬ (!decide (V.int x = V.int y)) = true) : x = y := by
 by_cases e : x = y
 ·exact e
 ·exact absurd (by simp [e]) h
theorem f9 {x y : Int} (h : decide (V.int x = V.int y) = true) : x = y := by
 have := of_decide_eq_true h
 injection this
theorem gb {x y : Int} (h : ¬ decide (V.int x = V.int y) = true) : x ≠ y := fun e => h (by simp [e])
theorem yx (d : Deal) (k i x : Nat) (h : d[i]? = some x) : (Vbbraa.rotated d k).take (i + 1) = (Vbbraa.rotated d k).take i ++ [if x = 4 then 4 else (x + k) % 4] := by
 unfold Vbbraa.rotated
 rw [List.take_add_one, List.getElem?_map, h]
 rfl
section
variable {P : Program} {w : World} {K : W.Frag} {mg : Str -> Option Value} {base : Heap} {CF : Addr} {ta : Str -> Addr}
theorem l8 {f : Addr} {fd : FuncData} (F : b7 K "nothing_known" "nothing_known" dW f fd) (T : Tx K mg CF ta) : aP P w K mg base aT 1 f fd [] spNK := by
 refine F.ok lN (fun vs H Q E h => ?_) (fun cdv A outer s H vs Q E hr h => ?_)
 ·obtain ⟨rfl, _⟩ := h
  rfl
 ·obtain ⟨rfl, k⟩ := h
  refine ⟨_, (ah (aq (bc Bp (aN (aa (aC T.g_NOBODY) ad)) (aC T.g_CARDS)))), ?_⟩
  refine ⟨(by show 1 <= sizeLine; decide), fun l hl => ⟨l, 52, [.int 4], rfl, rfl, ae, by decide, by decide, (by show 52 <= sizeLine; decide), fun p hp => k _ p ⟨(ax.new hl).trans (ax.new hp), (ax.new hl).free hp, ?_⟩⟩⟩
  rw [ae]
  rfl
theorem uS {f : Addr} {fd : FuncData} (F : b7 K "card_of" "card_of" jQ f fd) (T : Tx K mg CF ta) : aP P w K mg base aT 1 f fd ["suit", "rank"] spCard := by
 refine F.ok uz (fun vs H Q E h => ?_) (fun cdv A outer s H vs Q E hr h => ?_)
 ·obtain ⟨_, _, rfl, _⟩ := h
  rfl
 ·obtain ⟨a, b, rfl, k⟩ := h
  refine ⟨_, (ah (aq (bc ki (bc kg (pv 0) (aC T.g_RANKS)) (pv 1)))), ?_⟩
  refine ⟨_, rfl, _, _, rfl, rfl, .inr ⟨by decide, by decide⟩, _, rfl, _, _, rfl, rfl, ?_⟩
  show Q (.int ((a : Int) * 13 + (b : Int))) H
  rw [show ((a : Int) * 13 + (b : Int)) = ((13 * a + b : Nat) : Int) by omega]
  exact k
theorem uQ {f : Addr} {fd : FuncData} (F : b7 K "room_of" "room_of" jP f fd) (T : Tx K mg CF ta) : aP P w K mg base aT 1 f fd ["deal", "seat"] (iL K) := by
 refine F.ok uy (fun vs H Q E h => ?_) (fun cdv A outer s H vs Q E hr h => ?_)
 ·obtain ⟨_, _, _, rfl, _⟩ := h
  rfl
 ·obtain ⟨a, d, z, rfl, hs, k⟩ := h
  refine ⟨_, (ah (aq (bc uN (aC T.g_HAND_SIZE) (qc PySem.F.plainAttrs_list PySem.F.slot_list_count PySem.F.type_list_count qg (pv 0) (aa (pv 1) ad))))), ?_⟩
  refine ⟨_, rfl, .inl ⟨rfl, _, hs⟩, _, rfl, a, zz d, z, rfl, rfl, hs, _, _, rfl, rfl, ?_⟩
  rw [o8]
  exact k
theorem uE {d : Deal} (gd : bB d) : (ke d).map V.int = dl (room d) := by
 rw [jR]
 have h : ∀ i, i < 4 -> (13 : Int) - ((countOf d i : Nat) : Int) = ((13 - countOf d i : Nat) : Int) := fun i hi => by
  have := gd.most i hi
  omega
 show [V.int _, V.int _, V.int _, V.int _] = [V.int _, V.int _, V.int _, V.int _]
 dsimp only
 rw [h 0 (by decide), h 1 (by decide), h 2 (by decide), h 3 (by decide)]
 rfl
theorem tf {f : Addr} {fd : FuncData} (F : b7 K "rooms_of" "rooms_of" gF f fd) (T : Tx K mg CF ta) (C_room_of : ck P w K mg base aT 1 "room_of" ["deal", "seat"] (iL K)) : aP P w K mg base aT 2 f fd ["deal"] (kM K) := by
 refine F.ok jh (fun vs H Q E h => ?_) (fun cdv A outer s H vs Q E hr h => ?_)
 ·obtain ⟨_, _, rfl, _⟩ := h
  rfl
 ·obtain ⟨a, d, rfl, hs, k0⟩ := h
  have k : ∀ H' p, gS H H' p ((ke d).map V.int) -> Q (.ref p) H' := by
   rcases k0 with ⟨gd, k⟩ | k
   ·rw [uE gd]
    exact k
   ·exact k
  refine ⟨_, (ah (aq (eV rfl jh.nd (b9 rfl T.n_range (aa (aC T.g_SEATS) ad)) (bb (own := [("seat", 1)]) (by show f6 ["deal", "seat"] (ai gF) _ _ = true; decide +kernel)) (fun _ _ _ _ _ => (aK (i := 1) jh.nd rfl (Or.inl rfl))) (fun _ _ _ _ _ => cv) (fun _ _ _ _ _ => (aI C_room_of (hr.mono (by decide)) ay (aa (pv 0) (aa (pv 1) ad))))))), ?_⟩
  refine ⟨4, rfl, by decide, by decide, fun D hD => lu (n := 4) (fun i H' => H' = aU H D (.lst (((ke d).take i).map V.int))) ?_ (fun i H' hi e => ?_) (fun H' e => k _ D ⟨?_, hD, ?_⟩)⟩
  ·rfl
  ·subst e
   refine ⟨rfl, jX ?_⟩
   refine ⟨_, rfl, _, rfl, a, d, i, ?_, (ax.new hD).seq hs, _, ae, ?_, ?_⟩
   ·rw [Int.zero_add]
    rfl
   ·rw [List.length_map, List.length_take]
    exact aX (by omega)
   ·rw [bv]
    congr 2
    match i, hi with
    | 0, _ => rfl
    | 1, _ => rfl
    | 2, _ => rfl
    | 3, _ => rfl
  ·subst e
   exact ax.new hD
  ·subst e
   rw [ae]
   rfl
theorem l5 {f : Addr} {fd : FuncData} (F : b7 K "unknown_cards" "unknown_cards" dU f fd) (T : Tx K mg CF ta) : aP P w K mg base aT 1 f fd ["deal"] (vC K) := by
 refine F.ok lM (fun vs H Q E h => ?_) (fun cdv A outer s H vs Q E hr h => ?_)
 ·obtain ⟨_, _, rfl, _⟩ := h
  rfl
 ·obtain ⟨a, d, rfl, hs, k⟩ := h
  refine ⟨_, (ah (aq (qc PySem.F.plainAttrs_list PySem.F.slot_list_count PySem.F.type_list_count qg (pv 0) (aa (aC T.g_NOBODY) ad)))), ?_⟩
  refine ⟨_, rfl, .inl ⟨rfl, _, hs⟩, a, zz d, ((4 : Nat) : Int), rfl, rfl, hs, ?_⟩
  rw [o8]
  exact k
theorem oN {f : Addr} {fd : FuncData} (F : b7 K "known_cards" "known_cards" fz f fd) (T : Tx K mg CF ta) (C_unknown_cards : ck P w K mg base aT 1 "unknown_cards" ["deal"] (vC K)) : aP P w K mg base aT 2 f fd ["deal"] (vL K) := by
 refine F.ok ol (fun vs H Q E h => ?_) (fun cdv A outer s H vs Q E hr h => ?_)
 ·obtain ⟨_, _, rfl, _⟩ := h
  rfl
 ·obtain ⟨a, d, rfl, hs, gd, k⟩ := h
  refine ⟨_, (ah (aq (bc uN (aC T.g_CARDS) (aI C_unknown_cards (hr.mono (by decide)) ay (aa (pv 0) ad))))), ?_⟩
  refine ⟨_, rfl, a, d, rfl, hs, _, _, rfl, rfl, ?_⟩
  show Q (.int (52 - ((countOf d 4 : Nat) : Int))) H
  have le := kE d 4
  rw [gd.len] at le
  rw [show (52 : Int) - ((countOf d 4 : Nat) : Int) = ((52 - countOf d 4 : Nat) : Int) by omega]
  exact k
theorem tj {f : Addr} {fd : FuncData} (F : b7 K "is_whole" "is_whole" iQ f fd) (T : Tx K mg CF ta) : aP P w K mg base aT 1 f fd ["deal"] (kL K) := by
 refine F.ok sQ (fun vs H Q E h => ?_) (fun cdv A outer s H vs Q E hr h => ?_)
 ·obtain ⟨_, _, rfl, _⟩ := h
  rfl
 ·obtain ⟨a, d, rfl, hs, k⟩ := h
  refine ⟨_, (ah (aq (fH iU (aC T.g_NOBODY) (pv 0) (by with_unfolding_all rfl)))), ?_⟩
  refine ⟨_, rfl, a, dl d, rfl, .inl hs, rfl, rR d, ?_⟩
  show Q (.bl (!Co (.int ((4 : Nat) : Int)) (dl d))) H
  rw [u7, yT]
  exact k
theorem Ah {f : Addr} {fd : FuncData} (F : b7 K "fits" "fits" qW f fd) (T : Tx K mg CF ta) : aP P w K mg base aT 1 f fd ["whole", "deal"] (ym K) := by
 refine F.ok vO (fun vs H Q E h => ?_) (fun cdv A outer s H vs Q E hr h => ?_)
 ·obtain ⟨_, _, _, _, rfl, _⟩ := h
  rfl
 ·obtain ⟨a, b, e, d, rfl, ha, hb, le, ld, k⟩ := h
  refine ⟨_, (ac (ef PassesOwn.never rfl (b9 rfl T.n_range (aa (aC T.g_CARDS) ad)) (aK (i := 2) vO.nd rfl (Or.inl rfl)) (ah (bf (PW.pt (lV (aH j3 (aA am (pv 1) (pv 2) (fun _ _ => rfl)) (aC T.g_NOBODY) (aJ _)) (jS (aH j3 (aA am (pv 1) (pv 2) (fun _ _ => rfl)) (aA am (pv 0) (pv 2) (fun _ _ => rfl)) (aJ _))))) (ah (aq AR)) aM)))
   (ah (aq AR))), ?_⟩
  refine ⟨52, rfl, by decide, by decide, dF (n := 52) (fun i σ' H' => ∃ v : Option V, σ' = [some (.ref a), some (.ref b), v] /\ H' = H /\ ∀ j, j < i -> d.getD j 4 = 4 \/ d.getD j 4 = e.getD j 4) ⟨none, rfl, rfl, fun j hj => absurd hj (Nat.not_lt_zero _)⟩ ?_ ?_⟩
  ·rintro i σ' H' hi ⟨v, rfl, rfl, inv⟩
   have ei : (0 : Int) + (i : Nat) = (i : Int) := Int.zero_add _
   refine ⟨_, rfl, _, rfl, b, dl d, _, _, rfl, rfl, hb, bn ei (by omega) 4, rfl, _, rfl, bq (fun h1 => ?_) (fun h1 => ?_)⟩
   ·refine ⟨_, rfl, _, rfl, b, dl d, _, _, rfl, rfl, hb, bn ei (by omega) 4, _, rfl, _, rfl, a, dl e, _, _, rfl, rfl, ha, bn ei (by omega) 4, rfl, _, rfl, bq (fun h2 => ?_) (fun h2 => ?_)⟩
    ·show Q (.bl false) _
     have no : Vbbraa.agrees d e = false := by
      refine Bool.eq_false_iff.mpr fun q => ?_
      rcases (gO d e (by omega)).mp q i (by omega) with z | z
      ·exact hZ h1 (by rw [z]; rfl)
      ·exact hZ h2 (by rw [z])
     rw [no] at k
     exact k
    ·refine ⟨_, rfl, rfl, fun j hj => ?_⟩
     rcases Nat.lt_succ_iff_lt_or_eq.mp hj with z | z
     ·exact inv j z
     ·subst z
      have := h8 h2
      exact .inr (by omega)
   ·refine iE ⟨_, rfl, rfl, fun j hj => ?_⟩
    rcases Nat.lt_succ_iff_lt_or_eq.mp hj with z | z
    ·exact inv j z
    ·subst z
     have := h8 h1
     exact .inl (by omega)
  ·rintro σ' H' ⟨v, rfl, rfl, inv⟩
   show Q (.bl true) _
   have yes : Vbbraa.agrees d e = true := (gO d e (by omega)).mpr fun j hj => inv j (by omega)
   rw [yes] at k
   exact k
theorem uP {f : Addr} {fd : FuncData} (F : b7 K "rotated" "rotated" io f fd) (T : Tx K mg CF ta) : aP P w K mg base aT 1 f fd ["deal", "steps"] (AK K) := by
 refine F.ok j8 (fun vs H Q E h => ?_) (fun cdv A outer s H vs Q E hr h => ?_)
 ·obtain ⟨_, _, _, rfl, _⟩ := h
  rfl
 ·obtain ⟨a, d, n, rfl, hs, len, k⟩ := h
  refine ⟨_, (ah (aq (eV rfl j8.nd (dD (pv 0)) (bb (own := [("holder", 2)]) (by show f6 ["deal", "steps", "holder"] (ai io) _ _ = true; decide +kernel)) (fun _ _ _ _ _ => (aK (i := 2) j8.nd rfl (Or.inl rfl))) (fun _ _ _ _ _ => cv) (fun _ _ _ _ _ => (jt (aH fh (pv 2) (aC T.g_NOBODY) (aJ _)) (pv 2) (bc kh (bc ki (pv 2) (pv 1)) (aC T.g_SEATS))))))), ?_⟩
  refine ⟨_, rfl, a, rfl, ⟨_, hs⟩, fun D hD => eZ (K := K) (a := a) (xs := dl d) (fun i H' => H' = aU H D (.lst (dl ((Vbbraa.rotated d n).take i)))) rfl (fun i H' _ e => ?_) (fun i x H' hx e => ?_) (fun H' e => k _ D ⟨?_, hD, ?_⟩)⟩
  ·subst e
   exact (ax.new hD).seq hs
  ·subst e
   obtain ⟨z, hz, rfl⟩ := fb hx
   have hi : i < 52 := by
    have := (List.getElem?_eq_some_iff.mp hz).1
    omega
   have fin : ∀ y : Nat, y = (if z = 4 then 4 else (z + n) % 4) -> ∃ acc, (aU H D (.lst (dl ((Vbbraa.rotated d n).take i)))) D = some (.lst acc) /\ acc.length < sizeLine /\
    aU (aU H D (.lst (dl ((Vbbraa.rotated d n).take i)))) D (.lst (acc ++ [V.int (y : Int)])) = aU H D (.lst (dl ((Vbbraa.rotated d n).take (i + 1)))) := fun y ey => by
    refine ⟨_, ae, ?_, ?_⟩
    ·rw [aG, List.length_take]
     exact aX (by omega)
    ·rw [bv, yx d n i z hz, bp, ey]
     rfl
   refine ⟨rfl, jX ?_⟩
   refine ⟨_, rfl, rfl, _, rfl, bq (fun h1 => ⟨_, rfl, ?_⟩) (fun h1 => ⟨_, rfl, _, rfl, _, _, rfl, rfl, _, _, rfl, rfl, (by show (0 : Int) < 4; decide), ?_⟩)⟩
   ·have h1 := f9 h1
    have h2 : z = 4 := by omega
    exact fin z (by rw [if_pos h2]; exact h2)
   ·have h1 := gb h1
    have h2 : ¬ z = 4 := by omega
    have e2 := fin ((z + n) % 4) (by rw [if_neg h2])
    have e3 : (((z + n) % 4 : Nat) : Int) = ((z : Int) + (n : Int)) % 4 := by omega
    rw [e3] at e2
    exact e2
  ·subst e
   exact ax.new hD
  ·subst e
   rw [ae, aG]
   have l2 : (Vbbraa.rotated d n).length = d.length := by
    unfold Vbbraa.rotated
    rw [List.length_map]
   rw [List.take_of_length_le (by omega)]
theorem pG {f : Addr} {fd : FuncData} (F : b7 K "with_suits" "with_suits" gh f fd) (T : Tx K mg CF ta) (C_nothing_known : ck P w K mg base aT 1 "nothing_known" [] spNK) (C_card_of : ck P w K mg base aT 1 "card_of" ["suit", "rank"] spCard) :
 aP P w K mg base aT 2 f fd ["deal", "row"] (vE K) := by
 refine F.ok g9 (fun vs H Q E h => ?_) (fun cdv A outer s H vs Q E hr h => ?_)
 ·obtain ⟨_, _, _, _, rfl, _⟩ := h
  rfl
 ·obtain ⟨a, b, d, p, rfl, ha, hb, len, hp, k⟩ := h
  obtain ⟨lp, pl, _⟩ := kf hp
  refine ⟨_, (ac (az (i := 2) g9.nd rfl (Or.inl rfl) (fq C_nothing_known (hr.mono (by decide)) ay))
   (ac (ef PassesOwn.never rfl (b9 rfl T.n_range (aa (aC T.g_CARDS) ad)) (aK (i := 3) g9.nd rfl (Or.inl rfl)) (ah (oC (aA am (pv 0) (pv 3) (fun _ _ => rfl)) (oH (pv 2) (aI C_card_of (hr.mono (by decide)) ay (aa (aA am (pv 1) (bc fS (pv 3) (aC T.g_RANKS)) (fun _ _ => rfl)) (aa (bc kh (pv 3) (aC T.g_RANKS)) ad))) gx))))
   (ah (aq (pv 2))))), ?_⟩
  refine ⟨rfl, fun H1 q ⟨s1, n1, e1⟩ => ?_⟩
  refine ⟨52, rfl, by decide, by decide, dF (n := 52) (fun i σ' H' => ∃ v : Option V, σ' = [some (.ref a), some (.ref b), some (.ref q), v] /\ H' = aU H1 q (.lst (dl ((List.range i).foldl (nY d p) unknown)))) ⟨none, rfl, ?_⟩ ?_ ?_⟩
  ·funext c
   by_cases hc : c = q
   ·subst hc
    rw [ae, e1]
    rfl
   ·rw [ak hc]
  ·rintro i σ' H' hi ⟨v, rfl, rfl⟩
   have ei : (0 : Int) + (i : Nat) = (i : Int) := Int.zero_add _
   have sm : ax H (aU H1 q (.lst (dl ((List.range i).foldl (nY d p) unknown)))) := fun c o ec => by
    rw [ak (au ec n1)]
    exact s1 c o ec
   have hlt := pl (i / 13) (by omega)
   refine ⟨_, rfl, _, rfl, a, dl d, _, _, rfl, rfl, sm.seq ha, bn ei (by omega) 4, _, rfl, _, rfl, _, rfl, _, _, rfl, rfl, ⟨by decide, by decide⟩, b, dl p, _, _, rfl, rfl, sm.seq hb, bn (i := i / 13) (by rw [ei]; omega) (by omega) 0, _, rfl, _, _, rfl, rfl, (by show (0 : Int) < 13; decide), ?_⟩
   refine ⟨p.getD (i / 13) 0, i % 13, ?_, q, _, _, 13 * p.getD (i / 13) 0 + i % 13, rfl, rfl, ae, ?_, ?_⟩
   ·rw [ei, show ((i % 13 : Nat) : Int) = (i : Int) % 13 by omega]
    rfl
   ·rw [aG, jO]
    have e5 : (unknown : Deal).length = 52 := rfl
    unfold xF
    rw [if_pos (Int.natCast_nonneg _), if_pos (by rw [e5]; omega), Int.toNat_natCast]
   ·refine ⟨_, rfl, ?_⟩
    rw [bv, kC, List.range_succ, List.foldl_append]
    rfl
  ·rintro σ' H' ⟨v, rfl, rfl⟩
   refine ⟨_, rfl, k _ q ⟨fun c o ec => ?_, n1, ?_⟩⟩
   ·rw [ak (au ec n1)]
    exact s1 c o ec
   ·rw [ae, w8 d hp]
end
end Db
end
section
namespace Db
open PySem PySem.Spec PyProof.Rows L2
open Vbbraa (Deal countOf room words fits unknown isWhole)
def c9 (d : Deal) (s : Nat) : Deal := d.map fun x => if x = 4 then s else x
def gk (d : Deal) : List Nat := (List.range 4).filter fun s => decide (countOf d s < 13)
def nF (K : W.Frag) : Sp := fun vs H Q _ => ∃ (a : Addr) (d : Deal) (s : Nat), vs = [.ref a, .int s] /\ bj K H a (dl d) /\ d.length = 52 /\ ∀ H' p, gS H H' p (dl (Vbbraa.cardsOf d s)) -> Q (.ref p) H'
def vH (K : W.Frag) : Sp := fun vs H Q _ => ∃ (a : Addr) (d : Deal), vs = [.ref a] /\ bj K H a (dl d) /\ ∀ H' p, gS H H' p (dl (gk d)) -> Q (.ref p) H'
def n8 (K : W.Frag) : Sp := fun vs H Q _ => ∃ (a : Addr) (d : Deal) (c z : Nat), vs = [.ref a, .int c, .int z] /\ bj K H a (dl d) /\ d.length = 52 /\ c < 52 /\ ∀ H' p, gS H H' p (dl (d.set c z)) -> Q (.ref p) H'
def yj (K : W.Frag) : Sp := fun vs H Q _ => ∃ (a : Addr) (d : Deal) (s : Nat), vs = [.ref a, .int s] /\ bj K H a (dl d) /\ d.length = 52 /\ ∀ H' p, gS H H' p (dl (c9 d s)) -> Q (.ref p) H'
def yl (K : W.Frag) : Sp := fun vs H Q _ => ∃ (a b : Addr) (d e : Deal), vs = [.ref a, .ref b] /\ bj K H a (dl d) /\ bj K H b (dl e) /\ d.length = 52 /\ e.length = 52 /\ (Vbbraa.both d e = none -> ∀ H', ax H H' -> Q .non H') /\ ∀ m, Vbbraa.both d e = some m -> ∀ H' p, gS H H' p (dl m) -> Q (.ref p) H'
def jn (d e : Deal) (c : Nat) : Nat := if d.getD c 4 = 4 then e.getD c 4 else d.getD c 4
def ug (d e : Deal) : Nat -> Deal
 | 0 => d
 | i + 1 => (ug d e i).set i (jn d e i)
theorem gY (d e : Deal) : ∀ i, (ug d e i).length = d.length
 | 0 => rfl
 | i + 1 => by
   show ((ug d e i).set i (jn d e i)).length = _
   rw [List.length_set, gY d e i]
theorem ly (d e : Deal) : ∀ i c, c < d.length -> (ug d e i).getD c 4 = if c < i then jn d e c else d.getD c 4
 | 0, c, h => by
   rw [if_neg (Nat.not_lt_zero _)]
   rfl
 | i + 1, c, h => by
   have ih := ly d e i c h
   show ((ug d e i).set i (jn d e i)).getD c 4 = _
   rw [List.getD_eq_getElem?_getD, List.getElem?_set]
   by_cases q : i = c
   ·subst q
    rw [if_pos rfl, if_pos (by rw [gY]; exact h), if_pos (Nat.lt_succ_self _)]
    rfl
   ·rw [if_neg q, <- List.getD_eq_getElem?_getD, ih]
    by_cases z : c < i
    ·rw [if_pos z, if_pos (by omega)]
    ·rw [if_neg z, if_neg (by omega)]
theorem qw {l m : List Nat} (h : l.length = m.length) (k : ∀ i, i < l.length -> l.getD i 4 = m.getD i 4) : l = m := by
 refine List.ext_getElem h fun i h1 h2 => ?_
 have := k i h1
 rw [List.getD_eq_getElem?_getD, List.getD_eq_getElem?_getD, List.getElem?_eq_getElem h1, List.getElem?_eq_getElem h2] at this
 exact this
theorem As {d e : Deal} (h : d.length = 52) : ug d e 52 = (List.range 52).map (jn d e) := by
 refine qw (by rw [gY, List.length_map, List.length_range, h]) fun i hi => ?_
 rw [gY, h] at hi
 rw [ly d e 52 i (by omega), if_pos hi, List.getD_eq_getElem?_getD, List.getElem?_map, List.getElem?_range hi]
 rfl
theorem rY (d e : Deal) : Vbbraa.both d e = if Vbbraa.agrees d ((List.range 52).map (jn d e)) = true /\ Vbbraa.agrees e ((List.range 52).map (jn d e)) = true /\ ((List.range 4).all fun s => decide (countOf ((List.range 52).map (jn d e)) s <= 13)) = true then some ((List.range 52).map (jn d e)) else none := rfl
theorem yZ (d e : Deal) {i : Nat} (h : i < 52) : ((List.range 52).map (jn d e)).getD i 4 = jn d e i := by
 rw [List.getD_eq_getElem?_getD, List.getElem?_map, List.getElem?_range h]
 rfl
theorem Dz {d e : Deal} (hd : d.length = 52) : Vbbraa.agrees d ((List.range 52).map (jn d e)) = true := by
 refine (gO d _ (by rw [hd, List.length_map, List.length_range])).mpr fun j hj => ?_
 rw [yZ d e (by omega)]
 unfold jn
 by_cases z : d.getD j 4 = 4
 ·exact .inl z
 ·rw [if_neg z]
  exact .inr rfl
theorem Cn {d e : Deal} (he : e.length = 52) : Vbbraa.agrees e ((List.range 52).map (jn d e)) = true ↔ ∀ j, j < 52 -> d.getD j 4 = 4 \/ e.getD j 4 = 4 \/ e.getD j 4 = d.getD j 4 := by
 rw [gO e _ (by rw [he, List.length_map, List.length_range]), he]
 refine forall_congr' fun j => forall_congr' fun hj => ?_
 rw [yZ d e hj]
 unfold jn
 by_cases z : d.getD j 4 = 4
 ·rw [if_pos z]
  exact ⟨fun _ => .inl z, fun _ => .inr rfl⟩
 ·rw [if_neg z]
  exact ⟨fun h => .inr h, fun h => h.resolve_left z⟩
theorem pY {m : Deal} {z : Int} (hm : z ∈ ke m) (hl : ∀ y ∈ ke m, z <= y) : ((List.range 4).all fun s => decide (countOf m s <= 13)) = true ↔ ¬ z < 0 := by
 rw [List.all_eq_true]
 obtain ⟨i, hi, rfl⟩ := List.mem_map.mp hm
 constructor
 ·intro h q
  have := of_decide_eq_true (h i hi)
  omega
 ·intro h j hj
  have := hl _ (List.mem_map.mpr ⟨j, hj, rfl⟩)
  exact decide_eq_true (by omega)
theorem jU (p : Nat -> Bool) (i : Nat) : (List.range (i + 1)).filter p = (List.range i).filter p ++ (if p i = true then [i] else []) := by
 rw [List.range_succ, List.filter_append]
 congr 1
 by_cases h : p i = true
 ·rw [if_pos h, List.filter_cons, if_pos h]
  rfl
 ·rw [if_neg h, List.filter_cons, if_neg h]
  rfl
theorem iG (p : Nat -> Bool) (i : Nat) : ((List.range i).filter p).length <= i := by
 have := List.length_filter_le p (List.range i)
 rw [List.length_range] at this
 exact this
theorem yU {H : Hp} {D : Addr} {l : List V} (hD : H D = none) : gS H (aU H D (.lst l)) D l := ⟨ax.new hD, hD, ae⟩
section
variable {P : Program} {w : World} {K : W.Frag} {mg : Str -> Option Value} {base : Heap} {CF : Addr} {ta : Str -> Addr}
theorem tw {f : Addr} {fd : FuncData} (F : b7 K "cards_of" "cards_of" gG f fd) (T : Tx K mg CF ta) : aP P w K mg base aT 1 f fd ["deal", "seat"] (nF K) := by
 refine F.ok jj (fun vs H Q E h => ?_) (fun cdv A outer s H vs Q E hr h => ?_)
 ·obtain ⟨_, _, _, rfl, _⟩ := h
  rfl
 ·obtain ⟨a, d, z, rfl, hs, len, k⟩ := h
  refine ⟨_, (ah (aq (eV rfl jj.nd (b9 rfl T.n_range (aa (aC T.g_CARDS) ad)) (bb (own := [("card", 2)]) (by show f6 ["deal", "seat", "card"] (ai gG) _ _ = true; decide +kernel)) (fun _ _ _ _ _ => (aK (i := 2) jj.nd rfl (Or.inl rfl))) (fun _ _ _ _ _ => (iT (aH fh (aA (show zM _ (yA K) from am) (pv 0) (pv 2) (fun _ _ => rfl)) (pv 1) (aJ _)))) (fun _ _ _ _ _ => (pv 2))))), ?_⟩
  refine ⟨52, rfl, by decide, by decide, fun D hD => lu (n := 52) (fun i H' => H' = aU H D (.lst (dl ((List.range i).filter fun c => d.getD c 4 == z)))) rfl (fun i H' hi e => ?_) (fun H' e => ?_)⟩
  ·subst e
   have ei : (0 : Int) + (i : Nat) = (i : Int) := Int.zero_add _
   refine ⟨rfl, _, rfl, _, rfl, a, dl d, _, _, rfl, rfl, (ax.new hD).seq hs, bn ei (by omega) 4, _, rfl, rfl, _, rfl, bq (fun h1 => ?_) (fun h1 => ?_)⟩
   ·refine ⟨_, rfl, _, ae, ?_, ?_⟩
    ·rw [aG]
     exact aX (Nat.le_trans (iG _ _) (by omega))
    ·have h2 := f9 h1
     rw [bv, jU, if_pos (beq_iff_eq.mpr (by omega)), bp, ei]
     rfl
   ·have h2 := gb h1
    rw [jU, if_neg (fun q => h2 (by rw [beq_iff_eq.mp q])), List.append_nil]
  ·subst e
   exact k _ D (yU hD)
theorem kj {f : Addr} {fd : FuncData} (F : b7 K "seats_with_room" "seats_with_room" cb f fd) (T : Tx K mg CF ta) (C_room_of : ck P w K mg base aT 1 "room_of" ["deal", "seat"] (iL K)) : aP P w K mg base aT 2 f fd ["deal"] (vH K) := by
 refine F.ok d9 (fun vs H Q E h => ?_) (fun cdv A outer s H vs Q E hr h => ?_)
 ·obtain ⟨_, _, rfl, _⟩ := h
  rfl
 ·obtain ⟨a, d, rfl, hs, k⟩ := h
  refine ⟨_, (ah (aq (eV rfl d9.nd (b9 rfl T.n_range (aa (aC T.g_SEATS) ad)) (bb (own := [("seat", 1)]) (by show f6 ["deal", "seat"] (ai cb) _ _ = true; decide +kernel)) (fun _ _ _ _ _ => (aK (i := 1) d9.nd rfl (Or.inl rfl))) (fun _ _ _ _ _ => (iT (aH qd (aI C_room_of (hr.mono (by decide)) ay (aa (pv 0) (aa (pv 1) ad))) aj (aJ _)))) (fun _ _ _ _ _ => (pv 1))))), ?_⟩
  refine ⟨4, rfl, by decide, by decide, fun D hD => lu (n := 4) (fun i H' => H' = aU H D (.lst (dl ((List.range i).filter fun s => decide (countOf d s < 13))))) rfl (fun i H' hi e => ?_) (fun H' e => ?_)⟩
  ·subst e
   have ei : (0 : Int) + (i : Nat) = (i : Int) := Int.zero_add _
   refine ⟨rfl, _, rfl, _, rfl, a, d, i, by rw [ei]; rfl, (ax.new hD).seq hs, _, _, rfl, rfl, _, rfl, bq (fun h1 => ?_) (fun h1 => ?_)⟩
   ·refine ⟨_, rfl, _, ae, ?_, ?_⟩
    ·rw [aG]
     exact aX (Nat.le_trans (iG _ _) (by omega))
    ·have h2 := of_decide_eq_true h1
     rw [bv, jU, if_pos (decide_eq_true (by omega)), bp, ei]
     rfl
   ·have h2 := of_decide_eq_false (Bool.eq_false_iff.mpr h1)
    rw [jU, if_neg (fun q => h2 (by have := of_decide_eq_true q; omega)), List.append_nil]
  ·subst e
   exact k _ D (yU hD)
theorem oK {f : Addr} {fd : FuncData} (F : b7 K "with_holder" "with_holder" fv f fd) (T : Tx K mg CF ta) : aP P w K mg base aT 1 f fd ["deal", "card", "holder"] (n8 K) := by
 refine F.ok jg (fun vs H Q E h => ?_) (fun cdv A outer s H vs Q E hr h => ?_)
 ·obtain ⟨_, _, _, _, rfl, _⟩ := h
  rfl
 ·obtain ⟨a, d, c, z, rfl, hs, len, hc, k⟩ := h
  refine ⟨_, (ac (az (i := 3) jg.nd rfl (Or.inl rfl) (gt i7 rfl T.n_list (by decide +kernel) (aa (pv 0) ad)))
   (ac (oC (pv 2) (oH (pv 3) (pv 1) gx))
   (ah (aq (pv 3))))), ?_⟩
  refine ⟨_, rfl, a, dl d, rfl, .inl hs, fun q hq => ?_⟩
  refine ⟨_, rfl, _, rfl, _, rfl, q, _, _, c, rfl, rfl, ae, ?_, ?_⟩
  ·unfold xF
   rw [if_pos (Int.natCast_nonneg _), Int.toNat_natCast, aG, if_pos (by omega)]
  ·refine ⟨_, rfl, ?_⟩
   rw [bv, kC]
   exact k _ q (yU hq)
theorem rB {f : Addr} {fd : FuncData} (F : b7 K "with_rest" "with_rest" fL f fd) (T : Tx K mg CF ta) : aP P w K mg base aT 1 f fd ["deal", "seat"] (yj K) := by
 refine F.ok iM (fun vs H Q E h => ?_) (fun cdv A outer s H vs Q E hr h => ?_)
 ·obtain ⟨_, _, _, rfl, _⟩ := h
  rfl
 ·obtain ⟨a, d, z, rfl, hs, len, k⟩ := h
  refine ⟨_, (ah (aq (eV rfl iM.nd (dD (pv 0)) (bb (own := [("holder", 2)]) (by show f6 ["deal", "seat", "holder"] (ai fL) _ _ = true; decide +kernel)) (fun _ _ _ _ _ => (aK (i := 2) iM.nd rfl (Or.inl rfl))) (fun _ _ _ _ _ => cv) (fun _ _ _ _ _ => (jt (aH fh (pv 2) (aC T.g_NOBODY) (aJ _)) (pv 1) (pv 2)))))), ?_⟩
  refine ⟨_, rfl, a, rfl, ⟨_, hs⟩, fun D hD => eZ (K := K) (a := a) (xs := dl d) (fun i H' => H' = aU H D (.lst (dl ((c9 d z).take i)))) rfl (fun i H' _ e => ?_) (fun i x H' hx e => ?_) (fun H' e => ?_)⟩
  ·subst e
   exact (ax.new hD).seq hs
  ·subst e
   obtain ⟨y, hy, rfl⟩ := fb hx
   have hi : i < 52 := by
    have := (List.getElem?_eq_some_iff.mp hy).1
    omega
   have fin : ∀ u : Nat, u = (if y = 4 then z else y) -> ∃ acc, (aU H D (.lst (dl ((c9 d z).take i)))) D = some (.lst acc) /\ acc.length < sizeLine /\
    aU (aU H D (.lst (dl ((c9 d z).take i)))) D (.lst (acc ++ [V.int (u : Int)])) = aU H D (.lst (dl ((c9 d z).take (i + 1)))) := fun u eu => by
    refine ⟨_, ae, ?_, ?_⟩
    ·rw [aG, List.length_take]
     exact aX (by omega)
    ·unfold c9
     rw [bv, List.take_add_one (i := i), List.getElem?_map, hy, bp, eu]
     rfl
   refine ⟨rfl, jX ?_⟩
   refine ⟨_, rfl, rfl, _, rfl, bq (fun h1 => ⟨_, rfl, ?_⟩) (fun h1 => ⟨_, rfl, ?_⟩)⟩
   ·have h1 := f9 h1
    exact fin z (by rw [if_pos (by omega)])
   ·have h1 := gb h1
    exact fin y (by rw [if_neg (by omega)])
  ·subst e
   have l2 : (c9 d z).length = d.length := by
    unfold c9
    rw [List.length_map]
   have k2 := k _ D (yU hD)
   rw [aG, List.take_of_length_le (by omega)]
   exact k2
theorem xl {f : Addr} {fd : FuncData} (F : b7 K "joined" "joined" kP f fd) (T : Tx K mg CF ta) (C_rooms_of : ck P w K mg base aT 2 "rooms_of" ["deal"] (kM K)) : aP P w K mg base aT 3 f fd ["deal", "other"] (yl K) := by
 refine F.ok lO (fun vs H Q E h => ?_) (fun cdv A outer s H vs Q E hr h => ?_)
 ·obtain ⟨_, _, _, _, rfl, _⟩ := h
  rfl
 ·obtain ⟨a, b, d, e, rfl, ha, hb, ld, le, kn, k⟩ := h
  refine ⟨_, (ac (az (i := 2) lO.nd rfl (Or.inl rfl) (gt i7 rfl T.n_list (by decide +kernel) (aa (pv 0) ad)))
   (ac (ef PassesOwn.never rfl (b9 rfl T.n_range (aa (aC T.g_CARDS) ad)) (aK (i := 3) lO.nd rfl (Or.inl rfl)) (ah (bf (aH fh (aA am (pv 2) (pv 3) (fun _ _ => rfl)) (aC T.g_NOBODY) (aJ _)) (ah (oC (aA am (pv 1) (pv 3) (fun _ _ => rfl)) (oH (pv 2) (pv 3) gx))) (ah (bf (PW.pt (lV (aH j3 (aA am (pv 1) (pv 3) (fun _ _ => rfl)) (aC T.g_NOBODY) (aJ _)) (jS (aH j3 (aA am (pv 1) (pv 3) (fun _ _ => rfl)) (aA am (pv 2) (pv 3) (fun _ _ => rfl)) (aJ _))))) (ah (aq hX)) aM)))))
   (ah (aq (jt (aH oI (aO (BO rfl) rfl T.n_min (by decide +kernel) (aa (aI C_rooms_of (hr.mono (by decide)) ay (aa (pv 2) ad)) ad)) aj (aJ _)) hX (pv 2)))))), ?_⟩
  refine ⟨_, rfl, a, dl d, rfl, .inl ha, fun q hq => ?_⟩
  refine ⟨52, rfl, by decide, by decide, dF (n := 52) (fun i σ' H' => ∃ v : Option V, σ' = [some (.ref a), some (.ref b), some (.ref q), v] /\ H' = aU H q (.lst (dl (ug d e i))) /\ ∀ j, j < i -> d.getD j 4 = 4 \/ e.getD j 4 = 4 \/ e.getD j 4 = d.getD j 4) ⟨none, rfl, rfl, fun j hj => absurd hj (Nat.not_lt_zero _)⟩ ?_ ?_⟩
  ·rintro i σ' H' hi ⟨v, rfl, rfl, inv⟩
   have ei : (0 : Int) + (i : Nat) = (i : Int) := Int.zero_add _
   have sq : ax H (aU H q (.lst (dl (ug d e i)))) := ax.new hq
   have sl : bj K (aU H q (.lst (dl (ug d e i)))) q (dl (ug d e i)) := bj.of ae
   have gi : (ug d e i).getD i 4 = d.getD i 4 := by rw [ly d e i i (by omega), if_neg (Nat.lt_irrefl _)]
   have li : i < (ug d e i).length := by rw [gY]; omega
   refine ⟨_, rfl, _, rfl, q, _, _, _, rfl, rfl, sl, bn ei li 4, rfl, _, rfl, bq (fun h1 => ?_) (fun h1 => ?_)⟩
   ·have h2 : d.getD i 4 = 4 := by
     have := f9 h1
     omega
    refine ⟨_, rfl, _, rfl, b, dl e, _, _, rfl, rfl, sq.seq hb, bn ei (by omega) 4, _, rfl, _, rfl, q, _, _, i, rfl, rfl, ae, ?_, ?_⟩
    ·unfold xF
     rw [ei, if_pos (Int.natCast_nonneg _), Int.toNat_natCast, aG, if_pos (by omega)]
    ·refine ⟨_, rfl, ?_, fun j hj => ?_⟩
     ·rw [bv, kC]
      show aU H q (.lst (dl ((ug d e i).set i (e.getD i 4)))) = aU H q (.lst (dl ((ug d e i).set i (jn d e i))))
      unfold jn
      rw [if_pos h2]
     ·rcases Nat.lt_succ_iff_lt_or_eq.mp hj with z | z
      ·exact inv j z
      ·subst z
       exact .inl h2
   ·have h2 : ¬ d.getD i 4 = 4 := by
     have := gb h1
     omega
    have same : (ug d e i) = ug d e (i + 1) := by
     refine qw (by rw [gY, gY]) fun c hc => ?_
     rw [gY] at hc
     rw [ly d e i c hc, ly d e (i + 1) c hc]
     by_cases z : c < i
     ·rw [if_pos z, if_pos (by omega)]
     ·by_cases y : c = i
      ·subst y
       rw [if_neg z, if_pos (Nat.lt_succ_self _)]
       unfold jn
       rw [if_neg h2]
      ·rw [if_neg z, if_neg (by omega)]
    refine ⟨_, rfl, _, rfl, b, dl e, _, _, rfl, rfl, sq.seq hb, bn ei (by omega) 4, rfl, _, rfl, bq (fun h3 => ?_) (fun h3 => ?_)⟩
    ·refine ⟨_, rfl, _, rfl, b, dl e, _, _, rfl, rfl, sq.seq hb, bn ei (by omega) 4, _, rfl, _, rfl, q, _, _, _, rfl, rfl, sl, bn ei li 4, rfl, _, rfl, bq (fun h4 => ?_) (fun h4 => ?_)⟩
     ·refine kn ?_ _ sq
      rw [rY, if_neg fun z => ?_]
      rcases (Cn le).mp z.2.1 i hi with y | y | y
      ·exact h2 y
      ·exact hZ h3 (by rw [y]; rfl)
      ·exact hZ h4 (by rw [gi, y])
     ·refine ⟨_, rfl, by rw [<- same], fun j hj => ?_⟩
      rcases Nat.lt_succ_iff_lt_or_eq.mp hj with z | z
      ·exact inv j z
      ·subst z
       have := h8 h4
       exact .inr (.inr (by omega))
    ·refine iE ⟨_, rfl, by rw [<- same], fun j hj => ?_⟩
     rcases Nat.lt_succ_iff_lt_or_eq.mp hj with z | z
     ·exact inv j z
     ·subst z
      have := h8 h3
      exact .inr (.inl (by omega))
  ·rintro σ' H' ⟨v, rfl, rfl, inv⟩
   rw [As ld]
   have sq : ax H (aU H q (.lst (dl ((List.range 52).map (jn d e))))) := ax.new hq
   refine ⟨_, rfl, q, (List.range 52).map (jn d e), rfl, bj.of ae, .inr fun H1 r ⟨s1, n1, e1⟩ => ⟨r, ke ((List.range 52).map (jn d e)), rfl, bj.of e1, (by show 0 < 4; decide), fun z hz hl => ?_⟩⟩
   have ag := (Cn le).mpr inv
   refine ⟨_, _, rfl, rfl, _, rfl, bq (fun h1 => ?_) (fun h1 => ⟨_, rfl, ?_⟩)⟩
   ·refine kn ?_ _ (sq.trans s1)
    rw [rY, if_neg fun y => (pY hz hl).mp y.2.2 (of_decide_eq_true h1)]
   ·refine k _ ?_ _ q ⟨sq.trans s1, hq, s1 _ _ ae⟩
    rw [rY, if_pos ⟨Dz ld, ag, (pY hz hl).mpr fun y => h1 (decide_eq_true y)⟩]
end
end Db
end
section
namespace Db
open PySem PySem.Spec PyProof.Rows L2
open Vbbraa (Deal countOf room words fits unknown isWhole)
def spGcd : Sp := fun vs H Q _ => ∃ a b : Nat, vs = [.int a, .int b] /\ Q (.int ((Nat.gcd a b : Nat) : Int)) H
def sM (K : W.Frag) : Sp := fun vs H Q _ => ∃ (a : Addr) (d : Deal) (c z : Nat), vs = [.ref a, .int c, .int z] /\ bj K H a (dl d) /\ bB d /\ c < 52 /\ z < 4 /\ ∀ H' p, gS H H' p (dl [(Vbbraa.chance d c z).1, (Vbbraa.chance d c z).2]) -> Q (.ref p) H'
section
variable {P : Program} {w : World} {K : W.Frag} {mg : Str -> Option Value} {base : Heap} {CF : Addr} {ta : Str -> Addr}
theorem jZ {f : Addr} {fd : FuncData} (F : b7 K "greatest_divisor" "greatest_divisor" cM f fd) (T : Tx K mg CF ta) : aP P w K mg base aT 1 f fd ["first", "second"] spGcd := by
 refine F.ok bo (fun vs H Q E h => ?_) (fun cdv A outer s H vs Q E hr h => ?_)
 ·obtain ⟨_, _, rfl, _⟩ := h
  rfl
 ·obtain ⟨a, b, rfl, k⟩ := h
  refine ⟨_, (ac (az (i := 2) bo.nd rfl (Or.inl rfl) (pv 0))
   (ac (az (i := 3) bo.nd rfl (Or.inl rfl) (pv 1))
   (ac (jr PassesOwn.never (aH qd (pv 3) aj (aJ _)) (ac (az (i := 4) bo.nd rfl (Or.inl rfl) (bc kh (pv 2) (pv 3)))
   (ac (az (i := 2) bo.nd rfl (Or.inl rfl) (pv 3))
   (ah (az (i := 3) bo.nd rfl (Or.inl rfl) (pv 4))))))
   (ah (aq (pv 2)))))), ?_⟩
  refine ⟨_, rfl, _, rfl, fun m σ' H' => ∃ (x : Nat) (v : Option V), σ' = [some (.int a), some (.int b), some (.int x), some (.int m), v] /\ H' = H /\ Nat.gcd x m = Nat.gcd a b, ⟨b, a, none, rfl, rfl, rfl⟩, ?_⟩
  rintro m σ' H' ⟨x, v, rfl, rfl, e⟩
  refine ⟨_, rfl, _, _, rfl, rfl, _, rfl, bq (fun h1 => ?_) (fun h1 => ?_)⟩
  ·have pos : (0 : Int) < m := of_decide_eq_true h1
   refine ⟨fun σ' H'' => σ' = [some (.int a), some (.int b), some (.int m), some (.int ((x % m : Nat) : Int)), some (.int ((x % m : Nat) : Int))] /\ H'' = H', ?_, _, rfl, _, rfl, _, _, rfl, rfl, pos, _, rfl, _, rfl, rfl, rfl⟩
   rintro σ' H'' ⟨rfl, rfl⟩
   refine ⟨x % m, Nat.mod_lt _ (by omega), m, _, rfl, rfl, ?_⟩
   rw [Nat.gcd_comm, <- Nat.gcd_rec, Nat.gcd_comm]
   exact e
  ·have z : m = 0 := by
    have := of_decide_eq_false (Bool.eq_false_iff.mpr h1)
    omega
   subst z
   rw [Nat.gcd_zero_right] at e
   subst e
   exact ⟨_, rfl, k⟩
theorem rF {f : Addr} {fd : FuncData} (F : b7 K "chance_of" "chance_of" gX f fd) (T : Tx K mg CF ta) (C_room_of : ck P w K mg base aT 1 "room_of" ["deal", "seat"] (iL K)) (C_unknown_cards : ck P w K mg base aT 1 "unknown_cards" ["deal"] (vC K))
 (C_greatest_divisor : ck P w K mg base aT 1 "greatest_divisor" ["first", "second"] spGcd) : aP P w K mg base aT 2 f fd ["deal", "card", "seat"] (sM K) := by
 refine F.ok gf (fun vs H Q E h => ?_) (fun cdv A outer s H vs Q E hr h => ?_)
 ·obtain ⟨_, _, _, _, rfl, _⟩ := h
  rfl
 ·obtain ⟨a, d, c, z, rfl, hs, gd, hc, hz, k⟩ := h
  have len := gd.len
  refine ⟨_, (ac (bf (aH fh (aA am (pv 0) (pv 1) (fun _ _ => rfl)) (pv 2) (aJ _)) (ah (aq (aN (aa aj (aa aj ad))))) aM)
   (ac (bf (aH j3 (aA am (pv 0) (pv 1) (fun _ _ => rfl)) (aC T.g_NOBODY) (aJ _)) (ah (aq (aN (aa aj (aa aj ad))))) aM)
   (ac (az (i := 3) gf.nd rfl (Or.inl rfl) (aI C_room_of (hr.mono (by decide)) ay (aa (pv 0) (aa (pv 2) ad))))
   (ac (az (i := 4) gf.nd rfl (Or.inl rfl) (aI C_unknown_cards (hr.mono (by decide)) ay (aa (pv 0) ad)))
   (ac (az (i := 5) gf.nd rfl (Or.inl rfl) (aI C_greatest_divisor (hr.mono (by decide)) ay (aa (pv 3) (aa (pv 4) ad))))
   (ah (aq (aN (aa (bc fS (pv 3) (pv 5)) (aa (bc fS (pv 4) (pv 5)) ad)))))))))), ?_⟩
  have fin : ∀ x y : Nat, Vbbraa.chance d c z = (x, y) -> ∀ l H1, ax H H1 -> H1 l = none -> Q (.ref l) (aU H1 l (.lst [V.int x, V.int y])) := fun x y e l H1 s1 hl => by
   rw [e] at k
   refine k _ l ⟨s1.trans (ax.new hl), s1.free hl, ae⟩
  refine ⟨_, rfl, _, rfl, a, dl d, _, _, rfl, rfl, hs, bn rfl (by omega) 4, _, rfl, rfl, _, rfl, bq (fun h1 => ?_) (fun h1 => ?_)⟩
  ·have h2 := f9 h1
   refine ⟨(by show 2 <= sizeLine; decide), fun l hl => fin 1 1 ?_ l H (fun _ _ e => e) hl⟩
   unfold Vbbraa.chance
   rw [if_neg (by omega), if_pos (by omega)]
  ·have h2 := gb h1
   refine ⟨_, rfl, _, rfl, a, dl d, _, _, rfl, rfl, hs, bn rfl (by omega) 4, rfl, _, rfl, bq (fun h3 => ?_) (fun h3 => ?_)⟩
   ·refine ⟨(by show 2 <= sizeLine; decide), fun l hl => fin 0 1 ?_ l H (fun _ _ e => e) hl⟩
    unfold Vbbraa.chance
    rw [if_neg (fun q => hZ h3 (by rw [q]; rfl)), if_neg (by omega)]
   ·have h4 := h8 h3
    have hm := gd.most z hz
    have er : (13 : Int) - ((countOf d z : Nat) : Int) = ((13 - countOf d z : Nat) : Int) := by omega
    refine ⟨_, rfl, _, rfl, a, d, z, rfl, hs, _, rfl, a, d, rfl, hs, _, rfl, _, rfl, 13 - countOf d z, countOf d 4, by rw [er]; rfl, ?_⟩
    have h5 : d.getD c 4 = 4 := by omega
    have pos4 : 0 < countOf d 4 := by
     rw [fK]
     exact List.count_pos_iff.mpr (List.mem_of_getElem? (i := c) (by rw [iF (by omega) 4, h5]))
    have gp : 0 < Nat.gcd (13 - countOf d z) (countOf d 4) := Nat.gcd_pos_of_pos_right _ pos4
    have gl : Nat.gcd (13 - countOf d z) (countOf d 4) <= 52 := by
     have h6 := Nat.le_of_dvd pos4 (Nat.gcd_dvd_right (13 - countOf d z) (countOf d 4))
     have h7 := kE d 4
     omega
    have cd : zK ((13 : Int) - ((countOf d z : Nat) : Int)) ((Nat.gcd (13 - countOf d z) (countOf d 4) : Nat) : Int) := ⟨by omega, by omega⟩
    refine ⟨_, rfl, _, rfl, _, _, rfl, rfl, cd, _, rfl, _, rfl, _, _, rfl, rfl, cd, (by show 2 <= sizeLine; decide), fun l hl => ?_⟩
    have := fin ((13 - countOf d z) / Nat.gcd (13 - countOf d z) (countOf d 4)) (countOf d 4 / Nat.gcd (13 - countOf d z) (countOf d 4)) ?_ l H (fun _ _ e => e) hl
    ·rw [er]
     dsimp only
     rw [<- Int.natCast_ediv, <- Int.natCast_ediv]
     exact this
    ·unfold Vbbraa.chance
     have e1 : (room d).getD z 0 = 13 - countOf d z := by
      unfold Vbbraa.room
      rw [List.getD_eq_getElem?_getD, List.getElem?_map, List.getElem?_range hz]
      rfl
     rw [if_pos h5, e1]
end
end Db
end
section
namespace Db
open PySem PySem.Spec PyProof.Rows L2
open Vbbraa (Deal countOf room words fits unknown isWhole fact wordsWith less pick)
def spFact : Sp := fun vs H Q _ => ∃ n : Nat, vs = [.int n] /\ n <= 52 /\ Q (.int (fact n : Nat)) H
def qO (K : W.Frag) : Sp := fun vs H Q _ => ∃ (a : Addr) (c : List Nat), vs = [.ref a] /\ bj K H a (dl c) /\ c.length = 4 /\ (∀ x ∈ c, x <= 13) /\ Q (.int (words c : Nat)) H
def nE (K : W.Frag) : Sp := fun vs H Q _ => ∃ (a : Addr) (d : Deal), vs = [.ref a] /\ bj K H a (dl d) /\ bB d /\ ∀ H', ax H H' -> Q (.int (fits d : Nat)) H'
def spAll : Sp := fun vs H Q _ => vs = [] /\ ∀ H', ax H H' -> Q (.int (Vbbraa.ALL : Nat)) H'
def nD (K : W.Frag) : Sp := fun vs H Q _ => ∃ (a b : Addr) (d e : Deal), vs = [.ref a, .ref b] /\ bj K H a (dl d) /\ bj K H b (dl e) /\ bB d /\ bB e /\ isWhole e = true /\ Vbbraa.agrees d e = true /\ ∀ H', ax H H' -> Q (.int (Vbbraa.placeOf d e : Nat)) H'
def sL (K : W.Frag) : Sp := fun vs H Q _ => ∃ (a : Addr) (d : Deal) (n : Nat), vs = [.ref a, .int n] /\ bj K H a (dl d) /\ bB d /\ n < fits d /\ ∀ H' p, gS H H' p (dl (Vbbraa.nth d n)) -> Q (.ref p) H'
def spSess : Sp := fun vs H Q _ => ∃ n i : Nat, vs = [.int n, .int i] /\ i <= 1000000000 /\ ∀ H', ax H H' -> Q (.int ((n + i * Vbbraa.STRIDE) % Vbbraa.ALL : Nat)) H'
theorem BV {n : Nat} (h : n <= 6227020800) : (n : Int) < 2 ^ 200 := by omega
section
variable {P : Program} {w : World} {K : W.Frag} {mg : Str -> Option Value} {base : Heap} {CF : Addr} {ta : Str -> Addr}
theorem rC {f : Addr} {fd : FuncData} (F : b7 K "factorial" "factorial" gW f fd) (T : Tx K mg CF ta) : aP P w K mg base aT 1 f fd ["number"] spFact := by
 refine F.ok gc (fun vs H Q E h => ?_) (fun cdv A outer s H vs Q E hr h => ?_)
 ·obtain ⟨_, rfl, _⟩ := h
  rfl
 ·obtain ⟨n, rfl, hn, k⟩ := h
  refine ⟨_, (ac (az (i := 1) gc.nd rfl (Or.inl rfl) aj)
   (ac (ef PassesOwn.never rfl (xg rfl T.n_range (aa aj (aa (bc ki (pv 0) aj) ad))) (aK (i := 2) gc.nd rfl (Or.inl rfl)) (ah (lW (i := 1) gc.nd rfl (Or.inl rfl) (pv 2) wl)))
   (ah (aq (pv 1))))), ?_⟩
  refine ⟨_, rfl, _, _, rfl, rfl, 2, _, rfl, ⟨by decide, by decide, by omega, by omega⟩, dF (n := ((n : Int) + 1 - 2).toNat) (fun i σ' H' => ∃ v : Option V, σ' = [some (.int n), some (.int (fact (i + 1) : Nat)), v] /\ H' = H) ⟨none, rfl, rfl⟩ ?_ ?_⟩
  ·rintro i σ' H' hi ⟨v, rfl, rfl⟩
   refine ⟨_, rfl, _, rfl, _, _, rfl, rfl, .inr ⟨by omega, by omega⟩, some (.int (2 + (i : Int))), ?_, rfl⟩
   have e : ((fact (i + 1) : Nat) : Int) * (2 + (i : Int)) = ((fact (i + 1 + 1) : Nat) : Int) := by
    rw [iH (i + 1), Int.mul_comm, show (2 : Int) + (i : Int) = ((i + 1 + 1 : Nat) : Int) by omega]
    norm_cast
   show _ = [some (V.int (n : Int)), some (V.int ((fact (i + 1 + 1) : Nat) : Int)), some (V.int (2 + (i : Int)))]
   rw [<- e]
   rfl
  ·rintro σ' H' ⟨v, rfl, rfl⟩
   refine ⟨_, rfl, ?_⟩
   have e : fact (((n : Int) + 1 - 2).toNat + 1) = fact n := by
    rcases n with _ | _ | n
    ·rfl
    ·rfl
    ·rw [show ((((n + 1 + 1 : Nat) : Int) + 1 - 2).toNat) = n + 1 by omega]
   rw [e]
   exact k
theorem m9 {f : Addr} {fd : FuncData} (F : b7 K "ways_to_fill" "ways_to_fill" eJ f fd) (T : Tx K mg CF ta) (C_factorial : ck P w K mg base aT 1 "factorial" ["number"] spFact) : aP P w K mg base aT 2 f fd ["rooms"] (qO K) := by
 refine F.ok dR (fun vs H Q E h => ?_) (fun cdv A outer s H vs Q E hr h => ?_)
 ·obtain ⟨_, _, rfl, _⟩ := h
  rfl
 ·obtain ⟨a, c, rfl, hs, lc, le, k⟩ := h
  have sle := yf lc le
  refine ⟨_, (ac (az (i := 1) dR.nd rfl (Or.inl rfl) (aI C_factorial (hr.mono (by decide)) ay (aa (aO (pp rfl) rfl T.n_sum (by decide +kernel) (aa (pv 0) ad)) ad)))
   (ac (ef PassesOwn.never rfl (dD (pv 0)) (aK (i := 2) dR.nd rfl (Or.inl rfl)) (ah (lW (i := 1) dR.nd rfl (Or.inl rfl) (aI C_factorial (hr.mono (by decide)) ay (aa (pv 2) ad)) xG)))
   (ah (aq (pv 1))))), ?_⟩
  refine ⟨_, rfl, a, zz c, rfl, hs, Vbbraa.sum c, ?_, sle, ?_⟩
  ·rw [jE]
   rfl
  refine ⟨_, rfl, a, rfl, ⟨_, hs⟩, tP (K := K) (a := a) (xs := dl c) (fun i σ' H' => ∃ v : Option V, σ' = [some (.ref a), some (.int (ve (fact (Vbbraa.sum c)) (c.take i) : Nat)), v] /\ H' = H) ⟨none, rfl, rfl⟩ (fun i σ' H' _ z => ?_) ?_ ?_⟩
  ·obtain ⟨_, _, rfl⟩ := z
   exact hs
  ·rintro i x σ' H' hx ⟨v, rfl, rfl⟩
   obtain ⟨z, hz, rfl⟩ := fb hx
   have zle := le z (List.mem_of_getElem? hz)
   have fp := lC z
   have fl := Ay z zle
   refine ⟨_, rfl, _, rfl, z, rfl, by omega, _, _, rfl, rfl, ⟨by omega, BV fl⟩, some (.int (z : Int)), ?_, rfl⟩
   rw [List.take_add_one, hz]
   show _ = [some (V.ref a), some (V.int ((ve (fact (Vbbraa.sum c)) (c.take i ++ [z]) : Nat) : Int)), some (V.int (z : Int))]
   rw [xN]
   show [some (V.ref a), some (V.int (((ve (fact (Vbbraa.sum c)) (c.take i) : Nat) : Int) / ((fact z : Nat) : Int))), some (V.int (z : Int))] = _
   rw [<- Int.natCast_ediv]
  ·rintro σ' H' ⟨v, rfl, rfl⟩
   refine ⟨_, rfl, ?_⟩
   rw [aG, List.take_length, vd lc]
   exact k
theorem ma {f : Addr} {fd : FuncData} (F : b7 K "count_of_fits" "count_of_fits" dX f fd) (T : Tx K mg CF ta) (C_ways_to_fill : ck P w K mg base aT 2 "ways_to_fill" ["rooms"] (qO K))
 (C_rooms_of : ck P w K mg base aT 2 "rooms_of" ["deal"] (kM K)) : aP P w K mg base aT 3 f fd ["deal"] (nE K) := by
 refine F.ok lP (fun vs H Q E h => ?_) (fun cdv A outer s H vs Q E hr h => ?_)
 ·obtain ⟨_, _, rfl, _⟩ := h
  rfl
 ·obtain ⟨a, d, rfl, hs, gd, k⟩ := h
  refine ⟨_, (ah (aq (aI C_ways_to_fill (hr.mono (by decide)) ay (aa (aI C_rooms_of (hr.mono (by decide)) ay (aa (pv 0) ad)) ad)))), ?_⟩
  exact ⟨_, rfl, a, d, rfl, hs, .inl ⟨gd, fun H1 p ⟨s1, n1, e1⟩ => ⟨p, room d, rfl, bj.of e1, fN d, nI d, k H1 s1⟩⟩⟩
theorem nj {f : Addr} {fd : FuncData} (F : b7 K "count_of_all" "count_of_all" eM f fd) (T : Tx K mg CF ta) (C_count_of_fits : ck P w K mg base aT 3 "count_of_fits" ["deal"] (nE K))
 (C_nothing_known : ck P w K mg base aT 1 "nothing_known" [] spNK) : aP P w K mg base aT 4 f fd [] spAll := by
 refine F.ok mW (fun vs H Q E h => ?_) (fun cdv A outer s H vs Q E hr h => ?_)
 ·obtain ⟨rfl, _⟩ := h
  rfl
 ·obtain ⟨rfl, k⟩ := h
  refine ⟨_, (ah (aq (aI C_count_of_fits (hr.mono (by decide)) ay (aa (fq C_nothing_known (hr.mono (by decide)) ay) ad)))), ?_⟩
  refine ⟨rfl, fun H1 p ⟨s1, n1, e1⟩ => ⟨p, unknown, rfl, bj.of e1, aY, fun H2 s2 => ?_⟩⟩
  rw [<- sk]
  exact k H2 (s1.trans s2)
theorem jY {f : Addr} {fd : FuncData} (F : b7 K "place_among_fits" "place_among_fits" cK f fd) (T : Tx K mg CF ta) (C_ways_to_fill : ck P w K mg base aT 2 "ways_to_fill" ["rooms"] (qO K))
 (C_rooms_of : ck P w K mg base aT 2 "rooms_of" ["deal"] (kM K)) : aP P w K mg base aT 3 f fd ["deal", "whole"] (nD K) := by
 refine F.ok aS (fun vs H Q E h => ?_) (fun cdv A outer s H vs Q E hr h => ?_)
 ·obtain ⟨_, _, _, _, rfl, _⟩ := h
  rfl
 ·obtain ⟨a, b, d, e, rfl, ha, hb, gd, ge, hw, hag, k⟩ := h
  refine ⟨_, (ac (az (i := 2) aS.nd rfl (Or.inl rfl) (aI C_rooms_of (hr.mono (by decide)) ay (aa (pv 0) ad)))
   (ac (az (i := 3) aS.nd rfl (Or.inl rfl) (aI C_ways_to_fill (hr.mono (by decide)) ay (aa (pv 2) ad)))
   (ac (az (i := 4) aS.nd rfl (Or.inl rfl) aj)
   (ac (ef PassesOwn.never rfl (b9 rfl T.n_range (aa (aC T.g_CARDS) ad)) (aK (i := 5) aS.nd rfl (Or.inl rfl)) (ah (bf (aH fh (aA am (pv 0) (pv 5) (fun _ _ => rfl)) (aC T.g_NOBODY) (aJ _)) (ac (az (i := 6) aS.nd rfl (Or.inl rfl) (aO (pp rfl) rfl T.n_sum (by decide +kernel) (aa (pv 2) ad)))
   (ac (az (i := 7) aS.nd rfl (Or.inl rfl) (aA am (pv 1) (pv 5) (fun _ _ => rfl)))
   (ac (ef PassesOwn.never rfl (b9 rfl T.n_range (aa (pv 7) ad)) (aK (i := 8) aS.nd rfl (Or.inl rfl)) (ah (lW (i := 4) aS.nd rfl (Or.inl rfl) (bc fS (bc kg (pv 3) (aA am (pv 2) (pv 8) (fun _ _ => rfl))) (pv 6)) wm)))
   (ac (az (i := 3) aS.nd rfl (Or.inl rfl) (bc fS (bc kg (pv 3) (aA am (pv 2) (pv 7) (fun _ _ => rfl))) (pv 6)))
   (ah (vW (pv 2) (pv 7) tM aj rJ gx)))))) aM)))
   (ah (aq (pv 4))))))), ?_⟩
  refine ⟨_, rfl, a, d, rfl, ha, .inl ⟨gd, fun H1 r ⟨s1, n1, e1⟩ => ?_⟩⟩
  refine ⟨_, rfl, r, room d, rfl, bj.of e1, fN d, nI d, ?_⟩
  refine ⟨52, rfl, by decide, by decide, dF (n := 52) (fun i σ' H' => ∃ (c : List Nat) (pl : Nat) (v5 v6 v7 v8 : Option V), σ' = [some (.ref a), some (.ref b), some (.ref r), some (.int (words c : Nat)), some (.int (pl : Nat)), v5, v6, v7, v8] /\
   H' = aU H1 r (.lst (dl c)) /\ fc d e i c pl) ⟨room d, 0, none, none, none, none, rfl, ?_, fc.start gd ge hw hag⟩ ?_ ?_⟩
  ·funext z
   by_cases hz : z = r
   ·subst hz
    rw [ae, e1]
   ·rw [ak hz]
  ·rintro i σ' H' hi ⟨c, pl, v5, v6, v7, v8, rfl, rfl, ra⟩
   have ei : (0 : Int) + (i : Nat) = (i : Int) := Int.zero_add _
   have sm : ∀ o : HO, ax H (aU H1 r o) := fun o z u ez => by
    rw [ak (au ez n1)]
    exact s1 z u ez
   have ld := gd.len
   have le := ge.len
   refine ⟨_, rfl, _, rfl, a, dl d, _, _, rfl, rfl, (sm _).seq ha, bn ei (by omega) 4, rfl, _, rfl, bq (fun h1 => ?_) (fun h1 => ?_)⟩
   ·have h1 : d.getD i 4 = 4 := by
     have := f9 h1
     omega
    obtain ⟨hy, hr0, sp, sl⟩ := ra.pos ge hw ld hi h1
    have cl := ra.len
    refine ⟨_, rfl, r, zz c, rfl, bj.of ae, ?_⟩
    refine ⟨_, rfl, _, rfl, b, dl e, _, _, rfl, rfl, (sm _).seq hb, bn ei (by omega) 4, ?_⟩
    rw [jE]
    refine ⟨_, rfl, _, rfl, by omega, by omega, dF (n := (((e.getD i 4 : Nat) : Int)).toNat) (fun j σ' H' => ∃ (v8 : Option V), σ' = [some (.ref a), some (.ref b), some (.ref r), some (.int (words c : Nat)), some (.int ((pl + Vbbraa.sum ((List.range j).map (wordsWith c)) : Nat) : Int)), some (.int (0 + (i : Int))), some (.int (Vbbraa.sum c : Nat)), some (.int (e.getD i 4 : Nat)), v8] /\
     H' = aU H1 r (.lst (dl c))) ⟨v8, rfl, rfl⟩ ?_ ?_⟩
    ·rintro j σ' H' hj ⟨v8, rfl, rfl⟩
     have ej : (0 : Int) + (j : Nat) = (j : Int) := Int.zero_add _
     have hj' : j < 4 := by omega
     have c13 : ((c.getD j 0 : Nat) : Int) <= 52 := by
      have := kJ cl
      match j, hj' with
      | 0, _ => omega
      | 1, _ => omega
      | 2, _ => omega
      | 3, _ => omega
     refine ⟨_, rfl, _, rfl, _, rfl, _, rfl, r, dl c, _, _, rfl, rfl, bj.of ae, bn ej (by omega) 0, _, _, rfl, rfl, .inr ⟨by omega, by omega⟩, _, rfl, _, _, rfl, rfl, ⟨by omega, by omega⟩, _, _, rfl, rfl, some (.int (0 + (j : Int))), ?_, rfl⟩
     rw [de, <- Nat.add_assoc]
     show [some (V.ref a), some (V.ref b), some (V.ref r), some (V.int ((words c : Nat) : Int)), some (V.int (((pl + Vbbraa.sum ((List.range j).map (wordsWith c)) : Nat) : Int) + ((words c : Nat) : Int) * ((c.getD j 0 : Nat) : Int) / ((Vbbraa.sum c : Nat) : Int))), _, _, _, _] = _
     rw [kN sp]
     rfl
    ·rintro σ' H' ⟨v8, rfl, rfl⟩
     have c13 : ((c.getD (e.getD i 4) 0 : Nat) : Int) <= 52 := by
      have := kJ cl
      generalize e.getD i 4 = y at hy
      match y, hy with
      | 0, _ => omega
      | 1, _ => omega
      | 2, _ => omega
      | 3, _ => omega
     refine ⟨_, rfl, _, rfl, _, rfl, r, dl c, _, _, rfl, rfl, bj.of ae, bn rfl (by omega) 0, _, _, rfl, rfl, .inr ⟨by omega, by omega⟩, _, rfl, _, _, rfl, rfl, ⟨by omega, by omega⟩, ?_⟩
     refine ⟨_, rfl, _, rfl, r, dl c, _, e.getD i 4, _, rfl, rfl, bj.of ae, rfl, zj (by omega) 0, _, _, rfl, rfl, r, dl c, _, e.getD i 4, rfl, rfl, ae, ?_, less c (e.getD i 4), _, some (.int (0 + (i : Int))), some (.int (Vbbraa.sum c : Nat)), some (.int (e.getD i 4 : Nat)), v8, ?_, ?_, ra.take ge hw ld hi h1⟩
     ·unfold xF
      rw [if_pos (Int.natCast_nonneg _), if_pos (by rw [aG]; omega), Int.toNat_natCast]
     ·show [some (V.ref a), some (V.ref b), some (V.ref r), some (V.int (((words c : Nat) : Int) * ((c.getD (e.getD i 4) 0 : Nat) : Int) / ((Vbbraa.sum c : Nat) : Int))), _, _, _, _, _] = _
      rw [kN sp, ib hr0, Int.toNat_natCast]
     ·rw [bv]
      congr 2
      rw [wd, <- kC]
      congr 1
      show V.int (((c.getD (e.getD i 4) 0 : Nat) : Int) - 1) = _
      congr 1
      omega
   ·have h1 : d.getD i 4 ≠ 4 := fun z => gb h1 (by rw [z]; rfl)
    exact ⟨c, pl, _, _, _, _, rfl, rfl, ra.skip ld le hi h1⟩
  ·rintro σ' H' ⟨c, pl, v5, v6, v7, v8, rfl, rfl, ra⟩
   refine ⟨_, rfl, ?_⟩
   rw [ra.done gd.len]
   refine k _ fun z u ez => ?_
   rw [ak (au ez n1)]
   exact s1 z u ez
end
end Db
end
section
namespace Db
open PySem PySem.Spec PyProof.Rows L2
open Vbbraa (Deal countOf room words fits unknown isWhole fact wordsWith less pick)
def spDig : Sp := fun vs H Q _ => ∃ n : Nat, vs = [.int n] /\ n < 10 ^ 50 /\ ∀ H' p, gS H H' p (dl (Vbbraa.digitsOf n)) -> Q (.ref p) H'
def mG (l : List Nat) (bound : Nat) : V := match Vbbraa.told l with
 | none => .non
 | some n => if n < bound then .int n else .non
def nG (K : W.Frag) : Sp := fun vs H Q _ => ∃ (a : Addr) (l : List Nat) (b : Nat), vs = [.ref a, .int b] /\ bj K H a (dl l) /\ (∀ x ∈ l, x <= 9) /\ Q (mG l b) H
theorem nL {n j : Nat} {k : Int} (e : k = (j : Int)) (h : j < n) : xF n k = some j := by
 subst e
 unfold xF
 rw [if_pos (Int.natCast_nonneg _), if_pos (by omega), Int.toNat_natCast]
theorem yY {x : Str} {g : TG} {tt : TT} {te : TE} {vs : List Nat} {σ : L2.St} {H1 : Hp} {D : Addr} {Qd : Hp -> Prop} (Pv : Nat -> Hp -> Prop) (h0 : Pv 0 (aU H1 D (.lst [])))
 (hs : ∀ i c H, x.cps[i]? = some c -> Pv i H -> g (.str ⟨#[c]⟩) (bH σ vs) H fun σ2 H2 => bH σ2 vs = bH σ vs /\ tt σ2 H2 fun b H3 =>
  if b = true then te σ2 H3 fun y H4 => ∃ acc, H4 D = some (.lst acc) /\ acc.length < sizeLine /\ Pv (i + 1) (aU H4 D (.lst (acc ++ [y]))) else Pv (i + 1) H3) (hd : ∀ H, Pv x.cps.size H -> Qd H) :
 ∃ W : Nat -> Nat -> Hp -> Prop, (∃ m, W 0 m (aU H1 D (.lst []))) /\ ∀ i m H, W i m H ->
  ((CK x).stop i H /\ Qd H) \/ ((CK x).go i H /\ ∃ Nx : Hp -> Prop, (∀ H', Nx H' -> ∃ m', m' < m /\ W (i + 1) m' H') /\ ∀ v H', (CK x).yld i H v H' -> g v (bH σ vs) H' fun σ2 H2 => bH σ2 vs = bH σ vs /\ tt σ2 H2 fun b H3 =>
    if b = true then te σ2 H3 fun y H4 => ∃ acc, H4 D = some (.lst acc) /\ acc.length < sizeLine /\ Nx (aU H4 D (.lst (acc ++ [y]))) else Nx H3) := by
 refine ⟨fun i m H => Pv i H /\ i <= x.cps.size /\ m = x.cps.size - i, ⟨_, h0, Nat.zero_le _, rfl⟩, fun i m H ⟨hP, hle, hm⟩ => ?_⟩
 by_cases hi : i < x.cps.size
 ·refine .inr ⟨hi, fun H' => Pv (i + 1) H', fun H' h => ⟨_, ?_, h, hi, rfl⟩, fun v H' hy => ?_⟩
  ·omega
  ·obtain ⟨rfl, c, hc, rfl⟩ := hy
   exact hs i c H' hc hP
 ·have e : i = x.cps.size := by omega
  subst e
  exact .inl ⟨Nat.le_refl _, hd H hP⟩
theorem pL : ∀ k, k < 10 -> PySem.intText? ⟨#[48 + k]⟩ = some (k : Int) := by decide +kernel
theorem fJ (n : Nat) : Vbbraa.digitsOf n = (TL.nw n).map fun c => c - 48 := by
 unfold Vbbraa.digitsOf TL.nw
 rw [List.map_map]
 rfl
theorem u0 {n : Nat} (h : n < 10 ^ 50) : ((n : Int)).natAbs.log2 < 1920 := by
 rw [Int.natAbs_natCast]
 rcases Nat.eq_zero_or_pos n with z | z
 ·rw [z]
  decide
 ·have h4 : n.log2 < 200 := (Nat.log2_lt (by omega)).mpr (by omega)
  omega
section
variable {P : Program} {w : World} {K : W.Frag} {mg : Str -> Option Value} {base : Heap} {CF : Addr} {ta : Str -> Addr}
theorem rE {f : Addr} {fd : FuncData} (F : b7 K "digits_of" "digits_of" fM f fd) (T : Tx K mg CF ta) : aP P w K mg base aT 1 f fd ["number"] spDig := by
 refine F.ok iN (fun vs H Q E h => ?_) (fun cdv A outer s H vs Q E hr h => ?_)
 ·obtain ⟨_, rfl, _⟩ := h
  rfl
 ·obtain ⟨n, rfl, hn, k⟩ := h
  refine ⟨_, (ah (aq (eV rfl iN.nd (yD (gt rW rfl T.n_str (by decide +kernel) (aa (pv 0) ad))) (bb (own := [("sign", 1)]) (by show f6 ["number", "sign"] (ai fM) _ _ = true; decide +kernel)) (fun _ _ _ _ _ => (aK (i := 1) iN.nd rfl (Or.inl rfl))) (fun _ _ _ _ _ => cv) (fun _ _ _ _ _ => (gt rX rfl T.n_int (by decide +kernel) (aa (pv 1) ad)))))), ?_⟩
  have et : (Str.ofString (toString ((n : Nat) : Int))).cps.toList = TL.nw n := TL.yc n
  have lenN := TL.oX (k := 50) (by decide) hn
  refine ⟨_, rfl, _, rfl, u0 hn, _, rfl, fun D hD => yY (x := Str.ofString (toString ((n : Nat) : Int))) (fun i H' => H' = aU H D (.lst (dl ((Vbbraa.digitsOf n).take i)))) rfl (fun i c H' hc e => ?_) (fun H' e => k _ D ⟨?_, hD, ?_⟩)⟩
  ·subst e
   have hc2 : (TL.nw n)[i]? = some c := by
    rw [<- et]
    simpa using hc
   have hd := TL.tD n c (List.mem_of_getElem? hc2)
   have hi : i < (TL.nw n).length := (List.getElem?_eq_some_iff.mp hc2).1
   obtain ⟨j, hj, rfl⟩ : ∃ j, j < 10 /\ c = 48 + j := ⟨c - 48, by omega, by omega⟩
   refine ⟨rfl, jX ⟨_, rfl, _, _, rfl, pL j hj, by show 1 <= 640; decide, _, ae, ?_, ?_⟩⟩
   ·rw [aG, List.length_take]
    exact aX (by omega)
   ·rw [bv, fJ, List.take_add_one, List.getElem?_map, hc2, bp]
    congr 3
    show [V.int (j : Int)] = [V.int ((48 + j - 48 : Nat) : Int)]
    rw [show 48 + j - 48 = j by omega]
  ·subst e
   exact ax.new hD
  ·subst e
   rw [ae]
   have e1 : (Str.ofString (toString ((n : Nat) : Int))).cps.size = (Vbbraa.digitsOf n).length := by
    rw [fJ, List.length_map, <- et]
    simp
   rw [e1, List.take_length]
theorem ni {f : Addr} {fd : FuncData} (F : b7 K "number_below" "number_below" eK f fd) (T : Tx K mg CF ta) : aP P w K mg base aT 1 f fd ["digits", "bound"] (nG K) := by
 refine F.ok dS (fun vs H Q E h => ?_) (fun cdv A outer s H vs Q E hr h => ?_)
 ·obtain ⟨_, _, _, rfl, _⟩ := h
  rfl
 ·obtain ⟨a, l, b, rfl, hs, le, k⟩ := h
  refine ⟨_, (ac (bf (PW.pt (AN (aH fh (aO aV rfl T.n_len (by decide +kernel) (aa (pv 0) ad)) aj (aJ _)) (yB (PW.pt (lV (aH fh (aA am (pv 0) aj (fun _ _ => rfl)) aj (aJ _)) (jS (aH qd (aO aV rfl T.n_len (by decide +kernel) (aa (pv 0) ad)) aj (aJ _)))))))) (ah (aq hX)) aM)
   (ac (az (i := 2) dS.nd rfl (Or.inl rfl) aj)
   (ac (ef PassesOwn.never rfl (dD (pv 0)) (aK (i := 3) dS.nd rfl (Or.inl rfl)) (ah (az (i := 2) dS.nd rfl (Or.inl rfl) (bc ki (bc kg (pv 2) aj) (pv 3)))))
   (ah (aq (jt (aH oI (pv 2) (pv 1) (aJ _)) (pv 2) hX)))))), ?_⟩
  have rest : ¬ (l = [] \/ (l.head? = some 0 /\ 1 < l.length)) -> Bc (yd (tC (V.int 0)) (jF 2)) (Bc (B9 (AW K (sG 0)) (jF 3) (yd (Be (xY fun i j => V.int (i + j)) (Be (rI zJ fun i j => V.int (i * j)) (sG 2) (tC (V.int 10))) (sG 3)) (jF 2)))
   (B7 (DR (AI (Be (xY fun i j => V.bl (decide (i < j))) (sG 2) (sG 1))) (sG 2) (tC V.non)))) { nx := fun _ H' => Q .non H', rt := Q } (L2.start ["digits", "bound", "number", "digit"] [V.ref a, V.int b]) H := fun hno => by
   refine ⟨_, rfl, a, rfl, ⟨_, hs⟩, tP (K := K) (a := a) (xs := dl l) (fun i σ' H' => ∃ v : Option V, σ' = [some (.ref a), some (.int b), some (.int (Vbbraa.numberOf (l.take i) : Nat)), v] /\ H' = H) ⟨none, rfl, rfl⟩ (fun i σ' H' _ z => ?_) ?_ ?_⟩
   ·obtain ⟨_, _, rfl⟩ := z
    exact hs
   ·rintro i x σ' H' hx ⟨v, rfl, rfl⟩
    obtain ⟨z, hz, rfl⟩ := fb hx
    refine ⟨_, rfl, _, _, rfl, rfl, .inr ⟨by decide, by decide⟩, _, rfl, _, _, rfl, rfl, some (.int (z : Int)), ?_, rfl⟩
    rw [List.take_add_one, hz]
    show [some (V.ref a), some (V.int b), some (V.int (((Vbbraa.numberOf (l.take i) : Nat) : Int) * 10 + (z : Int))), some (V.int (z : Int))] = _
    have e : Vbbraa.numberOf (l.take i ++ [z]) = 10 * Vbbraa.numberOf (l.take i) + z := by
     unfold Vbbraa.numberOf
     rw [List.foldl_append]
     rfl
    show _ = [some (V.ref a), some (V.int b), some (V.int ((Vbbraa.numberOf (l.take i ++ [z]) : Nat) : Int)), some (V.int (z : Int))]
    rw [e, show ((Vbbraa.numberOf (l.take i) : Nat) : Int) * 10 + (z : Int) = ((10 * Vbbraa.numberOf (l.take i) + z : Nat) : Int) by omega]
   ·rintro σ' H' ⟨v, rfl, rfl⟩
    rw [aG, List.take_length]
    unfold mG Vbbraa.told at k
    rw [if_neg hno] at k
    have k : Q (if Vbbraa.numberOf l < b then V.int ((Vbbraa.numberOf l : Nat) : Int) else V.non) H' := k
    refine ⟨_, rfl, _, rfl, _, _, rfl, rfl, _, rfl, bq (fun h1 => ⟨_, rfl, ?_⟩) (fun h1 => ?_)⟩
    ·have h1 := of_decide_eq_true h1
     rw [if_pos (by omega)] at k
     exact k
    ·have h1 : ¬ ((Vbbraa.numberOf l : Nat) : Int) < (b : Int) := fun z => h1 (decide_eq_true z)
     rw [if_neg (by omega)] at k
     exact k
  have none_ : (l = [] \/ (l.head? = some 0 /\ 1 < l.length)) -> Q .non H := fun hy => by
   unfold mG Vbbraa.told at k
   rw [if_pos hy] at k
   exact k
  refine ⟨_, rfl, a, dl l, rfl, .inl hs, rfl, _, rfl, bq (fun h1 => j1 ?_) (fun h1 => ?_)⟩
  ·have h1 := f9 h1
   rw [aG] at h1
   exact none_ (.inl (List.eq_nil_of_length_eq_zero (by omega)))
  ·have h1 := gb h1
   rw [aG] at h1
   have l0 : 0 < l.length := by omega
   refine ⟨_, rfl, a, dl l, 0, _, rfl, rfl, hs, bn (i := 0) rfl l0 0, rfl, _, rfl, bq (fun h2 => ?_) (fun h2 => iE ?_)⟩
   ·have h2 := f9 h2
    have hh : l.head? = some 0 := by
     rw [List.head?_eq_getElem?, iF l0 0]
     congr 1
     omega
    refine ⟨_, rfl, a, dl l, rfl, .inl hs, _, _, rfl, rfl, _, rfl, bq (fun h3 => ?_) (fun h3 => ?_)⟩
    ·have h3 := of_decide_eq_true h3
     rw [aG] at h3
     exact none_ (.inr ⟨hh, by omega⟩)
    ·have h3 : ¬ (1 : Int) < ((dl l).length : Nat) := fun z => h3 (decide_eq_true z)
     rw [aG] at h3
     refine rest fun q => ?_
     rcases q with q | q
     ·rw [q] at l0
      exact absurd l0 (by decide)
     ·omega
   ·have h2 := gb h2
    refine rest fun q => ?_
    rcases q with q | q
    ·rw [q] at l0
     exact absurd l0 (by decide)
    ·have q1 := q.1
     rw [List.head?_eq_getElem?, iF l0 0] at q1
     exact h2 (by rw [Option.some.inj q1]; rfl)
end
end Db
end
section
namespace Db
open PySem PySem.Spec PyProof.Rows L2
open Vbbraa (Deal countOf room words fits unknown isWhole fact wordsWith less pick)
def AO : List Nat := [53, 59, 61, 67, 71, 73, 79, 83, 89, 97, 101, 103, 107]
theorem z7 : AO.foldl (fun a b => a * b) 1 = Vbbraa.STRIDE := by decide
theorem Bo : ∀ x ∈ AO, x <= 107 := by decide
theorem AG : 0 < Vbbraa.ALL := pN _
theorem pA {l m : List Nat} {i x : Nat} (hx : l[i]? = some x) (hm : i < m.length) : (l.take i ++ m.drop i).set i x = l.take (i + 1) ++ m.drop (i + 1) := by
 have hi : i < l.length := (List.getElem?_eq_some_iff.mp hx).1
 rw [List.take_add_one, hx, List.set_append_right _ _ (by rw [List.length_take]; omega), List.length_take, show i - min i l.length = 0 by omega, List.drop_eq_getElem_cons hm, List.set_cons_zero, List.append_assoc]
 rfl
section
variable {P : Program} {w : World} {K : W.Frag} {mg : Str -> Option Value} {base : Heap} {CF : Addr} {ta : Str -> Addr}
theorem kX {f : Addr} {fd : FuncData} (F : b7 K "session_number" "session_number" dz f fd) (T : Tx K mg CF ta) (C_count_of_all : ck P w K mg base aT 4 "count_of_all" [] spAll) : aP P w K mg base aT 5 f fd ["start", "board"] spSess := by
 refine F.ok cS (fun vs H Q E h => ?_) (fun cdv A outer s H vs Q E hr h => ?_)
 ·obtain ⟨_, _, rfl, _⟩ := h
  rfl
 ·obtain ⟨n, i, rfl, hi, k⟩ := h
  refine ⟨_, (ac (az (i := 2) cS.nd rfl (Or.inl rfl) aj)
   (ac (ef PassesOwn.never rfl (oG (mK T.g_SESSION_PRIMES)) (aK (i := 3) cS.nd rfl (Or.inl rfl)) (ah (lW (i := 2) cS.nd rfl (Or.inl rfl) (pv 3) wl)))
   (ah (aq (bc kh (bc ki (pv 0) (bc kg (pv 1) (pv 2))) (fq C_count_of_all (hr.mono (by decide)) ay)))))), ?_⟩
  refine ⟨ta "SESSION_PRIMES", rfl, ⟨_, T.g_SESSION_PRIMES.sqT H⟩, wp (K := K) (a := ta "SESSION_PRIMES") (xs := dl AO) (fun j σ' H' => ∃ v : Option V, σ' = [some (.int n), some (.int i), some (.int ((AO.take j).foldl (fun a b => a * b) 1 : Nat)), v] /\ H' = H) ⟨none, rfl, rfl⟩ (fun j σ' H' _ _ => T.g_SESSION_PRIMES.sqT H') ?_ ?_⟩
  ·rintro j x σ' H' hx ⟨v, rfl, rfl⟩
   obtain ⟨z, hz, rfl⟩ := fb hx
   have zle := Bo z (List.mem_of_getElem? hz)
   refine ⟨_, rfl, _, rfl, _, _, rfl, rfl, .inr ⟨by omega, by omega⟩, some (.int (z : Int)), ?_, rfl⟩
   rw [List.take_add_one, hz]
   show [some (V.int n), some (V.int i), some (V.int ((((AO.take j).foldl (fun a b => a * b) 1 : Nat) : Int) * (z : Int))), some (V.int (z : Int))] = [some (V.int n), some (V.int i), some (V.int (((AO.take j ++ [z]).foldl (fun a b => a * b) 1 : Nat) : Int)), some (V.int (z : Int))]
   rw [List.foldl_append, List.foldl_cons, List.foldl_nil]
   norm_cast
  ·rintro σ' H' ⟨v, rfl, rfl⟩
   have e : (AO.take (dl AO).length).foldl (fun a b => a * b) 1 = Vbbraa.STRIDE := by
    rw [aG, List.take_length]
    exact z7
   rw [e]
   refine ⟨_, rfl, _, rfl, _, rfl, _, _, rfl, rfl, .inl ⟨by omega, by omega⟩, _, _, rfl, rfl, rfl, fun H1 s1 => ?_⟩
   have ap := AG
   refine ⟨_, _, rfl, rfl, (by show (0 : Int) < _; omega), ?_⟩
   have e2 : (((n : Int) + (i : Int) * ((Vbbraa.STRIDE : Nat) : Int)) % ((Vbbraa.ALL : Nat) : Int)) = (((n + i * Vbbraa.STRIDE) % Vbbraa.ALL : Nat) : Int) := by norm_cast
   show Q (.int (((n : Int) + (i : Int) * ((Vbbraa.STRIDE : Nat) : Int)) % ((Vbbraa.ALL : Nat) : Int))) H1
   rw [e2]
   exact k H1 s1
theorem k8 {f : Addr} {fd : FuncData} (F : b7 K "fit_with_place" "fit_with_place" dA f fd) (T : Tx K mg CF ta) (C_ways_to_fill : ck P w K mg base aT 2 "ways_to_fill" ["rooms"] (qO K))
 (C_rooms_of : ck P w K mg base aT 2 "rooms_of" ["deal"] (kM K)) : aP P w K mg base aT 3 f fd ["deal", "place"] (sL K) := by
 refine F.ok aL (fun vs H Q E h => ?_) (fun cdv A outer s H vs Q E hr h => ?_)
 ·obtain ⟨_, _, _, rfl, _⟩ := h
  rfl
 ·obtain ⟨a, d, n, rfl, ha, gd, hn, k⟩ := h
  refine ⟨_, (ac (az (i := 2) aL.nd rfl (Or.inl rfl) (gt i7 rfl T.n_list (by decide +kernel) (aa (pv 0) ad)))
   (ac (az (i := 3) aL.nd rfl (Or.inl rfl) (aI C_rooms_of (hr.mono (by decide)) ay (aa (pv 0) ad)))
   (ac (az (i := 4) aL.nd rfl (Or.inl rfl) (aI C_ways_to_fill (hr.mono (by decide)) ay (aa (pv 3) ad)))
   (ac (az (i := 5) aL.nd rfl (Or.inl rfl) (pv 1))
   (ac (ef PassesOwn.never rfl (b9 rfl T.n_range (aa (aC T.g_CARDS) ad)) (aK (i := 6) aL.nd rfl (Or.inl rfl)) (ah (bf (aH fh (aA am (pv 0) (pv 6) (fun _ _ => rfl)) (aC T.g_NOBODY) (aJ _)) (ac (az (i := 7) aL.nd rfl (Or.inl rfl) (aO (pp rfl) rfl T.n_sum (by decide +kernel) (aa (pv 3) ad)))
   (ac (az (i := 8) aL.nd rfl (Or.inl rfl) aj)
   (ac (az (i := 9) aL.nd rfl (Or.inl rfl) (bc fS (bc kg (pv 4) (aA am (pv 3) (pv 8) (fun _ _ => rfl))) (pv 7)))
   (ac (jr PassesOwn.never (aH AS (pv 5) (pv 9) (aJ _)) (ac (lW (i := 5) aL.nd rfl (Or.inl rfl) (pv 9) rJ)
   (ac (lW (i := 8) aL.nd rfl (Or.inl rfl) aj wm)
   (ah (az (i := 9) aL.nd rfl (Or.inl rfl) (bc fS (bc kg (pv 4) (aA am (pv 3) (pv 8) (fun _ _ => rfl))) (pv 7)))))))
   (ac (oC (pv 8) (oH (pv 2) (pv 6) gx))
   (ac (az (i := 4) aL.nd rfl (Or.inl rfl) (pv 9))
   (ah (vW (pv 3) (pv 8) tM aj rJ gx)))))))) aM)))
   (ah (aq (pv 2)))))))), ?_⟩
  refine ⟨_, rfl, a, dl d, rfl, .inl ha, fun q hq => ?_⟩
  have sq : ax H (aU H q (.lst (dl d))) := ax.new hq
  refine ⟨_, rfl, a, d, rfl, sq.seq ha, .inl ⟨gd, fun H1 r ⟨s1, n1, e1⟩ => ?_⟩⟩
  refine ⟨_, rfl, r, room d, rfl, bj.of e1, fN d, nI d, ?_⟩
  have hqr : q ≠ r := fun z => by
   rw [<- z, ae] at n1
   cases n1
  have eq1 : H1 q = some (.lst (dl d)) := s1 q _ ae
  have ld := gd.len
  obtain ⟨gn, wn⟩ := ju gd hn
  have ln := gn.len
  have sm : ∀ o o' : HO, ax H (aU (aU H1 q o) r o') := fun o o' z u ez => by
   have ez' := sq z u ez
   rw [ak (au ez' n1), ak (au ez hq)]
   exact s1 z u ez'
  have hrn : H r = none := sq.free n1
  refine ⟨_, rfl, 52, rfl, by decide, by decide, dF (n := 52) (fun i σ' H' => ∃ (c : List Nat) (m : Nat) (v6 v7 v8 v9 : Option V), σ' = [some (.ref a), some (.int n), some (.ref q), some (.ref r), some (.int (words c : Nat)), some (.int (m : Nat)), v6, v7, v8, v9] /\
   H' = aU (aU H1 q (.lst (dl ((Vbbraa.nth d n).take i ++ d.drop i)))) r (.lst (dl c)) /\ ia d (Vbbraa.nth d n) i c m) ⟨room d, n, none, none, none, none, rfl, ?_, ia.start gd hn⟩ ?_ ?_⟩
  ·funext z
   by_cases hz : z = r
   ·subst hz
    rw [ae, e1]
   ·rw [ak hz]
    by_cases hz2 : z = q
    ·subst hz2
     rw [ae, eq1]
     rfl
    ·rw [ak hz2]
  ·rintro i σ' H' hi ⟨c, m, v6, v7, v8, v9, rfl, rfl, fa⟩
   have ei : (0 : Int) + (i : Nat) = (i : Int) := Int.zero_add _
   refine ⟨_, rfl, _, rfl, a, dl d, _, _, rfl, rfl, (sm _ _).seq ha, bn ei (by omega) 4, rfl, _, rfl, bq (fun h1 => ?_) (fun h1 => ?_)⟩
   ·have h1 : d.getD i 4 = 4 := by
     have := f9 h1
     omega
    obtain ⟨sp, sl, p1, p2, p4, p5, nxt, at_⟩ := fa.take ld hi h1
    generalize hz : (pick c 3 0 m).1 = z at p1 p2 p4 p5 nxt at_
    generalize hm2 : (pick c 3 0 m).2 = m2 at p4 p5 nxt
    have cl := fa.len
    have c52 : ∀ j, j < 4 -> ((c.getD j 0 : Nat) : Int) <= 52 := fun j hj => by
     have := kJ cl
     match j, hj with
     | 0, _ => omega
     | 1, _ => omega
     | 2, _ => omega
     | 3, _ => omega
    have c0 := c52 0 (by omega)
    refine ⟨_, rfl, r, zz c, rfl, bj.of ae, ?_⟩
    rw [jE]
    refine ⟨_, rfl, _, rfl, _, rfl, r, dl c, _, _, rfl, rfl, bj.of ae, bn (i := 0) rfl (by omega) 0, _, _, rfl, rfl, .inr ⟨by omega, by omega⟩, _, rfl, _, _, rfl, rfl, ⟨by omega, by omega⟩, ?_⟩
    refine ⟨fun mm σ' H' => ∃ y : Nat, mm = z - y /\ y <= z /\ σ' = [some (.ref a), some (.int n), some (.ref q), some (.ref r), some (.int (words c : Nat)), some (.int ((m - Vbbraa.sum ((List.range y).map (wordsWith c)) : Nat) : Int)), some (.int (0 + (i : Int))), some (.int (Vbbraa.sum c : Nat)), some (.int (y : Nat)), some (.int (wordsWith c y : Nat))] /\
     H' = aU (aU H1 q (.lst (dl ((Vbbraa.nth d n).take i ++ d.drop i)))) r (.lst (dl c)), ⟨z - 0, 0, rfl, Nat.zero_le _, ?_, rfl⟩, ?_⟩
    ·show [some (V.ref a), some (V.int n), some (V.ref q), some (V.ref r), some (V.int ((words c : Nat) : Int)), some (V.int ((m : Nat) : Int)), some (V.int (0 + (i : Int))), some (V.int ((Vbbraa.sum c : Nat) : Int)), some (V.int 0), some (V.int (((words c : Nat) : Int) * ((c.getD 0 0 : Nat) : Int) / ((Vbbraa.sum c : Nat) : Int)))] = _
     rw [kN sp]
     rfl
    ·rintro mm σ' H' ⟨y, rfl, hy, rfl, rfl⟩
     have mono : ∀ u v : Nat, u <= v -> Vbbraa.sum ((List.range u).map (wordsWith c)) <= Vbbraa.sum ((List.range v).map (wordsWith c)) := fun u v huv => by
      induction v with
      | zero =>
        rw [Nat.le_zero.mp huv]
        exact Nat.le_refl _
      | succ v ih =>
        by_cases q2 : u = v + 1
        ·rw [q2]
         exact Nat.le_refl _
        ·have := ih (by omega)
         rw [de]
         omega
     have my := mono y z hy
     refine ⟨_, rfl, _, rfl, _, _, rfl, rfl, _, rfl, bq (fun h2 => ?_) (fun h2 => ?_)⟩
     ·have h2 := of_decide_eq_true h2
      have lt : y < z := by
       rcases Nat.lt_or_ge y z with q2 | q2
       ·exact q2
       ·have ez : y = z := by omega
        subst ez
        omega
      have my1 := mono (y + 1) z lt
      rw [de] at my1
      have cy := c52 (y + 1) (by omega)
      refine ⟨fun σ' H' => ∃ y' : Nat, z - y' < z - y /\ y' <= z /\ σ' = [some (.ref a), some (.int n), some (.ref q), some (.ref r), some (.int (words c : Nat)), some (.int ((m - Vbbraa.sum ((List.range y').map (wordsWith c)) : Nat) : Int)), some (.int (0 + (i : Int))), some (.int (Vbbraa.sum c : Nat)), some (.int (y' : Nat)), some (.int (wordsWith c y' : Nat))] /\
       H' = aU (aU H1 q (.lst (dl ((Vbbraa.nth d n).take i ++ d.drop i)))) r (.lst (dl c)), fun σ' H' ⟨y', a1, a2, a3, a4⟩ => ⟨z - y', a1, y', rfl, a2, a3, a4⟩, ?_⟩
      refine ⟨_, rfl, _, rfl, _, _, rfl, rfl, _, rfl, _, _, rfl, rfl, _, rfl, _, rfl, _, rfl, r, dl c, _, _, rfl, rfl, bj.of ae, bn (i := y + 1) rfl (by omega) 0, _, _, rfl, rfl, .inr ⟨by omega, by omega⟩, _, rfl, _, _, rfl, rfl, ⟨by omega, by omega⟩, y + 1, by omega, lt, ?_, rfl⟩
      show [some (V.ref a), some (V.int n), some (V.ref q), some (V.ref r), some (V.int ((words c : Nat) : Int)), some (V.int (((m - Vbbraa.sum ((List.range y).map (wordsWith c)) : Nat) : Int) - ((wordsWith c y : Nat) : Int))), some (V.int (0 + (i : Int))), some (V.int ((Vbbraa.sum c : Nat) : Int)), some (V.int ((y : Int) + 1)), some (V.int (((words c : Nat) : Int) * ((c.getD (y + 1) 0 : Nat) : Int) / ((Vbbraa.sum c : Nat) : Int)))] = _
      rw [kN sp, de, show ((m - Vbbraa.sum ((List.range y).map (wordsWith c)) : Nat) : Int) - ((wordsWith c y : Nat) : Int) = ((m - (Vbbraa.sum ((List.range y).map (wordsWith c)) + wordsWith c y) : Nat) : Int) by omega]
      rfl
     ·have h2 : ¬ ((wordsWith c y : Nat) : Int) <= ((m - Vbbraa.sum ((List.range y).map (wordsWith c)) : Nat) : Int) := fun q2 => h2 (decide_eq_true q2)
      have ez : y = z := by
       rcases Nat.lt_or_ge y z with q2 | q2
       ·have my1 := mono (y + 1) z q2
        rw [de] at my1
        omega
       ·omega
      subst ez
      have cz := c52 y p1
      refine ⟨_, rfl, _, rfl, _, rfl, q, _, _, i, rfl, rfl, (by rw [ak hqr, ae]), nL ei (by rw [aG, List.length_append, List.length_take, List.length_drop]; omega), ?_⟩
      have er : ∀ o : HO, aU (aU (aU H1 q (.lst (dl ((Vbbraa.nth d n).take i ++ d.drop i)))) r (.lst (dl c))) q o r = some (.lst (dl c)) := fun o => by rw [ak (Ne.symm hqr), ae]
      refine ⟨_, rfl, ?_⟩
      refine ⟨_, rfl, _, rfl, r, dl c, _, y, _, rfl, rfl, bj.of (er _), rfl, zj (by omega) 0, _, _, rfl, rfl, r, dl c, _, y, rfl, rfl, er _, nL rfl (by rw [aG]; omega), less c y, m2, some (.int (0 + (i : Int))), some (.int (Vbbraa.sum c : Nat)), some (.int (y : Nat)), some (.int (wordsWith c y : Nat)), ?_, ?_, nxt⟩
      ·rw [<- ib p2, show m - Vbbraa.sum ((List.range y).map (wordsWith c)) = m2 by omega]
       rfl
      ·funext x
       by_cases hx : x = r
       ·subst hx
        rw [ae, ae, wd, <- kC]
        congr 3
        show V.int (((c.getD y 0 : Nat) : Int) - 1) = _
        congr 1
        omega
       ·rw [ak hx, ak hx]
        by_cases hx2 : x = q
        ·subst hx2
         rw [ae, ae, kC, pA at_ (by omega)]
        ·rw [ak hx2, ak hx, ak hx2, ak hx2]
   ·have h1 : d.getD i 4 ≠ 4 := fun z => gb h1 (by rw [z]; rfl)
    obtain ⟨nxt, at_⟩ := fa.skip ld hi h1
    refine ⟨c, m, _, _, _, _, rfl, ?_, nxt⟩
    have e2 : (Vbbraa.nth d n).take (i + 1) ++ d.drop (i + 1) = (Vbbraa.nth d n).take i ++ d.drop i := by
     rw [List.take_add_one, at_, dH (l := d) (i := i) (by omega) 4]
     simp
    rw [e2]
  ·rintro σ' H' ⟨c, m, v6, v7, v8, v9, rfl, rfl, fa⟩
   refine ⟨_, rfl, k _ q ⟨sm _ _, hq, ?_⟩⟩
   rw [ak hqr, ae, List.drop_of_length_le (by omega), List.append_nil, List.take_of_length_le (by omega)]
end
end Db
end
section
namespace Db
open PySem PySem.Spec PyProof.Rows L2
open Vbbraa (Deal countOf room words fits unknown isWhole)
def rf (a : Addr) (p : Int) (dd : Addr) : List (Str × V) := dO "deal" (.ref dd) (dO "at" (.int p) (dO "text" (.ref a) []))
theorem rb (a : Addr) (p : Int) (dd : Addr) : (rf a p dd).lookup ("text" : Str) = some (.ref a) := by
 unfold rf
 rw [bA, if_neg (by decide +kernel), bA, if_neg (by decide +kernel), bA, if_pos rfl]
theorem f8 (a : Addr) (p : Int) (dd : Addr) : (rf a p dd).lookup ("at" : Str) = some (.int p) := by
 unfold rf
 rw [bA, if_neg (by decide +kernel), bA, if_pos rfl]
theorem kQ (a : Addr) (p : Int) (dd : Addr) : (rf a p dd).lookup ("deal" : Str) = some (.ref dd) := by
 unfold rf
 rw [bA, if_pos rfl]
theorem fO (a : Addr) (p : Int) (dd : Addr) {m : Str} (h1 : ¬ m = "deal") (h2 : ¬ m = "at") (h3 : ¬ m = "text") : (rf a p dd).lookup m = none := by
 unfold rf
 rw [bA, if_neg h1, bA, if_neg h2, bA, if_neg h3]
 rfl
theorem rc (a : Addr) (p : Int) (dd : Addr) : rf a p dd = [(("text" : Str), V.ref a), (("at" : Str), V.int p), (("deal" : Str), V.ref dd)] := by
 unfold rf
 show dO "deal" (.ref dd) (dO "at" (.int p) [(("text" : Str), V.ref a)]) = _
 rw [show dO "at" (.int p) [(("text" : Str), V.ref a)] = [(("text" : Str), V.ref a), (("at" : Str), V.int p)] by
  show (if ("text" : Str) = "at" then _ else (("text" : Str), V.ref a) :: dO "at" (.int p) []) = _
  rw [if_neg (by decide +kernel)]
  rfl]
 show (if ("text" : Str) = "deal" then _ else (("text" : Str), V.ref a) :: (if ("at" : Str) = "deal" then _ else (("at" : Str), V.int p) :: dO "deal" (.ref dd) [])) = _
 rw [if_neg (by decide +kernel), if_neg (by decide +kernel)]
 rfl
theorem ow (a : Addr) (p q : Int) (dd : Addr) : dO "at" (.int q) (rf a p dd) = rf a q dd := by
 rw [rc, rc]
 show (if ("text" : Str) = "at" then _ else (("text" : Str), V.ref a) :: (if ("at" : Str) = "at" then (("at" : Str), V.int q) :: _ else _)) = _
 rw [if_neg (by decide +kernel), if_pos rfl]
theorem oy (a : Addr) (p : Int) (dd : Addr) : (rf a p dd).length < 1000 := by
 rw [rc]
 show 3 < 1000
 omega
theorem rg {n : Str} {v : V} (fs : List (Str × V)) (h : fs.length + 1 < 1000) : (dO n v fs).length < 1000 := Nat.lt_of_le_of_lt (jA _ _ _) h
structure RD (K : W.Frag) (CT : Addr) (H : Hp) (rd dx a dd : Addr) (t : List Nat) (p : Nat) (d : Deal) : Prop where
 ins : H rd = some (.ins CT dx (rf a p dd))
 text : H a = some (.lst (dl t))
 deal : H dd = some (.lst (dl d))
 ne : dd ≠ a
 good : bB d
 short : t.length <= 200
def KB (rd dd : Addr) (H H' : Hp) : Prop := ∀ b o, H b = some o -> b ≠ rd -> b ≠ dd -> H' b = some o
theorem KB.refl (rd dd : Addr) (H : Hp) : KB rd dd H H := fun _ _ e _ _ => e
theorem KB.trans {rd dd : Addr} {H H1 H2 : Hp} (a : KB rd dd H H1) (b : KB rd dd H1 H2) : KB rd dd H H2 := fun c o e n m => b c o (a c o e n m) n m
theorem KB.same {rd dd : Addr} {H H1 H2 : Hp} (a : KB rd dd H H1) (b : ax H1 H2) : KB rd dd H H2 := fun c o e n m => b c o (a c o e n m)
section
variable {K : W.Frag} {CT : Addr} {H H' : Hp} {rd dx a dd : Addr} {t : List Nat} {p : Nat} {d : Deal}
theorem RD.same (r : RD K CT H rd dx a dd t p d) (s : ax H H') : RD K CT H' rd dx a dd t p d := ⟨s _ _ r.ins, s _ _ r.text, s _ _ r.deal, r.ne, r.good, r.short⟩
theorem RD.rd_ne (r : RD K CT H rd dx a dd t p d) : dd ≠ rd := eW r.deal r.ins (by intro z; cases z)
theorem RD.go (r : RD K CT H rd dx a dd t p d) (q : Nat) : RD K CT (aU H rd (.ins CT dx (rf a q dd))) rd dx a dd t q d :=
 ⟨ae, by rw [ak (eW r.text r.ins (by intro z; cases z))]; exact r.text, by rw [ak r.rd_ne]; exact r.deal, r.ne, r.good, r.short⟩
theorem RD.go_keeps (r : RD K CT H rd dx a dd t p d) (o : HO) : KB rd dd H (aU H rd o) := fun b u e n _ => by
 rw [ak n]
 exact e
theorem RD.put (r : RD K CT H rd dx a dd t p d) {d' : Deal} (g : bB d') : RD K CT (aU H dd (.lst (dl d'))) rd dx a dd t p d' :=
 ⟨by rw [ak (Ne.symm r.rd_ne)]; exact r.ins, by rw [ak (Ne.symm r.ne)]; exact r.text, ae, r.ne, g, r.short⟩
theorem RD.put_keeps (r : RD K CT H rd dx a dd t p d) (o : HO) : KB rd dd H (aU H dd o) := fun b u e _ n => by
 rw [ak n]
 exact e
end
structure xZ (K : W.Frag) (CT : Addr) : Prop where
 cl : ue K CT
 n_text : fu K CT "text"
 n_at : fu K CT "at"
 n_deal : fu K CT "deal"
def dQ (CF rd dd : Addr) (E : XK) (H : Hp) (k p : Nat) : Prop := ∀ (xd : Addr) (H' : Hp), KB rd dd H H' -> H' xd = some (.xd [("place", .int p), ("kind", .int k)]) -> E (.ref CF) (some xd) H'
theorem dQ.of {CF rd dd : Addr} {E : XK} {H H1 : Hp} {k p : Nat} (f : dQ CF rd dd E H k p) (h : KB rd dd H H1) : dQ CF rd dd E H1 k p := fun xd H' kb e => f xd H' (h.trans kb) e
theorem qo {x : Str} {g : TG} {tb : TS} {D : sj} {σ : L2.St} {H : Hp} (Pv : Nat -> L2.St -> Hp -> Prop) (h0 : Pv 0 σ H)
 (hs : ∀ i c T σ H, x.cps[i]? = some c -> H T = none -> Pv i σ H -> g (.ref T) σ (aU H T (.tup [.int (i : Nat), .str ⟨#[c]⟩])) fun σ2 H2 => tb { D with nx := Pv (i + 1), ct := Pv (i + 1), bk := D.nx } σ2 H2) (hd : ∀ σ H, Pv x.cps.size σ H -> D.nx σ H) :
 ∃ W : Nat -> Nat -> L2.St -> Hp -> Prop, (∃ m, W 0 m σ H) /\ ∀ i m σ H, W i m σ H ->
  ((zF x).stop i H /\ D.nx σ H) \/ ((zF x).go i H /\ ∃ N : L2.St -> Hp -> Prop, (∀ σ' H', N σ' H' -> ∃ m', m' < m /\ W (i + 1) m' σ' H') /\ ∀ v H', (zF x).yld i H v H' -> g v σ H' fun σ2 H2 => tb { D with nx := N, ct := N, bk := D.nx } σ2 H2) := by
 refine ⟨fun i m σ H => Pv i σ H /\ i <= x.cps.size /\ m = x.cps.size - i, ⟨_, h0, Nat.zero_le _, rfl⟩, fun i m σ H ⟨hP, hle, hm⟩ => ?_⟩
 by_cases hi : i < x.cps.size
 ·refine .inr ⟨hi, Pv (i + 1), fun σ' H' h => ⟨_, ?_, h, hi, rfl⟩, fun v H' hy => ?_⟩
  ·omega
  ·obtain ⟨T, c, rfl, hT, rfl, hc⟩ := hy
   exact hs i c T σ H hc hT hP
 ·have e : i = x.cps.size := by omega
  subst e
  exact .inl ⟨Nat.le_refl _, hd σ H hP⟩
section
variable (K : W.Frag) (CT CF : Addr)
def nZ : Sp := fun vs H Q _ => ∃ (rd dx a : Addr) (t : List Nat), vs = [.ref rd, .ref a] /\ H rd = some (.ins CT dx []) /\ H a = some (.lst (dl t)) /\ t.length <= 200 /\
 ∀ H' dd, RD K CT H' rd dx a dd t 0 unknown -> H dd = none -> (∀ b o, H b = some o -> b ≠ rd -> H' b = some o) -> Q .non H'
def gw : Sp := fun vs H Q _ => ∃ (rd dx a dd : Addr) (t : List Nat) (p : Nat) (d : Deal) (c : Nat), vs = [.ref rd, .str ⟨#[c]⟩] /\ RD K CT H rd dx a dd t p d /\ Q (.bl (decide (t[p]? = some c))) H
def kR (t : List Nat) (p : Nat) : V := match dI t p with
 | none => .non
 | some k => .int k
def uv : Sp := fun vs H Q _ => ∃ (rd dx a dd : Addr) (t : List Nat) (p : Nat) (d : Deal), vs = [.ref rd] /\ RD K CT H rd dx a dd t p d /\ ∀ H', ax H H' -> Q (kR t p) H'
def qR : Sp := fun vs H Q E => ∃ (rd dx a dd : Addr) (t : List Nat) (p : Nat) (d : Deal) (c : Nat), vs = [.ref rd, .str ⟨#[c]⟩] /\ RD K CT H rd dx a dd t p d /\
 if t[p]? = some c then ∀ H', RD K CT H' rd dx a dd t (p + 1) d -> KB rd dd H H' -> Q .non H' else dQ CF rd dd E H 1 p
def uu : Sp := fun vs H Q E => ∃ (rd dx a dd : Addr) (t : List Nat) (p : Nat) (d : Deal), vs = [.ref rd] /\ RD K CT H rd dx a dd t p d /\
 match (t[p]?).bind fun c => Vbbraa.seatSigns.findIdx? fun x => x == c with
 | some k => ∀ H', RD K CT H' rd dx a dd t (p + 1) d -> KB rd dd H H' -> Q (.int (k : Nat)) H'
 | none => dQ CF rd dd E H 1 p
def qQ : Sp := fun vs H Q E => ∃ (rd dx a dd : Addr) (t : List Nat) (p : Nat) (d : Deal) (s c : Nat), vs = [.ref rd, .int s, .int c] /\ RD K CT H rd dx a dd t p d /\ s < 4 /\ c < 52 /\
 if d.getD c 4 ≠ 4 then dQ CF rd dd E H 3 p else if 13 <= countOf d s then dQ CF rd dd E H 4 p else ∀ H', RD K CT H' rd dx a dd t (p + 1) (d.set c s) -> KB rd dd H H' -> Q .non H'
def qP : Sp := fun vs H Q E => ∃ (rd dx a dd : Addr) (t : List Nat) (p : Nat) (d : Deal) (s u : Nat), vs = [.ref rd, .int s, .int u] /\ RD K CT H rd dx a dd t p d /\ s < 4 /\ u < 4 /\
 match Vbbraa.readRanks (t.drop p) d s u 13 p with
 | .error e => dQ CF rd dd E H e.1 e.2
 | .ok x => ∀ H', RD K CT H' rd dx a dd t x.2.2 x.1 -> KB rd dd H H' -> Q .non H'
def ux : Sp := fun vs H Q E => ∃ (rd dx a dd : Addr) (t : List Nat) (p : Nat) (d : Deal) (s : Nat), vs = [.ref rd, .int s] /\ RD K CT H rd dx a dd t p d /\ s < 4 /\
 match ph t d s p with
 | .error e => dQ CF rd dd E H e.1 e.2
 | .ok x => ∀ H', RD K CT H' rd dx a dd t x.2 x.1 -> KB rd dd H H' -> Q .non H'
def qU : Sp := fun vs H Q E => ∃ (rd dx a dd : Addr) (t : List Nat) (p : Nat) (d : Deal) (s : Nat), vs = [.ref rd, .int s] /\ RD K CT H rd dx a dd t p d /\ s < 4 /\
 match iZ t d s p with
 | .error e => dQ CF rd dd E H e.1 e.2
 | .ok x => ∀ H', RD K CT H' rd dx a dd t x.2 x.1 -> KB rd dd H H' -> Q .non H'
def yo : Sp := fun vs H Q E => ∃ (rd dx a dd : Addr) (t : List Nat) (p : Nat) (d : Deal), vs = [.ref rd] /\ RD K CT H rd dx a dd t p d /\ if t.length <= p then Q .non H else dQ CF rd dd E H 1 p
end
section
variable {P : Program} {w : World} {K : W.Frag} {mg : Str -> Option Value} {base : Heap} {CF CT NF fIF : Addr} {ta : Str -> Addr}
theorem kq {f : Addr} {fd : FuncData} (F : b7 K "__init__" "TextReader.__init__" cY f fd) (T : Tx K mg CF ta) (c_TextReader : xZ K CT) (C_nothing_known : ck P w K mg base aT 1 "nothing_known" [] spNK) :
 aP P w K mg base aT 2 f fd ["self", "text"] (nZ K CT) := by
 refine F.ok j9 (fun vs H Q E h => ?_) (fun cdv A outer s H vs Q E hr h => ?_)
 ·obtain ⟨_, _, _, _, rfl, _⟩ := h
  rfl
 ·obtain ⟨rd, dx, a, t, rfl, hi, ha, ht, k⟩ := h
  refine ⟨_, (ac (oB (pv 0) (pv 1) rfl)
   (ac (oB (pv 0) aj rfl)
   (ah (oB (pv 0) (fq C_nothing_known (hr.mono (by decide)) ay) rfl)))), ?_⟩
  refine ⟨_, rfl, _, rfl, rd, CT, dx, _, rfl, hi, c_TextReader.cl, c_TextReader.n_text, by decide, ?_⟩
  refine ⟨_, rfl, rd, CT, dx, _, rfl, ae, c_TextReader.cl, c_TextReader.n_at, rg _ (by show 0 + 1 < 1000; omega), ?_⟩
  refine ⟨rfl, fun H1 dd ⟨s1, n1, e1⟩ => ⟨_, rfl, rd, CT, dx, _, rfl, s1 _ _ ae, c_TextReader.cl, c_TextReader.n_deal, rg _ (by rw [show dO "text" (V.ref a) [] = [(("text" : Str), V.ref a)] from rfl]; show 1 + 1 < 1000; omega), ?_⟩⟩
  have nrd : H rd ≠ none := by rw [hi]; simp
  have ndd : dd ≠ rd := fun z => by
   rw [z, ae] at n1
   cases n1
  have n0 : H dd = none := by
   rw [ak ndd, ak ndd] at n1
   exact n1
  have nar : a ≠ rd := eW ha hi (by intro z; cases z)
  refine k _ dd ⟨ae, ?_, ?_, fun z => ?_, aY, ht⟩ n0 (fun b o e n => ?_)
  ·rw [ak nar]
   exact s1 _ _ (by rw [ak nar, ak nar]; exact ha)
  ·rw [ak ndd]
   exact e1
  ·rw [z] at n0
   rw [n0] at ha
   cases ha
  ·rw [ak n]
   exact s1 _ _ (by rw [ak n, ak n]; exact e)
end
end Db
end
section
namespace Db
open PySem PySem.Spec PyProof.Rows L2
open Vbbraa (Deal countOf room words fits unknown isWhole)
section
variable {K : W.Frag} {CT : Addr} {H H' : Hp} {rd dx a dd : Addr} {t : List Nat} {p : Nat} {d : Deal}
theorem RD.sqT (r : RD K CT H rd dx a dd t p d) : bj K H a (dl t) := .inl (.inl r.text)
theorem RD.sqD (r : RD K CT H rd dx a dd t p d) : bj K H dd (dl d) := .inl (.inl r.deal)
theorem dQ.new {CF : Addr} {E : XK} {k p : Nat} {H H1 : Hp} (f : dQ CF rd dd E H k p) (kb : KB rd dd H H1) : ∀ xd, H1 xd = none -> E (.ref CF) (some xd) (aU H1 xd (.xd [("place", .int p), ("kind", .int k)])) := fun xd h => f xd _ (kb.same (ax.new h)) ae
end
theorem wb {l t : List Nat} {p i c : Nat} (h : t[p]? = some c) (hi : l[i]? = some c) (hj : ∀ j, j < i -> t[p]? ≠ l[j]?) : ((t[p]?).bind fun c => l.findIdx? fun x => x == c) = some i := by
 rw [h]
 exact wz i hi fun j jl e => hj j jl (by rw [h, e])
theorem wa {l t : List Nat} {p : Nat} (hj : ∀ j, j < l.length -> t[p]? ≠ l[j]?) : ((t[p]?).bind fun c => l.findIdx? fun x => x == c) = none := by
 cases h : t[p]? with
 | none => rfl
 | some c => exact wy fun j jl e => hj j jl (by rw [h, e])
theorem sV {i c : Nat} (h : (Str.ofString "23456789TJQKA").cps[i]? = some c) : Vbbraa.signs[i]? = some c := by
 rw [show (Str.ofString "23456789TJQKA").cps = Vbbraa.signs.toArray by decide +kernel] at h
 simpa using h
theorem sP {i c : Nat} (h : (Str.ofString "NESW").cps[i]? = some c) : Vbbraa.seatSigns[i]? = some c := by
 rw [show (Str.ofString "NESW").cps = Vbbraa.seatSigns.toArray by decide +kernel] at h
 simpa using h
section
variable {P : Program} {w : World} {K : W.Frag} {mg : Str -> Option Value} {base : Heap} {CF CT NF fIF : Addr} {ta : Str -> Addr}
theorem gR {f : Addr} {fd : FuncData} (F : b7 K "stands_here" "TextReader.stands_here" bw f fd) (T : Tx K mg CF ta) (c_TextReader : xZ K CT) :
 aP P w K mg base aT 1 f fd ["self", "sign"] (gw K CT) := by
 refine F.ok gQ (fun vs H Q E h => ?_) (fun cdv A outer s H vs Q E hr h => ?_)
 ·obtain ⟨_, _, _, _, _, _, _, _, rfl, _⟩ := h
  rfl
 ·obtain ⟨rd, dx, a, dd, t, p, d, c, rfl, r, k⟩ := h
  refine ⟨_, (ah (aq (rq (fH oI (bQ (pv 0) rfl) (aO aV rfl T.n_len (by decide +kernel) (aa (bQ (pv 0) rfl) ad)) (aJ _)) (uM (fH fh (aA am (bQ (pv 0) rfl) (bQ (pv 0) rfl) (fun _ _ => rfl)) (aO t5 rfl T.n_ord (by decide +kernel) (aa (pv 1) ad)) (aJ _)))))), ?_⟩
  refine ⟨_, rfl, rd, CT, dx, _, _, rfl, r.ins, c_TextReader.cl, c_TextReader.n_at, f8 _ _ _, _, rfl, rd, CT, dx, _, _, rfl, r.ins, c_TextReader.cl, c_TextReader.n_text, rb _ _ _, a, dl t, rfl, .inl r.sqT, _, _, rfl, rfl, _, rfl, bq (fun h1 => ?_) (fun h1 => ?_)⟩
  ·have h2 : p < t.length := by
    have := of_decide_eq_true h1
    rw [aG] at this
    omega
   refine ⟨_, rfl, rd, CT, dx, _, _, rfl, r.ins, c_TextReader.cl, c_TextReader.n_text, rb _ _ _, _, rfl, rd, CT, dx, _, _, rfl, r.ins, c_TextReader.cl, c_TextReader.n_at, f8 _ _ _, a, dl t, _, _, rfl, rfl, r.sqT, bn rfl h2 0, _, rfl, _, rfl, rfl, rfl, ?_⟩
   have e : (decide (V.int ((t.getD p 0 : Nat) : Int) = V.int ((c : Nat) : Int))) = decide (t[p]? = some c) := by
    rw [List.getElem?_eq_getElem h2, List.getD_eq_getElem?_getD, List.getElem?_eq_getElem h2]
    by_cases z : t[p] = c
    ·simp [z]
    ·have z2 : ¬ ((t[p] : Nat) : Int) = (c : Int) := fun q => z (by omega)
     simp [z, z2]
   show Q (.bl (decide (V.int ((t.getD p 0 : Nat) : Int) = V.int ((c : Nat) : Int)))) H
   rw [e]
   exact k
  ·have h2 : ¬ p < t.length := fun z => h1 (decide_eq_true (by rw [aG]; omega))
   have e : decide (t[p]? = some c) = false := by
    rw [List.getElem?_eq_none (by omega)]
    rfl
   rw [e] at k
   exact k
theorem iV {f : Addr} {fd : FuncData} (F : b7 K "take_end" "TextReader.take_end" bW f fd) (T : Tx K mg CF ta) (c_TextReader : xZ K CT) (XC : jK K CF NF fIF "kind" "place") (XI : ja K fIF "kind" "place") :
 aP P w K mg base (f7 P w CF) 2 f fd ["self"] (yo K CT CF) := by
 refine F.okX iO (fun vs H Q E h => ?_) (fun cdv A outer s H vs Q E hr h => ?_)
 ·obtain ⟨_, _, _, _, _, _, _, rfl, _⟩ := h
  rfl
 ·obtain ⟨rd, dx, a, dd, t, p, d, rfl, r, k⟩ := h
  refine ⟨_, (ah (bf (aH oI (bQ (pv 0) rfl) (aO aV rfl T.n_len (by decide +kernel) (aa (bQ (pv 0) rfl) ad)) (aJ _)) (ah (fP XC XI hr rfl T.g_TextFault (aa (aC T.g_CANNOT_GO_ON) (aa (bQ (pv 0) rfl) ad)))) aM)), ?_⟩
  refine ⟨_, rfl, rd, CT, dx, _, _, rfl, r.ins, c_TextReader.cl, c_TextReader.n_at, f8 _ _ _, _, rfl, rd, CT, dx, _, _, rfl, r.ins, c_TextReader.cl, c_TextReader.n_text, rb _ _ _, a, dl t, rfl, .inl r.sqT, _, _, rfl, rfl, _, rfl, bq (fun h1 => ?_) (fun h1 => ?_)⟩
  ·have h2 : p < t.length := by
    have := of_decide_eq_true h1
    rw [aG] at this
    omega
   rw [if_neg (by omega)] at k
   exact ⟨_, rfl, rd, CT, dx, _, _, rfl, r.ins, c_TextReader.cl, c_TextReader.n_at, f8 _ _ _, _, _, rfl, k.new (KB.refl _ _ _)⟩
  ·have h2 : ¬ p < t.length := fun z => h1 (decide_eq_true (by rw [aG]; omega))
   rw [if_pos (by omega)] at k
   exact k
theorem iA {f : Addr} {fd : FuncData} (F : b7 K "rank_here" "TextReader.rank_here" bO f fd) (T : Tx K mg CF ta) (c_TextReader : xZ K CT) (M_TextReader_stands_here : jW P w K mg base aT 1 CT "stands_here" ["self", "sign"] (gw K CT)) :
 aP P w K mg base aT 2 f fd ["self"] (uv K CT) := by
 refine F.ok cC (fun vs H Q E h => ?_) (fun cdv A outer s H vs Q E hr h => ?_)
 ·obtain ⟨_, _, _, _, _, _, _, rfl, _⟩ := h
  rfl
 ·obtain ⟨rd, dx, a, dd, t, p, d, rfl, r, k⟩ := h
  refine ⟨_, (ac (ef PassesOwn.never rfl (sY rfl T.n_enumerate (aa (yJ T.g_RANK_SIGNS) ad)) (rj rfl (fQ (aK (i := 1) cC.nd rfl (Or.inl rfl)) (fQ (aK (i := 2) cC.nd rfl (Or.inl rfl)) nJ))) (ah (bf (cN (fR M_TextReader_stands_here c_TextReader.cl (hr.mono (by decide)) ay (pv 0) (aa (pv 2) ad))) (ah (aq (pv 1))) aM)))
   (ah (aq hX))), ?_⟩
  refine ⟨_, rfl, qo (fun i σ' H' => ∃ v u : Option V, σ' = [some (.ref rd), v, u] /\ ax H H' /\ ∀ j, j < i -> t[p]? ≠ Vbbraa.signs[j]?) ⟨none, none, rfl, fun _ _ e => e, fun j hj => absurd hj (Nat.not_lt_zero _)⟩ ?_ ?_⟩
  ·rintro i c T0 σ' H' hc hT ⟨v, u, rfl, sm, inv⟩
   have r1 := r.same (sm.trans (ax.new (o := .tup [.int (i : Nat), .str ⟨#[c]⟩]) hT))
   refine ⟨T0, _, rfl, .inl (.inl ae), rfl, _, _, rfl, _, _, rfl, rfl, _, rfl, rd, dx, _, rfl, r1.ins, fO _ _ _ (by decide +kernel) (by decide +kernel) (by decide +kernel), _, rfl, rd, dx, a, dd, t, p, d, c, rfl, r1, _, rfl, bq (fun h1 => ?_) (fun h1 => ?_)⟩
   ·have e : dI t p = some i := wb (of_decide_eq_true h1) (sV hc) inv
    have k1 := k _ (sm.trans (ax.new (o := .tup [.int (i : Nat), .str ⟨#[c]⟩]) hT))
    unfold kR at k1
    rw [e] at k1
    exact ⟨_, rfl, k1⟩
   ·refine ⟨_, _, rfl, sm.trans (ax.new hT), fun j hj => ?_⟩
    rcases Nat.lt_succ_iff_lt_or_eq.mp hj with z | z
    ·exact inv j z
    ·subst z
     rw [sV hc]
     exact fun q => h1 (decide_eq_true q)
  ·rintro σ' H' ⟨v, u, rfl, sm, inv⟩
   have e : dI t p = none := wa (l := Vbbraa.signs) inv
   have k1 := k _ sm
   unfold kR at k1
   rw [e] at k1
   exact k1
theorem iz {f : Addr} {fd : FuncData} (F : b7 K "step_over" "TextReader.step_over" bN f fd) (T : Tx K mg CF ta) (c_TextReader : xZ K CT) (XC : jK K CF NF fIF "kind" "place") (XI : ja K fIF "kind" "place")
 (M_TextReader_stands_here : jW P w K mg base aT 1 CT "stands_here" ["self", "sign"] (gw K CT)) : aP P w K mg base (f7 P w CF) 2 f fd ["self", "sign"] (qR K CT CF) := by
 refine F.okX im (fun vs H Q E h => ?_) (fun cdv A outer s H vs Q E hr h => ?_)
 ·obtain ⟨_, _, _, _, _, _, _, _, rfl, _⟩ := h
  rfl
 ·obtain ⟨rd, dx, a, dd, t, p, d, c, rfl, r, k⟩ := h
  refine ⟨_, (ac (bf (hU (cN (fR M_TextReader_stands_here c_TextReader.cl (hr.mono (by decide)) ay (pv 0) (aa (pv 1) ad)))) (ah (fP XC XI hr rfl T.g_TextFault (aa (aC T.g_CANNOT_GO_ON) (aa (bQ (pv 0) rfl) ad)))) aM)
   (ah (gr (pv 0) aj mq))), ?_⟩
  refine ⟨_, rfl, rd, dx, _, rfl, r.ins, fO _ _ _ (by decide +kernel) (by decide +kernel) (by decide +kernel), _, rfl, rd, dx, a, dd, t, p, d, c, rfl, r, _, rfl, bq (fun h1 => ?_) (fun h1 => ?_)⟩
  ·have h2 : ¬ t[p]? = some c := by simpa using h1
   rw [if_neg h2] at k
   exact ⟨_, rfl, rd, CT, dx, _, _, rfl, r.ins, c_TextReader.cl, c_TextReader.n_at, f8 _ _ _, _, _, rfl, k.new (KB.refl _ _ _)⟩
  ·have h2 : t[p]? = some c := by simpa using h1
   rw [if_pos h2] at k
   refine ⟨_, rfl, rd, CT, dx, _, _, rfl, r.ins, c_TextReader.cl, c_TextReader.n_at, f8 _ _ _, _, _, rfl, rfl, dx, _, r.ins, oy _ _ _, ?_⟩
   rw [ow]
   exact k _ (r.go (p + 1)) (r.go_keeps _)
theorem ir {f : Addr} {fd : FuncData} (F : b7 K "take_seat" "TextReader.take_seat" bJ f fd) (T : Tx K mg CF ta) (c_TextReader : xZ K CT) (XC : jK K CF NF fIF "kind" "place") (XI : ja K fIF "kind" "place")
 (M_TextReader_stands_here : jW P w K mg base aT 1 CT "stands_here" ["self", "sign"] (gw K CT)) : aP P w K mg base (f7 P w CF) 2 f fd ["self"] (uu K CT CF) := by
 refine F.okX cA (fun vs H Q E h => ?_) (fun cdv A outer s H vs Q E hr h => ?_)
 ·obtain ⟨_, _, _, _, _, _, _, rfl, _⟩ := h
  rfl
 ·obtain ⟨rd, dx, a, dd, t, p, d, rfl, r, k⟩ := h
  refine ⟨_, (ac (ef Ac rfl (sY rfl T.n_enumerate (aa (yJ T.g_SEAT_SIGNS) ad)) (rj rfl (fQ (aK (i := 1) cA.nd rfl (Or.inl rfl)) (fQ (aK (i := 2) cA.nd rfl (Or.inl rfl)) nJ))) (ah (bf (cN (fR M_TextReader_stands_here c_TextReader.cl (hr.mono (by decide)) ay (pv 0) (aa (pv 2) ad))) (ac (gr (pv 0) aj mq)
   (ah (aq (pv 1)))) aM)))
   (ah (fP XC XI hr rfl T.g_TextFault (aa (aC T.g_CANNOT_GO_ON) (aa (bQ (pv 0) rfl) ad))))), ?_⟩
  refine ⟨_, rfl, qo (fun i σ' H' => ∃ v u : Option V, σ' = [some (.ref rd), v, u] /\ ax H H' /\ ∀ j, j < i -> t[p]? ≠ Vbbraa.seatSigns[j]?) ⟨none, none, rfl, fun _ _ e => e, fun j hj => absurd hj (Nat.not_lt_zero _)⟩ ?_ ?_⟩
  ·rintro i c T0 σ' H' hc hT ⟨v, u, rfl, sm, inv⟩
   have sm1 := sm.trans (ax.new (o := .tup [.int (i : Nat), .str ⟨#[c]⟩]) hT)
   have r1 := r.same sm1
   refine ⟨T0, _, rfl, .inl (.inl ae), rfl, _, _, rfl, _, _, rfl, rfl, _, rfl, rd, dx, _, rfl, r1.ins, fO _ _ _ (by decide +kernel) (by decide +kernel) (by decide +kernel), _, rfl, rd, dx, a, dd, t, p, d, c, rfl, r1, _, rfl, bq (fun h1 => ?_) (fun h1 => ?_)⟩
   ·rw [wb (of_decide_eq_true h1) (sP hc) inv] at k
    refine ⟨_, rfl, rd, CT, dx, _, _, rfl, r1.ins, c_TextReader.cl, c_TextReader.n_at, f8 _ _ _, _, _, rfl, rfl, dx, _, r1.ins, oy _ _ _, ?_⟩
    rw [ow]
    exact ⟨_, rfl, k _ (r1.go (p + 1)) (((KB.refl _ _ _).same sm1).trans (r1.go_keeps _))⟩
   ·refine ⟨_, _, rfl, sm.trans (ax.new hT), fun j hj => ?_⟩
    rcases Nat.lt_succ_iff_lt_or_eq.mp hj with z | z
    ·exact inv j z
    ·subst z
     rw [sP hc]
     exact fun q => h1 (decide_eq_true q)
  ·rintro σ' H' ⟨v, u, rfl, sm, inv⟩
   have r1 := r.same sm
   rw [wa (l := Vbbraa.seatSigns) inv] at k
   exact ⟨_, rfl, rd, CT, dx, _, _, rfl, r1.ins, c_TextReader.cl, c_TextReader.n_at, f8 _ _ _, _, _, rfl, k.new ((KB.refl _ _ _).same sm)⟩
theorem iy {f : Addr} {fd : FuncData} (F : b7 K "take_card" "TextReader.take_card" bM f fd) (T : Tx K mg CF ta) (c_TextReader : xZ K CT) (XC : jK K CF NF fIF "kind" "place") (XI : ja K fIF "kind" "place")
 (C_room_of : ck P w K mg base aT 1 "room_of" ["deal", "seat"] (iL K)) : aP P w K mg base (f7 P w CF) 2 f fd ["self", "seat", "card"] (qQ K CT CF) := by
 refine F.okX ik (fun vs H Q E h => ?_) (fun cdv A outer s H vs Q E hr h => ?_)
 ·obtain ⟨_, _, _, _, _, _, _, _, _, rfl, _⟩ := h
  rfl
 ·obtain ⟨rd, dx, a, dd, t, p, d, z, c, rfl, r, hz, hc, k⟩ := h
  refine ⟨_, (ac (bf (aH j3 (aA am (bQ (pv 0) rfl) (pv 2) (fun _ _ => rfl)) (aC T.g_NOBODY) (aJ _)) (ah (fP XC XI hr rfl T.g_TextFault (aa (aC T.g_CARD_TOLD_BEFORE) (aa (bQ (pv 0) rfl) ad)))) aM)
   (ac (bf (aH fh (aI C_room_of (hr.mono (by decide)) ay (aa (bQ (pv 0) rfl) (aa (pv 1) ad))) aj (aJ _)) (ah (fP XC XI hr rfl T.g_TextFault (aa (aC T.g_FOURTEENTH_CARD) (aa (bQ (pv 0) rfl) ad)))) aM)
   (ac (oC (pv 1) (oH (bQ (pv 0) rfl) (pv 2) gx))
   (ah (gr (pv 0) aj mq))))), ?_⟩
  have hl : c < d.length := by rw [r.good.len]; exact hc
  refine ⟨_, rfl, rd, CT, dx, _, _, rfl, r.ins, c_TextReader.cl, c_TextReader.n_deal, kQ _ _ _, _, rfl, dd, dl d, _, _, rfl, rfl, r.sqD, bn rfl hl 4, rfl, _, rfl, bq (fun h1 => ?_) (fun h1 => ?_)⟩
  ·have h2 : d.getD c 4 ≠ 4 := fun q => hZ h1 (by rw [q]; rfl)
   rw [if_pos h2] at k
   exact ⟨_, rfl, rd, CT, dx, _, _, rfl, r.ins, c_TextReader.cl, c_TextReader.n_at, f8 _ _ _, _, _, rfl, k.new (KB.refl _ _ _)⟩
  ·have h2 : d.getD c 4 = 4 := by
    have := h8 h1
    omega
   rw [if_neg (fun q => q h2)] at k
   refine ⟨_, rfl, rd, CT, dx, _, _, rfl, r.ins, c_TextReader.cl, c_TextReader.n_deal, kQ _ _ _, _, rfl, dd, d, z, rfl, r.sqD, rfl, _, rfl, bq (fun h3 => ?_) (fun h3 => ?_)⟩
   ·have h4 := f9 h3
    rw [if_pos (by omega)] at k
    exact ⟨_, rfl, rd, CT, dx, _, _, rfl, r.ins, c_TextReader.cl, c_TextReader.n_at, f8 _ _ _, _, _, rfl, k.new (KB.refl _ _ _)⟩
   ·have h4 := gb h3
    have h5 := r.good.most z hz
    rw [if_neg (by omega)] at k
    have g1 : bB (d.set c z) := r.good.set hc (by omega) (fun _ => .inr (by omega))
    refine ⟨_, rfl, _, rfl, rd, CT, dx, _, _, rfl, r.ins, c_TextReader.cl, c_TextReader.n_deal, kQ _ _ _, _, rfl, dd, dl d, _, c, rfl, rfl, r.deal, nL rfl (by rw [aG]; exact hl), ?_⟩
    rw [kC]
    have r1 := r.put g1
    refine ⟨_, rfl, rd, CT, dx, _, _, rfl, r1.ins, c_TextReader.cl, c_TextReader.n_at, f8 _ _ _, _, _, rfl, rfl, dx, _, r1.ins, oy _ _ _, ?_⟩
    rw [ow]
    exact k _ (r1.go (p + 1)) ((r.put_keeps _).trans (r1.go_keeps _))
theorem iu {f : Addr} {fd : FuncData} (F : b7 K "take_mark" "TextReader.take_mark" bK f fd) (T : Tx K mg CF ta) (c_TextReader : xZ K CT) (XC : jK K CF NF fIF "kind" "place") (XI : ja K fIF "kind" "place")
 (M_TextReader_stands_here : jW P w K mg base aT 1 CT "stands_here" ["self", "sign"] (gw K CT)) (C_room_of : ck P w K mg base aT 1 "room_of" ["deal", "seat"] (iL K)) : aP P w K mg base (f7 P w CF) 2 f fd ["self", "seat"] (ux K CT CF) := by
 refine F.okX cB (fun vs H Q E h => ?_) (fun cdv A outer s H vs Q E hr h => ?_)
 ·obtain ⟨_, _, _, _, _, _, _, _, rfl, _⟩ := h
  rfl
 ·obtain ⟨rd, dx, a, dd, t, p, d, z, rfl, r, hz, k⟩ := h
  refine ⟨_, (ac (az (i := 2) cB.nd rfl (Or.inl rfl) (fR M_TextReader_stands_here c_TextReader.cl (hr.mono (by decide)) ay (pv 0) (aa fY ad)))
   (ac (az (i := 3) cB.nd rfl (Or.inl rfl) (fH fh (aI C_room_of (hr.mono (by decide)) ay (aa (bQ (pv 0) rfl) (aa (pv 1) ad))) aj (aJ _)))
   (ac (bf (PW.pt (lV (cN (pv 3)) (jS (cN (pv 2))))) (ah (fP XC XI hr rfl T.g_TextFault (aa (aC T.g_MARK_TOO_MUCH) (aa (bQ (pv 0) rfl) ad)))) aM)
   (ac (bf (PW.pt (lV (hU (cN (pv 3))) (jS (hU (cN (pv 2)))))) (ah (fP XC XI hr rfl T.g_TextFault (aa (aC T.g_MARK_MISSING) (aa (bQ (pv 0) rfl) ad)))) aM)
   (ah (bf (cN (pv 2)) (ah (gr (pv 0) aj mq)) aM)))))), ?_⟩
  have h13 := r.good.most z hz
  unfold ph at k
  refine ⟨_, rfl, rd, dx, _, rfl, r.ins, fO _ _ _ (by decide +kernel) (by decide +kernel) (by decide +kernel), rd, dx, a, dd, t, p, d, 63, rfl, r, ?_⟩
  refine ⟨_, rfl, rd, CT, dx, _, _, rfl, r.ins, c_TextReader.cl, c_TextReader.n_deal, kQ _ _ _, _, rfl, dd, d, z, rfl, r.sqD, rfl, ?_⟩
  by_cases hf : 13 <= countOf d z
  ·have e1 : decide (V.int (13 - (countOf d z : Nat)) = V.int 0) = true := decide_eq_true (by rw [show (13 : Int) - ((countOf d z : Nat) : Int) = 0 by omega])
   rw [e1]
   refine ⟨_, rfl, _, rfl, j1 ⟨_, rfl, _, rfl, ?_⟩⟩
   by_cases hm : t[p]? = some 63
   ·rw [decide_eq_true hm]
    rw [if_pos hm, if_pos hf] at k
    exact j1 ⟨_, rfl, rd, CT, dx, _, _, rfl, r.ins, c_TextReader.cl, c_TextReader.n_at, f8 _ _ _, _, _, rfl, k.new (KB.refl _ _ _)⟩
   ·rw [decide_eq_false hm]
    rw [if_neg hm, if_neg (by omega)] at k
    exact iE ⟨_, rfl, _, rfl, iE (iE ⟨_, rfl, _, rfl, iE (k _ r (KB.refl _ _ _))⟩)⟩
  ·have e1 : decide (V.int (13 - (countOf d z : Nat)) = V.int 0) = false := decide_eq_false (fun q => by injection q with q; omega)
   rw [e1]
   refine ⟨_, rfl, _, rfl, iE (iE ⟨_, rfl, _, rfl, j1 ⟨_, rfl, _, rfl, ?_⟩⟩)⟩
   by_cases hm : t[p]? = some 63
   ·rw [decide_eq_true hm]
    rw [if_pos hm, if_neg hf] at k
    refine iE ⟨_, rfl, _, rfl, j1 ⟨_, rfl, rd, CT, dx, _, _, rfl, r.ins, c_TextReader.cl, c_TextReader.n_at, f8 _ _ _, _, _, rfl, rfl, dx, _, r.ins, oy _ _ _, ?_⟩⟩
    rw [ow]
    exact k _ (r.go (p + 1)) (r.go_keeps _)
   ·rw [decide_eq_false hm]
    rw [if_neg hm, if_pos (by omega)] at k
    exact j1 ⟨_, rfl, rd, CT, dx, _, _, rfl, r.ins, c_TextReader.cl, c_TextReader.n_at, f8 _ _ _, _, _, rfl, k.new (KB.refl _ _ _)⟩
end
end Db
end
section
namespace Db
open PySem PySem.Spec PyProof.Rows L2
open Vbbraa (Deal countOf room words fits unknown isWhole)
section
variable {P : Program} {w : World} {K : W.Frag} {mg : Str -> Option Value} {base : Heap} {CF CT NF fIF : Addr} {ta : Str -> Addr}
theorem uG {t : List Nat} {p k : Nat} (h : dI t p = some k) : kR t p = .int k := by
 unfold kR
 rw [h]
theorem uH {t : List Nat} {p : Nat} (h : dI t p = none) : kR t p = .non := by
 unfold kR
 rw [h]
theorem iq {f : Addr} {fd : FuncData} (F : b7 K "take_suit" "TextReader.take_suit" bI f fd) (T : Tx K mg CF ta) (c_TextReader : xZ K CT) (XC : jK K CF NF fIF "kind" "place") (XI : ja K fIF "kind" "place")
 (M_TextReader_rank_here : jW P w K mg base aT 2 CT "rank_here" ["self"] (uv K CT)) (M_TextReader_take_card : jW P w K mg base (f7 P w CF) 2 CT "take_card" ["self", "seat", "card"] (qQ K CT CF))
 (C_card_of : ck P w K mg base aT 1 "card_of" ["suit", "rank"] spCard) : aP P w K mg base (f7 P w CF) 3 f fd ["self", "seat", "suit"] (qP K CT CF) := by
 refine F.okX bh (fun vs H Q E h => ?_) (fun cdv A outer s H vs Q E hr h => ?_)
 ·obtain ⟨_, _, _, _, _, _, _, _, _, rfl, _⟩ := h
  rfl
 ·obtain ⟨rd, dx, a, dd, t, p, d, z, u, rfl, r, hz, hu, k⟩ := h
  refine ⟨_, (ac (az (i := 3) bh.nd rfl (Or.inl rfl) (aC T.g_RANKS))
   (ac (az (i := 4) bh.nd rfl (Or.inl rfl) (lY M_TextReader_rank_here c_TextReader.cl (hr.mono (by decide)) ay (pv 0)))
   (ah (jr Ac (aH Ad (pv 4) hX (aJ _)) (ac (bf (aH AS (pv 4) (pv 3) (aJ _)) (ah (fP XC XI hr rfl T.g_TextFault (aa (aC T.g_RANK_NOT_BELOW) (aa (bQ (pv 0) rfl) ad)))) aM)
   (ac (d7 (fR M_TextReader_take_card c_TextReader.cl (hr.mono (by decide)) kW (pv 0) (aa (pv 1) (aa (aI C_card_of (hr.mono (by decide)) ay (aa (pv 2) (aa (pv 4) ad))) ad))))
   (ac (az (i := 3) bh.nd rfl (Or.inl rfl) (pv 4))
   (ah (az (i := 4) bh.nd rfl (Or.inl rfl) (lY M_TextReader_rank_here c_TextReader.cl (hr.mono (by decide)) ay (pv 0))))))))))), ?_⟩
  refine ⟨_, rfl, rd, dx, _, rfl, r.ins, fO _ _ _ (by decide +kernel) (by decide +kernel) (by decide +kernel), rd, dx, a, dd, t, p, d, rfl, r, fun H1 s1 => ?_⟩
  generalize hR : Vbbraa.readRanks (t.drop p) d z u 13 p = R at k
  refine ⟨fun m σ' H' => ∃ (p' : Nat) (d' : Deal) (b : Nat), σ' = [some (.ref rd), some (.int z), some (.int u), some (.int b), some (kR t p')] /\ RD K CT H' rd dx a dd t p' d' /\ KB rd dd H H' /\ Vbbraa.readRanks (t.drop p') d' z u b p' = R /\ m = t.length - p',
   ⟨_, p, d, 13, rfl, r.same s1, (KB.refl _ _ _).same s1, hR, rfl⟩, ?_⟩
  rintro m σ' H' ⟨p', d', b, rfl, r1, kb, e, rfl⟩
  cases hc : dI t p' with
  | none =>
    rw [uH hc]
    refine ⟨_, rfl, rfl, _, rfl, iE ?_⟩
    rw [vR hc] at e
    subst e
    exact k _ r1 kb
  | some c =>
    rw [uG hc]
    obtain ⟨c13, plt⟩ := pk hc
    refine ⟨_, rfl, rfl, _, rfl, ?_⟩
    rw [show (!decide (V.int (c : Int) = V.non)) = true by rfl]
    rw [vS hc] at e
    refine j1 ⟨fun σ' H' => ∃ (d2 : Deal), σ' = [some (.ref rd), some (.int z), some (.int u), some (.int c), some (kR t (p' + 1))] /\ RD K CT H' rd dx a dd t (p' + 1) d2 /\ KB rd dd H H' /\ Vbbraa.readRanks (t.drop (p' + 1)) d2 z u c (p' + 1) = R,
     fun σ2 H2 ⟨d2, e2, r2, kb2, q2⟩ => ⟨_, ?_, p' + 1, d2, c, e2, r2, kb2, q2, rfl⟩, ?_⟩
    ·omega
    ·refine ⟨_, rfl, _, rfl, _, _, rfl, rfl, _, rfl, bq (fun h1 => ?_) (fun h1 => ?_)⟩
     ·have h2 := of_decide_eq_true h1
      rw [if_pos (by omega)] at e
      subst e
      exact ⟨_, rfl, rd, CT, dx, _, _, rfl, r1.ins, c_TextReader.cl, c_TextReader.n_at, f8 _ _ _, _, _, rfl, dQ.new k kb⟩
     ·have h2 : ¬ b <= c := fun q => h1 (decide_eq_true (by omega))
      rw [if_neg h2] at e
      refine ⟨_, rfl, rd, dx, _, rfl, r1.ins, fO _ _ _ (by decide +kernel) (by decide +kernel) (by decide +kernel), _, rfl, _, rfl, _, rfl, u, c, rfl, rd, dx, a, dd, t, p', d', z, 13 * u + c, rfl, r1, hz, by omega, ?_⟩
      by_cases h3 : d'.getD (13 * u + c) 4 ≠ 4
      ·rw [if_pos h3] at e ⊢
       subst e
       exact dQ.of k kb
      ·rw [if_neg h3] at e ⊢
       by_cases h4 : 13 <= countOf d' z
       ·rw [if_pos h4] at e ⊢
        subst e
        exact dQ.of k kb
       ·rw [if_neg h4] at e ⊢
        intro H2 r2 kb2
        refine ⟨_, rfl, _, rfl, rd, dx, _, rfl, r2.ins, fO _ _ _ (by decide +kernel) (by decide +kernel) (by decide +kernel), rd, dx, a, dd, t, p' + 1, _, rfl, r2, fun H3 s3 => ?_⟩
        exact ⟨_, rfl, r2.same s3, (kb.trans kb2).same s3, e⟩
theorem nV {i : Nat} {x : V} (h : ([.int 3, .int 2, .int 1, .int 0] : List V)[i]? = some x) : i < 4 /\ x = .int ((3 - i : Nat) : Int) := by
 match i, h with
 | 0, h => exact ⟨by decide, by injection h with h; exact h.symm⟩
 | 1, h => exact ⟨by decide, by injection h with h; exact h.symm⟩
 | 2, h => exact ⟨by decide, by injection h with h; exact h.symm⟩
 | 3, h => exact ⟨by decide, by injection h with h; exact h.symm⟩
 | n + 4, h => simp at h
theorem iw {f : Addr} {fd : FuncData} (F : b7 K "take_hand" "TextReader.take_hand" bL f fd) (T : Tx K mg CF ta) (c_TextReader : xZ K CT) (XC : jK K CF NF fIF "kind" "place") (XI : ja K fIF "kind" "place")
 (M_TextReader_stands_here : jW P w K mg base aT 1 CT "stands_here" ["self", "sign"] (gw K CT)) (M_TextReader_take_suit : jW P w K mg base (f7 P w CF) 3 CT "take_suit" ["self", "seat", "suit"] (qP K CT CF))
 (M_TextReader_step_over : jW P w K mg base (f7 P w CF) 2 CT "step_over" ["self", "sign"] (qR K CT CF)) (M_TextReader_take_mark : jW P w K mg base (f7 P w CF) 2 CT "take_mark" ["self", "seat"] (ux K CT CF)) :
 aP P w K mg base (f7 P w CF) 4 f fd ["self", "seat"] (qU K CT CF) := by
 refine F.okX em (fun vs H Q E h => ?_) (fun cdv A outer s H vs Q E hr h => ?_)
 ·obtain ⟨_, _, _, _, _, _, _, _, rfl, _⟩ := h
  rfl
 ·obtain ⟨rd, dx, a, dd, t, p, d, z, rfl, r, hz, k⟩ := h
  refine ⟨_, (ah (bf (cN (fR M_TextReader_stands_here c_TextReader.cl (hr.mono (by decide)) ay (pv 0) (aa fY ad))) (ah (gr (pv 0) aj mq)) (ac (ef Ac rfl (oG (mK T.g_SUITS_AS_TOLD)) (aK (i := 2) em.nd rfl (Or.inl rfl)) (ac (d7 (fR M_TextReader_take_suit c_TextReader.cl (hr.mono (by decide)) kW (pv 0) (aa (pv 1) (aa (pv 2) ad))))
   (ah (bf (aH j3 (pv 2) (aC T.g_CLUBS) (aJ _)) (ah (d7 (fR M_TextReader_step_over c_TextReader.cl (hr.mono (by decide)) kW (pv 0) (aa fY ad)))) aM))))
   (ah (d7 (fR M_TextReader_take_mark c_TextReader.cl (hr.mono (by decide)) kW (pv 0) (aa (pv 1) ad))))))), ?_⟩
  unfold iZ at k
  refine ⟨_, rfl, rd, dx, _, rfl, r.ins, fO _ _ _ (by decide +kernel) (by decide +kernel) (by decide +kernel), rd, dx, a, dd, t, p, d, 45, rfl, r, _, rfl, bq (fun h1 => ?_) (fun h1 => ?_)⟩
  ·rw [if_pos (of_decide_eq_true h1)] at k
   refine ⟨_, rfl, rd, CT, dx, _, _, rfl, r.ins, c_TextReader.cl, c_TextReader.n_at, f8 _ _ _, _, _, rfl, rfl, dx, _, r.ins, oy _ _ _, ?_⟩
   rw [ow]
   exact k _ (r.go (p + 1)) (r.go_keeps _)
  ·rw [if_neg (fun q => h1 (decide_eq_true q))] at k
   generalize hR : Vbbraa.readSuits 4 (t.drop p) d z p = R at k
   refine ⟨ta "SUITS_AS_TOLD", rfl, ⟨_, T.g_SUITS_AS_TOLD.sqT H⟩, wp (K := K) (a := ta "SUITS_AS_TOLD") (xs := [.int 3, .int 2, .int 1, .int 0]) (fun i σ' H' => ∃ (v : Option V) (p' : Nat) (d' : Deal), σ' = [some (.ref rd), some (.int z), v] /\ RD K CT H' rd dx a dd t p' d' /\ KB rd dd H H' /\
    (i < 4 -> Vbbraa.readSuits (4 - i) (t.drop p') d' z p' = R) /\ (i = 4 -> ∃ l, R = .ok (d', l, p'))) ⟨none, p, d, rfl, r, KB.refl _ _ _, fun _ => hR, fun q => absurd q (by decide)⟩ (fun i σ' H' _ _ => T.g_SUITS_AS_TOLD.sqT H') (fun i x σ' H' hx hP => ?_) (fun σ' H' hP => ?_)⟩
   ·obtain ⟨hi, rfl⟩ := nV hx
    obtain ⟨v, p', d', rfl, r1, kb, inv, _⟩ := hP
    have e := inv hi
    rw [show 4 - i = (3 - i) + 1 by omega, vQ] at e
    refine ⟨_, rfl, rd, dx, _, rfl, r1.ins, fO _ _ _ (by decide +kernel) (by decide +kernel) (by decide +kernel), _, rfl, _, rfl, rd, dx, a, dd, t, p', d', z, 3 - i, rfl, r1, hz, by omega, ?_⟩
    cases e1 : Vbbraa.readRanks (t.drop p') d' z (3 - i) 13 p' with
    | error y =>
      rw [e1] at e
      subst e
      exact dQ.of k kb
    | ok y =>
      rw [e1] at e
      intro H2 r2 kb2
      have e2 : (if 3 - i = 0 then (.ok y : Except (Nat × Nat) (Deal × Vbbraa.Bytes × Nat)) else if t[y.2.2]? = some 46 then Vbbraa.readSuits (3 - i) (t.drop (y.2.2 + 1)) y.1 z (y.2.2 + 1) else .error (1, y.2.2)) = R := e
      refine ⟨_, rfl, rfl, _, rfl, bq (fun h3 => ?_) (fun h3 => ?_)⟩
      ·have h4 : 3 - i ≠ 0 := fun q => hZ h3 (by rw [q]; rfl)
       rw [if_neg h4] at e2
       refine ⟨_, rfl, rd, dx, _, rfl, r2.ins, fO _ _ _ (by decide +kernel) (by decide +kernel) (by decide +kernel), rd, dx, a, dd, t, _, _, 46, rfl, r2, ?_⟩
       by_cases h5 : t[y.2.2]? = some 46
       ·rw [if_pos h5] at e2 ⊢
        exact fun H3 r3 kb3 => ⟨_, _, _, rfl, r3, (kb.trans kb2).trans kb3, fun q => by rw [show 4 - (i + 1) = 3 - i by omega]; exact e2, fun q => absurd q (by omega)⟩
       ·rw [if_neg h5] at e2 ⊢
        subst e2
        exact dQ.of k (kb.trans kb2)
      ·have h4 : 3 - i = 0 := by
        have := h8 h3
        omega
       rw [if_pos h4] at e2
       exact ⟨_, _, _, rfl, r2, kb.trans kb2, fun q => absurd q (by omega), fun _ => ⟨y.2.1, e2.symm⟩⟩
   ·obtain ⟨v, p', d', rfl, r1, kb, _, inv⟩ := hP
    obtain ⟨l, rfl⟩ := inv rfl
    refine ⟨_, rfl, rd, dx, _, rfl, r1.ins, fO _ _ _ (by decide +kernel) (by decide +kernel) (by decide +kernel), _, rfl, rd, dx, a, dd, t, p', d', z, rfl, r1, hz, ?_⟩
    have k1 : match ph t d' z p' with
     | .error e => dQ CF rd dd E H e.1 e.2
     | .ok x => ∀ H', RD K CT H' rd dx a dd t x.2 x.1 -> KB rd dd H H' -> Q .non H' := k
    cases e1 : ph t d' z p' with
    | error y =>
      rw [e1] at k1
      exact dQ.of k1 kb
    | ok y =>
      rw [e1] at k1
      exact fun H2 r2 kb2 => k1 H2 r2 (kb.trans kb2)
def AL (CF : Addr) : Sp := fun vs H Q E => ∃ (a : Addr) (t : List Nat), vs = [.ref a] /\ H a = some (.lst (dl t)) /\ t.length <= 200 /\
 match Vbbraa.readDeal t with
 | .error e => ∀ (xd : Addr) (H' : Hp), ax H H' -> H' xd = some (.xd [("place", .int e.2), ("kind", .int e.1)]) -> E (.ref CF) (some xd) H'
 | .ok d => ∀ H' p, gS H H' p (dl d) -> Q (.ref p) H'
def mD (t : List Nat) (i first : Nat) (d : Deal) (p : Nat) : Except (Nat × Nat) Deal :=
 if i = 0 then b6 t 4 d first p else if i = 4 then b6 t 0 d first p else if t[p]? = some 32 then b6 t (4 - i) d ((first + i) % 4) (p + 1) else .error (1, p)
theorem vb {t : List Nat} {z q : Nat} {d : Deal} : b6 t 0 d z q = if t.length <= q then .ok d else .error (1, q) := by
 conv => lhs; unfold b6
theorem zZ {t : List Nat} {k : Nat} (h : ((t[0]?).bind fun c => Vbbraa.seatSigns.findIdx? fun x => x == c) = some k) : k < 4 := by
 cases e : t[0]? with
 | none =>
   rw [e] at h
   cases h
 | some c =>
   rw [e] at h
   have h1 : Vbbraa.seatSigns.findIdx? (fun x => x == c) = some k := h
   have := (List.findIdx?_eq_some_iff_getElem.mp h1).1
   simpa [Vbbraa.seatSigns] using this
theorem pX {first i : Nat} : ((first : Int) + (0 + (i : Nat))) % 4 = (((first + i) % 4 : Nat) : Int) := by omega
theorem va {t : List Nat} {i first q : Nat} {d : Deal} (hi : i < 4) : b6 t (4 - i) d ((first + i) % 4) q = match iZ t d ((first + i) % 4) q with
 | .error e => .error e
 | .ok x => mD t (i + 1) first x.1 x.2 := by
 rw [show 4 - i = (3 - i) + 1 by omega]
 conv => lhs; unfold b6
 cases iZ t d ((first + i) % 4) q with
 | error e => rfl
 | ok x =>
   show (if 3 - i = 0 then _ else _) = mD t (i + 1) first x.1 x.2
   unfold mD
   rw [if_neg (Nat.succ_ne_zero i)]
   by_cases h : i = 3
   ·subst h
    rw [if_pos (by decide), if_pos (by decide), vb, vb]
   ·rw [if_neg (show ¬ 3 - i = 0 by omega), if_neg (show ¬ i + 1 = 4 by omega), show ((first + i) % 4 + 1) % 4 = (first + (i + 1)) % 4 by omega, show 3 - i = 4 - (i + 1) by omega]
theorem k9 {f : Addr} {fd : FuncData} (F : b7 K "deal_from_text" "deal_from_text" dB f fd) (T : Tx K mg CF ta) (c_TextReader : xZ K CT)
 (K_TextReader : CN P w K mg base aT 2 "TextReader" CT ["self", "text"] (nZ K CT)) (M_TextReader_take_seat : jW P w K mg base (f7 P w CF) 2 CT "take_seat" ["self"] (uu K CT CF))
 (M_TextReader_step_over : jW P w K mg base (f7 P w CF) 2 CT "step_over" ["self", "sign"] (qR K CT CF)) (M_TextReader_take_hand : jW P w K mg base (f7 P w CF) 4 CT "take_hand" ["self", "seat"] (qU K CT CF))
 (M_TextReader_take_end : jW P w K mg base (f7 P w CF) 2 CT "take_end" ["self"] (yo K CT CF)) : aP P w K mg base (f7 P w CF) 5 f fd ["text"] (AL CF) := by
 refine F.okX cV (fun vs H Q E h => ?_) (fun cdv A outer s H vs Q E hr h => ?_)
 ·obtain ⟨_, _, rfl, _⟩ := h
  rfl
 ·obtain ⟨a, t, rfl, ha, ht, k⟩ := h
  refine ⟨_, (ac (az (i := 1) cV.nd rfl (Or.inl rfl) (yH K_TextReader (hr.mono (by decide)) ay (aa (pv 0) ad)))
   (ac (az (i := 2) cV.nd rfl (Or.inl rfl) (lY M_TextReader_take_seat c_TextReader.cl (hr.mono (by decide)) kW (pv 1)))
   (ac (d7 (fR M_TextReader_step_over c_TextReader.cl (hr.mono (by decide)) kW (pv 1) (aa fY ad)))
   (ac (ef Ac rfl (b9 rfl T.n_range (aa (aC T.g_SEATS) ad)) (aK (i := 3) cV.nd rfl (Or.inl rfl)) (ac (bf (aH qd (pv 3) aj (aJ _)) (ah (d7 (fR M_TextReader_step_over c_TextReader.cl (hr.mono (by decide)) kW (pv 1) (aa fY ad)))) aM)
   (ah (d7 (fR M_TextReader_take_hand c_TextReader.cl (hr.mono (by decide)) kW (pv 1) (aa (bc kh (bc ki (pv 2) (pv 3)) (aC T.g_SEATS)) ad))))))
   (ac (d7 (lY M_TextReader_take_end c_TextReader.cl (hr.mono (by decide)) kW (pv 1)))
   (ah (aq (bQ (pv 1) rfl)))))))), ?_⟩
  refine ⟨_, rfl, fun rd dx n1 n2 ne => ⟨rd, dx, a, t, rfl, ae, ?_, ht, fun H1 dd r0 nd keep => ⟨rfl, ?_⟩⟩⟩
  ·rw [ak (au ha n1), ak (au ha n2)]
   exact ha
  ·have ndd : H dd = none := by
    have z1 : dd ≠ rd := fun q => by
     rw [q, ae] at nd
     cases nd
    rw [ak z1] at nd
    have z2 : dd ≠ dx := fun q => by
     rw [q, ae] at nd
     cases nd
    rw [ak z2] at nd
    exact nd
   have s1 : ax H H1 := fun b o e => keep b o (by rw [ak (au e n1), ak (au e n2)]; exact e) (au e n1)
   have fin : ∀ {H'}, KB rd dd H1 H' -> ax H H' := fun kb b o e => kb b o (s1 b o e) (au e n1) (au e ndd)
   rw [Ci] at k
   unfold vf at k
   have flt : ∀ {q1 q2 : Nat} {H2 : Hp}, KB rd dd H1 H2 -> (∀ (xd : Addr) (H' : Hp), ax H H' -> H' xd = some (.xd [("place", .int q2), ("kind", .int q1)]) -> E (.ref CF) (some xd) H') -> dQ CF rd dd E H2 q1 q2 := fun kb kk xd H' kb2 e => kk xd H' (fin (kb.trans kb2)) e
   refine ⟨_, rfl, rd, dx, _, rfl, r0.ins, fO _ _ _ (by decide +kernel) (by decide +kernel) (by decide +kernel), rd, dx, a, dd, t, 0, unknown, rfl, r0, ?_⟩
   cases e0 : (t[0]?).bind fun c => Vbbraa.seatSigns.findIdx? fun x => x == c with
   | none =>
     rw [e0] at k
     exact flt (KB.refl _ _ _) k
   | some first =>
     rw [e0] at k
     have f4 : first < 4 := zZ e0
     intro H2 r2 kb2
     refine ⟨_, rfl, rd, dx, _, rfl, r2.ins, fO _ _ _ (by decide +kernel) (by decide +kernel) (by decide +kernel), rd, dx, a, dd, t, _, _, 58, rfl, r2, ?_⟩
     by_cases h1 : t[0 + 1]? = some 58
     ·rw [if_pos h1]
      have k0 : match (if t[1]? = some 58 then b6 t 4 unknown first 2 else .error (1, 1)) with
       | .error e => ∀ (xd : Addr) (H' : Hp), ax H H' -> H' xd = some (.xd [("place", .int e.2), ("kind", .int e.1)]) -> E (.ref CF) (some xd) H'
       | .ok d => ∀ H' p, gS H H' p (dl d) -> Q (.ref p) H' := k
      rw [if_pos h1] at k0
      intro H3 r3 kb3
      generalize hR : b6 t 4 unknown first 2 = R at k0
      refine ⟨4, rfl, by decide, by decide, dF (n := 4) (fun i σ' H' => ∃ (v : Option V) (p' : Nat) (d' : Deal), σ' = [some (.ref a), some (.ref rd), some (.int first), v] /\ RD K CT H' rd dx a dd t p' d' /\ KB rd dd H1 H' /\ mD t i first d' p' = R)
       ⟨none, 2, unknown, rfl, r3, kb2.trans kb3, hR⟩ (fun i σ' H' hi hP => ?_) (fun σ' H' hP => ?_)⟩
      ·obtain ⟨v, p', d', rfl, r4, kb4, e⟩ := hP
       have hand : ∀ {H5 : Hp} {q : Nat}, RD K CT H5 rd dx a dd t q d' -> KB rd dd H1 H5 -> b6 t (4 - i) d' ((first + i) % 4) q = R ->
        qU K CT CF [.ref rd, .int (((first + i) % 4 : Nat) : Int)] H5 (fun _ H' => ∃ (v : Option V) (p' : Nat) (d' : Deal), [some (.ref a), some (.ref rd), some (.int first), some (.int ((0 : Int) + (i : Nat)))] = [some (.ref a), some (.ref rd), some (.int first), v] /\ RD K CT H' rd dx a dd t p' d' /\ KB rd dd H1 H' /\ mD t (i + 1) first d' p' = R) E := by
        intro H5 q r5 kb5 e5
        refine ⟨rd, dx, a, dd, t, q, d', (first + i) % 4, rfl, r5, Nat.mod_lt _ (by decide), ?_⟩
        rw [va hi] at e5
        cases e6 : iZ t d' ((first + i) % 4) q with
        | error y =>
          rw [e6] at e5
          subst e5
          exact flt kb5 k0
        | ok y =>
          rw [e6] at e5
          exact fun H6 r6 kb6 => ⟨_, _, _, rfl, r6, kb5.trans kb6, e5⟩
       refine ⟨_, rfl, _, _, rfl, rfl, _, rfl, bq (fun h5 => ?_) (fun h5 => ?_)⟩
       ·have h6 : 0 < i := by
         have := of_decide_eq_true h5
         omega
        unfold mD at e
        rw [if_neg (show ¬ i = 0 by omega), if_neg (show ¬ i = 4 by omega)] at e
        refine ⟨_, rfl, rd, dx, _, rfl, r4.ins, fO _ _ _ (by decide +kernel) (by decide +kernel) (by decide +kernel), rd, dx, a, dd, t, _, _, 32, rfl, r4, ?_⟩
        by_cases h7 : t[p']? = some 32
        ·rw [if_pos h7] at e ⊢
         intro H5 r5 kb5
         refine ⟨_, rfl, rd, dx, _, rfl, r5.ins, fO _ _ _ (by decide +kernel) (by decide +kernel) (by decide +kernel), _, rfl, _, rfl, _, _, rfl, rfl, _, _, rfl, rfl, (by show (0 : Int) < 4; decide), ?_⟩
         have q := hand r5 (kb4.trans kb5) e
         rw [<- pX] at q
         exact q
        ·rw [if_neg h7] at e ⊢
         subst e
         exact flt kb4 k0
       ·have h6 : i = 0 := by
         have : ¬ (0 : Int) < 0 + (i : Nat) := fun q => h5 (decide_eq_true q)
         omega
        subst h6
        have e1 : b6 t (4 - 0) d' ((first + 0) % 4) p' = R := by
         rw [show (first + 0) % 4 = first by omega]
         exact e
        refine ⟨_, rfl, rd, dx, _, rfl, r4.ins, fO _ _ _ (by decide +kernel) (by decide +kernel) (by decide +kernel), _, rfl, _, rfl, _, _, rfl, rfl, _, _, rfl, rfl, (by show (0 : Int) < 4; decide), ?_⟩
        have q := hand r4 kb4 e1
        rw [<- pX] at q
        exact q
      ·obtain ⟨v, p', d', rfl, r4, kb4, e⟩ := hP
       refine ⟨_, rfl, rd, dx, _, rfl, r4.ins, fO _ _ _ (by decide +kernel) (by decide +kernel) (by decide +kernel), rd, dx, a, dd, t, p', d', rfl, r4, ?_⟩
       have e1 : (if t.length <= p' then .ok d' else .error (1, p')) = R := by
        rw [<- e, <- vb (z := first)]
        rfl
       by_cases h5 : t.length <= p'
       ·rw [if_pos h5] at e1 ⊢
        subst e1
        exact ⟨_, rfl, rd, CT, dx, _, _, rfl, r4.ins, c_TextReader.cl, c_TextReader.n_deal, kQ _ _ _, k0 _ dd ⟨fin kb4, ndd, r4.deal⟩⟩
       ·rw [if_neg h5] at e1 ⊢
        subst e1
        exact flt kb4 k0
     ·rw [if_neg h1]
      have k0 : match (if t[1]? = some 58 then b6 t 4 unknown first 2 else .error (1, 1)) with
       | .error e => ∀ (xd : Addr) (H' : Hp), ax H H' -> H' xd = some (.xd [("place", .int e.2), ("kind", .int e.1)]) -> E (.ref CF) (some xd) H'
       | .ok d => ∀ H' p, gS H H' p (dl d) -> Q (.ref p) H' := k
      rw [if_neg h1] at k0
      exact flt kb2 k0
end
end Db
end
section
namespace Db
open PySem PySem.Spec PyProof.Rows L2
open Vbbraa (Deal countOf room words fits unknown isWhole shownSuit shownHand shown)
def txt (l : List Nat) : Str := ⟨l.toArray⟩
theorem jN (l : List Nat) : (txt l).length = l.length := rfl
theorem vt {x y : Str} (h : TL.tl x = TL.tl y) : x = y := by
 obtain ⟨⟨x⟩⟩ := x
 obtain ⟨⟨y⟩⟩ := y
 have : x = y := h
 rw [this]
theorem nS (l m : List Nat) : txt l ++ txt m = txt (l ++ m) := vt (by rw [TL.lJ]; rfl)
theorem jf (S : List Nat) (ps : List (List Nat)) : Txt.join (txt S) (ps.map txt) = txt (TL.jC S ps) := by
 refine vt ?_
 rw [TL.Ar, TL.vx, List.map_map]
 show TL.jC S (ps.map fun l => l) = TL.jC S ps
 rw [List.map_id']
theorem qj : ∀ ps : List (List Nat), TL.jC [] ps = ps.flatten
 | [] => rfl
 | [p] => by simp [TL.jC]
 | p :: q :: r => by
   show p ++ ([] ++ TL.jC [] (q :: r)) = (p :: q :: r).flatten
   rw [qj (q :: r)]
   simp
theorem xC {lo c : Int} {n : Nat} {g : TG} {tt : TT} {te : TE} {vs : List Nat} {σ : L2.St} {H1 : Hp} {D : Addr} {Qd : Hp -> Prop} (Pv : Nat -> Hp -> Prop) (h0 : Pv 0 (aU H1 D (.lst [])))
 (hs : ∀ i H, i < n -> Pv i H -> g (.int (lo + (i : Nat) * c)) (bH σ vs) H fun σ2 H2 => bH σ2 vs = bH σ vs /\ tt σ2 H2 fun b H3 =>
  if b = true then te σ2 H3 fun y H4 => ∃ acc, H4 D = some (.lst acc) /\ acc.length < sizeLine /\ Pv (i + 1) (aU H4 D (.lst (acc ++ [y]))) else Pv (i + 1) H3) (hd : ∀ H, Pv n H -> Qd H) :
 ∃ W : Nat -> Nat -> Hp -> Prop, (∃ m, W 0 m (aU H1 D (.lst []))) /\ ∀ i m H, W i m H ->
  ((CL lo c n).stop i H /\ Qd H) \/ ((CL lo c n).go i H /\ ∃ Nx : Hp -> Prop, (∀ H', Nx H' -> ∃ m', m' < m /\ W (i + 1) m' H') /\ ∀ v H', (CL lo c n).yld i H v H' -> g v (bH σ vs) H' fun σ2 H2 => bH σ2 vs = bH σ vs /\ tt σ2 H2 fun b H3 =>
    if b = true then te σ2 H3 fun y H4 => ∃ acc, H4 D = some (.lst acc) /\ acc.length < sizeLine /\ Nx (aU H4 D (.lst (acc ++ [y]))) else Nx H3) := by
 refine ⟨fun i m H => Pv i H /\ i <= n /\ m = n - i, ⟨_, h0, Nat.zero_le _, rfl⟩, fun i m H ⟨hP, hle, hm⟩ => ?_⟩
 by_cases hi : i < n
 ·refine .inr ⟨hi, fun H' => Pv (i + 1) H', fun H' h => ⟨_, ?_, h, hi, rfl⟩, fun v H' hy => ?_⟩
  ·omega
  ·obtain ⟨rfl, rfl⟩ := hy
   exact hs i _ hi hP
 ·have e : i = n := by omega
  subst e
  exact .inl ⟨Nat.le_refl _, hd H hP⟩
def cI (d : Deal) (s u i : Nat) : List Nat := ((List.range i).map fun j => 12 - j).filter fun k => d.getD (13 * u + k) 4 == s
theorem mM (d : Deal) (s u i : Nat) : cI d s u (i + 1) = cI d s u i ++ (if d.getD (13 * u + (12 - i)) 4 = s then [12 - i] else []) := by
 unfold cI
 rw [List.range_succ, List.map_append, List.filter_append]
 congr 1
 show List.filter _ [12 - i] = _
 rw [List.filter_cons]
 by_cases h : d.getD (13 * u + (12 - i)) 4 = s
 ·rw [if_pos h, if_pos (beq_iff_eq.mpr h)]
  rfl
 ·rw [if_neg h, if_neg (fun q => h (beq_iff_eq.mp q))]
  rfl
theorem i5 (d : Deal) (s u i : Nat) : (cI d s u i).length <= i := by
 unfold cI
 exact Nat.le_trans (List.length_filter_le _ _) (by simp)
theorem xM {d : Deal} {s u i k : Nat} (h : k ∈ cI d s u i) : k < 13 := by
 unfold cI at h
 have := (List.mem_filter.mp h).1
 obtain ⟨j, _, rfl⟩ := List.mem_map.mp this
 omega
theorem pj (d : Deal) (s u : Nat) : (cI d s u 13).map (fun k => Vbbraa.signs.getD k 63) = shownSuit d s u := by
 unfold cI Vbbraa.shownSuit
 rw [show ((List.range 13).map fun j => 12 - j) = (List.range 13).reverse by decide, List.filter_reverse, List.map_reverse]
def vF (K : W.Frag) : Sp := fun vs H Q _ => ∃ (a : Addr) (d : Deal) (s u : Nat), vs = [.ref a, .int s, .int u] /\ bj K H a (dl d) /\ d.length = 52 /\ u < 4 /\ ∀ H', ax H H' -> Q (.str (txt (shownSuit d s u))) H'
def vM (K : W.Frag) : Sp := fun vs H Q _ => ∃ (a : Addr) (d : Deal) (s : Nat), vs = [.ref a, .int s] /\ bj K H a (dl d) /\ d.length = 52 /\ ∀ H', ax H H' -> Q (.str (txt (shownHand d s))) H'
def vG (K : W.Frag) : Sp := fun vs H Q _ => ∃ (a : Addr) (d : Deal), vs = [.ref a] /\ bj K H a (dl d) /\ d.length = 52 /\ ∀ H' p, gS H H' p (dl (shown d)) -> Q (.ref p) H'
theorem dL (d : Deal) (s u : Nat) : (shownSuit d s u).length <= 13 := by
 rw [<- pj, List.length_map]
 exact i5 d s u 13
theorem z5 {c : Nat} (h : c < 13) : zt (Str.ofString "23456789TJQKA").cps.toList ((c : Nat) : Int) = some (Vbbraa.signs.getD c 63) := by
 have e : (Str.ofString "23456789TJQKA").cps.toList = Vbbraa.signs := by decide +kernel
 rw [e]
 unfold zt
 rw [nL (n := Vbbraa.signs.length) rfl h]
 exact iF (show c < Vbbraa.signs.length from h) 63
section
variable {P : Program} {w : World} {K : W.Frag} {mg : Str -> Option Value} {base : Heap} {CF CT NF fIF : Addr} {ta : Str -> Addr}
theorem pH {f : Addr} {fd : FuncData} (F : b7 K "suit_signs" "suit_signs" dy f fd) (T : Tx K mg CF ta) (C_card_of : ck P w K mg base aT 1 "card_of" ["suit", "rank"] spCard) : aP P w K mg base aT 2 f fd ["deal", "seat", "suit"] (vF K) := by
 refine F.ok dM (fun vs H Q E h => ?_) (fun cdv A outer s H vs Q E hr h => ?_)
 ·obtain ⟨_, _, _, _, rfl, _⟩ := h
  rfl
 ·obtain ⟨a, d, z, u, rfl, hs, len, hu, k⟩ := h
  refine ⟨_, (ac (kT (i := 3) rfl dM.nd rfl rfl (nB rfl rfl rfl rfl) (xf rfl T.n_range (aa (bc uN (aC T.g_RANKS) aj) (aa (AQ ya aj) (aa (AQ ya aj) ad)))) (bb (own := [("rank", 4)]) (by show f6 ["deal", "seat", "suit", "ranks", "rank"] (ai dy) _ _ = true; decide +kernel)) (fun _ _ _ _ _ => (aK (i := 4) dM.nd rfl (Or.inl rfl))) (fun _ _ _ _ _ => (iT (aH fh (aA (show zM _ (yA K) from am) (pv 0) (aI C_card_of (hr.mono (by decide)) ay (aa (pv 2) (aa (pv 4) ad))) (fun _ _ => rfl)) (pv 1) (aJ _)))) (fun _ _ _ _ _ => (pv 4)))
   (ah (aq (rk fY (eV rfl dM.nd (dD (pv 3)) (bb (own := [("rank", 4)]) (by show f6 ["deal", "seat", "suit", "ranks", "rank"] (ai dy) _ _ = true; decide +kernel)) (fun _ _ _ _ _ => (aK (i := 4) dM.nd rfl (Or.inl rfl))) (fun _ _ _ _ _ => cv) (fun _ _ _ _ _ => (aA Bx (yJ T.g_RANK_SIGNS) (pv 4) (fun _ _ => rfl)))))))), ?_⟩
  refine ⟨_, _, rfl, rfl, _, rfl, _, rfl, 12, -1, -1, 13, rfl, C5.neg (by decide) (by decide) (by decide) (by decide), fun D hD => xC (fun i H' => H' = aU H D (.lst (dl (cI d z u i)))) rfl (fun i H' hi e => ?_) (fun H' e => ?_)⟩
  ·subst e
   have ei : (12 : Int) + (i : Nat) * (-1) = ((12 - i : Nat) : Int) := by omega
   rw [ei]
   refine ⟨rfl, _, rfl, _, rfl, _, rfl, u, 12 - i, rfl, a, dl d, _, _, rfl, rfl, (ax.new hD).seq hs, bn rfl (by omega) 4, _, rfl, rfl, _, rfl, bq (fun h1 => ?_) (fun h1 => ?_)⟩
   ·refine ⟨_, rfl, dl (cI d z u i), ae, ?_, ?_⟩
    ·rw [aG]
     exact aX (Nat.le_trans (i5 _ _ _ _) (by omega))
    ·have h2 := f9 h1
     rw [bv, mM, if_pos (by omega), bp]
     rfl
   ·have h2 := gb h1
    show aU H D _ = aU H D _
    rw [mM, if_neg (by omega), List.append_nil]
  ·subst e
   have hq : bj K (aU H D (.lst (dl (cI d z u 13)))) D (dl (cI d z u 13)) := .inl (.inl ae)
   refine ⟨⟨_, rfl⟩, _, rfl, D, rfl, ⟨_, hq⟩, fun D2 hD2 => eZ (K := K) (a := D) (xs := dl (cI d z u 13)) (fun j H' => H' = aU (aU H D (.lst (dl (cI d z u 13)))) D2 (.lst (((cI d z u 13).take j).map fun k => V.str (txt [Vbbraa.signs.getD k 63])))) rfl (fun j H' _ e => ?_) (fun j x H' hx e => ?_) (fun H' e => ?_)⟩
   ·subst e
    exact (ax.new hD2).seq hq
   ·subst e
    obtain ⟨c, hc, rfl⟩ := fb hx
    have c13 : c < 13 := xM (List.mem_of_getElem? hc)
    refine ⟨rfl, jX ?_⟩
    refine ⟨_, rfl, _, _, Vbbraa.signs.getD c 63, rfl, rfl, eY (by decide +kernel), z5 c13, _, ae, ?_, ?_⟩
    ·rw [List.length_map, List.length_take]
     exact aX (by have := i5 d z u 13; omega)
    ·rw [bv]
     congr 2
     rw [List.take_add_one, hc, List.map_append]
     rfl
   ·subst e
    refine ⟨txt [], D2, (cI d z u 13).map fun k => txt [Vbbraa.signs.getD k 63], rfl, rfl, .inl (.inl (.inl ?_)), ?_, ?_⟩
    ·rw [ae, List.map_map, List.take_of_length_le (Nat.le_of_eq (aG _).symm)]
     rfl
    ·have := i5 d z u 13
     rw [List.map_map, List.length_map]
     show ((cI d z u 13).map fun _ => 1).sum + _ * 0 <= _
     rw [List.map_const', List.sum_replicate_nat]
     omega
    ·have e1 : ((cI d z u 13).map fun k => txt [Vbbraa.signs.getD k 63]) = ((cI d z u 13).map fun k => [Vbbraa.signs.getD k 63]).map txt := by
      rw [List.map_map]
      rfl
     rw [e1, jf, qj, <- List.flatMap_def, <- List.map_eq_flatMap, pj]
     exact k _ ((ax.new hD).trans (ax.new hD2))
theorem At {c : Bool} {x y M : Str} {σ : L2.St} {H : Hp} {Q : VK} (h1 : c = true -> x = M) (h2 : ¬ c = true -> y = M) (k : Q (.str M) H) : if c = true then tC (.str x) σ H Q else tC (.str y) σ H Q := by
 by_cases h : c = true
 ·rw [if_pos h, h1 h]
  exact k
 ·rw [if_neg h, h2 h]
  exact k
def eC (d : Deal) (z i : Nat) : List (List Nat) := (List.range i).map fun j => shownSuit d z (3 - j)
theorem qm (d : Deal) (z : Nat) (m : List Nat) : TL.jC [46] (eC d z 4) ++ m = shownSuit d z 3 ++ (46 :: shownSuit d z 2 ++ (46 :: shownSuit d z 1 ++ (46 :: shownSuit d z 0 ++ m))) := by
 show (shownSuit d z 3 ++ ([46] ++ (shownSuit d z 2 ++ ([46] ++ (shownSuit d z 1 ++ ([46] ++ shownSuit d z 0)))))) ++ m = _
 simp [List.append_assoc]
theorem pS (ls : List (List Nat)) (n : Nat) (h : ∀ l ∈ ls, l.length <= n) : ((ls.map txt).map (·.length)).sum <= ls.length * n := by
 induction ls with
 | nil => simp
 | cons l r ih =>
   have := ih fun x hx => h x (List.mem_cons_of_mem _ hx)
   have := h l List.mem_cons_self
   show l.length + ((r.map txt).map (·.length)).sum <= (r.length + 1) * n
   rw [Nat.succ_mul]
   omega
theorem cQ (d : Deal) (z : Nat) : (shownHand d z).length <= 60 := by
 unfold Vbbraa.shownHand
 have := dL d z 3
 have := dL d z 2
 have := dL d z 1
 have := dL d z 0
 split
 ·simp
 ·split
  ·simp only [List.length_append, List.length_cons, List.length_nil]
   omega
  ·simp only [List.length_append, List.length_cons, List.length_nil]
   omega
theorem pI {f : Addr} {fd : FuncData} (F : b7 K "hand_signs" "hand_signs" eL f fd) (T : Tx K mg CF ta) (C_room_of : ck P w K mg base aT 1 "room_of" ["deal", "seat"] (iL K)) (C_suit_signs : ck P w K mg base aT 2 "suit_signs" ["deal", "seat", "suit"] (vF K)) :
 aP P w K mg base aT 3 f fd ["deal", "seat"] (vM K) := by
 refine F.ok dN (fun vs H Q E h => ?_) (fun cdv A outer s H vs Q E hr h => ?_)
 ·obtain ⟨_, _, _, rfl, _⟩ := h
  rfl
 ·obtain ⟨a, d, z, rfl, hs, len, k⟩ := h
  refine ⟨_, (ac (az (i := 2) dN.nd rfl (Or.inl rfl) (aI C_room_of (hr.mono (by decide)) ay (aa (pv 0) (aa (pv 1) ad))))
   (ac (bf (aH fh (pv 2) (aC T.g_HAND_SIZE) (aJ _)) (ah (aq fY)) aM)
   (ac (az (i := 3) dN.nd rfl (Or.inl rfl) (jt (aH qd (pv 2) aj (aJ _)) fY fY))
   (ah (aq (bc oJ (rk fY (eV rfl dN.nd (oG (mK T.g_SUITS_AS_TOLD)) (bb (own := [("suit", 4)]) (by show f6 ["deal", "seat", "room", "mark", "suit"] (ai eL) _ _ = true; decide +kernel)) (fun _ _ _ _ _ => (aK (i := 4) dN.nd rfl (Or.inl rfl))) (fun _ _ _ _ _ => cv) (fun _ _ _ _ _ => (aI C_suit_signs (hr.mono (by decide)) ay (aa (pv 0) (aa (pv 1) (aa (pv 4) ad))))))) (pv 3))))))), ?_⟩
  refine ⟨_, rfl, _, rfl, a, d, z, rfl, hs, _, rfl, rfl, _, rfl, bq (fun h1 => ?_) (fun h1 => ?_)⟩
  ·have h2 := f9 h1
   have e : shownHand d z = [45] := by
    unfold Vbbraa.shownHand
    rw [if_pos (by omega)]
   have k1 := k H fun _ _ e => e
   rw [e] at k1
   exact k1
  ·have h2 := gb h1
   refine ⟨_, rfl, _, _, rfl, rfl, _, rfl, At (M := txt (if countOf d z < 13 then [63] else [])) (fun h3 => ?_) (fun h3 => ?_) ?_⟩
   ·have := of_decide_eq_true h3
    rw [if_pos (by omega)]
    rfl
   ·have : ¬ (0 : Int) < 13 - (countOf d z : Nat) := fun q => h3 (decide_eq_true q)
    rw [if_neg (by omega)]
    rfl
   ·refine ⟨⟨_, rfl⟩, ta "SUITS_AS_TOLD", rfl, ⟨_, T.g_SUITS_AS_TOLD.sqT _⟩, fun D hD => u5 (K := K) (a := ta "SUITS_AS_TOLD") (xs := [.int 3, .int 2, .int 1, .int 0]) (fun i H' => H' D = some (.lst (((eC d z i).map txt).map V.str)) /\ ax H H') ⟨ae, ax.new hD⟩ (fun i H' _ _ => T.g_SUITS_AS_TOLD.sqT H') (fun i x H' hx hP => ?_) (fun H' hP => ?_)⟩
    ·obtain ⟨hi, rfl⟩ := nV hx
     obtain ⟨e, sm⟩ := hP
     refine ⟨rfl, jX ?_⟩
     refine ⟨_, rfl, _, rfl, _, rfl, a, d, z, 3 - i, rfl, sm.seq hs, len, by omega, fun H4 s4 => ⟨_, s4 _ _ e, ?_, ?_, ?_⟩⟩
     ·rw [List.length_map, List.length_map]
      unfold eC
      rw [List.length_map, List.length_range]
      exact aX (by omega)
     ·rw [ae]
      congr 2
      unfold eC
      rw [List.range_succ, List.map_append, List.map_append, List.map_append]
      rfl
     ·exact fun b o eb => by
       rw [ak (au eb hD)]
       exact s4 _ _ (sm _ _ eb)
    ·obtain ⟨e, sm⟩ := hP
     refine ⟨txt [46], D, (eC d z 4).map txt, rfl, rfl, .inl (.inl (.inl e)), ?_, ?_⟩
     ·have := pS (eC d z 4) 13 (fun l hl => by
       unfold eC at hl
       obtain ⟨j, _, rfl⟩ := List.mem_map.mp hl
       exact dL _ _ _)
      have e4 : (eC d z 4).length = 4 := rfl
      rw [e4] at this
      rw [List.length_map, e4, jN]
      show _ + 4 * 1 <= _
      omega
     ·have e2 : shownHand d z = shownSuit d z 3 ++ (46 :: shownSuit d z 2 ++ (46 :: shownSuit d z 1 ++ (46 :: shownSuit d z 0 ++ (if countOf d z < 13 then [63] else [])))) := by
       unfold Vbbraa.shownHand
       rw [if_neg (by omega)]
      refine ⟨_, rfl, _, _, rfl, rfl, ?_, ?_⟩
      ·rw [jf, jN, jN, <- List.length_append, qm, <- e2]
       exact eY (Nat.le_trans (cQ d z) (by omega))
      ·rw [jf, nS, qm, <- e2]
       exact k _ sm
def eE (d : Deal) (i : Nat) : List (List Nat) := (List.range i).map fun j => shownHand d j
theorem o9 (d : Deal) : [78, 58] ++ TL.jC [32] (eE d 4) = shown d := by
 show [78, 58] ++ (shownHand d 0 ++ ([32] ++ (shownHand d 1 ++ ([32] ++ (shownHand d 2 ++ ([32] ++ shownHand d 3)))))) = _
 unfold Vbbraa.shown
 simp [List.append_assoc]
theorem lL (d : Deal) : (shown d).length <= 250 := by
 unfold Vbbraa.shown
 have := cQ d 3
 have := cQ d 2
 have := cQ d 1
 have := cQ d 0
 simp only [List.length_append, List.length_cons]
 omega
theorem ng {f : Addr} {fd : FuncData} (F : b7 K "text_of_deal" "text_of_deal" cF f fd) (T : Tx K mg CF ta) (C_hand_signs : ck P w K mg base aT 3 "hand_signs" ["deal", "seat"] (vM K)) : aP P w K mg base aT 4 f fd ["deal"] (vG K) := by
 refine F.ok b8 (fun vs H Q E h => ?_) (fun cdv A outer s H vs Q E hr h => ?_)
 ·obtain ⟨_, _, rfl, _⟩ := h
  rfl
 ·obtain ⟨a, d, rfl, hs, len, k⟩ := h
  refine ⟨_, (ac (az (i := 1) b8.nd rfl (Or.inl rfl) (rk fY (eV rfl b8.nd (b9 rfl T.n_range (aa (aC T.g_SEATS) ad)) (bb (own := [("seat", 2)]) (by show f6 ["deal", "hands", "seat", "sign"] (ai cF) _ _ = true; decide +kernel)) (fun _ _ _ _ _ => (aK (i := 2) b8.nd rfl (Or.inl rfl))) (fun _ _ _ _ _ => cv) (fun _ _ _ _ _ => (aI C_hand_signs (hr.mono (by decide)) ay (aa (pv 0) (aa (pv 2) ad)))))))
   (ah (aq (eV rfl b8.nd (yD (bc oJ fY (pv 1))) (bb (own := [("sign", 3)]) (by show f6 ["deal", "hands", "seat", "sign"] (ai cF) _ _ = true; decide +kernel)) (fun _ _ _ _ _ => (aK (i := 3) b8.nd rfl (Or.inl rfl))) (fun _ _ _ _ _ => cv) (fun _ _ _ _ _ => (aO t5 rfl T.n_ord (by decide +kernel) (aa (pv 3) ad))))))), ?_⟩
  refine ⟨⟨_, rfl⟩, 4, rfl, by decide, by decide, fun D hD => lu (n := 4) (fun i H' => H' D = some (.lst (((eE d i).map txt).map V.str)) /\ ax H H') ⟨ae, ax.new hD⟩ (fun i H' hi hP => ?_) (fun H' hP => ?_)⟩
  ·obtain ⟨e, sm⟩ := hP
   refine ⟨rfl, jX ?_⟩
   refine ⟨_, rfl, _, rfl, a, d, i, by rw [Int.zero_add]; rfl, sm.seq hs, len, fun H4 s4 => ⟨_, s4 _ _ e, ?_, ?_, ?_⟩⟩
   ·rw [List.length_map, List.length_map]
    unfold eE
    rw [List.length_map, List.length_range]
    exact aX (by omega)
   ·rw [ae]
    congr 2
    unfold eE
    rw [List.range_succ, List.map_append, List.map_append, List.map_append]
    rfl
   ·exact fun b o eb => by
     rw [ak (au eb hD)]
     exact s4 _ _ (sm _ _ eb)
  ·obtain ⟨e, sm⟩ := hP
   refine ⟨txt [32], D, (eE d 4).map txt, rfl, rfl, .inl (.inl (.inl e)), ?_, ?_⟩
   ·have := pS (eE d 4) 60 (fun l hl => by
     unfold eE at hl
     obtain ⟨j, _, rfl⟩ := List.mem_map.mp hl
     exact cQ _ _)
    have e4 : (eE d 4).length = 4 := rfl
    rw [e4] at this
    rw [List.length_map, e4, jN]
    show _ + 4 * 1 <= _
    omega
   ·have lh := lL d
    have e5 : Str.ofString "N:" = txt [78, 58] := by decide +kernel
    refine ⟨_, rfl, _, _, rfl, rfl, ?_, txt (shown d), ?_, fun D2 hD2 => yY (x := txt (shown d)) (fun i H2 => H2 = aU H' D2 (.lst (dl ((shown d).take i)))) rfl (fun i c H2 hc e2 => ?_) (fun H2 e2 => k _ D2 ⟨?_, ?_, ?_⟩)⟩
    ·rw [e5, jf, jN, jN, <- List.length_append, o9]
     exact eY (by omega)
    ·rw [e5, jf, nS, o9]
    ·subst e2
     have hc1 : (shown d)[i]? = some c := by simpa [txt] using hc
     refine ⟨rfl, jX ?_⟩
     refine ⟨_, rfl, _, rfl, rfl, _, ae, ?_, ?_⟩
     ·rw [aG, List.length_take]
      exact aX (by omega)
     ·rw [bv, List.take_add_one, hc1, bp]
      rfl
    ·subst e2
     exact sm.trans (ax.new hD2)
    ·cases hq : H D2 with
     | none => rfl
     | some o =>
       rw [sm _ _ hq] at hD2
       cases hD2
    ·subst e2
     rw [ae, List.take_of_length_le (Nat.le_of_eq (by rfl))]
end
end Db
end
section
namespace Db
open Vbbraa (Deal countOf)
def i8 (ws h : List Nat) : List Nat := h.map fun c => ws.getD (c % 13) 0
def bF (h : List Nat) (s : Nat) : List Nat := (Vbbraa.inSuit h s).map fun c => c % 13
def o5 (r : List Nat) : Nat := ((([12, 11, 10] : List Nat).take r.length).filter fun k => !r.contains k).length
theorem dk (c : Nat) (h : List Nat) (k : Nat) : Vbbraa.having (c :: h) k = (if c % 13 = k then 1 else 0) + Vbbraa.having h k := by
 unfold Vbbraa.having
 rw [List.filter_cons]
 by_cases q : c % 13 = k
 ·rw [if_pos (beq_iff_eq.mpr q), if_pos q, List.length_cons]
  omega
 ·rw [if_neg (fun z => q (beq_iff_eq.mp z)), if_neg q]
  omega
theorem p9 : ∀ h : List Nat, Vbbraa.points h = Vbbraa.sum (i8 [0, 0, 0, 0, 0, 0, 0, 0, 0, 1, 2, 3, 4] h)
 | [] => rfl
 | c :: h => by
   have ih := p9 h
   unfold Vbbraa.points at ih ⊢
   show _ = ([0, 0, 0, 0, 0, 0, 0, 0, 0, 1, 2, 3, 4] : List Nat).getD (c % 13) 0 + Vbbraa.sum (i8 [0, 0, 0, 0, 0, 0, 0, 0, 0, 1, 2, 3, 4] h)
   rw [<- ih, dk, dk, dk, dk]
   have lt : c % 13 < 13 := Nat.mod_lt _ (by decide)
   generalize c % 13 = x at lt ⊢
   have cs : x = 0 \/ x = 1 \/ x = 2 \/ x = 3 \/ x = 4 \/ x = 5 \/ x = 6 \/ x = 7 \/ x = 8 \/ x = 9 \/ x = 10 \/ x = 11 \/ x = 12 := by omega
   rcases cs with rfl | rfl | rfl | rfl | rfl | rfl | rfl | rfl | rfl | rfl | rfl | rfl | rfl <;> simp <;> omega
theorem mQ : ∀ h : List Nat, Vbbraa.controls h = Vbbraa.sum (i8 [0, 0, 0, 0, 0, 0, 0, 0, 0, 0, 0, 1, 2] h)
 | [] => rfl
 | c :: h => by
   have ih := mQ h
   unfold Vbbraa.controls at ih ⊢
   show _ = ([0, 0, 0, 0, 0, 0, 0, 0, 0, 0, 0, 1, 2] : List Nat).getD (c % 13) 0 + Vbbraa.sum (i8 [0, 0, 0, 0, 0, 0, 0, 0, 0, 0, 0, 1, 2] h)
   rw [<- ih, dk, dk]
   have lt : c % 13 < 13 := Nat.mod_lt _ (by decide)
   generalize c % 13 = x at lt ⊢
   have cs : x = 0 \/ x = 1 \/ x = 2 \/ x = 3 \/ x = 4 \/ x = 5 \/ x = 6 \/ x = 7 \/ x = 8 \/ x = 9 \/ x = 10 \/ x = 11 \/ x = 12 := by omega
   rcases cs with rfl | rfl | rfl | rfl | rfl | rfl | rfl | rfl | rfl | rfl | rfl | rfl | rfl <;> simp <;> omega
theorem u9 (l : List Nat) (k : Nat) : Vbbraa.having l k = (l.map fun c => c % 13).count k := by
 induction l with
 | nil => rfl
 | cons c l ih =>
   rw [dk, List.map_cons, List.count_cons, ih]
   by_cases q : c % 13 = k
   ·rw [if_pos q, if_pos (beq_iff_eq.mpr q)]
    omega
   ·rw [if_neg q, if_neg (fun z => q (beq_iff_eq.mp z))]
    omega
theorem zn {r : List Nat} (h : r.Nodup) (k : Nat) : r.count k = if r.contains k = true then 1 else 0 := by
 by_cases q : k ∈ r
 ·rw [if_pos (List.contains_iff_mem.mpr q)]
  have h1 := List.nodup_iff_count.mp h k
  have h2 := List.count_pos_iff.mpr q
  omega
 ·rw [if_neg (fun z => q (List.contains_iff_mem.mp z))]
  exact List.count_eq_zero.mpr q
theorem xy {l : List Nat} (h : (l.map fun c => c % 13).Nodup) : Vbbraa.losersIn l = o5 (l.map fun c => c % 13) := by
 unfold Vbbraa.losersIn o5
 have e : ∀ k, Vbbraa.having l k = if (l.map fun c => c % 13).contains k = true then 1 else 0 := fun k => by rw [u9, zn h]
 dsimp only
 rw [e 12, e 11, e 10, List.length_map]
 cases hl : l.length with
 | zero => rfl
 | succ n =>
   cases n with
   | zero =>
     show _ = (List.filter _ [12]).length
     rw [List.filter_cons]
     generalize (l.map fun c => c % 13).contains 12 = A
     cases A <;> rfl
   | succ n =>
     cases n with
     | zero =>
       show _ = (List.filter _ [12, 11]).length
       rw [List.filter_cons, List.filter_cons]
       generalize (l.map fun c => c % 13).contains 12 = A
       generalize (l.map fun c => c % 13).contains 11 = B
       cases A <;> cases B <;> rfl
     | succ n =>
       have t3 : ([12, 11, 10] : List Nat).take (n + 1 + 1 + 1) = [12, 11, 10] := List.take_of_length_le (by simp)
       rw [t3, List.filter_cons, List.filter_cons, List.filter_cons, if_neg (by omega), if_neg (by omega), if_neg (by omega)]
       generalize (l.map fun c => c % 13).contains 12 = A
       generalize (l.map fun c => c % 13).contains 11 = B
       generalize (l.map fun c => c % 13).contains 10 = D
       cases A <;> cases B <;> cases D <;> rfl
theorem xz {h : List Nat} (nd : ∀ s, (bF h s).Nodup) : Vbbraa.losers h = Vbbraa.sum (([3, 2, 1, 0] : List Nat).map fun s => o5 (bF h s)) := by
 have e : ∀ s, Vbbraa.losersIn (Vbbraa.inSuit h s) = o5 (bF h s) := fun s => xy (nd s)
 show Vbbraa.losersIn (Vbbraa.inSuit h 0) + (Vbbraa.losersIn (Vbbraa.inSuit h 1) + (Vbbraa.losersIn (Vbbraa.inSuit h 2) + (Vbbraa.losersIn (Vbbraa.inSuit h 3) + 0))) = o5 (bF h 3) + (o5 (bF h 2) + (o5 (bF h 1) + (o5 (bF h 0) + 0)))
 rw [e, e, e, e]
 omega
theorem oA (a : Nat) : ∀ l : List Nat, (Vbbraa.put a l).Perm (a :: l)
 | [] => .refl _
 | b :: l => by
   unfold Vbbraa.put
   by_cases h : b < a
   ·rw [if_pos h]
   ·rw [if_neg h]
    exact ((oA a l).cons b).trans (.swap a b l)
theorem oz (a : Nat) : ∀ l : List Nat, l.Pairwise (· >= ·) -> (Vbbraa.put a l).Pairwise (· >= ·)
 | [], _ => List.pairwise_singleton _ _
 | b :: l, h => by
   unfold Vbbraa.put
   by_cases q : b < a
   ·rw [if_pos q]
    refine List.pairwise_cons.mpr ⟨fun x hx => ?_, h⟩
    rcases List.mem_cons.mp hx with rfl | hx
    ·exact Nat.le_of_lt q
    ·exact Nat.le_trans ((List.pairwise_cons.mp h).1 x hx) (Nat.le_of_lt q)
   ·rw [if_neg q]
    refine List.pairwise_cons.mpr ⟨fun x hx => ?_, oz a l (List.pairwise_cons.mp h).2⟩
    rcases List.mem_cons.mp ((oA a l).mem_iff.mp hx) with rfl | hx
    ·show x <= b
     omega
    ·exact (List.pairwise_cons.mp h).1 x hx
theorem yp {l : List Nat} {ns : List Int} (hp : ns.Perm (Vbbraa.«ints» l)) (hs : ns.Pairwise (· >= ·)) : ns = Vbbraa.«ints» (l.foldr Vbbraa.put []) := by
 have p : ∀ l : List Nat, (l.foldr Vbbraa.put []).Perm l /\ (l.foldr Vbbraa.put []).Pairwise (· >= ·) := fun l => by
  induction l with
  | nil => exact ⟨.refl _, .nil⟩
  | cons a l ih => exact ⟨(oA a _).trans (ih.1.cons a), oz a _ ih.2⟩
 have p2 : (Vbbraa.«ints» (l.foldr Vbbraa.put [])).Pairwise (· >= ·) := by
  unfold Vbbraa.«ints»
  refine List.pairwise_map.mpr ((p l).2.imp fun h => ?_)
  exact Int.ofNat_le.mpr h
 refine List.Perm.eq_of_pairwise (fun a b _ _ h1 h2 => Int.le_antisymm h2 h1) hs p2 (hp.trans ?_)
 exact ((p l).1.map _).symm
theorem vv {α : Type} (g : Nat -> α) {i : Nat} (hi : i < 4) : (([3, 2, 1, 0] : List Nat).map g)[i]? = some (g (3 - i)) := by
 have e : ([3, 2, 1, 0] : List Nat)[i]? = some (3 - i) := by
  match i, hi with
  | 0, _ => rfl
  | 1, _ => rfl
  | 2, _ => rfl
  | 3, _ => rfl
 rw [List.getElem?_map, e]
 rfl
theorem yz (p : Nat -> Bool) (s : Nat) : (bF ((List.range 52).filter p) s).Nodup := by
 unfold bF Vbbraa.inSuit
 rw [List.filter_filter]
 refine List.pairwise_map.mpr ?_
 refine List.Pairwise.imp_of_mem ?_ ((List.nodup_range (n := 52)).filter _)
 intro a b ha hb ne
 have h1 := (List.mem_filter.mp ha).2
 have h2 := (List.mem_filter.mp hb).2
 rw [Bool.and_eq_true, beq_iff_eq] at h1 h2
 omega
theorem jG : ∀ l : List Nat, Vbbraa.distinct l = true ↔ l.Nodup
 | [] => ⟨fun _ => .nil, fun _ => rfl⟩
 | a :: l => by
   rw [List.nodup_cons, <- jG l]
   show ((!l.contains a) && Vbbraa.distinct l) = true ↔ _
   rw [Bool.and_eq_true, Bool.not_eq_true', <- Bool.not_eq_true, List.contains_iff_mem]
end Db
end
section
namespace Db
open PySem PySem.Spec PyProof.Rows L2
open Vbbraa (Deal countOf room words fits unknown isWhole)
def vB (K : W.Frag) : Sp := fun vs H Q _ => ∃ (a b : Addr) (h ws : List Nat), vs = [.ref a, .ref b] /\ bj K H a (dl h) /\ fV K H b (dl ws) /\ h.length <= 52 /\ ws.length = 13 /\ ∀ H', ax H H' -> Q (.int ((Vbbraa.sum (i8 ws h) : Nat) : Int)) H'
def vJ (K : W.Frag) : Sp := fun vs H Q _ => ∃ (a : Addr) (h : List Nat) (s : Nat), vs = [.ref a, .int s] /\ bj K H a (dl h) /\ h.length <= 52 /\ ∀ H' p, gS H H' p (dl (bF h s)) -> Q (.ref p) H'
def sK (K : W.Frag) : Sp := fun vs H Q _ => ∃ (a : Addr) (r : List Nat), vs = [.ref a] /\ bj K H a (dl r) /\ ∀ H', ax H H' -> Q (.int ((o5 r : Nat) : Int)) H'
def yn (K : W.Frag) : Sp := fun vs H Q _ => ∃ (a : Addr) (h : List Nat), vs = [.ref a] /\ bj K H a (dl h) /\ h.length <= 52 /\ (∀ s, (bF h s).Nodup) /\ ∀ H' p, gS H H' p (dl (Vbbraa.points h :: Vbbraa.controls h :: Vbbraa.losers h :: (Vbbraa.lengths h ++ Vbbraa.shape h))) -> Q (.ref p) H'
theorem eF {α : Type} (p : α -> Bool) (l : List α) (i : Nat) (x : α) (h : l[i]? = some x) : (l.take (i + 1)).filter p = (l.take i).filter p ++ (if p x = true then [x] else []) := by
 rw [List.take_add_one, h, List.filter_append]
 congr 1
 by_cases q : p x = true
 ·rw [if_pos q]
  show List.filter p [x] = _
  rw [List.filter_cons, if_pos q]
  rfl
 ·rw [if_neg q]
  show List.filter p [x] = _
  rw [List.filter_cons, if_neg q]
  rfl
theorem mo {α : Type} {l : List α} {i : Nat} {x : α} (h : l[i]? = some x) : i < l.length := (List.getElem?_eq_some_iff.mp h).1
section
variable {P : Program} {w : World} {K : W.Frag} {mg : Str -> Option Value} {base : Heap} {CF : Addr} {ta : Str -> Addr}
theorem yN {f : Addr} {fd : FuncData} (F : b7 K "worth" "worth" kO f fd) (T : Tx K mg CF ta) : aP P w K mg base aT 1 f fd ["hand", "worths"] (vB K) := by
 refine F.ok oh (fun vs H Q E h => ?_) (fun cdv A outer s H vs Q E hr h => ?_)
 ·obtain ⟨_, _, _, _, rfl, _⟩ := h
  rfl
 ·obtain ⟨a, b, h, ws, rfl, hs, hw, len, lw, k⟩ := h
  refine ⟨_, (ah (aq (aO (pp rfl) rfl T.n_sum (by decide +kernel) (aa (eV rfl oh.nd (dD (pv 0)) (bb (own := [("card", 2)]) (by show f6 ["hand", "worths", "card"] (ai kO) _ _ = true; decide +kernel)) (fun _ _ _ _ _ => (aK (i := 2) oh.nd rfl (Or.inl rfl))) (fun _ _ _ _ _ => cv) (fun _ _ _ _ _ => (aA (show zM _ (Bl K) from gM) (pv 1) (bc kh (pv 2) (aC T.g_RANKS)) (fun _ _ => rfl)))) ad)))), ?_⟩
  refine ⟨_, rfl, a, rfl, ⟨_, hs⟩, fun D hD => eZ (K := K) (a := a) (xs := dl h) (fun i H' => H' = aU H D (.lst (dl (i8 ws (h.take i))))) rfl (fun i H' _ e => ?_) (fun i x H' hx e => ?_) (fun H' e => ?_)⟩
  ·subst e
   exact (ax.new hD).seq hs
  ·subst e
   obtain ⟨c, hc, rfl⟩ := fb hx
   refine ⟨rfl, jX ?_⟩
   refine ⟨_, rfl, _, rfl, _, _, rfl, rfl, (by show (0 : Int) < 13; decide), b, dl ws, _, _, rfl, rfl, (ax.new hD).seqT hw, bn (i := c % 13) (by show (c : Int) % 13 = _; omega) (by omega) 0, _, ae, ?_, ?_⟩
   ·have := mo hc
    unfold i8
    rw [aG, List.length_map, List.length_take]
    exact aX (by omega)
   ·unfold i8
    rw [bv, List.take_add_one, hc, List.map_append, bp]
    rfl
  ·subst e
   refine ⟨D, zz (i8 ws h), rfl, ?_, ?_⟩
   ·rw [aG, List.take_length]
    exact bj.of ae
   ·rw [jE]
    exact k _ (ax.new hD)
theorem l7 {f : Addr} {fd : FuncData} (F : b7 K "ranks_in_suit" "ranks_in_suit" cP f fd) (T : Tx K mg CF ta) : aP P w K mg base aT 1 f fd ["hand", "suit"] (vJ K) := by
 refine F.ok fi (fun vs H Q E h => ?_) (fun cdv A outer s H vs Q E hr h => ?_)
 ·obtain ⟨_, _, _, rfl, _⟩ := h
  rfl
 ·obtain ⟨a, h, z, rfl, hs, len, k⟩ := h
  refine ⟨_, (ah (aq (eV rfl fi.nd (dD (pv 0)) (bb (own := [("card", 2)]) (by show f6 ["hand", "suit", "card"] (ai cP) _ _ = true; decide +kernel)) (fun _ _ _ _ _ => (aK (i := 2) fi.nd rfl (Or.inl rfl))) (fun _ _ _ _ _ => (iT (aH fh (bc fS (pv 2) (aC T.g_RANKS)) (pv 1) (aJ _)))) (fun _ _ _ _ _ => (bc kh (pv 2) (aC T.g_RANKS)))))), ?_⟩
  refine ⟨_, rfl, a, rfl, ⟨_, hs⟩, fun D hD => eZ (K := K) (a := a) (xs := dl h) (fun i H' => H' = aU H D (.lst (dl (bF (h.take i) z)))) rfl (fun i H' _ e => ?_) (fun i x H' hx e => ?_) (fun H' e => ?_)⟩
  ·subst e
   exact (ax.new hD).seq hs
  ·subst e
   obtain ⟨c, hc, rfl⟩ := fb hx
   refine ⟨rfl, _, rfl, _, _, rfl, rfl, ⟨by decide, by decide⟩, _, rfl, rfl, _, rfl, bq (fun h1 => ?_) (fun h1 => ?_)⟩
   ·have h2 := f9 h1
    refine ⟨_, rfl, _, _, rfl, rfl, (by show (0 : Int) < 13; decide), _, ae, ?_, ?_⟩
    ·have := mo hc
     have l2 := List.length_filter_le (fun c => c / 13 == z) (h.take i)
     rw [List.length_take] at l2
     unfold bF Vbbraa.inSuit
     rw [aG, List.length_map]
     exact aX (by omega)
    ·unfold bF Vbbraa.inSuit
     rw [bv, eF _ h i c hc, if_pos (beq_iff_eq.mpr (by omega)), List.map_append, bp]
     rfl
   ·have h2 := gb h1
    unfold bF Vbbraa.inSuit
    rw [eF _ h i c hc, if_neg (fun q => h2 (by have := beq_iff_eq.mp q; omega)), List.append_nil]
  ·subst e
   rw [aG, List.take_length]
   exact k _ D (yU hD)
theorem kZ {f : Addr} {fd : FuncData} (F : b7 K "losers_of_suit" "losers_of_suit" cH f fd) (T : Tx K mg CF ta) : aP P w K mg base aT 1 f fd ["ranks"] (sK K) := by
 refine F.ok cU (fun vs H Q E h => ?_) (fun cdv A outer s H vs Q E hr h => ?_)
 ·obtain ⟨_, _, rfl, _⟩ := h
  rfl
 ·obtain ⟨a, r, rfl, hs, k⟩ := h
  refine ⟨_, (ac (az (i := 1) cU.nd rfl (Or.inl rfl) (sZ zW (mK T.g_WINNING_RANKS) z8 (rh (aO aV rfl T.n_len (by decide +kernel) (aa (pv 0) ad)))))
   (ah (aq (aO aV rfl T.n_len (by decide +kernel) (aa (eV rfl cU.nd (oG (pv 1)) (bb (own := [("rank", 2)]) (by show f6 ["ranks", "asked", "rank"] (ai cH) _ _ = true; decide +kernel)) (fun _ _ _ _ _ => (aK (i := 2) cU.nd rfl (Or.inl rfl))) (fun _ _ _ _ _ => (iT (aH (show kF _ _ (Ds K true) from iU) (pv 2) (pv 0) (by with_unfolding_all rfl)))) (fun _ _ _ _ _ => (pv 2))) ad))))), ?_⟩
  refine ⟨_, rfl, a, dl r, rfl, .inl hs, _, rfl, ta "WINNING_RANKS", dl [12, 11, 10], rfl, T.g_WINNING_RANKS.sqT _, fun p H1 s1 hp => ?_⟩
  rw [aG, BL] at hp
  have hp2 : fV K H1 p (dl (([12, 11, 10] : List Nat).take r.length)) := by
   rw [fZ, List.map_take, <- fZ]
   exact hp
  refine ⟨_, rfl, p, rfl, ⟨_, hp2⟩, fun D hD => u5 (K := K) (a := p) (xs := dl (([12, 11, 10] : List Nat).take r.length)) (fun i H' => H' = aU H1 D (.lst (dl ((((([12, 11, 10] : List Nat).take r.length)).take i).filter fun k => !r.contains k)))) rfl (fun i H' _ e => ?_) (fun i x H' hx e => ?_) (fun H' e => ?_)⟩
  ·subst e
   exact (ax.new hD).seqT hp2
  ·subst e
   obtain ⟨c, hc, rfl⟩ := fb hx
   refine ⟨rfl, _, rfl, _, rfl, a, dl r, rfl, .inl ((s1.trans (ax.new hD)).seq hs), rfl, rR r, _, rfl, ?_⟩
   rw [u7, if_pos rfl]
   refine bq (fun h1 => ?_) (fun h1 => ?_)
   ·refine ⟨_, rfl, _, ae, ?_, ?_⟩
    ·have l1 := mo hc
     have l2 := List.length_filter_le (fun k => !r.contains k) ((([12, 11, 10] : List Nat).take r.length).take i)
     rw [List.length_take] at l1 l2
     rw [aG]
     exact aX (by have l3 : ([12, 11, 10] : List Nat).length = 3 := rfl; omega)
    ·rw [bv, eF _ _ i c hc, if_pos h1, bp]
     rfl
   ·rw [eF _ _ i c hc, if_neg h1, List.append_nil]
  ·subst e
   rw [aG, List.take_length]
   refine ⟨D, _, rfl, .inl (bj.of ae), ?_⟩
   rw [aG]
   exact k _ (s1.trans (ax.new hD))
theorem oO {f : Addr} {fd : FuncData} (F : b7 K "features_of" "features_of" cr f fd) (T : Tx K mg CF ta) (C_worth : ck P w K mg base aT 1 "worth" ["hand", "worths"] (vB K)) (C_ranks_in_suit : ck P w K mg base aT 1 "ranks_in_suit" ["hand", "suit"] (vJ K))
 (C_losers_of_suit : ck P w K mg base aT 1 "losers_of_suit" ["ranks"] (sK K)) : aP P w K mg base aT 2 f fd ["hand"] (yn K) := by
 refine F.ok bz (fun vs H Q E h => ?_) (fun cdv A outer s H vs Q E hr h => ?_)
 ·obtain ⟨_, _, rfl, _⟩ := h
  rfl
 ·obtain ⟨a, h, rfl, hs, len, nd, k⟩ := h
  refine ⟨_, (ac (kT (i := 1) rfl bz.nd rfl rfl (nB rfl rfl rfl rfl) (oG (mK T.g_SUITS_AS_TOLD)) (bb (own := [("suit", 4)]) (by show f6 ["hand", "suits", "lengths", "losers", "suit", "ranks"] (ai cr) _ _ = true; decide +kernel)) (fun _ _ _ _ _ => (aK (i := 4) bz.nd rfl (Or.inl rfl))) (fun _ _ _ _ _ => cv) (fun _ _ _ _ _ => (aI C_ranks_in_suit (hr.mono (by decide)) ay (aa (pv 0) (aa (pv 4) ad)))))
   (ac (kT (i := 2) rfl bz.nd rfl rfl (nB rfl rfl rfl rfl) (dD (pv 1)) (bb (own := [("ranks", 5)]) (by show f6 ["hand", "suits", "lengths", "losers", "suit", "ranks"] (ai cr) _ _ = true; decide +kernel)) (fun _ _ _ _ _ => (aK (i := 5) bz.nd rfl (Or.inl rfl))) (fun _ _ _ _ _ => cv) (fun _ _ _ _ _ => (aO (show gP _ (.builtin "len") (Cj K) from aV) rfl T.n_len (by decide +kernel) (aa (pv 5) ad))))
   (ac (az (i := 3) bz.nd rfl (Or.inl rfl) (aO (pp rfl) rfl T.n_sum (by decide +kernel) (aa (eV rfl bz.nd (dD (pv 1)) (bb (own := [("ranks", 5)]) (by show f6 ["hand", "suits", "lengths", "losers", "suit", "ranks"] (ai cr) _ _ = true; decide +kernel)) (fun _ _ _ _ _ => (aK (i := 5) bz.nd rfl (Or.inl rfl))) (fun _ _ _ _ _ => cv) (fun _ _ _ _ _ => (aI C_losers_of_suit (hr.mono (by decide)) ay (aa (pv 5) ad)))) ad)))
   (ah (aq (bc gJ (bc gJ (aN (aa (aI C_worth (hr.mono (by decide)) ay (aa (pv 0) (aa (mK T.g_POINTS) ad))) (aa (aI C_worth (hr.mono (by decide)) ay (aa (pv 0) (aa (mK T.g_CONTROLS) ad))) (aa (pv 3) ad)))) (pv 2)) (yG rfl T.n_sorted (by decide +kernel) (aa (pv 2) ad)))))))), ?_⟩
  refine ⟨ta "SUITS_AS_TOLD", rfl, ⟨_, T.g_SUITS_AS_TOLD.sqT _⟩, fun D hD => u5 (K := K) (a := ta "SUITS_AS_TOLD") (xs := [.int 3, .int 2, .int 1, .int 0]) (fun i H' => ∃ bs : List Addr, bs.length = i /\ H' D = some (.lst (bs.map V.ref)) /\ ax H H' /\ ∀ j b, bs[j]? = some b -> b ≠ D /\ H' b = some (.lst (dl (bF h (3 - j))))) ⟨[], rfl, ae, ax.new hD, fun j b e => by cases e⟩ (fun i H' _ _ => T.g_SUITS_AS_TOLD.sqT _) (fun i x H' hx hP => ?_) (fun H' hP => ?_)⟩
  ·obtain ⟨hi, rfl⟩ := nV hx
   obtain ⟨bs, lb, e, sm, ab⟩ := hP
   refine ⟨rfl, jX ?_⟩
   refine ⟨_, rfl, _, rfl, a, h, 3 - i, rfl, sm.seq hs, len, fun H4 p ⟨s4, n4, e4⟩ => ⟨_, s4 _ _ e, ?_, bs ++ [p], ?_, ?_, ?_, ?_⟩⟩
   ·rw [List.length_map, lb]
    exact aX (by omega)
   ·rw [List.length_append, lb]
    rfl
   ·rw [ae, List.map_append]
    rfl
   ·intro c o ec
    rw [ak (au ec hD)]
    exact s4 _ _ (sm _ _ ec)
   ·intro j b ej
    rw [List.getElem?_append] at ej
    have pD : p ≠ D := fun z => by
     rw [z, e] at n4
     cases n4
    by_cases q : j < bs.length
    ·rw [if_pos q] at ej
     obtain ⟨n1, e1⟩ := ab j b ej
     refine ⟨n1, ?_⟩
     rw [ak n1]
     exact s4 _ _ e1
    ·rw [if_neg q] at ej
     have jz : j - bs.length = 0 := by
      have := mo ej
      rw [List.length_singleton] at this
      omega
     rw [jz] at ej
     cases ej
     have ji : j = i := by omega
     subst ji
     refine ⟨pD, ?_⟩
     rw [ak pD]
     exact e4
  ·obtain ⟨bs, lb, e, sm, ab⟩ := hP
   have lb4 : bs.length = 4 := lb
   have ab2 : ∀ {H2 : Hp} {j x}, ax H' H2 -> (bs.map V.ref)[j]? = some x -> ∃ b, x = .ref b /\ j < 4 /\ bj K H2 b (dl (bF h (3 - j))) := fun {H2 j x} s2 hx => by
    rw [List.getElem?_map] at hx
    obtain ⟨b, hb, rfl⟩ := Option.map_eq_some_iff.mp hx
    have := mo hb
    exact ⟨b, rfl, by omega, bj.of (s2 _ _ (ab j b hb).2)⟩
   have sqD : bj K H' D (bs.map V.ref) := bj.of e
   refine ⟨_, rfl, D, rfl, ⟨_, sqD⟩, fun D2 hD2 => eZ (K := K) (a := D) (xs := bs.map V.ref) (fun i H2 => H2 = aU H' D2 (.lst (dl ((Vbbraa.lengths h).take i)))) rfl (fun i H2 _ e2 => ?_) (fun i x H2 hx e2 => ?_) (fun H2 e2 => ?_)⟩
   ·subst e2
    exact (ax.new hD2).seq sqD
   ·subst e2
    obtain ⟨b, rfl, hi, sb⟩ := ab2 (ax.new hD2) hx
    refine ⟨rfl, jX ?_⟩
    refine ⟨_, rfl, b, _, rfl, .inl sb, _, ae, ?_, ?_⟩
    ·rw [aG, List.length_take]
     exact aX (by omega)
    ·rw [bv, aG]
     unfold Vbbraa.lengths bF
     rw [List.take_add_one, vv _ hi, bp, List.length_map]
     rfl
   ·subst e2
    have lenL : (Vbbraa.lengths h).length = 4 := rfl
    rw [List.length_map, lb4, List.take_of_length_le (Nat.le_of_eq lenL)]
    have s2 : ax H' (aU H' D2 (.lst (dl (Vbbraa.lengths h)))) := ax.new hD2
    have eD2 : (aU H' D2 (.lst (dl (Vbbraa.lengths h)))) D2 = some (.lst (dl (Vbbraa.lengths h))) := ae
    generalize aU H' D2 (.lst (dl (Vbbraa.lengths h))) = H2 at s2 eD2 ⊢
    refine ⟨_, rfl, D, rfl, ⟨_, s2.seq sqD⟩, fun D3 hD3 => eZ (K := K) (a := D) (xs := bs.map V.ref) (fun i H3 => H3 D3 = some (.lst (dl ((([3, 2, 1, 0] : List Nat).map fun s => o5 (bF h s)).take i))) /\ ax H2 H3) ⟨ae, ax.new hD3⟩ (fun i H3 _ hP => (s2.trans hP.2).seq sqD) (fun i x H3 hx hP => ?_) (fun H3 hP => ?_)⟩
    ·obtain ⟨e3, s3⟩ := hP
     obtain ⟨b, rfl, hi, sb⟩ := ab2 (s2.trans s3) hx
     refine ⟨rfl, jX ?_⟩
     refine ⟨_, rfl, b, _, rfl, sb, fun H4 s4 => ⟨_, s4 _ _ e3, ?_, ?_, fun c o ec => ?_⟩⟩
     ·rw [aG, List.length_take]
      exact aX (by omega)
     ·rw [ae, List.take_add_one, vv _ hi, bp]
      rfl
     ·rw [ak (au ec hD3)]
      exact s4 _ _ (s3 _ _ ec)
    ·obtain ⟨e3, s3⟩ := hP
     rw [List.length_map, lb4, List.take_of_length_le (by rw [List.length_map]; decide)] at e3
     refine ⟨D3, zz (([3, 2, 1, 0] : List Nat).map fun s => o5 (bF h s)), rfl, bj.of e3, ?_⟩
     rw [jE, <- xz nd]
     have s03 : ax H H3 := sm.trans (s2.trans s3)
     refine ⟨_, rfl, a, ta "POINTS", h, [0, 0, 0, 0, 0, 0, 0, 0, 0, 1, 2, 3, 4], rfl, s03.seq hs, T.g_POINTS.sqT _, len, rfl, fun H5 s5 => ?_⟩
     refine ⟨_, rfl, a, ta "CONTROLS", h, [0, 0, 0, 0, 0, 0, 0, 0, 0, 0, 0, 1, 2], rfl, (s03.trans s5).seq hs, T.g_CONTROLS.sqT _, len, rfl, fun H6 s6 => ?_⟩
     rw [<- p9, <- mQ]
     have s26 : ax H2 H6 := s3.trans (s5.trans s6)
     refine ⟨_, rfl, (by show 3 <= sizeLine; decide), fun l hl => ⟨_, rfl, l, D2, _, _, rfl, rfl, ae, (ax.new hl) _ _ (s26 _ _ eD2), ?_, fun p hp => ?_⟩⟩
     ·rw [aG, lenL]
      show 3 + 4 <= sizeLine
      decide
     ·refine ⟨_, rfl, D2, zz (Vbbraa.lengths h), rfl, bj.of ((ax.new hp) _ _ ((ax.new hl) _ _ (s26 _ _ eD2))), ?_, fun ns q hperm hsort hq => ?_⟩
      ·unfold zz Vbbraa.«ints»
       rw [List.length_map, lenL]
       decide
      ·have e7 := yp hperm hsort
       subst e7
       refine ⟨p, q, _, _, rfl, rfl, (ax.new hq) _ _ ae, ae, ?_, fun r hr => ?_⟩
       ·have e8 : ([V.int (Vbbraa.points h : Nat), V.int (Vbbraa.controls h : Nat), V.int (Vbbraa.losers h : Nat)] ++ dl (Vbbraa.lengths h)).length = 7 := rfl
        have e9 : ((zz ((Vbbraa.lengths h).foldr Vbbraa.put [])).map V.int).length = 4 := by
         rw [List.length_map, hperm.length_eq]
         rfl
        show ([V.int (Vbbraa.points h : Nat), V.int (Vbbraa.controls h : Nat), V.int (Vbbraa.losers h : Nat)] ++ dl (Vbbraa.lengths h)).length + ((zz ((Vbbraa.lengths h).foldr Vbbraa.put [])).map V.int).length <= sizeLine
        rw [e8, e9]
        decide
       ·have sl := sm.trans (s2.trans s26)
        refine k _ r ⟨?_, ?_, ?_⟩
        ·exact sl.trans ((ax.new hl).trans ((ax.new hp).trans ((ax.new hq).trans (ax.new hr))))
        ·exact sl.free ((ax.new hl).free ((ax.new hp).free ((ax.new hq).free hr)))
        ·exact ae
end
end Db
end
section
namespace Db
open PySem PySem.Spec PyProof.Rows L2
open Vbbraa (Deal State boardOf setBoard fits Call)
theorem mC {n : Nat} (h : n < 10 ^ 50) : (Vbbraa.digitsOf n).length <= 50 := by
 rw [fJ, List.length_map]
 exact TL.oX (by decide) h
theorem j6 (l : List Nat) : (Vbbraa.«ints» l).length = l.length := by
 unfold Vbbraa.«ints»
 rw [List.length_map]
theorem gK {s : State} {b : Nat} {k : Deal -> State × List Int} {m : Nat} (hm : 1 <= m) (h : ∀ d, boardOf s b = some d -> (k d).2.length <= m) : (Vbbraa.onBoard s b k).2.length <= m := by
 unfold Vbbraa.onBoard
 cases e : boardOf s b with
 | none =>
   exact hm
 | some d =>
   exact h d e
theorem kH {s : State} {b : Nat} {k : Deal -> State × List Int} {m : Nat} (hm : 1 <= m) (h : ∀ d, boardOf s b = some d -> Vbbraa.isWhole d = true -> (k d).2.length <= m) : (Vbbraa.onWhole s b k).2.length <= m := by
 unfold Vbbraa.onWhole
 refine gK hm fun d e => ?_
 by_cases z : Vbbraa.isWhole d = true
 ·rw [if_pos z]
  exact h d e z
 ·rw [if_neg z]
  exact hm
theorem mj {s : State} {l : List Nat} {b : Nat} {k : Nat -> State × List Int} {m : Nat} (hm : 1 <= m) (h : ∀ n, (k n).2.length <= m) : (Vbbraa.onNumber s l b k).2.length <= m := by
 unfold Vbbraa.onNumber
 cases e : Vbbraa.told l with
 | none =>
   exact hm
 | some n =>
   show (if n < b then k n else (s, [-4])).2.length <= m
   by_cases z : n < b
   ·rw [if_pos z]
    exact h n
   ·rw [if_neg z]
    exact hm
theorem mR (d : Deal) (z : Nat) : (Vbbraa.cardsOf d z).length <= 52 := by
 unfold Vbbraa.cardsOf
 exact Nat.le_trans (List.length_filter_le _ _) (by simp)
theorem gm (d : Deal) (z : Nat) (l : List Nat) : (Vbbraa.compared d z l).length <= 106 := by
 unfold Vbbraa.compared
 have h1 : ((Vbbraa.cardsOf d z).filter fun c => !l.contains c).length <= 52 := Nat.le_trans (List.length_filter_le _ _) (mR d z)
 have h2 : ((Vbbraa.rising l).filter fun c => d.getD c 4 != z).length <= 52 := by
  refine Nat.le_trans (List.length_filter_le _ _) ?_
  unfold Vbbraa.rising
  exact Nat.le_trans (List.length_filter_le _ _) (by simp)
 simp only [List.length_append, List.length_cons]
 omega
theorem kS (a : Nat) : ∀ l : List Nat, (Vbbraa.put a l).length = l.length + 1
 | [] => rfl
 | b :: l => by
   unfold Vbbraa.put
   split
   ·rfl
   ·rw [List.length_cons, kS a l, List.length_cons]
theorem pU (h : List Nat) : (Vbbraa.shape h).length = 4 := by
 unfold Vbbraa.shape Vbbraa.lengths
 show (Vbbraa.put _ (Vbbraa.put _ (Vbbraa.put _ (Vbbraa.put _ [])))).length = 4
 rw [kS, kS, kS, kS]
 rfl
theorem yh {s : State} (g : zG s) (c : Call) : (Vbbraa.step s c).2.length <= 450 := by
 cases c with
 | read b t =>
   show (match Vbbraa.readDeal t with
    | .error e => (s, [0, Int.ofNat e.1, Int.ofNat e.2])
    | .ok d => (setBoard s b d, [0, 0, Int.ofNat (52 - Vbbraa.countOf d 4)])).2.length <= 450
   cases Vbbraa.readDeal t with
   | error e => show 3 <= 450; omega
   | ok d => show 3 <= 450; omega
 | shown b =>
   exact gK (by omega) fun d _ => by
    show (0 :: Vbbraa.«ints» (Vbbraa.shown d)).length <= 450
    rw [List.length_cons, j6]
    have := lL d
    omega
 | count b =>
   exact gK (by omega) fun d _ => by
    show (0 :: Vbbraa.«ints» (Vbbraa.digitsOf (fits d))).length <= 450
    rw [List.length_cons, j6]
    have := mC (i4 (d := d))
    omega
 | number b =>
   exact kH (by omega) fun d e hw => by
    show (0 :: Vbbraa.«ints» (Vbbraa.digitsOf (Vbbraa.placeOf Vbbraa.unknown d))).length <= 450
    rw [List.length_cons, j6]
    have := mC (Nat.lt_trans (gI aY (g b d e) hw (dm d)) i4)
    omega
 | deal b l =>
   exact mj (by omega) fun n => by show 1 <= 450; omega
 | nth b c l =>
   exact gK (by omega) fun d _ => mj (by omega) fun n => by show 1 <= 450; omega
 | place b c =>
   exact gK (by omega) fun d ed => kH (by omega) fun e ee hw => by
    show (if Vbbraa.agrees d e = true then (s, 0 :: Vbbraa.«ints» (Vbbraa.digitsOf (Vbbraa.placeOf d e))) else (s, [-5])).2.length <= 450
    by_cases z : Vbbraa.agrees d e = true
    ·rw [if_pos z]
     show (0 :: Vbbraa.«ints» (Vbbraa.digitsOf (Vbbraa.placeOf d e))).length <= 450
     rw [List.length_cons, j6]
     have := mC (Nat.lt_trans (gI (g b d ed) (g c e ee) hw z) i4)
     omega
    ·rw [if_neg z]
     show 1 <= 450
     omega
 | session b i l =>
   exact mj (by omega) fun n => by show 1 <= 450; omega
 | rotate b k =>
   exact gK (by omega) fun d _ => by show 1 <= 450; omega
 | suits b p =>
   exact gK (by omega) fun d _ => by
    show (if Vbbraa.isPermutation p = true then (setBoard s b (Vbbraa.resuited d p), [0]) else (s, [-6])).2.length <= 450
    split <;> (show 1 <= 450; omega)
 | hand b z =>
   exact gK (by omega) fun d _ => by
    show (0 :: Vbbraa.«ints» (Vbbraa.cardsOf d z)).length <= 450
    rw [List.length_cons, j6]
    have := mR d z
    omega
 | features b z =>
   exact gK (by omega) fun d _ => by
    show (if (Vbbraa.cardsOf d z).length = 13 then (s, 0 :: Vbbraa.«ints» (Vbbraa.points (Vbbraa.cardsOf d z) :: Vbbraa.controls (Vbbraa.cardsOf d z) :: Vbbraa.losers (Vbbraa.cardsOf d z) :: (Vbbraa.lengths (Vbbraa.cardsOf d z) ++ Vbbraa.shape (Vbbraa.cardsOf d z)))) else (s, [-3])).2.length <= 450
    split
    ·show (0 :: Vbbraa.«ints» _).length <= 450
     rw [List.length_cons, j6, List.length_cons, List.length_cons, List.length_cons, List.length_append, pU]
     show 4 + 4 + 1 + 1 + 1 + 1 <= 450
     omega
    ·show 1 <= 450
     omega
 | curtain b n e so w =>
   exact kH (by omega) fun d _ _ => by
    show (if (Vbbraa.distinct n && (Vbbraa.distinct e && (Vbbraa.distinct so && Vbbraa.distinct w))) = true then (s, 0 :: Vbbraa.«ints» (Vbbraa.compared d 0 n ++ (Vbbraa.compared d 1 e ++ (Vbbraa.compared d 2 so ++ Vbbraa.compared d 3 w)))) else (s, [-7])).2.length <= 450
    split
    ·show (0 :: Vbbraa.«ints» _).length <= 450
     rw [List.length_cons, j6, List.length_append, List.length_append, List.length_append]
     have := gm d 0 n
     have := gm d 1 e
     have := gm d 2 so
     have := gm d 3 w
     omega
    ·show 1 <= 450
     omega
 | know b card z =>
   exact gK (by omega) fun d _ => by
    show (if d.getD card 4 ≠ 4 then (s, [-5]) else if 13 <= Vbbraa.countOf d z then (s, [-8]) else (setBoard s b (d.set card z), [0])).2.length <= 450
    split
    ·show 1 <= 450; omega
    ·split <;> (show 1 <= 450; omega)
 | forget b card =>
   exact gK (by omega) fun d _ => by
    show (if d.getD card 4 = 4 then (s, [-5]) else (setBoard s b (d.set card 4), [0])).2.length <= 450
    split <;> (show 1 <= 450; omega)
 | meet b c t =>
   exact gK (by omega) fun d _ => gK (by omega) fun e _ => by
    show (match Vbbraa.both d e with
     | none => (s, [-5])
     | some m => (setBoard s t m, [0])).2.length <= 450
    cases Vbbraa.both d e with
    | none => show 1 <= 450; omega
    | some m => show 1 <= 450; omega
 | clear b => show 1 <= 450; omega
 | chance b card z =>
   exact gK (by omega) fun d _ => by show 3 <= 450; omega
 | next b =>
   exact kH (by omega) fun d _ _ => by
    show (if Vbbraa.placeOf Vbbraa.unknown d + 1 < Vbbraa.ALL then (setBoard s b (Vbbraa.nth Vbbraa.unknown (Vbbraa.placeOf Vbbraa.unknown d + 1)), [0]) else (s, [-4])).2.length <= 450
    split <;> (show 1 <= 450; omega)
 | sure b =>
   exact gK (by omega) fun d _ => by show 2 <= 450; omega
theorem z4 {s : State} (g : zG s) (c : List (List Int)) : (Vbbraa.stepRows s c).2.length <= 450 := by
 unfold Vbbraa.stepRows
 cases Vbbraa.callOf c with
 | none => show 1 <= 450; omega
 | some x =>
   exact yh g x
end Db
end
section
namespace Db
open PySem PySem.Spec PyProof.Rows L2
open Vbbraa (Deal countOf room words fits unknown isWhole)
def il (l : List Int) : List V := l.map V.int
theorem eh (l : List Int) : (il l).length = l.length := List.length_map ..
theorem rM {l : List Int} {i : Nat} {v : V} (h : (il l)[i]? = some v) : ∃ x, l[i]? = some x /\ v = V.int x := by
 unfold il at h
 rw [List.getElem?_map] at h
 cases e : l[i]? with
 | none =>
   rw [e] at h
   cases h
 | some x =>
   rw [e] at h
   exact ⟨x, rfl, (Option.some.inj h).symm⟩
def cf (a : Addr) (p : Int) : List (Str × V) := [(("calls" : Str), V.ref a), (("at" : Str), V.int p)]
theorem tX (a : Addr) (p : Int) : (cf a p).lookup ("calls" : Str) = some (.ref a) := by
 unfold cf
 rw [List.lookup_cons_self]
theorem wI (a : Addr) (p : Int) : (cf a p).lookup ("at" : Str) = some (.int p) := by
 unfold cf
 rw [List.lookup_cons, show (("at" : Str) == ("calls" : Str)) = false by decide +kernel]
 rw [List.lookup_cons_self]
theorem pq (a : Addr) (p : Int) {m : Str} (h1 : (m == ("calls" : Str)) = false) (h2 : (m == ("at" : Str)) = false) : (cf a p).lookup m = none := by
 unfold cf
 rw [List.lookup_cons, h1, List.lookup_cons, h2]
 rfl
theorem BQ (a : Addr) (p q : Int) : dO "at" (.int q) (cf a p) = cf a q := by
 show (if ("calls" : Str) = "at" then _ else (("calls" : Str), V.ref a) :: (if ("at" : Str) = "at" then (("at" : Str), V.int q) :: _ else _)) = _
 rw [if_neg (by decide +kernel), if_pos rfl]
 rfl
theorem BR (a : Addr) (p : Int) : (cf a p).length < 1000 := by
 show 2 < 1000
 omega
structure CR (K : W.Frag) (CC : Addr) (H : Hp) (rd dx a : Addr) (l : List Int) (p : Nat) : Prop where
 ins : H rd = some (.ins CC dx (cf a p))
 calls : bj K H a (il l)
 le : p <= l.length
def KR (rd : Addr) (H H' : Hp) : Prop := ∀ b o, H b = some o -> b ≠ rd -> H' b = some o
theorem KR.refl (rd : Addr) (H : Hp) : KR rd H H := fun _ _ e _ => e
theorem KR.trans {rd : Addr} {H H1 H2 : Hp} (a : KR rd H H1) (b : KR rd H1 H2) : KR rd H H2 := fun c o e n => b c o (a c o e n) n
theorem KR.same {rd : Addr} {H H1 H2 : Hp} (a : KR rd H H1) (b : ax H1 H2) : KR rd H H2 := fun c o e n => b c o (a c o e n)
theorem KR.seq {K : W.Frag} {rd a C dx : Addr} {fs : List (Str × V)} {xs : List V} {H H' : Hp} (k : KR rd H H') (i : H rd = some (.ins C dx fs)) (h : bj K H a xs) : bj K H' a xs := by
 rcases h with (h | ⟨o, h⟩) | h
 ·exact .inl (.inl (k _ _ h (eW h i (by intro z; cases z))))
 ·exact .inl (.inr ⟨o, k _ _ h (eW h i (by intro z; cases z))⟩)
 ·exact .inr h
theorem KR.lst {rd a C dx : Addr} {fs : List (Str × V)} {xs : List V} {H H' : Hp} (k : KR rd H H') (i : H rd = some (.ins C dx fs)) (h : H a = some (.lst xs)) : H' a = some (.lst xs) := k _ _ h (eW h i (by intro z; cases z))
section
variable {K : W.Frag} {CC : Addr} {H H' : Hp} {rd dx a : Addr} {l : List Int} {p : Nat}
theorem CR.same (r : CR K CC H rd dx a l p) (s : ax H H') : CR K CC H' rd dx a l p := ⟨s _ _ r.ins, s.seq r.calls, r.le⟩
theorem CR.keeps (r : CR K CC H rd dx a l p) (o : HO) : KR rd H (aU H rd o) := fun b u e n => by
 rw [ak n]
 exact e
theorem CR.go (r : CR K CC H rd dx a l p) {q : Nat} (h : q <= l.length) : CR K CC (aU H rd (.ins CC dx (cf a q))) rd dx a l q := ⟨ae, (r.keeps _).seq r.ins r.calls, h⟩
end
structure A5 (K : W.Frag) (CC : Addr) : Prop where
 cl : ue K CC
 n_calls : fu K CC "calls"
 n_at : fu K CC "at"
section
variable (K : W.Frag) (CC : Addr)
def n9 : Sp := fun vs H Q _ => ∃ (rd dx a : Addr) (l : List Int), vs = [.ref rd, .ref a] /\ H rd = some (.ins CC dx []) /\ bj K H a (il l) /\ ∀ H', CR K CC H' rd dx a l 0 -> KR rd H H' -> Q .non H'
def uw : Sp := fun vs H Q _ => ∃ (rd dx a : Addr) (l : List Int) (p : Nat), vs = [.ref rd] /\ CR K CC H rd dx a l p /\ Q (.bl (decide (p < l.length))) H
def qT : Sp := fun vs H Q _ => ∃ (rd dx a : Addr) (l : List Int) (p n : Nat), vs = [.ref rd, .int n] /\ CR K CC H rd dx a l p /\ p + n <= l.length /\
 ∀ H' q, CR K CC H' rd dx a l (p + n) -> KR rd H H' -> H q = none -> H' q = some (.lst (il ((l.drop p).take n))) -> Q (.ref q) H'
def yi : Sp := fun vs H Q _ => ∃ (rd dx a : Addr) (l : List Int) (p : Nat) (x y : List Int), vs = [.ref rd] /\ CR K CC H rd dx a l p /\ PyFlat.row (l.drop p) = some (x, y) /\
 ∀ H' q p', CR K CC H' rd dx a l p' -> l.drop p' = y -> KR rd H H' -> H q = none -> H' q = some (.lst (il x)) -> Q (.ref q) H'
def fU (H H' : Hp) : List Addr -> List (List Int) -> Prop
 | [], [] => True
 | b :: bs, x :: xs => (H b = none /\ H' b = some (.lst (il x))) /\ fU H H' bs xs
 | _, _ => False
def qS : Sp := fun vs H Q _ => ∃ (rd dx a : Addr) (l : List Int) (p k : Nat) (xs : List (List Int)) (y : List Int), vs = [.ref rd, .int k] /\ CR K CC H rd dx a l p /\ PyFlat.rows k (l.drop p) = some (xs, y) /\ k <= 1000 /\
 ∀ H' q p' bs, CR K CC H' rd dx a l p' -> l.drop p' = y -> KR rd H H' -> H q = none -> H' q = some (.lst (bs.map V.ref)) -> fU H H' bs xs -> Q (.ref q) H'
end
theorem BM (l : List Int) (p n : Nat) (h : p + n <= l.length) : ny (il l) (some (p : Int)) (some ((p : Int) + (n : Int))) = il ((l.drop p).take n) := by
 unfold ny
 rw [HT.qX, show ((p : Int) + (n : Int)) = ((p + n : Nat) : Int) by omega, HT.qX, eh, Nat.min_eq_left (by omega), Nat.min_eq_left (by omega)]
 unfold il
 rw [show p + n - p = n by omega, List.map_take, List.map_drop]
theorem fU.app {H H' : Hp} : ∀ {bs : List Addr} {xs : List (List Int)} {b : Addr} {x : List Int}, fU H H' bs xs -> H b = none -> H' b = some (.lst (il x)) -> fU H H' (bs ++ [b]) (xs ++ [x])
 | [], [], _, _, _, h1, h2 => ⟨⟨h1, h2⟩, trivial⟩
 | _ :: _, _ :: _, _, _, h, h1, h2 => ⟨h.1, h.2.app h1 h2⟩
theorem fU.map {H H' H2 : Hp} : ∀ {bs : List Addr} {xs : List (List Int)}, (∀ b x, b ∈ bs -> H b = none -> H' b = some (.lst (il x)) -> H2 b = some (.lst (il x))) -> fU H H' bs xs -> fU H H2 bs xs
 | [], [], _, _ => trivial
 | _ :: _, _ :: _, k, h => ⟨⟨h.1.1, k _ _ List.mem_cons_self h.1.1 h.1.2⟩, fU.map (fun b x m => k b x (List.mem_cons_of_mem _ m)) h.2⟩
theorem fU.len {H H' : Hp} : ∀ {bs : List Addr} {xs : List (List Int)}, fU H H' bs xs -> bs.length = xs.length
 | [], [], _ => rfl
 | _ :: _, _ :: _, h => by rw [List.length_cons, List.length_cons, h.2.len]
theorem oq : ∀ {k : Nat} {r y : List Int} {xs : List (List Int)}, PyFlat.rows k r = some (xs, y) -> xs.length = k
 | 0, r, y, xs, h => by
   unfold PyFlat.rows at h
   injection h with h
   injection h with h _
   rw [<- h]
   rfl
 | k + 1, r, y, xs, h => by
   unfold PyFlat.rows at h
   cases e : PyFlat.row r with
   | none =>
     rw [e] at h
     cases h
   | some x =>
     rw [e] at h
     cases e2 : PyFlat.rows k x.2 with
     | none =>
       simp only [e2] at h
       cases h
     | some z =>
       simp only [e2] at h
       injection h with h
       injection h with h _
       rw [<- h, List.length_cons, oq (k := k) e2]
section
variable {P : Program} {w : World} {K : W.Frag} {mg : Str -> Option Value} {base : Heap} {CF CC NF fIF : Addr} {ta : Str -> Addr}
theorem kt {f : Addr} {fd : FuncData} (F : b7 K "__init__" "CallReader.__init__" cZ f fd) (T : Tx K mg CF ta) (c_CallReader : A5 K CC) : aP P w K mg base aT 1 f fd ["self", "calls"] (n9 K CC) := by
 refine F.ok kc (fun vs H Q E h => ?_) (fun cdv A outer s H vs Q E hr h => ?_)
 ·obtain ⟨_, _, _, _, rfl, _⟩ := h
  rfl
 ·obtain ⟨rd, dx, a, l, rfl, hi, ha, k⟩ := h
  refine ⟨_, (ac (oB (pv 0) (pv 1) rfl)
   (ah (oB (pv 0) aj rfl))), ?_⟩
  refine ⟨_, rfl, _, rfl, rd, CC, dx, _, rfl, hi, c_CallReader.cl, c_CallReader.n_calls, by decide, ?_⟩
  refine ⟨_, rfl, rd, CC, dx, _, rfl, ae, c_CallReader.cl, c_CallReader.n_at, rg _ (by show 0 + 1 < 1000; omega), ?_⟩
  have e : dO "at" (.int 0) (dO "calls" (.ref a) []) = cf a 0 := by
   show (if ("calls" : Str) = "at" then _ else (("calls" : Str), V.ref a) :: dO "at" (.int 0) []) = _
   rw [if_neg (by decide +kernel)]
   rfl
  rw [e, bv]
  have kr : KR rd H (aU H rd (.ins CC dx (cf a 0))) := fun b o eb n => by
   rw [ak n]
   exact eb
  exact k _ ⟨ae, kr.seq hi ha, Nat.zero_le _⟩ kr
theorem iX {f : Addr} {fd : FuncData} (F : b7 K "has_more" "CallReader.has_more" bY f fd) (T : Tx K mg CF ta) (c_CallReader : A5 K CC) : aP P w K mg base aT 1 f fd ["self"] (uw K CC) := by
 refine F.ok iP (fun vs H Q E h => ?_) (fun cdv A outer s H vs Q E hr h => ?_)
 ·obtain ⟨_, _, _, _, _, rfl, _⟩ := h
  rfl
 ·obtain ⟨rd, dx, a, l, p, rfl, r, k⟩ := h
  refine ⟨_, (ah (aq (fH oI (bQ (pv 0) rfl) (aO aV rfl T.n_len (by decide +kernel) (aa (bQ (pv 0) rfl) ad)) (aJ _)))), ?_⟩
  refine ⟨_, rfl, rd, CC, dx, _, _, rfl, r.ins, c_CallReader.cl, c_CallReader.n_at, wI _ _, _, rfl, rd, CC, dx, _, _, rfl, r.ins, c_CallReader.cl, c_CallReader.n_calls, tX _ _, a, il l, rfl, .inl r.calls, _, _, rfl, rfl, ?_⟩
  show Q (.bl (decide ((p : Int) < ((il l).length : Int)))) H
  rw [eh, show decide ((p : Int) < (l.length : Int)) = decide (p < l.length) by
   by_cases h : p < l.length
   ·rw [decide_eq_true h, decide_eq_true (by omega)]
   ·rw [decide_eq_false h, decide_eq_false (by omega)]]
  exact k
theorem gL {f : Addr} {fd : FuncData} (F : b7 K "take_numbers" "CallReader.take_numbers" br f fd) (T : Tx K mg CF ta) (c_CallReader : A5 K CC) : aP P w K mg base aT 1 f fd ["self", "how_many"] (qT K CC) := by
 refine F.ok dg (fun vs H Q E h => ?_) (fun cdv A outer s H vs Q E hr h => ?_)
 ·obtain ⟨_, _, _, _, _, _, rfl, _⟩ := h
  rfl
 ·obtain ⟨rd, dx, a, l, p, n, rfl, r, hle, k⟩ := h
  refine ⟨_, (ac (az (i := 2) dg.nd rfl (Or.inl rfl) (bQ (pv 0) rfl))
   (ac (gr (pv 0) (pv 1) mq)
   (ah (aq (sZ zX (bQ (pv 0) rfl) (rh (pv 2)) (rh (bQ (pv 0) rfl))))))), ?_⟩
  refine ⟨_, rfl, rd, CC, dx, _, _, rfl, r.ins, c_CallReader.cl, c_CallReader.n_at, wI _ _, _, rfl, rd, CC, dx, _, _, rfl, r.ins, c_CallReader.cl, c_CallReader.n_at, wI _ _, _, rfl, _, _, rfl, rfl, dx, _, r.ins, BR _ _, ?_⟩
  rw [BQ, show (p : Int) + (n : Int) = ((p + n : Nat) : Int) by omega]
  have r1 := r.go hle
  refine ⟨_, rfl, rd, CC, dx, _, _, rfl, r1.ins, c_CallReader.cl, c_CallReader.n_calls, tX _ _, _, rfl, _, rfl, _, rfl, rd, CC, dx, _, _, rfl, r1.ins, c_CallReader.cl, c_CallReader.n_at, wI _ _, _, rfl, a, il l, rfl, r1.calls, fun q hq => ?_⟩
  have nq : H q = none := by
   cases e : H q with
   | none => rfl
   | some o =>
     by_cases z : q = rd
     ·rw [z, ae] at hq
      cases hq
     ·rw [ak z, e] at hq
      cases hq
  refine k _ q (r1.same (ax.new hq)) ((r.keeps _).same (ax.new hq)) nq ?_
  rw [ae, show ((p + n : Nat) : Int) = (p : Int) + (n : Int) by omega, BM l p n hle]
theorem xb {l x y : List Int} {p : Nat} (h : PyFlat.row (l.drop p) = some (x, y)) : ∃ n : Nat, l.drop p = (n : Int) :: l.drop (p + 1) /\ p + 1 + n <= l.length /\ x = (l.drop (p + 1)).take n /\ y = l.drop (p + 1 + n) := by
 cases e : l.drop p with
 | nil =>
   rw [e] at h
   cases h
 | cons m r =>
   rw [e] at h
   replace h : (if 0 <= m /\ m.toNat <= r.length then some (r.take m.toNat, r.drop m.toNat) else none) = some (x, y) := h
   by_cases c : 0 <= m /\ m.toNat <= r.length
   ·rw [if_pos c] at h
    injection h with h
    injection h with h1 h2
    have hr : r = l.drop (p + 1) := by
     rw [<- List.drop_drop, e]
     rfl
    have hl : p < l.length := by
     rcases Nat.lt_or_ge p l.length with z | z
     ·exact z
     ·rw [List.drop_eq_nil_of_le z] at e
      cases e
    refine ⟨m.toNat, ?_, ?_, ?_, ?_⟩
    ·rw [hr, Int.toNat_of_nonneg c.1]
    ·have := c.2
     rw [hr, List.length_drop] at this
     omega
    ·rw [<- h1, hr]
    ·rw [<- h2, hr, List.drop_drop]
   ·rw [if_neg c] at h
    cases h
theorem iW {f : Addr} {fd : FuncData} (F : b7 K "take_row" "CallReader.take_row" bX f fd) (T : Tx K mg CF ta) (c_CallReader : A5 K CC)
 (M_CallReader_take_numbers : jW P w K mg base aT 1 CC "take_numbers" ["self", "how_many"] (qT K CC)) : aP P w K mg base aT 2 f fd ["self"] (yi K CC) := by
 refine F.ok eI (fun vs H Q E h => ?_) (fun cdv A outer s H vs Q E hr h => ?_)
 ·obtain ⟨_, _, _, _, _, _, _, rfl, _⟩ := h
  rfl
 ·obtain ⟨rd, dx, a, l, p, x, y, rfl, r, hrow, k⟩ := h
  obtain ⟨n, e1, e2, rfl, rfl⟩ := xb hrow
  refine ⟨_, (ac (az (i := 1) eI.nd rfl (Or.inl rfl) (aA am (fR M_CallReader_take_numbers c_CallReader.cl (hr.mono (by decide)) ay (pv 0) (aa aj ad)) aj (fun _ _ => rfl)))
   (ah (aq (fR M_CallReader_take_numbers c_CallReader.cl (hr.mono (by decide)) ay (pv 0) (aa (pv 1) ad))))), ?_⟩
  refine ⟨_, rfl, rd, dx, _, rfl, r.ins, pq _ _ (by decide +kernel) (by decide +kernel), rd, dx, a, l, p, 1, rfl, r, by omega, fun H1 q r1 k1 n1 eq => ?_⟩
  rw [e1] at eq
  refine ⟨q, [.int n], 0, .int n, rfl, rfl, .inl (.inl eq), rfl, _, rfl, rd, dx, _, rfl, r1.ins, pq _ _ (by decide +kernel) (by decide +kernel), _, rfl, rd, dx, a, l, p + 1, n, rfl, r1, e2, fun H2 q2 r2 k2 n2 eq2 => ?_⟩
  refine k _ q2 _ r2 rfl (k1.trans k2) ?_ eq2
  cases e3 : H q2 with
  | none => rfl
  | some o =>
    by_cases z : q2 = rd
    ·rw [z, r1.ins] at n2
     cases n2
    ·rw [k1 _ _ e3 z] at n2
     cases n2
def wM (K : W.Frag) (CC : Addr) (H : Hp) (rd dx a D : Addr) (l : List Int) (n : Nat) (xs : List (List Int)) (y : List Int) (m : Nat) (σ' : L2.St) (H' : Hp) : Prop :=
 ∃ (p' : Nat) (bs : List Addr) (dn rs : List (List Int)), σ' = [some (.ref rd), some (.int n), some (.ref D)] /\ CR K CC H' rd dx a l p' /\ KR rd H H' /\ H' D = some (.lst (bs.map V.ref)) /\ fU H H' bs dn /\ (∀ b ∈ bs, b ≠ D) /\ xs = dn ++ rs /\ PyFlat.rows m (l.drop p') = some (rs, y) /\ m + bs.length = n
theorem uD {m : Nat} {r y : List Int} {rs : List (List Int)} (h : PyFlat.rows (m + 1) r = some (rs, y)) : ∃ x z rs', PyFlat.row r = some (x, z) /\ PyFlat.rows m z = some (rs', y) /\ rs = x :: rs' := by
 unfold PyFlat.rows at h
 cases e : PyFlat.row r with
 | none =>
   rw [e] at h
   cases h
 | some x =>
   rw [e] at h
   cases e2 : PyFlat.rows m x.2 with
   | none =>
     simp only [e2] at h
     cases h
   | some z =>
     simp only [e2] at h
     injection h with h
     injection h with h1 h2
     subst h1 h2
     exact ⟨x.1, x.2, z.1, rfl, e2, rfl⟩
theorem iB {f : Addr} {fd : FuncData} (F : b7 K "take_rows" "CallReader.take_rows" bP f fd) (T : Tx K mg CF ta) (c_CallReader : A5 K CC)
 (M_CallReader_take_row : jW P w K mg base aT 2 CC "take_row" ["self"] (yi K CC)) : aP P w K mg base aT 3 f fd ["self", "how_many"] (qS K CC) := by
 refine F.ok eA (fun vs H Q E h => ?_) (fun cdv A outer s H vs Q E hr h => ?_)
 ·obtain ⟨_, _, _, _, _, _, _, _, rfl, _⟩ := h
  rfl
 ·obtain ⟨rd, dx, a, l, p, n, xs, y, rfl, r, hrows, hn, k⟩ := h
  refine ⟨_, (ac (az (i := 2) eA.nd rfl (Or.inl rfl) (aN ad))
   (ac (jr PassesOwn.never (aH oI (aO aV rfl T.n_len (by decide +kernel) (aa (pv 2) ad)) (pv 1) (aJ _)) (ah (d7 (qc PySem.F.plainAttrs_list PySem.F.slot_list_append PySem.F.type_list_append qh (pv 2) (aa (lY M_CallReader_take_row c_CallReader.cl (hr.mono (by decide)) ay (pv 0)) ad)))))
   (ah (aq (pv 2))))), ?_⟩
  refine ⟨Nat.zero_le _, fun D hD => ?_⟩
  have sD := ax.new (o := .lst []) hD
  refine ⟨wM K CC H rd dx a D l n xs y, ⟨n, p, [], [], xs, rfl, r.same sD, (KR.refl _ _).same sD, ae, trivial, by simp, rfl, hrows, by simp⟩, ?_⟩
  rintro m σ' H' ⟨p', bs, dn, rs, rfl, r1, kr, eD, hL, hne, rfl, hm, hc⟩
  refine ⟨_, rfl, D, _, rfl, .inl (.inl (.inl eD)), _, rfl, _, _, rfl, rfl, _, rfl, bq (fun h1 => ?_) (fun h1 => ?_)⟩
  ·have h2 : bs.length < n := by
    have := of_decide_eq_true h1
    rw [List.length_map] at this
    omega
   obtain ⟨m', rfl⟩ : ∃ m', m = m' + 1 := ⟨m - 1, by omega⟩
   obtain ⟨x, z, rs', e1, e2, rfl⟩ := uD hm
   refine ⟨wM K CC H rd dx a D l n (dn ++ x :: rs') y m', fun σ2 H2 h => ⟨m', Nat.lt_succ_self _, h⟩, ?_⟩
   refine ⟨_, rfl, .inl ⟨rfl, _, .inl (.inl eD)⟩, _, rfl, rd, dx, _, rfl, r1.ins, pq _ _ (by decide +kernel) (by decide +kernel), rd, dx, a, l, p', x, z, rfl, r1, e1, fun H2 q p2 r2 ep k2 nq eq => ⟨D, _, _, rfl, rfl, k2.lst r1.ins eD, ?_, ?_⟩⟩
   ·rw [List.length_map]
    exact aX (by omega)
   ·have Dq : q ≠ D := Ne.symm (au eD nq)
    have Drd : rd ≠ D := au r.ins hD
    have k3 : KR rd H (aU H2 D (.lst (bs.map V.ref ++ [.ref q]))) := fun b o eb n => by
     rw [ak (au eb hD)]
     exact k2 _ _ (kr _ _ eb n) n
    have Hq : H q = none := by
     cases e3 : H q with
     | none => rfl
     | some o =>
       by_cases z : q = rd
       ·rw [z, r1.ins] at nq
        cases nq
       ·rw [kr _ _ e3 z] at nq
        cases nq
    refine ⟨p2, bs ++ [q], dn ++ [x], rs', rfl, ⟨?_, k3.seq r.ins r.calls, r2.le⟩, k3, ?_, ?_, ?_, ?_, ?_, ?_⟩
    ·rw [ak Drd]
     exact r2.ins
    ·rw [ae, List.map_append]
     rfl
    ·refine fU.app (hL.map fun b u hb _ e3 => ?_) Hq ?_
     ·rw [ak (hne b hb)]
      exact k2.lst r1.ins e3
     ·rw [ak Dq]
      exact eq
    ·intro b hb
     rcases List.mem_append.mp hb with z | z
     ·exact hne b z
     ·rw [List.mem_singleton.mp z]
      exact Dq
    ·rw [List.append_assoc]
     rfl
    ·rw [ep]
     exact e2
    ·rw [List.length_append, List.length_singleton]
     omega
  ·have h2 : ¬ bs.length < n := fun z => h1 (decide_eq_true (by rw [List.length_map]; omega))
   have m0 : m = 0 := by omega
   subst m0
   injection hm with hm
   injection hm with h3 h4
   subst h3
   rw [List.append_nil] at k
   exact ⟨_, rfl, k H' D p' bs r1 h4 kr hD eD hL⟩
end
end Db
end
section
namespace Db
open PySem PySem.Spec PyProof.Rows L2
open Vbbraa (Deal countOf room words fits unknown isWhole within)
def bR (x : List Int) (lo hi bC : Int) : Bool := decide (lo <= (x.length : Int)) && (decide ((x.length : Int) <= hi) && x.all fun z => within z 0 bC)
def spInR : Sp := fun vs H Q _ => ∃ n h : Int, vs = [.int n, .int h] /\ Q (.bl (within n 0 h)) H
def vK (K : W.Frag) : Sp := fun vs H Q _ => ∃ (a b : Addr) (xs ys : List Int), vs = [.ref a, .ref b] /\ bj K H a (il xs) /\ fV K H b (il ys) /\ xs.length = ys.length /\ xs.length <= 1000 /\ ∀ H', ax H H' -> Q (.bl ((xs.zip ys).all fun p => within p.1 0 p.2)) H'
def vI (K : W.Frag) : Sp := fun vs H Q _ => ∃ (a b : Addr) (x : List Int) (lo hi bC : Int), vs = [.ref a, .ref b] /\ bj K H a (il x) /\ fV K H b (il [lo, hi, bC]) /\ x.length <= 1000 /\ ∀ H', ax H H' -> Q (.bl (bR x lo hi bC)) H'
def sJ (K : W.Frag) : Sp := fun vs H Q _ => ∃ (a b : Addr) (xs : List (Addr × List Int)) (ys : List (Addr × (Int × Int × Int))), vs = [.ref a, .ref b] /\ bj K H a (xs.map fun x => V.ref x.1) /\ fV K H b (ys.map fun y => V.ref y.1) /\ xs.length = ys.length /\ xs.length <= 1000 /\
 (∀ x ∈ xs, bj K H x.1 (il x.2) /\ x.2.length <= 1000) /\ (∀ y ∈ ys, fV K H y.1 (il [y.2.1, y.2.2.1, y.2.2.2])) /\ ∀ H', ax H H' -> Q (.bl ((xs.zip ys).all fun p => bR p.1.2 p.2.2.1 p.2.2.2.1 p.2.2.2.2)) H'
theorem j2 {α β : Type} {xs : List α} {ys : List β} {i : Nat} {x : α} {y : β} (hx : xs[i]? = some x) (hy : ys[i]? = some y) : (xs.zip ys).take (i + 1) = (xs.zip ys).take i ++ [(x, y)] := by
 rw [List.take_add_one]
 congr 1
 rw [List.zip_eq_zipWith, List.getElem?_zipWith, hx, hy]
 rfl
section
variable {P : Program} {w : World} {K : W.Frag} {mg : Str -> Option Value} {base : Heap} {CF CC NF fIF : Addr} {ta : Str -> Addr}
theorem tm {f : Addr} {fd : FuncData} (F : b7 K "in_range" "in_range" iR f fd) (T : Tx K mg CF ta) : aP P w K mg base aT 1 f fd ["number", "highest"] spInR := by
 refine F.ok sR (fun vs H Q E h => ?_) (fun cdv A outer s H vs Q E hr h => ?_)
 ·obtain ⟨_, _, rfl, _⟩ := h
  rfl
 ·obtain ⟨n, m, rfl, k⟩ := h
  refine ⟨_, (ah (aq (rq (fH v3 aj (pv 0) (aJ _)) (uM (fH v3 (pv 0) (pv 1) (aJ _)))))), ?_⟩
  unfold Vbbraa.within at k
  refine ⟨_, rfl, _, _, rfl, rfl, _, rfl, bq (fun h1 => ?_) (fun h1 => ?_)⟩
  ·rw [h1, Bool.true_and] at k
   exact ⟨_, rfl, _, rfl, _, _, rfl, rfl, k⟩
  ·rw [Bool.eq_false_iff.mpr h1, Bool.false_and] at k
   exact k
theorem kY {f : Addr} {fd : FuncData} (F : b7 K "plain_in_range" "plain_in_range" cG f fd) (T : Tx K mg CF ta) (C_in_range : ck P w K mg base aT 1 "in_range" ["number", "highest"] spInR) : aP P w K mg base aT 2 f fd ["plain", "bounds"] (vK K) := by
 refine F.ok cT (fun vs H Q E h => ?_) (fun cdv A outer s H vs Q E hr h => ?_)
 ·obtain ⟨_, _, _, _, rfl, _⟩ := h
  rfl
 ·obtain ⟨a, b, xs, ys, rfl, ha, hb, len, small, k⟩ := h
  refine ⟨_, (ah (aq (aO (vg rfl) rfl T.n_all (by decide +kernel) (aa (eV rfl cT.nd (vZ rfl T.n_zip (aa (pv 0) (aa (pv 1) ad))) (bb (own := [("number", 2), ("highest", 3)]) (by show f6 ["plain", "bounds", "number", "highest"] (ai cG) _ _ = true; decide +kernel)) (fun _ _ _ _ _ => (show PG _ _ (Bz K 2 (tN (jF 2) (tN (jF 3) gNil))) from rj rfl (fQ (aK (i := 2) cT.nd rfl (Or.inl rfl)) (fQ (aK (i := 3) cT.nd rfl (Or.inl rfl)) nJ)))) (fun _ _ _ _ _ => cv) (fun _ _ _ _ _ => (aI C_in_range (hr.mono (by decide)) ay (aa (pv 2) (aa (pv 3) ad))))) ad)))), ?_⟩
  refine ⟨_, rfl, _, rfl, a, b, il xs, il ys, rfl, ha, hb, fun D hD => wf (K := K) (a := a) (b := b) (xs := il xs) (ys := il ys) (fun i H' => H' D = some (.lst ((((xs.zip ys).take i).map fun p => within p.1 0 p.2).map V.bl)) /\ ax H H') (by rw [eh, eh, len]) ⟨ae, ax.new hD⟩
   (fun i H' _ hP => ⟨hP.2.seq ha, hP.2.seqT hb⟩) (fun i x y T0 H' hx hy hP hT => ?_) (fun H' hP => ?_)⟩
  ·obtain ⟨e, sm⟩ := hP
   obtain ⟨n, hn, rfl⟩ := rM hx
   obtain ⟨m, hm, rfl⟩ := rM hy
   refine ⟨T0, _, rfl, .inl (.inl ae), rfl, _, _, rfl, _, _, rfl, rfl, rfl, jX ?_⟩
   refine ⟨_, rfl, _, rfl, n, m, rfl, _, ax.new hT _ _ e, ?_, ?_, ?_⟩
   ·rw [List.length_map, List.length_map, List.length_take]
    exact aX (by rw [List.length_zip]; omega)
   ·rw [ae, j2 hn hm, List.map_append, List.map_append]
    rfl
   ·exact fun c o ec => by
     rw [ak (au ec hD)]
     exact ax.new hT _ _ (sm _ _ ec)
  ·obtain ⟨e, sm⟩ := hP
   rw [List.take_of_length_le (by rw [List.length_zip, eh]; omega)] at e
   refine ⟨D, _, rfl, .inl (.inl e), ?_⟩
   rw [List.all_map]
   exact k _ sm
theorem nh {f : Addr} {fd : FuncData} (F : b7 K "row_in_range" "row_in_range" dh f fd) (T : Tx K mg CF ta) (C_in_range : ck P w K mg base aT 1 "in_range" ["number", "highest"] spInR) : aP P w K mg base aT 2 f fd ["row", "shape"] (vI K) := by
 refine F.ok fW (fun vs H Q E h => ?_) (fun cdv A outer s H vs Q E hr h => ?_)
 ·obtain ⟨_, _, _, _, _, _, rfl, _⟩ := h
  rfl
 ·obtain ⟨a, b, x, lo, hi, bC, rfl, ha, hb, small, k⟩ := h
  refine ⟨_, (ah (aq (rq (fH v3 (aA gM (pv 1) aj (fun _ _ => rfl)) (aO aV rfl T.n_len (by decide +kernel) (aa (pv 0) ad)) (aJ _)) (rq (fH v3 (aO aV rfl T.n_len (by decide +kernel) (aa (pv 0) ad)) (aA gM (pv 1) aj (fun _ _ => rfl)) (aJ _)) (uM (aO (vg rfl) rfl T.n_all (by decide +kernel) (aa (eV rfl fW.nd (dD (pv 0)) (bb (own := [("number", 2)]) (by show f6 ["row", "shape", "number"] (ai dh) _ _ = true; decide +kernel)) (fun _ _ _ _ _ => (aK (i := 2) fW.nd rfl (Or.inl rfl))) (fun _ _ _ _ _ => cv) (fun _ _ _ _ _ => (aI C_in_range (hr.mono (by decide)) ay (aa (pv 2) (aa (aA (show zM _ (Bl K) from gM) (pv 1) aj (fun _ _ => rfl)) ad))))) ad))))))), ?_⟩
  unfold bR at k
  refine ⟨_, rfl, b, il [lo, hi, bC], 0, .int lo, rfl, rfl, hb, rfl, _, rfl, a, il x, rfl, .inl ha, _, _, rfl, rfl, _, rfl, bq (fun h1 => ?_) (fun h1 => ?_)⟩
  ·rw [eh] at h1
   rw [h1, Bool.true_and] at k
   refine ⟨_, rfl, a, il x, rfl, .inl ha, _, rfl, b, il [lo, hi, bC], 1, .int hi, rfl, rfl, hb, rfl, _, _, rfl, rfl, _, rfl, bq (fun h2 => ?_) (fun h2 => ?_)⟩
   ·rw [eh] at h2
    rw [h2, Bool.true_and] at k
    refine ⟨_, rfl, a, rfl, ⟨_, ha⟩, fun D hD => eZ (K := K) (a := a) (xs := il x) (fun i H' => H' D = some (.lst (((x.take i).map fun z => within z 0 bC).map V.bl)) /\ ax H H') ⟨ae, ax.new hD⟩ (fun i H' _ hP => hP.2.seq ha) (fun i y H' hy hP => ?_) (fun H' hP => ?_)⟩
    ·obtain ⟨e, sm⟩ := hP
     obtain ⟨n, hn, rfl⟩ := rM hy
     refine ⟨rfl, jX ?_⟩
     refine ⟨_, rfl, _, rfl, b, il [lo, hi, bC], 2, .int bC, rfl, rfl, sm.seqT hb, rfl, n, bC, rfl, _, e, ?_, ?_, ?_⟩
     ·rw [List.length_map, List.length_map, List.length_take]
      exact aX (by omega)
     ·rw [ae, List.take_add_one, hn, List.map_append, List.map_append]
      rfl
     ·exact fun c o ec => by
       rw [ak (au ec hD)]
       exact sm _ _ ec
    ·obtain ⟨e, sm⟩ := hP
     rw [List.take_of_length_le (by rw [eh]; omega)] at e
     refine ⟨D, _, rfl, .inl (.inl e), ?_⟩
     rw [List.all_map]
     exact k _ sm
   ·rw [eh] at h2
    rw [Bool.eq_false_iff.mpr h2, Bool.false_and] at k
    exact k _ fun _ _ e => e
  ·rw [eh] at h1
   rw [Bool.eq_false_iff.mpr h1, Bool.false_and] at k
   exact k _ fun _ _ e => e
theorem l6 {f : Addr} {fd : FuncData} (F : b7 K "rows_in_range" "rows_in_range" cO f fd) (T : Tx K mg CF ta) (C_row_in_range : ck P w K mg base aT 2 "row_in_range" ["row", "shape"] (vI K)) : aP P w K mg base aT 3 f fd ["rows", "shapes"] (sJ K) := by
 refine F.ok dw (fun vs H Q E h => ?_) (fun cdv A outer s H vs Q E hr h => ?_)
 ·obtain ⟨_, _, _, _, rfl, _⟩ := h
  rfl
 ·obtain ⟨a, b, xs, ys, rfl, ha, hb, len, small, hxs, hys, k⟩ := h
  refine ⟨_, (ah (aq (aO (vg rfl) rfl T.n_all (by decide +kernel) (aa (eV rfl dw.nd (vZ rfl T.n_zip (aa (pv 0) (aa (pv 1) ad))) (bb (own := [("row", 2), ("shape", 3)]) (by show f6 ["rows", "shapes", "row", "shape"] (ai cO) _ _ = true; decide +kernel)) (fun _ _ _ _ _ => (show PG _ _ (Bz K 2 (tN (jF 2) (tN (jF 3) gNil))) from rj rfl (fQ (aK (i := 2) dw.nd rfl (Or.inl rfl)) (fQ (aK (i := 3) dw.nd rfl (Or.inl rfl)) nJ)))) (fun _ _ _ _ _ => cv) (fun _ _ _ _ _ => (aI C_row_in_range (hr.mono (by decide)) ay (aa (pv 2) (aa (pv 3) ad))))) ad)))), ?_⟩
  refine ⟨_, rfl, _, rfl, a, b, _, _, rfl, ha, hb, fun D hD => wf (K := K) (a := a) (b := b) (xs := xs.map fun x => V.ref x.1) (ys := ys.map fun y => V.ref y.1) (fun i H' => H' D = some (.lst ((((xs.zip ys).take i).map fun p => bR p.1.2 p.2.2.1 p.2.2.2.1 p.2.2.2.2).map V.bl)) /\ ax H H') (by rw [List.length_map, List.length_map, len]) ⟨ae, ax.new hD⟩
   (fun i H' _ hP => ⟨hP.2.seq ha, hP.2.seqT hb⟩) (fun i x y T0 H' hx hy hP hT => ?_) (fun H' hP => ?_)⟩
  ·obtain ⟨e, sm⟩ := hP
   rw [List.getElem?_map] at hx hy
   obtain ⟨n, hn, rfl⟩ := Option.map_eq_some_iff.mp hx
   obtain ⟨m, hm, rfl⟩ := Option.map_eq_some_iff.mp hy
   have s1 := sm.trans (ax.new (o := .tup [V.ref n.1, V.ref m.1]) hT)
   obtain ⟨hn1, hn2⟩ := hxs n (List.mem_of_getElem? hn)
   refine ⟨T0, _, rfl, .inl (.inl ae), rfl, _, _, rfl, _, _, rfl, rfl, rfl, jX ?_⟩
   refine ⟨_, rfl, _, rfl, n.1, m.1, n.2, m.2.1, m.2.2.1, m.2.2.2, rfl, s1.seq hn1, s1.seqT (hys m (List.mem_of_getElem? hm)), hn2, fun H4 s4 => ⟨_, s4 _ _ (ax.new hT _ _ e), ?_, ?_, ?_⟩⟩
   ·rw [List.length_map, List.length_map, List.length_take]
    exact aX (by rw [List.length_zip]; omega)
   ·rw [ae, j2 hn hm, List.map_append, List.map_append]
    rfl
   ·exact fun c o ec => by
     rw [ak (au ec hD)]
     exact s4 _ _ (s1 _ _ ec)
  ·obtain ⟨e, sm⟩ := hP
   rw [List.take_of_length_le (by rw [List.length_zip, List.length_map]; omega)] at e
   refine ⟨D, _, rfl, .inl (.inl e), ?_⟩
   rw [List.all_map]
   exact k _ sm
end
end Db
end
section
namespace Db
open PySem PySem.Spec PyProof.Rows L2
open Vbbraa (Deal countOf room words fits unknown isWhole within State boardOf setBoard)
def nO (H : Hp) : Option V -> Option Deal -> Prop
 | none, none => True
 | some v, some d => ∃ p, v = .ref p /\ H p = some (.lst (dl d)) /\ bB d
 | _, _ => False
theorem nO.mono {H H' : Hp} {v : Option V} {d : Option Deal} (h : nO H v d) (k : ∀ p l, H p = some (.lst l) -> H' p = some (.lst l)) : nO H' v d := by
 cases v with
 | none =>
   cases d with
   | none => trivial
   | some _ => exact h.elim
 | some v =>
   cases d with
   | none => exact h.elim
   | some d =>
     obtain ⟨p, e, q, g⟩ := h
     exact ⟨p, e, k _ _ q, g⟩
structure BA (H : Hp) (bd td : Addr) (s : State) (n : Nat) (kvs : List (Key × V)) : Prop where
 dict : H bd = some (.dK kvs)
 len : kvs.length <= n
 all : ∀ b : Nat, nO H (ff kvs (.inl (b : Int))) (boardOf s b)
 tdin : ∃ xs, H td = some (.lst xs)
 ne : ∀ (b : Nat) (p : Addr), ff kvs (.inl (b : Int)) = some (.ref p) -> p ≠ td
section
variable {H H' : Hp} {bd td : Addr} {s : State} {n : Nat} {kvs : List (Key × V)}
theorem BA.mono (h : BA H bd td s n kvs) (k : H' bd = some (.dK kvs)) (kl : ∀ p l, H p = some (.lst l) -> H' p = some (.lst l)) {m : Nat} (le : n <= m) : BA H' bd td s m kvs := ⟨k, Nat.le_trans h.len le, fun b => (h.all b).mono kl, by obtain ⟨xs, e⟩ := h.tdin; exact ⟨xs, kl _ _ e⟩, h.ne⟩
theorem BA.same (h : BA H bd td s n kvs) (k : ax H H') {m : Nat} (le : n <= m) : BA H' bd td s m kvs := h.mono (k _ _ h.dict) (fun _ _ e => k _ _ e) le
theorem BA.put (h : BA H bd td s n kvs) {b : Nat} {p : Addr} {d : Deal} (hp : H p = some (.lst (dl d))) (hne : p ≠ td) (g : bB d) : BA (aU H bd (.dK (iS kvs (.inl (b : Int)) (.ref p)))) bd td (setBoard s b d) (n + 1) (iS kvs (.inl (b : Int)) (.ref p)) := by
 have kl : ∀ q l, H q = some (.lst l) -> (aU H bd (.dK (iS kvs (.inl (b : Int)) (.ref p)))) q = some (.lst l) := fun q l e => by
  rw [ak (eW e h.dict (by intro z; cases z))]
  exact e
 refine ⟨ae, Nat.le_trans (jy _ _ _) (by have := h.len; omega), fun c => ?_, ?_, fun c q e => ?_⟩
 rotate_left
 ·obtain ⟨xs, e⟩ := h.tdin
  exact ⟨xs, kl _ _ e⟩
 ·rw [sy] at e
  by_cases z : (Sum.inl (c : Int) : Key) = Sum.inl (b : Int)
  ·rw [if_pos z] at e
   injection e with e
   injection e with e
   rw [<- e]
   exact hne
  ·rw [if_neg z] at e
   exact h.ne c q e
 rw [sy, mT]
 by_cases e : c = b
 ·subst e
  rw [if_pos rfl, if_pos rfl]
  refine ⟨p, rfl, ?_, g⟩
  rw [ak (eW hp h.dict (by intro z; cases z))]
  exact hp
 ·rw [if_neg e, if_neg (fun q => e (by injection q with q; omega))]
  refine (h.all c).mono fun q l e => ?_
  rw [ak (eW e h.dict (by intro z; cases z))]
  exact e
theorem BA.get (h : BA H bd td s n kvs) {b : Nat} {d : Deal} (e : boardOf s b = some d) : ∃ p, ff kvs (.inl (b : Int)) = some (.ref p) /\ H p = some (.lst (dl d)) /\ bB d := by
 have q := h.all b
 rw [e] at q
 cases v : ff kvs (.inl (b : Int)) with
 | none =>
   rw [v] at q
   exact q.elim
 | some x =>
   rw [v] at q
   obtain ⟨p, rfl, q⟩ := q
   exact ⟨p, rfl, q⟩
theorem BA.isSome (h : BA H bd td s n kvs) (b : Nat) : (ff kvs (.inl (b : Int))).isSome = (boardOf s b).isSome := by
 have q := h.all b
 cases v : ff kvs (.inl (b : Int)) with
 | none =>
   rw [v] at q
   cases d : boardOf s b with
   | none => rfl
   | some _ =>
     rw [d] at q
     exact q.elim
 | some x =>
   rw [v] at q
   cases d : boardOf s b with
   | none =>
     rw [d] at q
     exact q.elim
   | some _ => rfl
end
def ft (H : Hp) (bd td : Addr) (n : Nat) (x : State × List Int) (Q : VK) : Prop := ∀ H' q kvs', BA H' bd td x.1 (n + 1) kvs' -> KR bd H H' -> H q = none -> H' q = some (.lst (il x.2)) -> Q (.ref q) H'
section
variable {H H1 : Hp} {bd td q p : Addr} {s : State} {n b : Nat} {kvs : List (Key × V)} {ys : List Int} {vs : List V} {d : Deal} {Q : VK}
theorem ft.new (k : ft H bd td n (s, ys) Q) (ba : BA H bd td s n kvs) (s1 : ax H H1) (hq : H1 q = none) (e : vs = il ys) : Q (.ref q) (aU H1 q (.lst vs)) := by
 have s2 := s1.trans (ax.new (o := .lst vs) hq)
 refine k _ q kvs (ba.same s2 (Nat.le_succ _)) (fun c o e _ => s2 _ _ e) (s1.free hq) ?_
 rw [ae, e]
theorem ft.put (k : ft H bd td n (setBoard s b d, ys) Q) (ba : BA H bd td s n kvs) (s1 : ax H H1) (hp : H1 p = some (.lst (dl d))) (hne : p ≠ td) (g : bB d) (hq : (aU H1 bd (.dK (iS kvs (.inl (b : Int)) (.ref p)))) q = none) (e : vs = il ys) :
 Q (.ref q) (aU (aU H1 bd (.dK (iS kvs (.inl (b : Int)) (.ref p)))) q (.lst vs)) := by
 have ba1 := ((ba.same s1 (Nat.le_refl _)).put (b := b) hp hne g).same (ax.new (o := .lst vs) hq) (Nat.le_refl _)
 have hqb : q ≠ bd := fun z => by
  rw [z, ae] at hq
  cases hq
 refine k _ q _ ba1 (fun c o e n => ?_) ?_ ?_
 ·rw [ak (fun z => by
   subst z
   rw [ak hqb, s1 _ _ e] at hq
   cases hq), ak n]
  exact s1 _ _ e
 ·rw [ak hqb] at hq
  exact s1.free hq
 ·rw [ae, e]
end
def h9 (H : Hp) : List Addr -> List (List Nat) -> Prop
 | [], [] => True
 | b :: bs, x :: xs => H b = some (.lst (dl x)) /\ h9 H bs xs
 | _, _ => False
theorem h9.one {H : Hp} {bs : List Addr} {x : List Nat} (h : h9 H bs [x]) : ∃ b, bs = [b] /\ H b = some (.lst (dl x)) := by
 match bs, h with
 | [b], h => exact ⟨b, rfl, h.1⟩
def df (need : Bool) (R : List Nat -> List (List Nat) -> Vbbraa.Call -> Prop) : Sp := fun vs H Q _ => ∃ (bd td pl rw : Addr) (s : State) (n : Nat) (kvs : List (Key × V)) (ps : List Nat) (bs : List Addr) (rs : List (List Nat)) (c : Vbbraa.Call),
 vs = [.ref bd, .ref pl, .ref rw] /\ BA H bd td s n kvs /\ n <= 1000 /\ H pl = some (.lst (dl ps)) /\ H rw = some (.lst (bs.map V.ref)) /\ h9 H bs rs /\ R ps rs c /\ (need = true -> boardOf s (ps.getD 0 0) ≠ none) /\ ft H bd td n (Vbbraa.step s c) Q
def wO (ps : List Nat) (rs : List (List Nat)) (c : Vbbraa.Call) : Prop := ∃ b, ps = [b] /\ rs = [] /\ c = .shown b
def wQ (ps : List Nat) (rs : List (List Nat)) (c : Vbbraa.Call) : Prop := ∃ b, ps = [b] /\ rs = [] /\ c = .count b
def ua (ps : List Nat) (rs : List (List Nat)) (c : Vbbraa.Call) : Prop := ∃ b, ps = [b] /\ rs = [] /\ c = .number b
def zx (ps : List Nat) (rs : List (List Nat)) (c : Vbbraa.Call) : Prop := ∃ b t, ps = [b] /\ rs = [t] /\ t.length <= 200 /\ c = .read b t
def zD (ps : List Nat) (rs : List (List Nat)) (c : Vbbraa.Call) : Prop := ∃ b l, ps = [b] /\ rs = [l] /\ l.length <= 40 /\ (∀ x ∈ l, x < 10) /\ c = .deal b l
def A2 (ps : List Nat) (rs : List (List Nat)) (c : Vbbraa.Call) : Prop := ∃ b e l, ps = [b, e] /\ rs = [l] /\ l.length <= 40 /\ (∀ x ∈ l, x < 10) /\ c = .nth b e l
def wP (ps : List Nat) (rs : List (List Nat)) (c : Vbbraa.Call) : Prop := ∃ b e, ps = [b, e] /\ rs = [] /\ c = .place b e
def qJ (ps : List Nat) (rs : List (List Nat)) (c : Vbbraa.Call) : Prop := ∃ b i l, ps = [b, i] /\ rs = [l] /\ l.length <= 40 /\ (∀ x ∈ l, x < 10) /\ i <= 1000000000 /\ c = .session b i l
def t9 (ps : List Nat) (rs : List (List Nat)) (c : Vbbraa.Call) : Prop := ∃ b k, ps = [b, k] /\ rs = [] /\ k <= 3 /\ c = .rotate b k
def wN (ps : List Nat) (rs : List (List Nat)) (c : Vbbraa.Call) : Prop := ∃ b p, ps = [b] /\ rs = [p] /\ p.length = 4 /\ (∀ x ∈ p, x <= 3) /\ c = .suits b p
theorem bt {s : State} {b : Nat} (h : boardOf s b ≠ none) : ∃ d, boardOf s b = some d := by
 cases e : boardOf s b with
 | none => exact absurd e h
 | some d => exact ⟨d, rfl⟩
end Db
end
section
namespace Db
open PySem PySem.Spec PyProof.Rows L2
open Vbbraa (Deal countOf room words fits unknown isWhole within State boardOf setBoard)
theorem BA.new_ne {H H1 : Hp} {bd td : Addr} {s : State} {n : Nat} {kvs : List (Key × V)} (h : BA H bd td s n kvs) (s1 : ax H H1) {p : Addr} (hp : H1 p = none) : p ≠ td := by
 obtain ⟨xs, e⟩ := h.tdin
 exact Ne.symm (au (s1 _ _ e) hp)
theorem BA.dget {H : Hp} {bd td : Addr} {s : State} {n : Nat} {kvs : List (Key × V)} {b : Nat} {v : V} (h : BA H bd td s n kvs) (e : ff kvs (.inl (b : Int)) = some v) : vp H bd (.int b) (some v) := .inl ⟨kvs, .inl (b : Int), .inl h.dict, rfl, e.symm⟩
theorem BA.dask {H : Hp} {bd td : Addr} {s : State} {n : Nat} {kvs : List (Key × V)} (h : BA H bd td s n kvs) (b : Nat) : vp H bd (.int b) (ff kvs (.inl (b : Int))) := .inl ⟨kvs, .inl (b : Int), .inl h.dict, rfl, rfl⟩
theorem BA.dput {H : Hp} {bd td : Addr} {s : State} {n : Nat} {kvs : List (Key × V)} (h : BA H bd td s n kvs) (hn : n <= 1000) (b : Nat) (v : V) : xX H bd (.int b) v (aU H bd (.dK (iS kvs (.inl (b : Int)) v))) :=
 xX.k (k := .inl (b : Int)) h.dict (aX (by have := h.len; omega))
theorem cR {s : State} {b : Nat} {d : Deal} (h : boardOf s b = some d) (k : Deal -> State × List Int) : Vbbraa.onBoard s b k = k d := by
 unfold Vbbraa.onBoard
 rw [h]
theorem cg {s : State} {b : Nat} (h : boardOf s b = none) (k : Deal -> State × List Int) : Vbbraa.onBoard s b k = (s, [-2]) := by
 unfold Vbbraa.onBoard
 rw [h]
theorem kD {n : Nat} (h : n < 10 ^ 50) : (Vbbraa.digitsOf n).length <= 50 := by
 rw [fJ, List.length_map]
 exact TL.oX (by decide) h
theorem jJ (l : List Nat) (b : Nat) : (mG l b = .non /\ ∀ s k, Vbbraa.onNumber s l b k = (s, [-4])) \/ ∃ m, m < b /\ mG l b = .int m /\ ∀ s k, Vbbraa.onNumber s l b k = k m := by
 unfold mG Vbbraa.onNumber
 cases e : Vbbraa.told l with
 | none => exact .inl ⟨rfl, fun _ _ => rfl⟩
 | some m =>
   by_cases h : m < b
   ·refine .inr ⟨m, h, ?_, fun s k => ?_⟩
    ·show (if m < b then V.int m else V.non) = _
     rw [if_pos h]
    ·show (if m < b then k m else (s, [-4])) = _
     rw [if_pos h]
   ·refine .inl ⟨?_, fun s k => ?_⟩
    ·show (if m < b then V.int m else V.non) = _
     rw [if_neg h]
    ·show (if m < b then k m else (s, [-4])) = _
     rw [if_neg h]
section
variable {P : Program} {w : World} {K : W.Frag} {mg : Str -> Option Value} {base : Heap} {CF CC NF fIF : Addr} {ta : Str -> Addr}
theorem np {f : Addr} {fd : FuncData} (F : b7 K "answer_shown" "answer_shown" eO f fd) (T : Tx K mg CF ta) (C_text_of_deal : ck P w K mg base aT 4 "text_of_deal" ["deal"] (vG K)) : aP P w K mg base aT 5 f fd ["boards", "plain", "rows"] (df true wO) := by
 refine F.ok mY (fun vs H Q E h => ?_) (fun cdv A outer s H vs Q E hr h => ?_)
 ·obtain ⟨_, _, _, _, _, _, _, _, _, _, _, rfl, _⟩ := h
  rfl
 ·obtain ⟨bd, td, pl, rw', s, n, kvs, ps, bs, rs, c, rfl, ba, n1000, hpl, hrw, hrows, ⟨b, rfl, rfl, rfl⟩, hb, k⟩ := h
  obtain ⟨d, hd⟩ := bt (b := b) (hb rfl)
  obtain ⟨p, ep, hp, g⟩ := ba.get hd
  have k : ft H bd td n (Vbbraa.onBoard s b fun d => (s, 0 :: zz (Vbbraa.shown d))) Q := k
  rw [cR hd] at k
  refine ⟨_, (ah (aq (bc gJ (aN (aa (aC T.g_DONE) ad)) (aI C_text_of_deal (hr.mono (by decide)) ay (aa (bZ (bG hr) (pv 0) (aA am (pv 1) aj (fun _ _ => rfl)) (fun _ _ => rfl)) ad))))), ?_⟩
  refine ⟨(by show 1 <= sizeLine; decide), fun l hl => ?_⟩
  have s1 := ax.new (o := .lst [.int 0]) hl
  refine ⟨_, rfl, _, rfl, pl, dl [b], 0, .int b, rfl, rfl, .inl (.inl (s1 _ _ hpl)), rfl, bd, .ref p, rfl, (ba.same s1 (Nat.le_refl _)).dget ep, p, d, rfl, .inl (.inl (s1 _ _ hp)), g.len, fun H1 q1 ⟨s2, _, e2⟩ => ?_⟩
  refine ⟨l, q1, _, _, rfl, rfl, s2 _ _ ae, e2, ?_, fun q hq => k.new ba (s1.trans s2) hq rfl⟩
  rw [aG]
  exact eY (by have := lL d; show 1 + _ <= _; omega)
theorem nu {f : Addr} {fd : FuncData} (F : b7 K "answer_count" "answer_count" eQ f fd) (T : Tx K mg CF ta) (C_digits_of : ck P w K mg base aT 1 "digits_of" ["number"] spDig) (C_count_of_fits : ck P w K mg base aT 3 "count_of_fits" ["deal"] (nE K)) :
 aP P w K mg base aT 4 f fd ["boards", "plain", "rows"] (df true wQ) := by
 refine F.ok mZ (fun vs H Q E h => ?_) (fun cdv A outer s H vs Q E hr h => ?_)
 ·obtain ⟨_, _, _, _, _, _, _, _, _, _, _, rfl, _⟩ := h
  rfl
 ·obtain ⟨bd, td, pl, rw', s, n, kvs, ps, bs, rs, c, rfl, ba, n1000, hpl, hrw, hrows, ⟨b, rfl, rfl, rfl⟩, hb, k⟩ := h
  obtain ⟨d, hd⟩ := bt (b := b) (hb rfl)
  obtain ⟨p, ep, hp, g⟩ := ba.get hd
  have k : ft H bd td n (Vbbraa.onBoard s b fun d => (s, 0 :: zz (Vbbraa.digitsOf (fits d)))) Q := k
  rw [cR hd] at k
  refine ⟨_, (ah (aq (bc gJ (aN (aa (aC T.g_DONE) ad)) (aI C_digits_of (hr.mono (by decide)) ay (aa (aI C_count_of_fits (hr.mono (by decide)) ay (aa (bZ (bG hr) (pv 0) (aA am (pv 1) aj (fun _ _ => rfl)) (fun _ _ => rfl)) ad)) ad))))), ?_⟩
  refine ⟨(by show 1 <= sizeLine; decide), fun l hl => ?_⟩
  have s1 := ax.new (o := .lst [.int 0]) hl
  refine ⟨_, rfl, _, rfl, pl, dl [b], 0, .int b, rfl, rfl, .inl (.inl (s1 _ _ hpl)), rfl, bd, .ref p, rfl, (ba.same s1 (Nat.le_refl _)).dget ep, p, d, rfl, .inl (.inl (s1 _ _ hp)), g, fun H1 s2 => ⟨_, rfl, i4, fun H2 q1 ⟨s3, _, e3⟩ => ?_⟩⟩
  refine ⟨l, q1, _, _, rfl, rfl, s3 _ _ (s2 _ _ ae), e3, ?_, fun q hq => k.new ba ((s1.trans s2).trans s3) hq rfl⟩
  rw [aG]
  exact eY (by have := kD (i4 (d := d)); show 1 + _ <= _; omega)
theorem mf {f : Addr} {fd : FuncData} (F : b7 K "answer_number" "answer_number" d4 f fd) (T : Tx K mg CF ta) (C_digits_of : ck P w K mg base aT 1 "digits_of" ["number"] spDig) (C_is_whole : ck P w K mg base aT 1 "is_whole" ["deal"] (kL K))
 (C_nothing_known : ck P w K mg base aT 1 "nothing_known" [] spNK) (C_place_among_fits : ck P w K mg base aT 3 "place_among_fits" ["deal", "whole"] (nD K)) :
 aP P w K mg base aT 4 f fd ["boards", "plain", "rows"] (df true ua) := by
 refine F.ok ii (fun vs H Q E h => ?_) (fun cdv A outer s H vs Q E hr h => ?_)
 ·obtain ⟨_, _, _, _, _, _, _, _, _, _, _, rfl, _⟩ := h
  rfl
 ·obtain ⟨bd, td, pl, rw', s, n, kvs, ps, bs, rs, c, rfl, ba, n1000, hpl, hrw, hrows, ⟨b, rfl, rfl, rfl⟩, hb, k⟩ := h
  obtain ⟨d, hd⟩ := bt (b := b) (hb rfl)
  obtain ⟨p, ep, hp, g⟩ := ba.get hd
  have k : ft H bd td n (Vbbraa.onBoard s b fun d => if isWhole d = true then (s, 0 :: zz (Vbbraa.digitsOf (Vbbraa.placeOf unknown d))) else (s, [-3])) Q := k
  rw [cR hd] at k
  refine ⟨_, (ac (az (i := 3) ii.nd rfl (Or.inl rfl) (bZ (bG hr) (pv 0) (aA am (pv 1) aj (fun _ _ => rfl)) (fun _ _ => rfl)))
   (ac (bf (hU (cN (aI C_is_whole (hr.mono (by decide)) ay (aa (pv 3) ad)))) (ah (aq (aN (aa (aC T.g_NOT_WHOLE) ad)))) aM)
   (ah (aq (bc gJ (aN (aa (aC T.g_DONE) ad)) (aI C_digits_of (hr.mono (by decide)) ay (aa (aI C_place_among_fits (hr.mono (by decide)) ay (aa (fq C_nothing_known (hr.mono (by decide)) ay) (aa (pv 3) ad))) ad))))))), ?_⟩
  refine ⟨_, rfl, _, rfl, pl, dl [b], 0, .int b, rfl, rfl, .inl (.inl hpl), rfl, bd, .ref p, rfl, ba.dget ep, _, rfl, p, d, rfl, .inl (.inl hp), _, rfl, bq (fun h1 => ?_) (fun h1 => ?_)⟩
  ·have h2 : ¬ isWhole d = true := by simpa using h1
   rw [if_neg h2] at k
   exact ⟨(by show 1 <= sizeLine; decide), fun l hl => k.new ba (fun _ _ e => e) hl rfl⟩
  ·have h2 : isWhole d = true := by simpa using h1
   rw [if_pos h2] at k
   refine ⟨(by show 1 <= sizeLine; decide), fun l hl => ?_⟩
   have s1 := ax.new (o := .lst [.int 0]) hl
   have lt := gI aY g h2 (dm d)
   have lt2 : Vbbraa.placeOf unknown d < 10 ^ 50 := Nat.lt_trans lt i4
   refine ⟨rfl, fun H1 u ⟨s2, _, e2⟩ => ⟨_, rfl, u, p, unknown, d, rfl, .inl (.inl e2), .inl (.inl (s2 _ _ (s1 _ _ hp))), aY, g, h2, dm d, fun H2 s3 => ⟨_, rfl, lt2, fun H3 q1 ⟨s4, _, e4⟩ => ?_⟩⟩⟩
   refine ⟨l, q1, _, _, rfl, rfl, s4 _ _ (s3 _ _ (s2 _ _ ae)), e4, ?_, fun q hq => k.new ba (((s1.trans s2).trans s3).trans s4) hq rfl⟩
   rw [aG]
   exact eY (by have := kD lt2; show 1 + _ <= _; omega)
theorem oW {f : Addr} {fd : FuncData} (F : b7 K "answer_deal" "answer_deal" fG f fd) (T : Tx K mg CF ta) (C_number_below : ck P w K mg base aT 1 "number_below" ["digits", "bound"] (nG K)) (C_count_of_all : ck P w K mg base aT 4 "count_of_all" [] spAll) (C_nothing_known : ck P w K mg base aT 1 "nothing_known" [] spNK) (C_fit_with_place : ck P w K mg base aT 3 "fit_with_place" ["deal", "place"] (sL K)) :
 aP P w K mg base aT 5 f fd ["boards", "plain", "rows"] (df false zD) := by
 refine F.ok jo (fun vs H Q E h => ?_) (fun cdv A outer s H vs Q E hr h => ?_)
 ·obtain ⟨_, _, _, _, _, _, _, _, _, _, _, rfl, _⟩ := h
  rfl
 ·obtain ⟨bd, td, pl, rw', s, n, kvs, ps, bs, rs, c, rfl, ba, n1000, hpl, hrw, hrows, ⟨b, l, rfl, rfl, ll, l9, rfl⟩, hb, k⟩ := h
  obtain ⟨r, rfl, hr0⟩ := hrows.one
  have k : ft H bd td n (Vbbraa.onNumber s l Vbbraa.ALL fun n => (setBoard s b (Vbbraa.nth unknown n), [0])) Q := k
  refine ⟨_, (ac (az (i := 3) jo.nd rfl (Or.inl rfl) (aI C_number_below (hr.mono (by decide)) ay (aa (aA am (pv 2) aj (fun _ _ => rfl)) (aa (fq C_count_of_all (hr.mono (by decide)) ay) ad))))
   (ac (bf (aH rA (pv 3) hX (aJ _)) (ah (aq (aN (aa (aC T.g_NO_SUCH_NUMBER) ad)))) aM)
   (ac (d8 (bG hr) (pv 0) (aA am (pv 1) aj (fun _ _ => rfl)) (aI C_fit_with_place (hr.mono (by decide)) ay (aa (fq C_nothing_known (hr.mono (by decide)) ay) (aa (pv 3) ad))) rfl)
   (ah (aq (aN (aa (aC T.g_DONE) ad))))))), ?_⟩
  refine ⟨_, rfl, rw', [.ref r], 0, .ref r, rfl, rfl, .inl (.inl hrw), rfl, rfl, fun H1 s1 => ⟨r, l, Vbbraa.ALL, rfl, .inl (.inl (s1 _ _ hr0)), fun x hx => Nat.le_of_lt_succ (l9 x hx), ?_⟩⟩
  rcases jJ l Vbbraa.ALL with ⟨eb, es⟩ | ⟨m, hm, eb, es⟩
  ·rw [es] at k
   rw [eb]
   exact ⟨_, rfl, rfl, _, rfl, j1 ⟨(by show 1 <= sizeLine; decide), fun q hq => k.new ba s1 hq rfl⟩⟩
  ·rw [es] at k
   rw [eb]
   have hf : m < fits unknown := by rw [<- sk]; exact hm
   refine ⟨_, rfl, rfl, _, rfl, iE ⟨rfl, fun H2 u ⟨s2, _, e2⟩ => ⟨_, rfl, u, unknown, m, rfl, .inl (.inl e2), aY, hf, fun H3 p ⟨s3, n3, e3⟩ => ?_⟩⟩⟩
   have sa := (s1.trans s2).trans s3
   exact ⟨_, rfl, _, rfl, pl, dl [b], 0, .int b, rfl, rfl, .inl (.inl (sa _ _ hpl)), rfl, bd, _, rfl, (ba.same sa (Nat.le_refl _)).dput n1000 b (.ref p), ⟨(by show 1 <= sizeLine; decide), fun q hq => k.put ba sa e3 (ba.new_ne (s1.trans s2) n3) (ju aY hf).1 hq rfl⟩⟩
theorem pK {f : Addr} {fd : FuncData} (F : b7 K "answer_nth" "answer_nth" gj f fd) (T : Tx K mg CF ta) (C_number_below : ck P w K mg base aT 1 "number_below" ["digits", "bound"] (nG K)) (C_count_of_fits : ck P w K mg base aT 3 "count_of_fits" ["deal"] (nE K)) (C_fit_with_place : ck P w K mg base aT 3 "fit_with_place" ["deal", "place"] (sL K)) :
 aP P w K mg base aT 4 f fd ["boards", "plain", "rows"] (df true A2) := by
 refine F.ok hJ (fun vs H Q E h => ?_) (fun cdv A outer s H vs Q E hr h => ?_)
 ·obtain ⟨_, _, _, _, _, _, _, _, _, _, _, rfl, _⟩ := h
  rfl
 ·obtain ⟨bd, td, pl, rw', s, n, kvs, ps, bs, rs, c, rfl, ba, n1000, hpl, hrw, hrows, ⟨b, x, l, rfl, rfl, ll, l9, rfl⟩, hb, k⟩ := h
  obtain ⟨r, rfl, hr0⟩ := hrows.one
  obtain ⟨d, hd⟩ := bt (b := b) (hb rfl)
  obtain ⟨p, ep, hp, g⟩ := ba.get hd
  have k : ft H bd td n (Vbbraa.onBoard s b fun d => Vbbraa.onNumber s l (fits d) fun n => (setBoard s x (Vbbraa.nth d n), [0])) Q := k
  rw [cR hd] at k
  refine ⟨_, (ac (az (i := 3) hJ.nd rfl (Or.inl rfl) (bZ (bG hr) (pv 0) (aA am (pv 1) aj (fun _ _ => rfl)) (fun _ _ => rfl)))
   (ac (az (i := 4) hJ.nd rfl (Or.inl rfl) (aI C_number_below (hr.mono (by decide)) ay (aa (aA am (pv 2) aj (fun _ _ => rfl)) (aa (aI C_count_of_fits (hr.mono (by decide)) ay (aa (pv 3) ad)) ad))))
   (ac (bf (aH rA (pv 4) hX (aJ _)) (ah (aq (aN (aa (aC T.g_NO_SUCH_NUMBER) ad)))) aM)
   (ac (d8 (bG hr) (pv 0) (aA am (pv 1) aj (fun _ _ => rfl)) (aI C_fit_with_place (hr.mono (by decide)) ay (aa (pv 3) (aa (pv 4) ad))) rfl)
   (ah (aq (aN (aa (aC T.g_DONE) ad)))))))), ?_⟩
  refine ⟨_, rfl, _, rfl, pl, dl [b, x], 0, .int b, rfl, rfl, .inl (.inl (hpl)), rfl, bd, .ref p, rfl, ba.dget ep, ?_⟩
  refine ⟨_, rfl, rw', [.ref r], 0, .ref r, rfl, rfl, .inl (.inl hrw), rfl, _, rfl, p, d, rfl, .inl (.inl hp), g, fun H1 s1 => ⟨r, l, fits d, rfl, .inl (.inl (s1 _ _ hr0)), fun x hx => Nat.le_of_lt_succ (l9 x hx), ?_⟩⟩
  rcases jJ l (fits d) with ⟨eb, es⟩ | ⟨m, hm, eb, es⟩
  ·rw [es] at k
   rw [eb]
   exact ⟨_, rfl, rfl, _, rfl, j1 ⟨(by show 1 <= sizeLine; decide), fun q hq => k.new ba s1 hq rfl⟩⟩
  ·rw [es] at k
   rw [eb]
   refine ⟨_, rfl, rfl, _, rfl, iE ⟨_, rfl, _, rfl, p, d, m, rfl, .inl (.inl (s1 _ _ hp)), g, hm, fun H3 p2 ⟨s3, n3, e3⟩ => ?_⟩⟩
   have sa := s1.trans s3
   exact ⟨_, rfl, _, rfl, pl, dl [b, x], 1, .int x, rfl, rfl, .inl (.inl (sa _ _ hpl)), rfl, bd, _, rfl, (ba.same sa (Nat.le_refl _)).dput n1000 x (.ref p2), ⟨(by show 1 <= sizeLine; decide), fun q hq => k.put ba sa e3 (ba.new_ne s1 n3) (ju g hm).1 hq rfl⟩⟩
theorem lf {f : Addr} {fd : FuncData} (F : b7 K "answer_session" "answer_session" dC f fd) (T : Tx K mg CF ta) (C_number_below : ck P w K mg base aT 1 "number_below" ["digits", "bound"] (nG K)) (C_count_of_all : ck P w K mg base aT 4 "count_of_all" [] spAll) (C_nothing_known : ck P w K mg base aT 1 "nothing_known" [] spNK) (C_fit_with_place : ck P w K mg base aT 3 "fit_with_place" ["deal", "place"] (sL K)) (C_session_number : ck P w K mg base aT 5 "session_number" ["start", "board"] spSess) :
 aP P w K mg base aT 6 f fd ["boards", "plain", "rows"] (df false qJ) := by
 refine F.ok gU (fun vs H Q E h => ?_) (fun cdv A outer s H vs Q E hr h => ?_)
 ·obtain ⟨_, _, _, _, _, _, _, _, _, _, _, rfl, _⟩ := h
  rfl
 ·obtain ⟨bd, td, pl, rw', s, n, kvs, ps, bs, rs, c, rfl, ba, n1000, hpl, hrw, hrows, ⟨b, i, l, rfl, rfl, ll, l9, hi, rfl⟩, hb, k⟩ := h
  obtain ⟨r, rfl, hr0⟩ := hrows.one
  have k : ft H bd td n (Vbbraa.onNumber s l Vbbraa.ALL fun n => (setBoard s b (Vbbraa.sessionDeal n i), [0])) Q := k
  refine ⟨_, (ac (az (i := 3) gU.nd rfl (Or.inl rfl) (aI C_number_below (hr.mono (by decide)) ay (aa (aA am (pv 2) aj (fun _ _ => rfl)) (aa (fq C_count_of_all (hr.mono (by decide)) ay) ad))))
   (ac (bf (aH rA (pv 3) hX (aJ _)) (ah (aq (aN (aa (aC T.g_NO_SUCH_NUMBER) ad)))) aM)
   (ac (d8 (bG hr) (pv 0) (aA am (pv 1) aj (fun _ _ => rfl)) (aI C_fit_with_place (hr.mono (by decide)) ay (aa (fq C_nothing_known (hr.mono (by decide)) ay) (aa (aI C_session_number (hr.mono (by decide)) ay (aa (pv 3) (aa (aA am (pv 1) aj (fun _ _ => rfl)) ad))) ad))) rfl)
   (ah (aq (aN (aa (aC T.g_DONE) ad))))))), ?_⟩
  refine ⟨_, rfl, rw', [.ref r], 0, .ref r, rfl, rfl, .inl (.inl hrw), rfl, rfl, fun H1 s1 => ⟨r, l, Vbbraa.ALL, rfl, .inl (.inl (s1 _ _ hr0)), fun x hx => Nat.le_of_lt_succ (l9 x hx), ?_⟩⟩
  rcases jJ l Vbbraa.ALL with ⟨eb, es⟩ | ⟨m, hm, eb, es⟩
  ·rw [es] at k
   rw [eb]
   exact ⟨_, rfl, rfl, _, rfl, j1 ⟨(by show 1 <= sizeLine; decide), fun q hq => k.new ba s1 hq rfl⟩⟩
  ·rw [es] at k
   rw [eb]
   have hf : (m + i * Vbbraa.STRIDE) % Vbbraa.ALL < fits unknown := by rw [<- sk]; exact Nat.mod_lt _ (by omega)
   refine ⟨_, rfl, rfl, _, rfl, iE ⟨rfl, fun H2 u ⟨s2, _, e2⟩ => ⟨_, rfl, _, rfl, pl, dl [b, i], 1, .int i, rfl, rfl, .inl (.inl (s2 _ _ (s1 _ _ hpl))), rfl, m, i, rfl, hi, fun H4 s4 => ⟨u, unknown, _, rfl, .inl (.inl (s4 _ _ e2)), aY, hf, fun H3 p ⟨s3, n3, e3⟩ => ?_⟩⟩⟩⟩
   have sa := ((s1.trans s2).trans s4).trans s3
   exact ⟨_, rfl, _, rfl, pl, dl [b, i], 0, .int b, rfl, rfl, .inl (.inl (sa _ _ hpl)), rfl, bd, _, rfl, (ba.same sa (Nat.le_refl _)).dput n1000 b (.ref p), ⟨(by show 1 <= sizeLine; decide), fun q hq => k.put ba sa e3 (ba.new_ne ((s1.trans s2).trans s4) n3) (ju aY hf).1 hq rfl⟩⟩
theorem me {f : Addr} {fd : FuncData} (F : b7 K "answer_rotate" "answer_rotate" dZ f fd) (T : Tx K mg CF ta) (C_rotated : ck P w K mg base aT 1 "rotated" ["deal", "steps"] (AK K)) :
 aP P w K mg base aT 2 f fd ["boards", "plain", "rows"] (df true t9) := by
 refine F.ok lR (fun vs H Q E h => ?_) (fun cdv A outer s H vs Q E hr h => ?_)
 ·obtain ⟨_, _, _, _, _, _, _, _, _, _, _, rfl, _⟩ := h
  rfl
 ·obtain ⟨bd, td, pl, rw', s, n, kvs, ps, bs, rs, c, rfl, ba, n1000, hpl, hrw, hrows, ⟨b, i, rfl, rfl, hi, rfl⟩, hb, k⟩ := h
  obtain ⟨d, hd⟩ := bt (b := b) (hb rfl)
  obtain ⟨p, ep, hp, g⟩ := ba.get hd
  have k : ft H bd td n (Vbbraa.onBoard s b fun d => (setBoard s b (Vbbraa.rotated d i), [0])) Q := k
  rw [cR hd] at k
  refine ⟨_, (ac (d8 (bG hr) (pv 0) (aA am (pv 1) aj (fun _ _ => rfl)) (aI C_rotated (hr.mono (by decide)) ay (aa (bZ (bG hr) (pv 0) (aA am (pv 1) aj (fun _ _ => rfl)) (fun _ _ => rfl)) (aa (aA am (pv 1) aj (fun _ _ => rfl)) ad))) rfl)
   (ah (aq (aN (aa (aC T.g_DONE) ad))))), ?_⟩
  refine ⟨_, rfl, _, rfl, pl, dl [b, i], 0, .int b, rfl, rfl, .inl (.inl (hpl)), rfl, bd, .ref p, rfl, ba.dget ep, _, rfl, pl, dl [b, i], 1, .int i, rfl, rfl, .inl (.inl (hpl)), rfl, p, d, i, rfl, .inl (.inl hp), g.len, fun H1 p2 ⟨s1, n1, e1⟩ => ?_⟩
  exact ⟨_, rfl, _, rfl, pl, dl [b, i], 0, .int b, rfl, rfl, .inl (.inl (s1 _ _ hpl)), rfl, bd, _, rfl, (ba.same s1 (Nat.le_refl _)).dput n1000 b (.ref p2), ⟨(by show 1 <= sizeLine; decide), fun q hq => k.put ba s1 e1 (ba.new_ne (fun _ _ e => e) n1) (qZ g i) hq rfl⟩⟩
theorem nr {f : Addr} {fd : FuncData} (F : b7 K "answer_place" "answer_place" eP f fd) (T : Tx K mg CF ta) (C_is_whole : ck P w K mg base aT 1 "is_whole" ["deal"] (kL K)) (C_fits : ck P w K mg base aT 1 "fits" ["whole", "deal"] (ym K)) (C_digits_of : ck P w K mg base aT 1 "digits_of" ["number"] spDig) (C_place_among_fits : ck P w K mg base aT 3 "place_among_fits" ["deal", "whole"] (nD K)) :
 aP P w K mg base aT 4 f fd ["boards", "plain", "rows"] (df true wP) := by
 refine F.ok fX (fun vs H Q E h => ?_) (fun cdv A outer s H vs Q E hr h => ?_)
 ·obtain ⟨_, _, _, _, _, _, _, _, _, _, _, rfl, _⟩ := h
  rfl
 ·obtain ⟨bd, td, pl, rw', s, n, kvs, ps, bs, rs, c, rfl, ba, n1000, hpl, hrw, hrows, ⟨b, x, rfl, rfl, rfl⟩, hb, k⟩ := h
  obtain ⟨d, hd⟩ := bt (b := b) (hb rfl)
  obtain ⟨p, ep, hp, g⟩ := ba.get hd
  have k : ft H bd td n (Vbbraa.onBoard s b fun d => Vbbraa.onBoard s x fun e => if isWhole e = true then (if Vbbraa.agrees d e = true then (s, 0 :: zz (Vbbraa.digitsOf (Vbbraa.placeOf d e))) else (s, [-5])) else (s, [-3])) Q := k
  rw [cR hd] at k
  refine ⟨_, (ac (bf (uI (lZ (bG hr) (aA am (pv 1) aj (fun _ _ => rfl)) (pv 0))) (ah (aq (aN (aa (aC T.g_NO_BOARD) ad)))) aM)
   (ac (az (i := 3) fX.nd rfl (Or.inl rfl) (bZ (bG hr) (pv 0) (aA am (pv 1) aj (fun _ _ => rfl)) (fun _ _ => rfl)))
   (ac (az (i := 4) fX.nd rfl (Or.inl rfl) (bZ (bG hr) (pv 0) (aA am (pv 1) aj (fun _ _ => rfl)) (fun _ _ => rfl)))
   (ac (bf (hU (cN (aI C_is_whole (hr.mono (by decide)) ay (aa (pv 4) ad)))) (ah (aq (aN (aa (aC T.g_NOT_WHOLE) ad)))) aM)
   (ac (bf (hU (cN (aI C_fits (hr.mono (by decide)) ay (aa (pv 4) (aa (pv 3) ad))))) (ah (aq (aN (aa (aC T.g_AT_ODDS) ad)))) aM)
   (ah (aq (bc gJ (aN (aa (aC T.g_DONE) ad)) (aI C_digits_of (hr.mono (by decide)) ay (aa (aI C_place_among_fits (hr.mono (by decide)) ay (aa (pv 3) (aa (pv 4) ad))) ad)))))))))), ?_⟩
  refine ⟨_, rfl, pl, dl [b, x], 1, .int x, rfl, rfl, .inl (.inl (hpl)), rfl, _, rfl, bd, _, rfl, ba.dask x, _, rfl, bq (fun h1 => ?_) (fun h1 => ?_)⟩
  ·rw [ba.isSome] at h1
   have hx : boardOf s x = none := by simpa using h1
   rw [cg hx] at k
   exact ⟨(by show 1 <= sizeLine; decide), fun q hq => k.new ba (fun _ _ e => e) hq rfl⟩
  ·rw [ba.isSome] at h1
   obtain ⟨e, he⟩ := bt (s := s) (b := x) (fun z => h1 (by rw [z]; rfl))
   obtain ⟨p2, ep2, hp2, g2⟩ := ba.get he
   rw [cR he] at k
   refine ⟨_, rfl, _, rfl, pl, dl [b, x], 0, .int b, rfl, rfl, .inl (.inl (hpl)), rfl, bd, .ref p, rfl, ba.dget ep, ?_⟩
   refine ⟨_, rfl, _, rfl, pl, dl [b, x], 1, .int x, rfl, rfl, .inl (.inl (hpl)), rfl, bd, .ref p2, rfl, ba.dget ep2, ?_⟩
   refine ⟨_, rfl, p2, e, rfl, .inl (.inl hp2), _, rfl, bq (fun h2 => ?_) (fun h2 => ?_)⟩
   ·rw [if_neg (by simpa using h2)] at k
    exact ⟨(by show 1 <= sizeLine; decide), fun q hq => k.new ba (fun _ _ e => e) hq rfl⟩
   ·have hw : isWhole e = true := by simpa using h2
    rw [if_pos hw] at k
    refine ⟨_, rfl, _, rfl, p2, p, e, d, rfl, .inl (.inl hp2), .inl (.inl hp), g2.len, g.len, _, rfl, bq (fun h3 => ?_) (fun h3 => ?_)⟩
    ·rw [if_neg (by simpa using h3)] at k
     exact ⟨(by show 1 <= sizeLine; decide), fun q hq => k.new ba (fun _ _ e => e) hq rfl⟩
    ·have ha : Vbbraa.agrees d e = true := by simpa using h3
     rw [if_pos ha] at k
     have lt2 : Vbbraa.placeOf d e < 10 ^ 50 := Nat.lt_trans (gI g g2 hw ha) i4
     refine ⟨(by show 1 <= sizeLine; decide), fun l hl => ?_⟩
     have s1 := ax.new (o := .lst [.int 0]) hl
     refine ⟨_, rfl, _, rfl, p, p2, d, e, rfl, .inl (.inl (s1 _ _ hp)), .inl (.inl (s1 _ _ hp2)), g, g2, hw, ha, fun H2 s3 => ⟨_, rfl, lt2, fun H3 q1 ⟨s4, _, e4⟩ => ?_⟩⟩
     refine ⟨l, q1, _, _, rfl, rfl, s4 _ _ (s3 _ _ ae), e4, ?_, fun q hq => k.new ba ((s1.trans s3).trans s4) hq rfl⟩
     rw [aG]
     exact eY (by have := kD lt2; show 1 + _ <= _; omega)
end
end Db
end
section
namespace Db
open PySem PySem.Spec PyProof.Rows L2
open Vbbraa (Deal countOf room words fits unknown isWhole within State boardOf setBoard)
theorem zO (x y : V) : List.lookup ("kind" : Str) [(("place" : Str), x), (("kind" : Str), y)] = some y := by
 rw [List.lookup_cons, show (("kind" : Str) == ("place" : Str)) = false by decide +kernel]
 rw [List.lookup_cons_self]
theorem x8 (x y : V) : List.lookup ("place" : Str) [(("place" : Str), x), (("kind" : Str), y)] = some x := by
 rw [List.lookup_cons_self]
theorem sH (X : Cx) (pins : List (Addr × Obj)) (a : Addr) (oe : Obj) : (a, oe) ∈ (X.suite pins a oe).pn := by simp [Cx.suite]
theorem zU {p : List Nat} {ns : List Int} (l4 : p.length = 4) (hp : ns.Perm (zz p)) (hs : ns.Pairwise (· <= ·)) : ∃ x y z w, ns = [x, y, z, w] /\ ((x == 0 && (y == 1 && (z == 2 && (w == 3 && true)))) = Vbbraa.isPermutation p) := by
 have len : ns.length = 4 := by
  rw [hp.length_eq]
  show (p.map _).length = 4
  rw [List.length_map, l4]
 match ns, len with
 | [x, y, z, w], _ =>
   refine ⟨x, y, z, w, rfl, ?_⟩
   have mem : ∀ k : Nat, k ∈ p ↔ (k : Int) ∈ [x, y, z, w] := fun k => by
    rw [hp.mem_iff]
    show _ ↔ (k : Int) ∈ p.map fun n => Int.ofNat n
    rw [List.mem_map]
    constructor
    ·exact fun h => ⟨k, h, rfl⟩
    ·rintro ⟨a, ha, e⟩
     have : a = k := by
      have e' : (a : Int) = (k : Int) := e
      omega
     rw [<- this]
     exact ha
   have o : x <= y /\ y <= z /\ z <= w := by
    simp only [List.pairwise_cons, List.mem_cons] at hs
    exact ⟨hs.1 y (.inl rfl), hs.2.1 z (.inl rfl), hs.2.2.1 w (.inl rfl)⟩
   cases e : Vbbraa.isPermutation p with
   | true =>
     unfold Vbbraa.isPermutation at e
     rw [Bool.and_eq_true] at e
     have all : ∀ k : Nat, k < 4 -> (k : Int) ∈ [x, y, z, w] := fun k hk => (mem k).mp (List.contains_iff_mem.mp (List.all_eq_true.mp e.2 k (List.mem_range.mpr hk)))
     have m0 := all 0 (by decide)
     have m1 := all 1 (by decide)
     have m2 := all 2 (by decide)
     have m3 := all 3 (by decide)
     simp only [List.mem_cons, List.not_mem_nil, or_false] at m0 m1 m2 m3
     have : x = 0 /\ y = 1 /\ z = 2 /\ w = 3 := by omega
     obtain ⟨rfl, rfl, rfl, rfl⟩ := this
     rfl
   | false =>
     refine Bool.eq_false_iff.mpr fun h => ?_
     simp only [Bool.and_eq_true, beq_iff_eq, and_true] at h
     obtain ⟨rfl, rfl, rfl, rfl⟩ := h
     have : Vbbraa.isPermutation p = true := by
      unfold Vbbraa.isPermutation
      rw [Bool.and_eq_true, List.all_eq_true]
      refine ⟨by rw [l4]; rfl, fun k hk => List.contains_iff_mem.mpr ((mem k).mpr ?_)⟩
      have hk := List.mem_range.mp hk
      match k, hk with
      | 0, _ => decide
      | 1, _ => decide
      | 2, _ => decide
      | 3, _ => decide
     rw [this] at e
     cases e
section
variable {P : Program} {w : World} {K : W.Frag} {mg : Str -> Option Value} {base : Heap} {CF CC NF fIF : Addr} {ta : Str -> Addr}
theorem nl {f : Addr} {fd : FuncData} (F : b7 K "answer_suits" "answer_suits" eN f fd) (T : Tx K mg CF ta) (C_with_suits : ck P w K mg base aT 2 "with_suits" ["deal", "row"] (vE K)) :
 aP P w K mg base aT 3 f fd ["boards", "plain", "rows"] (df true wN) := by
 refine F.ok mX (fun vs H Q E h => ?_) (fun cdv A outer s H vs Q E hr h => ?_)
 ·obtain ⟨_, _, _, _, _, _, _, _, _, _, _, rfl, _⟩ := h
  rfl
 ·obtain ⟨bd, td, pl, rw', s, n, kvs, ps, bs, rs, c, rfl, ba, n1000, hpl, hrw, hrows, ⟨b, pm, rfl, rfl, l4, le3, rfl⟩, hb, k⟩ := h
  obtain ⟨r, rfl, hr0⟩ := hrows.one
  obtain ⟨d, hd⟩ := bt (b := b) (hb rfl)
  obtain ⟨p, ep, hp, g⟩ := ba.get hd
  have k : ft H bd td n (Vbbraa.onBoard s b fun d => if Vbbraa.isPermutation pm = true then (setBoard s b (Vbbraa.resuited d pm), [0]) else (s, [-6])) Q := k
  rw [cR hd] at k
  refine ⟨_, (ac (bf (aH (Bq hr.units) (aO qA rfl T.n_sorted (by decide +kernel) (aa (aA am (pv 2) aj (fun _ _ => rfl)) ad)) (aN (aa aj (aa aj (aa aj (aa aj ad))))) (aJ _)) (ah (aq (aN (aa (aC T.g_NOT_ALL_SUITS) ad)))) aM)
   (ac (d8 (bG hr) (pv 0) (aA am (pv 1) aj (fun _ _ => rfl)) (aI C_with_suits (hr.mono (by decide)) ay (aa (bZ (bG hr) (pv 0) (aA am (pv 1) aj (fun _ _ => rfl)) (fun _ _ => rfl)) (aa (aA am (pv 2) aj (fun _ _ => rfl)) ad))) rfl)
   (ah (aq (aN (aa (aC T.g_DONE) ad)))))), ?_⟩
  refine ⟨_, rfl, rw', [.ref r], 0, .ref r, rfl, rfl, .inl (.inl hrw), rfl, r, zz pm, rfl, .inl (.inl hr0), ?_, fun ns q hperm hsort hq => ?_⟩
  ·show (pm.map _).length < 64
   rw [List.length_map]
   omega
  ·obtain ⟨x, y, z, w, rfl, e⟩ := zU l4 hperm hsort
   have s1 := ax.new (o := .lst (([x, y, z, w] : List Int).map V.int)) hq
   refine ⟨(by show 4 <= sizeLine; decide), fun m hm => ?_⟩
   have s2 := ax.new (o := .lst [.int 0, .int 1, .int 2, .int 3]) hm
   have sa := s1.trans s2
   refine ⟨.list [.int x, .int y, .int z, .int w], .list [.int 0, .int 1, .int 2, .int 3], .lst (.inl (.inl (s2 _ _ ae))) (.cons (.int _) (.cons (.int _) (.cons (.int _) (.cons (.int _) .nil)))), .lst (.inl (.inl ae)) (.cons (.int _) (.cons (.int _) (.cons (.int _) (.cons (.int _) .nil)))), rfl, rfl, _, rfl, ?_⟩
   show if (!(x == 0 && (y == 1 && (z == 2 && (w == 3 && true))))) = true then _ else _
   rw [e]
   by_cases hpm : Vbbraa.isPermutation pm = true
   ·rw [if_pos hpm] at k
    rw [hpm]
    refine iE ⟨_, rfl, _, rfl, pl, dl [b], 0, .int b, rfl, rfl, .inl (.inl (sa _ _ hpl)), rfl, bd, .ref p, rfl, (ba.same sa (Nat.le_refl _)).dget ep, _, rfl, rw', [.ref r], 0, .ref r, rfl, rfl, .inl (.inl (sa _ _ hrw)), rfl, p, r, d, pm, rfl, .inl (.inl (sa _ _ hp)), .inl (.inl (sa _ _ hr0)), g.len, hpm, fun H1 p2 ⟨s3, n3, e3⟩ => ?_⟩
    have sb := sa.trans s3
    exact ⟨_, rfl, _, rfl, pl, dl [b], 0, .int b, rfl, rfl, .inl (.inl (sb _ _ hpl)), rfl, bd, _, rfl, (ba.same sb (Nat.le_refl _)).dput n1000 b (.ref p2), ⟨(by show 1 <= sizeLine; decide), fun q hq => k.put ba sb e3 (ba.new_ne sa n3) (pC g hpm) hq rfl⟩⟩
   ·rw [if_neg hpm] at k
    rw [Bool.eq_false_iff.mpr hpm]
    exact j1 ⟨(by show 1 <= sizeLine; decide), fun q hq => k.new ba sa hq rfl⟩
theorem oQ {f : Addr} {fd : FuncData} (F : b7 K "answer_read" "answer_read" fB f fd) (T : Tx K mg CF ta) (XC : jK K CF NF fIF "kind" "place") (C_deal_from_text : ck P w K mg base (f7 P w CF) 5 "deal_from_text" ["text"] (AL CF)) (C_known_cards : ck P w K mg base aT 2 "known_cards" ["deal"] (vL K)) :
 aP P w K mg base aT 6 f fd ["boards", "plain", "rows"] (df false zx) := by
 refine F.ok gC (fun vs H Q E h => ?_) (fun cdv A outer s H vs Q E hr h => ?_)
 ·obtain ⟨_, _, _, _, _, _, _, _, _, _, _, rfl, _⟩ := h
  rfl
 ·obtain ⟨bd, td, pl, rw', s, n, kvs, ps, bs, rs, c, rfl, ba, n1000, hpl, hrw, hrows, ⟨b, t, rfl, rfl, l200, rfl⟩, hb, k⟩ := h
  obtain ⟨r, rfl, hr0⟩ := hrows.one
  obtain ⟨Eb, hEb⟩ : ∃ Eb : XK, Eb = fun c xd H' => ∃ (e : Nat × Nat) (dx : Addr), Vbbraa.readDeal t = .error e /\ c = .ref CF /\ xd = some dx /\ ax H H' /\ H' dx = some (.xd [("place", .int e.2), ("kind", .int e.1)]) := ⟨_, rfl⟩
  have k : ft H bd td n (match Vbbraa.readDeal t with
   | .error e => (s, [0, Int.ofNat e.1, Int.ofNat e.2])
   | .ok d => (setBoard s b d, [0, 0, Int.ofNat (52 - countOf d 4)])) Q := k
  refine ⟨_, (ac (Bn (i := 4) (Eb := Eb) XC rfl rfl rfl gC.nd rfl rfl rfl T.g_TextFault (fun pins W hp => (ah (az (i := 3) gC.nd rfl (Or.inl rfl) (aI C_deal_from_text (hr.mono (by decide)) hp (aa (aA (show zM _ (yA K) from am) (pv 2) aj (fun _ _ => rfl)) ad))))) (fun pins a dx oe vs c1 c2 c3 => (ah (aq (aN (aa (aC T.g_DONE) (aa (v0 XC (sH _ _ _ _) c1 c2 c3 (.inl rfl) (pv 4)) (aa (v0 XC (sH _ _ _ _) c1 c2 c3 (.inr rfl) (pv 4)) ad))))))))
   (ac (d8 (bG hr) (pv 0) (aA am (pv 1) aj (fun _ _ => rfl)) (pv 3) rfl)
   (ah (aq (aN (aa (aC T.g_DONE) (aa aj (aa (aI C_known_cards (hr.mono (by decide)) ay (aa (pv 3) ad)) ad)))))))), ?_⟩
  refine ⟨?_, ?_⟩
  ·refine ⟨_, rfl, rw', [.ref r], 0, .ref r, rfl, rfl, .inl (.inl hrw), rfl, r, t, rfl, hr0, l200, ?_⟩
   cases e : Vbbraa.readDeal t with
   | error y =>
     subst hEb
     exact fun xd H' s1 ex => ⟨y, xd, e, rfl, rfl, s1, ex⟩
   | ok d =>
     rw [e] at k
     intro H' p ⟨s1, n1, e1⟩
     have g := pF e
     refine ⟨_, rfl, _, rfl, _, rfl, pl, dl [b], 0, .int b, rfl, rfl, .inl (.inl (s1 _ _ hpl)), rfl, bd, _, rfl, (ba.same s1 (Nat.le_refl _)).dput n1000 b (.ref p), ?_⟩
     refine ⟨_, rfl, p, d, rfl, .inl (.inl ?_), g, (by show 3 <= sizeLine; decide), fun q hq => ft.put k ba s1 e1 (ba.new_ne (fun _ _ e => e) n1) g hq rfl⟩
     rw [ak (eW e1 (s1 _ _ ba.dict) (by intro z; cases z))]
     exact e1
  ·intro dx H' m hm he a ha ne
   subst hEb
   obtain ⟨y, xd, e, _, ex, s1, hx⟩ := he
   injection ex with ex
   subst ex
   rw [e] at k
   have e4 : ((List.replicate m (none : Option V)).set 4 (some (.ref a)))[4]? = some (some (.ref a)) := List.getElem?_set_self (by simpa using hm)
   exact ⟨_, e4, rfl, _, _, hx, zO _ _, _, e4, rfl, _, _, hx, x8 _ _, (by show 3 <= sizeLine; decide), fun q hq => ft.new k ba s1 hq rfl⟩
end
end Db
end
section
namespace Db
open PySem PySem.Spec PyProof.Rows L2
open Vbbraa (Deal countOf room words fits unknown isWhole within State boardOf setBoard)
structure Form where
 need : Bool
 bounds : List Int
 shapes : List (Int × Int × Int)
 R : List Nat -> List (List Nat) -> Vbbraa.Call -> Prop
def mv (fm : Form) (ps : List Int) (rs : List (List Int)) : Bool := (ps.zip fm.bounds).all (fun p => within p.1 0 p.2) && (rs.zip fm.shapes).all (fun p => bR p.1 p.2.1 p.2.2.1 p.2.2.2)
structure bV (i : Nat) (fm : Form) : Prop where
 shape : PyVbbraa.shape (i : Int) = some (fm.bounds.length, fm.shapes.length)
 some_ : 1 <= fm.bounds.length
 few : fm.bounds.length <= 10 /\ fm.shapes.length <= 10
 out : ∀ (ps : List Int) (rs : List (List Int)), ps.length = fm.bounds.length -> rs.length = fm.shapes.length -> mv fm ps rs = false -> Vbbraa.callOf (((i : Int) :: ps) :: rs) = none
 ins : ∀ (ps : List Int) (rs : List (List Int)), ps.length = fm.bounds.length -> rs.length = fm.shapes.length -> mv fm ps rs = true ->
  ∃ c, Vbbraa.callOf (((i : Int) :: ps) :: rs) = some c /\ fm.R (Vbbraa.nats ps) (rs.map Vbbraa.nats) c /\ (fm.need = true -> ∀ s, boardOf s ((Vbbraa.nats ps).getD 0 0) = none -> Vbbraa.step s c = (s, [-2]))
structure vn (P : Program) (w : World) (K : W.Frag) (mg : Str -> Option Value) (base : Heap) (lv : Nat) (a : Addr) (fm : Form) : Prop where
 ex : ∃ (f bnd shp : Addr) (fd : FuncData) (k : Nat) (sh : List (Addr × (Int × Int × Int))), (∀ H, fV K H a [.ref f, .bl fm.need, .ref bnd, .ref shp]) /\ (∀ H, fV K H bnd (il fm.bounds)) /\ (∀ H, fV K H shp (sh.map fun y => V.ref y.1)) /\ sh.map (·.2) = fm.shapes /\
  (∀ y ∈ sh, ∀ H, fV K H y.1 (il [y.2.1, y.2.2.1, y.2.2.2])) /\ aP P w K mg base aT k f fd ["boards", "plain", "rows"] (df fm.need fm.R) /\ k <= lv /\ aB K fd ["boards", "plain", "rows"] [] /\ W.keepIn K (.ref f) = true
theorem nP {x h : Int} (e : within x 0 h = true) : 0 <= x := by
 unfold Vbbraa.within at e
 rw [Bool.and_eq_true] at e
 exact of_decide_eq_true e.1
theorem rL : ∀ {l : List Int}, (∀ x ∈ l, 0 <= x) -> il l = dl (Vbbraa.nats l)
 | [], _ => rfl
 | x :: l, h => by
   have := rL fun y hy => h y (List.mem_cons_of_mem _ hy)
   show V.int x :: il l = V.int ((x.toNat : Nat) : Int) :: dl (Vbbraa.nats l)
   rw [this, Int.toNat_of_nonneg (h x List.mem_cons_self)]
theorem r9 {α β : Type} (f : α × β -> Bool) (Pr : α -> Prop) (h : ∀ x y, f (x, y) = true -> Pr x) : ∀ {l : List α} {m : List β}, l.length = m.length -> (l.zip m).all f = true -> ∀ x ∈ l, Pr x
 | [], _, _, _, x, hx => by cases hx
 | a :: l, b :: m, e, al, x, hx => by
   rw [List.zip_cons_cons, List.all_cons, Bool.and_eq_true] at al
   rcases List.mem_cons.mp hx with z | z
   ·rw [z]
    exact h a b al.1
   ·exact r9 f Pr h (by simpa using e) al.2 x z
theorem yw {x : List Int} {lo hi bC : Int} (h : bR x lo hi bC = true) : ∀ z ∈ x, 0 <= z := fun z hz => by
 unfold bR at h
 rw [Bool.and_eq_true, Bool.and_eq_true] at h
 exact nP (List.all_eq_true.mp h.2.2 z hz)
theorem fU.rows {H H' H2 : Hp} : ∀ {bs : List Addr} {xs : List (List Int)}, fU H H' bs xs -> (∀ x ∈ xs, ∀ z ∈ x, 0 <= z) -> (∀ b l, H' b = some (.lst l) -> H2 b = some (.lst l)) -> h9 H2 bs (xs.map Vbbraa.nats)
 | [], [], _, _, _ => trivial
 | b :: bs, x :: xs, h, hn, k => by
   refine ⟨?_, h.2.rows (fun y hy => hn y (List.mem_cons_of_mem _ hy)) k⟩
   have := k _ _ h.1.2
   rw [rL (hn x List.mem_cons_self)] at this
   exact this
theorem fU.each {H H' : Hp} : ∀ {bs : List Addr} {xs : List (List Int)}, fU H H' bs xs -> ∀ p ∈ bs.zip xs, H' p.1 = some (.lst (il p.2))
 | [], [], _, p, hp => by cases hp
 | b :: bs, x :: xs, h, p, hp => by
   rcases List.mem_cons.mp hp with z | z
   ·rw [z]
    exact h.1.2
   ·exact h.2.each p z
section
variable {K : W.Frag} {CC : Addr} {H H' : Hp} {rd dx a bd td : Addr} {l : List Int} {p : Nat} {s : State} {n : Nat} {kvs : List (Key × V)}
theorem CR.stay (r : CR K CC H rd dx a l p) (ba : BA H bd td s n kvs) (k : KR bd H H') : CR K CC H' rd dx a l p := by
 refine ⟨k _ _ r.ins (eW r.ins ba.dict (by intro z; cases z)), ?_, r.le⟩
 rcases r.calls with (h | ⟨o, h⟩) | h
 ·exact .inl (.inl (k _ _ h (eW h ba.dict (by intro z; cases z))))
 ·exact .inl (.inr ⟨o, k _ _ h (eW h ba.dict (by intro z; cases z))⟩)
 ·exact .inr h
theorem BA.stay (ba : BA H bd td s n kvs) (r : CR K CC H rd dx a l p) (k : KR rd H H') : BA H' bd td s n kvs := ba.mono (k _ _ ba.dict (eW ba.dict r.ins (by intro z; cases z))) (fun _ _ e => k.lst r.ins e) (Nat.le_refl _)
theorem KR.free {H2 : Hp} (k : KR rd H H2) (h : ∃ o, H2 rd = some o) {q : Addr} (e : H2 q = none) : H q = none := by
 cases z : H q with
 | none => rfl
 | some o =>
   by_cases y : q = rd
   ·obtain ⟨u, hu⟩ := h
    rw [y, hu] at e
    cases e
   ·rw [k _ _ z y] at e
    cases e
end
def yk (K : W.Frag) (CC : Addr) : Sp := fun vs H Q _ => ∃ (rd dx a bd td : Addr) (l y : List Int) (p : Nat) (s : State) (n : Nat) (kvs : List (Key × V)) (c : List (List Int)), vs = [.ref rd, .ref bd] /\ CR K CC H rd dx a l p /\ BA H bd td s n kvs /\ n <= 999 /\
 PyFlat.call PyVbbraa.shape (l.drop p) = some (c, y) /\ (∀ x ∈ c, x.length <= 1000) /\
 ∀ H' q p' kvs', CR K CC H' rd dx a l p' -> l.drop p' = y -> BA H' bd td (Vbbraa.stepRows s c).1 (n + 1) kvs' -> KB rd bd H H' -> H q = none -> H' q = some (.lst (il (Vbbraa.stepRows s c).2)) -> Q (.ref q) H'
theorem vj {l y : List Int} {p : Nat} {c : List (List Int)} (h : PyFlat.call PyVbbraa.shape (l.drop p) = some (c, y)) : ∃ q n k xs, l.drop p = q :: l.drop (p + 1) /\ p + 1 + n <= l.length /\ PyVbbraa.shape q = some (n, k) /\ PyFlat.rows k (l.drop (p + 1 + n)) = some (xs, y) /\ c = (q :: (l.drop (p + 1)).take n) :: xs := by
 cases e : l.drop p with
 | nil =>
   rw [e] at h
   cases h
 | cons q r =>
   rw [e] at h
   have hr : r = l.drop (p + 1) := by
    rw [<- List.drop_drop, e]
    rfl
   have hl : p < l.length := by
    rcases Nat.lt_or_ge p l.length with z | z
    ·exact z
    ·rw [List.drop_eq_nil_of_le z] at e
     cases e
   unfold PyFlat.call at h
   cases es : PyVbbraa.shape q with
   | none =>
     simp only [es] at h
     cases h
   | some nk =>
     simp only [es] at h
     by_cases hn : r.length < nk.1
     ·rw [if_pos hn] at h
      cases h
     ·rw [if_neg hn] at h
      cases e2 : PyFlat.rows nk.2 (r.drop nk.1) with
      | none =>
        simp only [e2] at h
        cases h
      | some z =>
        simp only [e2] at h
        injection h with h
        injection h with h1 h2
        refine ⟨q, nk.1, nk.2, z.1, by rw [hr], ?_, es, ?_, ?_⟩
        ·rw [hr, List.length_drop] at hn
         omega
        ·rw [<- List.drop_drop, <- hr, e2, <- h2]
        ·rw [<- h1, hr]
end Db
end
section
namespace Db
open PySem PySem.Spec PyProof.Rows L2
open Vbbraa (Deal countOf room words fits unknown isWhole within State boardOf setBoard)
theorem sS : ∀ {bs : List Addr} {xs : List (List Int)} {sh : List (Addr × (Int × Int × Int))}, bs.length = xs.length -> (((bs.zip xs).zip sh).all fun p => bR p.1.2 p.2.2.1 p.2.2.2.1 p.2.2.2.2) = (xs.zip (sh.map (·.2))).all fun p => bR p.1 p.2.1 p.2.2.1 p.2.2.2
 | [], [], _, _ => by simp
 | b :: bs, x :: xs, [], _ => by simp
 | b :: bs, x :: xs, y :: sh, h => by
   have ih := sS (bs := bs) (xs := xs) (sh := sh) (by simpa using h)
   rw [List.zip_cons_cons, List.zip_cons_cons, List.map_cons, List.zip_cons_cons, List.all_cons, List.all_cons, ih]
section
variable {P : Program} {w : World} {K : W.Frag} {mg : Str -> Option Value} {base : Heap} {CF aF CC NF fIF : Addr} {ta : Str -> Addr}
theorem km {f : Addr} {fd : FuncData} {fms : List (Addr × Form)} (F : b7 K "answer_one_call" "answer_one_call" cW f fd) (T : Tx K mg CF ta) (c_CallReader : A5 K CC) (G_FORMS : GT K mg "FORMS" aF (fms.map fun x => V.ref x.1))
 (hat : ∀ x ∈ fms, vn P w K mg base 6 x.1 x.2) (hok : ∀ i x, fms[i]? = some x -> bV i x.2) (hall : ∀ q n k, PyVbbraa.shape q = some (n, k) -> ∃ (i : Nat) (x : Addr × Form), q = (i : Int) /\ fms[i]? = some x)
 (M_CallReader_take_numbers : jW P w K mg base aT 1 CC "take_numbers" ["self", "how_many"] (qT K CC)) (M_CallReader_take_rows : jW P w K mg base aT 3 CC "take_rows" ["self", "how_many"] (qS K CC))
 (C_plain_in_range : ck P w K mg base aT 2 "plain_in_range" ["plain", "bounds"] (vK K)) (C_rows_in_range : ck P w K mg base aT 3 "rows_in_range" ["rows", "shapes"] (sJ K)) :
 aP P w K mg base aT 7 f fd ["reader", "boards"] (yk K CC) := by
 refine F.ok bT (fun vs H Q E h => ?_) (fun cdv A outer s H vs Q E hr h => ?_)
 ·obtain ⟨_, _, _, _, _, _, _, _, _, _, _, _, rfl, _⟩ := h
  rfl
 ·obtain ⟨rd, dx, a, bd, td, l, y, p, s, n, kvs, c, rfl, r, ba, n999, hcall, small, k⟩ := h
  obtain ⟨q0, n0, k0, xs, e1, e2, e3, e4, rfl⟩ := vj hcall
  obtain ⟨i, ⟨af, fm⟩, rfl, hi⟩ := hall _ _ _ e3
  obtain ⟨fa, bnd, shp, fd2, k2, sh, sqF, sqB, sqS, esh, sqE, FN, k26, BN, KN⟩ := (hat _ (List.mem_of_getElem? hi)).ex
  have fo : bV i fm := hok _ _ hi
  have esp := fo.shape
  rw [e3] at esp
  injection esp with esp
  injection esp with en ek
  subst en ek
  have lsh : sh.length = fm.shapes.length := by rw [<- esh, List.length_map]
  have lxs := oq e4
  refine ⟨_, (ac (az (i := 2) bT.nd rfl (Or.inl rfl) (aA gM (mK G_FORMS) (aA am (fR M_CallReader_take_numbers c_CallReader.cl (hr.mono (by decide)) ay (pv 0) (aa aj ad)) aj (fun _ _ => rfl)) (fun _ _ => rfl)))
   (ac (az (i := 3) bT.nd rfl (Or.inl rfl) (fR M_CallReader_take_numbers c_CallReader.cl (hr.mono (by decide)) ay (pv 0) (aa (aO aV rfl T.n_len (by decide +kernel) (aa (aA gM (pv 2) aj (fun _ _ => rfl)) ad)) ad)))
   (ac (az (i := 4) bT.nd rfl (Or.inl rfl) (fR M_CallReader_take_rows c_CallReader.cl (hr.mono (by decide)) ay (pv 0) (aa (aO aV rfl T.n_len (by decide +kernel) (aa (aA gM (pv 2) aj (fun _ _ => rfl)) ad)) ad)))
   (ac (bf (PW.pt (AN (hU (cN (aI C_plain_in_range (hr.mono (by decide)) ay (aa (pv 3) (aa (aA gM (pv 2) aj (fun _ _ => rfl)) ad))))) (yB (hU (cN (aI C_rows_in_range (hr.mono (by decide)) ay (aa (pv 4) (aa (aA gM (pv 2) aj (fun _ _ => rfl)) ad)))))))) (ah (aq (aN (aa (aC T.g_OUT_OF_RANGE) ad)))) aM)
   (ac (bf (PW.pt (lV (cN (aA gM (pv 2) aj (fun _ _ => rfl))) (jS (uI (lZ (bG hr) (aA am (pv 3) aj (fun _ _ => rfl)) (pv 1)))))) (ah (aq (aN (aa (aC T.g_NO_BOARD) ad)))) aM)
   (ac (az (i := 5) bT.nd rfl (Or.inl rfl) (aA gM (pv 2) aj (fun _ _ => rfl)))
   (ah (aq (yL (i := 5) (E := E0) rfl (Or.inl rfl) (aa (pv 1) (aa (pv 3) (aa (pv 4) ad)))))))))))), ?_⟩
  refine ⟨_, rfl, rd, dx, _, rfl, r.ins, pq _ _ (by decide +kernel) (by decide +kernel), rd, dx, a, l, p, 1, rfl, r, by omega, fun H1 q1 r1 k1 n1 x1 => ?_⟩
  rw [e1] at x1
  refine ⟨q1, [.int i], 0, .int i, rfl, rfl, .inl (.inl x1), rfl, aF, _, i, .ref af, rfl, rfl, G_FORMS.sqT H1, zr rfl (by rw [List.getElem?_map, hi]; rfl), ?_⟩
  refine ⟨_, rfl, rd, dx, _, rfl, r1.ins, pq _ _ (by decide +kernel) (by decide +kernel), _, rfl, af, _, 2, .ref bnd, rfl, rfl, sqF H1, rfl, bnd, _, rfl, .inr (sqB H1), rd, dx, a, l, p + 1, fm.bounds.length, by rw [eh]; rfl, r1, e2, fun H2 pl r2 k2 n2 x2 => ?_⟩
  refine ⟨_, rfl, rd, dx, _, rfl, r2.ins, pq _ _ (by decide +kernel) (by decide +kernel), _, rfl, af, _, 3, .ref shp, rfl, rfl, sqF H2, rfl, shp, _, rfl, .inr (sqS H2), rd, dx, a, l, p + 1 + fm.bounds.length, fm.shapes.length, xs, y, by rw [List.length_map, lsh]; rfl, r2, e4, by have := fo.few; omega, fun H3 rw' p3 bs r3 ep3 k3 n3 x3 hL => ?_⟩
  generalize hps : (l.drop (p + 1)).take fm.bounds.length = ps at x2 k small
  have lps : ps.length = fm.bounds.length := by
   rw [<- hps, List.length_take, List.length_drop]
   omega
  have ka : KR rd H H3 := (k1.trans k2).trans k3
  have x2' := k3.lst r2.ins x2
  have b3 : BA H3 bd td s n kvs := ba.stay r ka
  have small2 : ∀ x ∈ xs, x.length <= 1000 := fun x hx => small x (List.mem_cons_of_mem _ hx)
  have lbs := hL.len
  have fin : ∀ {H5 : Hp} {q : Addr} {ys : List Int} {vs : List V}, ax H3 H5 -> H5 q = none -> Vbbraa.stepRows s (((i : Int) :: ps) :: xs) = (s, ys) -> vs = il ys -> Q (.ref q) (aU H5 q (.lst vs)) := fun {H5 q ys vs} s5 hq est ev => by
   have s6 := s5.trans (ax.new (o := .lst vs) hq)
   refine k _ q p3 kvs (r3.same s6) ep3 ?_ (fun b o eb h1 _ => s6 _ _ (ka _ _ eb h1)) (ka.free ⟨_, r3.ins⟩ (s5.free hq)) ?_
   ·rw [est]
    exact b3.same s6 (Nat.le_succ _)
   ·rw [est, ae, ev]
  have out : mv fm ps xs = false -> Vbbraa.stepRows s (((i : Int) :: ps) :: xs) = (s, [-1]) := fun h => by
   unfold Vbbraa.stepRows
   rw [fo.out ps xs lps lxs h]
  refine ⟨_, rfl, _, rfl, af, _, 2, .ref bnd, rfl, rfl, sqF H3, rfl, pl, bnd, ps, fm.bounds, rfl, .inl (.inl x2'), sqB H3, lps, by have := fo.few; omega, fun H4 s4 => ⟨_, rfl, ?_⟩⟩
  cases c1 : (ps.zip fm.bounds).all fun p => within p.1 0 p.2 with
  | false => exact j1 (j1 ⟨(by show 1 <= sizeLine; decide), fun q hq => fin s4 hq (out (by unfold mv; rw [c1, Bool.false_and])) rfl⟩)
  | true =>
    refine iE ⟨_, rfl, _, rfl, af, _, 3, .ref shp, rfl, rfl, sqF H4, rfl, rw', shp, bs.zip xs, sh, rfl, ?_, sqS H4, ?_, ?_, ?_, fun z hz => sqE z hz H4, fun H5 s5 => ⟨_, rfl, ?_⟩⟩
    ·have : ((bs.zip xs).map fun x => V.ref x.1) = bs.map V.ref := by
      rw [<- List.map_fst_zip (l₁ := bs) (l₂ := xs) (by omega), List.map_map]
      rw [List.map_fst_zip (by omega)]
      rfl
     rw [this]
     exact .inl (.inl (s4 _ _ x3))
    ·rw [List.length_zip]
     omega
    ·rw [List.length_zip]
     have := fo.few
     omega
    ·intro z hz
     refine ⟨.inl (.inl (s4 _ _ (hL.each z hz))), small2 _ (List.of_mem_zip hz).2⟩
    ·rw [sS lbs, esh]
     cases c2 : (xs.zip fm.shapes).all fun p => bR p.1 p.2.1 p.2.2.1 p.2.2.2 with
     | false => exact j1 ⟨(by show 1 <= sizeLine; decide), fun q hq => fin (s4.trans s5) hq (out (by unfold mv; rw [c2, Bool.and_false])) rfl⟩
     | true =>
       obtain ⟨cc, hcc, hR, hno⟩ := fo.ins ps xs lps lxs (by unfold mv; rw [c1, c2]; rfl)
       have est : Vbbraa.stepRows s (((i : Int) :: ps) :: xs) = Vbbraa.step s cc := by
        unfold Vbbraa.stepRows
        rw [hcc]
       have sa := s4.trans s5
       have pn : ∀ x ∈ ps, 0 <= x := r9 _ (fun x => 0 <= x) (fun x y h => nP h) lps c1
       have rn : ∀ x ∈ xs, ∀ z ∈ x, 0 <= z := r9 _ (fun x : List Int => ∀ z ∈ x, 0 <= z) (fun x y h => yw h) lxs c2
       have x5 := sa _ _ x2'
       rw [rL pn] at x5
       have b5 := b3.same sa (Nat.le_refl _)
       have lnp : 0 < (Vbbraa.nats ps).length := by
        unfold Vbbraa.nats
        rw [List.length_map, lps]
        exact fo.some_
       have last : (fm.need = true -> boardOf s ((Vbbraa.nats ps).getD 0 0) ≠ none) -> df fm.need fm.R [.ref bd, .ref pl, .ref rw'] H5 Q E0 := fun hb =>
        ⟨bd, td, pl, rw', s, n, kvs, Vbbraa.nats ps, bs, xs.map Vbbraa.nats, cc, rfl, b5, by omega, x5, sa _ _ x3, hL.rows rn (fun b l e => sa _ _ e), hR, hb, fun H6 q kvs' ba6 k6 n6 e6 => by
         refine k H6 q p3 kvs' ((r3.same sa).stay b5 k6) ep3 (by rw [est]; exact ba6) (fun b o eb h1 h2 => k6 _ _ (sa _ _ (ka _ _ eb h1)) h2) (ka.free ⟨_, r3.ins⟩ (sa.free n6)) (by rw [est]; exact e6)⟩
       refine iE ⟨_, rfl, af, _, 1, .bl fm.need, rfl, rfl, sqF H5, rfl, _, rfl, bq (fun h1 => ?_) (fun h1 => ?_)⟩
       ·refine ⟨_, rfl, pl, _, 0, .int ((Vbbraa.nats ps).getD 0 0 : Nat), rfl, rfl, .inl (.inl x5), bn rfl lnp 0, _, rfl, bd, _, rfl, b5.dask _, _, rfl, ?_⟩
        rw [b5.isSome]
        cases hb : boardOf s ((Vbbraa.nats ps).getD 0 0) with
        | none => exact j1 ⟨(by show 1 <= sizeLine; decide), fun q hq => fin sa hq (by rw [est]; exact hno h1 s hb) rfl⟩
        | some d0 => exact iE ⟨_, rfl, af, _, 0, .ref fa, rfl, rfl, sqF H5, rfl, ⟨fa, rfl, KN, _, rfl, _, rfl, _, rfl, aT, _, fd2, _, _, FN, hr.mono k26, BN, ay, last (fun _ z => by rw [hb] at z; cases z)⟩⟩
       ·exact iE ⟨_, rfl, af, _, 0, .ref fa, rfl, rfl, sqF H5, rfl, ⟨fa, rfl, KN, _, rfl, _, rfl, _, rfl, aT, _, fd2, _, _, FN, hr.mono k26, BN, ay, last (fun z => absurd z h1)⟩⟩
end
end Db
end
section
namespace Db
open PySem PySem.Spec PyProof.Rows L2
open Vbbraa (Deal countOf room words fits unknown isWhole within State boardOf setBoard)
theorem dj {α : Type} {l : List α} (h : l.length = 1) : ∃ a, l = [a] := by
 match l, h with
 | [a], _ => exact ⟨a, rfl⟩
theorem j0 {α : Type} {l : List α} (h : l.length = 2) : ∃ a b, l = [a, b] := by
 match l, h with
 | [a, b], _ => exact ⟨a, b, rfl⟩
theorem eg {α : Type} {l : List α} (h : l.length = 0) : l = [] := List.length_eq_zero_iff.mp h
theorem u4 {α : Type} {l : List α} (h : l.length = 3) : ∃ a b c, l = [a, b, c] := by
 match l, h with
 | [a, b, c], _ => exact ⟨a, b, c, rfl⟩
theorem yW {α : Type} {l : List α} (h : l.length = 4) : ∃ a b c d, l = [a, b, c, d] := by
 match l, h with
 | [a, b, c, d], _ => exact ⟨a, b, c, d, rfl⟩
theorem pV (q : Int) (n k : Nat) (h : PyVbbraa.shape q = some (n, k)) : ∃ i : Nat, i < 20 /\ q = (i : Int) := by
 by_cases h1 : 0 <= q /\ q < 20
 ·exact ⟨q.toNat, by omega, by omega⟩
 ·have e : PyVbbraa.shape q = none := by
   unfold PyVbbraa.shape
   repeat rw [if_neg (by omega)]
  rw [e] at h
  cases h
theorem gq {l : List Int} (h : VbbraaNeutral.row l = true) : l.length <= 1000 := by
 unfold VbbraaNeutral.row at h
 rw [Bool.and_eq_true] at h
 have := of_decide_eq_true h.1
 omega
theorem pr {q : Int} {ps : List Int} {xs : List (List Int)} {n k : Nat} (hs : PyVbbraa.shape q = some (n, k)) (hp : ps.length = n) (hx : xs.length = k) : PyVbbraa.whole ((q :: ps) :: xs) = (q :: ps) :: xs /\ (VbbraaNeutral.asked1 ((q :: ps) :: xs) = true -> ∀ x ∈ (q :: ps) :: xs, x.length <= 1000) := by
 obtain ⟨i, hi, rfl⟩ := pV q n k hs
 have one : ∀ {m : Nat} {r : List Int}, r.length = m -> m <= 1000 -> (∀ x ∈ [r], x.length <= 1000) := fun e h x hx => by
  rw [List.mem_singleton.mp hx, e]
  exact h
 have cs : i = 0 \/ i = 1 \/ i = 2 \/ i = 3 \/ i = 4 \/ i = 5 \/ i = 6 \/ i = 7 \/ i = 8 \/ i = 9 \/ i = 10 \/ i = 11 \/ i = 12 \/ i = 13 \/ i = 14 \/ i = 15 \/ i = 16 \/ i = 17 \/ i = 18 \/ i = 19 := by omega
 rcases cs with rfl | rfl | rfl | rfl | rfl | rfl | rfl | rfl | rfl | rfl | rfl | rfl | rfl | rfl | rfl | rfl | rfl | rfl | rfl | rfl <;> cases hs
 all_goals first
  | (obtain ⟨a, rfl⟩ := dj hp; obtain rfl := eg hx; exact ⟨rfl, fun _ => one rfl (by show 2 <= 1000; decide)⟩)
  | (obtain ⟨a, b, rfl⟩ := j0 hp; obtain rfl := eg hx; exact ⟨rfl, fun _ => one rfl (by show 3 <= 1000; decide)⟩)
  | (obtain ⟨a, b, c, rfl⟩ := u4 hp; obtain rfl := eg hx; exact ⟨rfl, fun _ => one rfl (by show 4 <= 1000; decide)⟩)
  | (obtain ⟨a, rfl⟩ := dj hp; obtain ⟨r, rfl⟩ := dj hx; exact ⟨rfl, fun h => List.forall_mem_cons.mpr ⟨(by show 2 <= 1000; decide), one rfl (gq (Bool.and_eq_true_iff.mp h).2)⟩⟩)
  | (obtain ⟨a, b, rfl⟩ := j0 hp; obtain ⟨r, rfl⟩ := dj hx; exact ⟨rfl, fun h => List.forall_mem_cons.mpr ⟨(by show 3 <= 1000; decide), one rfl (gq (Bool.and_eq_true_iff.mp (Bool.and_eq_true_iff.mp h).2).2)⟩⟩)
  | (obtain ⟨a, rfl⟩ := dj hp; obtain ⟨r, u, v, z, rfl⟩ := yW hx; exact ⟨rfl, fun h => by
   obtain ⟨_, h1⟩ := Bool.and_eq_true_iff.mp h
   obtain ⟨h2, h3⟩ := Bool.and_eq_true_iff.mp h1
   obtain ⟨h4, h5⟩ := Bool.and_eq_true_iff.mp h3
   obtain ⟨h6, h7⟩ := Bool.and_eq_true_iff.mp h5
   exact List.forall_mem_cons.mpr ⟨(by show 2 <= 1000; decide), List.forall_mem_cons.mpr ⟨gq h2, List.forall_mem_cons.mpr ⟨gq h4, List.forall_mem_cons.mpr ⟨gq h6, one rfl (gq h7)⟩⟩⟩⟩⟩)
theorem wJ {r : List Int} {c : List (List Int)} {t : List Int} (h : PyFlat.call PyVbbraa.shape r = some (c, t)) : ∃ (q : Int) (ps : List Int) (xs : List (List Int)) (n k : Nat), c = (q :: ps) :: xs /\ PyVbbraa.shape q = some (n, k) /\ ps.length = n /\ xs.length = k := by
 cases r with
 | nil => cases h
 | cons p r =>
   unfold PyFlat.call at h
   cases e : PyVbbraa.shape p with
   | none =>
     simp only [e] at h
     cases h
   | some nk =>
     obtain ⟨n, k⟩ := nk
     simp only [e] at h
     by_cases lt : r.length < n
     ·rw [if_pos lt] at h
      cases h
     ·rw [if_neg lt] at h
      cases e2 : PyFlat.rows k (r.drop n) with
      | none =>
        simp only [e2] at h
        cases h
      | some z =>
        obtain ⟨xs, y⟩ := z
        simp only [e2] at h
        cases h
        exact ⟨p, r.take n, xs, n, k, rfl, e, by rw [List.length_take]; omega, oq e2⟩
theorem vi {r : List Int} {c : List (List Int)} {t : List Int} (h : PyFlat.call PyVbbraa.shape r = some (c, t)) : PyVbbraa.whole c = c := by
 obtain ⟨q, ps, xs, n, k, rfl, hs, hp, hx⟩ := wJ h
 exact (pr hs hp hx).1
theorem t7 {r : List Int} {c : List (List Int)} {t : List Int} (h : PyFlat.call PyVbbraa.shape r = some (c, t)) (a : VbbraaNeutral.asked1 c = true) : ∀ x ∈ c, x.length <= 1000 := by
 obtain ⟨q, ps, xs, n, k, rfl, hs, hp, hx⟩ := wJ h
 exact (pr hs hp hx).2 a
theorem BA.goodS {H : Hp} {bd td : Addr} {s : State} {n : Nat} {kvs : List (Key × V)} (h : BA H bd td s n kvs) : zG s := fun b d e => by
 obtain ⟨_, _, _, g⟩ := h.get e
 exact g
theorem BA.told {H : Hp} {bd td : Addr} {s : State} {n : Nat} {kvs : List (Key × V)} (h : BA H bd td s n kvs) (ys : List V) : BA (aU H td (.lst ys)) bd td s n kvs := by
 obtain ⟨xs, e⟩ := h.tdin
 refine ⟨?_, h.len, fun b => ?_, ⟨ys, ae⟩, h.ne⟩
 ·rw [ak (eW h.dict e (by intro z; cases z))]
  exact h.dict
 ·have q := h.all b
  cases v : ff kvs (.inl (b : Int)) with
  | none =>
    rw [v] at q
    cases d : boardOf s b with
    | none => trivial
    | some _ =>
      rw [d] at q
      exact q.elim
  | some x =>
    rw [v] at q
    cases d : boardOf s b with
    | none =>
      rw [d] at q
      exact q.elim
    | some y =>
      rw [d] at q
      obtain ⟨p, rfl, hp, g⟩ := q
      refine ⟨p, rfl, ?_, g⟩
      rw [ak (h.ne b p v)]
      exact hp
theorem mS {f : Nat} {r : List Int} {cs : List (List (List Int))} (h : PyFlat.calls PyVbbraa.shape f r = some cs) (hr : r ≠ []) : ∃ f' c t cs', f = f' + 1 /\ PyFlat.call PyVbbraa.shape r = some (c, t) /\ PyFlat.calls PyVbbraa.shape f' t = some cs' /\ cs = c :: cs' := by
 match f, r, hr, h with
 | 0, p :: r, _, h => cases h
 | f + 1, p :: r, _, h =>
   unfold PyFlat.calls at h
   cases e : PyFlat.call PyVbbraa.shape (p :: r) with
   | none =>
     simp only [e] at h
     cases h
   | some x =>
     simp only [e] at h
     cases e2 : PyFlat.calls PyVbbraa.shape f x.2 with
     | none =>
       simp only [e2] at h
       cases h
     | some z =>
       simp only [e2] at h
       injection h with h
       exact ⟨f, x.1, x.2, z, rfl, rfl, e2, h.symm⟩
theorem tZ : ∀ {f : Nat} {r : List Int} {cs : List (List (List Int))}, PyFlat.calls PyVbbraa.shape f r = some cs -> cs.map PyVbbraa.whole = cs := by
 intro f
 induction f with
 | zero =>
   intro r cs h
   cases r with
   | nil =>
     cases h
     rfl
   | cons p r => cases h
 | succ f ih =>
   intro r cs h
   cases r with
   | nil =>
     cases h
     rfl
   | cons p r =>
     obtain ⟨f', c, t, cs', e, h1, h2, rfl⟩ := mS h (by simp)
     cases e
     rw [List.map_cons, vi h1, ih h2]
theorem xQ {f : Nat} {cs : List (List (List Int))} (h : PyFlat.calls PyVbbraa.shape f [] = some cs) : cs = [] := by
 match f, h with
 | 0, h => injection h with h; exact h.symm
 | f + 1, h => injection h with h; exact h.symm
def lK (K : W.Frag) : Sp := fun vs H Q _ => ∃ (a : Addr) (l : List Int), vs = [.ref a] /\ bj K H a (il l) /\ PyVbbraa.answers_asked l = true /\ ∀ H' q, ax H H' -> H q = none -> H' q = some (.lst (il (PyVbbraa.answers l))) -> Q (.ref q) H'
def zL (K : W.Frag) (CC : Addr) (H : Hp) (a rd dx bd td : Addr) (l R : List Int) (m : Nat) (σ' : L2.St) (H' : Hp) : Prop :=
 ∃ (p : Nat) (s : State) (n : Nat) (kvs : List (Key × V)) (T0 : List Int) (v : Option V) (fuel : Nat) (cs : List (List (List Int))), σ' = [some (.ref a), some (.ref rd), some (.ref bd), some (.ref td), v] /\ CR K CC H' rd dx a l p /\ BA H' bd td s n kvs /\ H' td = some (.lst (il T0)) /\ ax H H' /\
  PyFlat.calls PyVbbraa.shape fuel (l.drop p) = some cs /\ cs.length = m /\ n + m <= 400 /\ T0.length <= n * 451 /\ (∀ c ∈ cs, VbbraaNeutral.asked1 c = true) /\ T0 ++ PyFlat.told (PyFlat.played VbbraaNeutral.step s cs) = R
section
variable {P : Program} {w : World} {K : W.Frag} {mg : Str -> Option Value} {base : Heap} {CF aF CC NF fIF : Addr} {ta : Str -> Addr}
theorem uT {f : Addr} {fd : FuncData} (F : b7 K "answers" "answers" fj f fd) (T : Tx K mg CF ta) (c_CallReader : A5 K CC) (K_CallReader : CN P w K mg base aT 1 "CallReader" CC ["self", "calls"] (n9 K CC))
 (M_CallReader_has_more : jW P w K mg base aT 1 CC "has_more" ["self"] (uw K CC)) (C_answer_one_call : ck P w K mg base aT 7 "answer_one_call" ["reader", "boards"] (yk K CC)) : aP P w K mg base aT 8 f fd ["calls"] (lK K) := by
 refine F.ok gA (fun vs H Q E h => ?_) (fun cdv A outer s H vs Q E hr h => ?_)
 ·obtain ⟨_, _, rfl, _⟩ := h
  rfl
 ·obtain ⟨a, l, rfl, hs, hask, k⟩ := h
  obtain ⟨cs, ecs, few, each, eans⟩ : ∃ cs, PyFlat.calls PyVbbraa.shape l.length l = some cs /\ cs.length <= 400 /\ (∀ c ∈ cs, VbbraaNeutral.asked1 c = true) /\ PyVbbraa.answers l = PyFlat.told (PyFlat.played VbbraaNeutral.step VbbraaNeutral.start cs) := by
   unfold PyVbbraa.answers_asked PyVbbraa.calls at hask
   unfold PyVbbraa.answers PyVbbraa.calls
   cases e : PyFlat.calls PyVbbraa.shape l.length l with
   | none =>
     rw [e] at hask
     cases hask
   | some cs =>
     rw [e] at hask
     have e2 : cs.map PyVbbraa.whole = cs := tZ e
     simp only [e2] at hask ⊢
     rw [Bool.and_eq_true] at hask
     refine ⟨cs, rfl, of_decide_eq_true hask.1, fun c hc => ?_, rfl⟩
     have h2 := hask.2
     unfold VbbraaNeutral.asked at h2
     rw [Bool.and_eq_true] at h2
     exact List.all_eq_true.mp h2.1 c hc
  refine ⟨_, (ac (az (i := 1) gA.nd rfl (Or.inl rfl) (yH K_CallReader (hr.mono (by decide)) ay (aa (pv 0) ad)))
   (ac (az (i := 2) gA.nd rfl (Or.inl rfl) yK)
   (ac (az (i := 3) gA.nd rfl (Or.inl rfl) (aN ad))
   (ac (jr PassesOwn.never (cN (lY M_CallReader_has_more c_CallReader.cl (hr.mono (by decide)) ay (pv 1))) (ac (az (i := 4) gA.nd rfl (Or.inl rfl) (aI C_answer_one_call (hr.mono (by decide)) ay (aa (pv 1) (aa (pv 2) ad))))
   (ac (d7 (qc PySem.F.plainAttrs_list PySem.F.slot_list_append PySem.F.type_list_append qh (pv 3) (aa (aO aV rfl T.n_len (by decide +kernel) (aa (pv 4) ad)) ad)))
   (ah (d7 (qc PySem.F.plainAttrs_list PySem.F.slot_list_extend PySem.F.type_list_extend qf (pv 3) (aa (pv 4) ad)))))))
   (ah (aq (pv 3))))))), ?_⟩
  refine ⟨_, rfl, fun rd dx n1 n2 ne => ⟨rd, dx, a, l, rfl, ae, ?_, fun H1 r0 k0 => ⟨rfl, ?_⟩⟩⟩
  ·exact ((ax.new n2).trans (ax.new (by rw [ak (Ne.symm ne)]; exact n1))).seq hs
  ·have s1 : ax H H1 := fun b o e => k0 b o (by rw [ak (au e n1), ak (au e n2)]; exact e) (au e n1)
   refine fun bd nb => ⟨Nat.zero_le _, fun td nt => ?_⟩
   have sb := ax.new (o := .dK []) nb
   have st := ax.new (o := .lst []) nt
   have Hrd : H rd = none := n1
   have Hbd : H bd = none := s1.free nb
   have Htd : H td = none := (s1.trans sb).free nt
   refine ⟨zL K CC H a rd dx bd td l (PyVbbraa.answers l), ⟨cs.length, 0, VbbraaNeutral.start, 0, [], [], none, l.length, cs, rfl, (r0.same sb).same st, ⟨st _ _ ae, Nat.le_refl _, fun b => trivial, ⟨[], ae⟩, fun b p e => (by cases e)⟩, ae, (s1.trans sb).trans st, ecs, rfl, by omega, Nat.zero_le _, each, eans.symm⟩, ?_⟩
   rintro m σ' H' ⟨p, s, n, kvs, T0, v, fuel, cs1, rfl, r, ba, etd, sm, ecs1, rfl, hn, lT, each1, eR⟩
   refine ⟨_, rfl, rd, dx, _, rfl, r.ins, pq _ _ (by decide +kernel) (by decide +kernel), rd, dx, a, l, p, rfl, r, _, rfl, bq (fun h1 => ?_) (fun h1 => ?_)⟩
   ·have hp := of_decide_eq_true h1
    obtain ⟨fuel', c, t, cs2, rfl, ecall, ecs2, rfl⟩ := mS ecs1 (fun z => by
     have := congrArg List.length z
     rw [List.length_drop, List.length_nil] at this
     omega)
    rw [List.length_cons] at hn
    refine ⟨zL K CC H a rd dx bd td l (PyVbbraa.answers l) cs2.length, fun σ2 H2 h => ⟨_, by rw [List.length_cons]; omega, h⟩, ?_⟩
    refine ⟨_, rfl, _, rfl, rd, dx, a, bd, td, l, t, p, s, n, kvs, c, rfl, r, ba, by omega, ecall, t7 ecall (each1 c List.mem_cons_self), fun H2 q p2 kvs2 r2 ep2 ba2 kb nq eq => ?_⟩
    have lans : (Vbbraa.stepRows s c).2.length <= 450 := z4 ba.goodS c
    have ntr : td ≠ rd := eW etd r.ins (by intro z; cases z)
    have ntb : td ≠ bd := eW etd ba.dict (by intro z; cases z)
    have etd2 : H2 td = some (.lst (il T0)) := kb _ _ etd ntr ntb
    have nqt : q ≠ td := Ne.symm (au etd nq)
    refine ⟨_, rfl, .inl ⟨rfl, _, .inl (.inl etd2)⟩, _, rfl, q, _, rfl, .inl (.inl (.inl eq)), td, _, _, rfl, rfl, etd2, ?_, ?_⟩
    ·rw [eh]
     have := sizeLine_eq
     omega
    ·refine ⟨_, rfl, .inl ⟨rfl, _, .inl (.inl ae)⟩, _, rfl, td, q, _, _, rfl, rfl, ae, by rw [ak nqt]; exact eq, ?_, ?_⟩
     ·rw [List.length_append, eh, eh]
      have := sizeLine_eq
      show T0.length + 1 + _ <= sizeLine
      omega
     ·rw [bv]
      have ev : (il T0 ++ [V.int ((il (Vbbraa.stepRows s c).2).length : Nat)]) ++ il (Vbbraa.stepRows s c).2 = il (T0 ++ ((((Vbbraa.stepRows s c).2.length : Nat) : Int) :: (Vbbraa.stepRows s c).2)) := by
       rw [eh]
       unfold il
       rw [List.map_append, List.map_cons, List.append_assoc]
       rfl
      rw [ev]
      have s3 : ax H (aU H2 td (.lst (il (T0 ++ ((((Vbbraa.stepRows s c).2.length : Nat) : Int) :: (Vbbraa.stepRows s c).2))))) := fun b o e => by
       rw [ak (au e Htd)]
       exact kb _ _ (sm _ _ e) (au e Hrd) (au e Hbd)
      refine ⟨p2, (Vbbraa.stepRows s c).1, n + 1, kvs2, _, _, fuel', cs2, rfl, ⟨?_, s3.seq hs, r2.le⟩, ba2.told _, ae, s3, ?_, rfl, by omega, ?_, fun c' hc => each1 c' (List.mem_cons_of_mem _ hc), ?_⟩
      ·rw [ak (Ne.symm ntr)]
       exact r2.ins
      ·rw [ep2]
       exact ecs2
      ·rw [List.length_append, List.length_cons]
       omega
      ·rw [<- eR, List.append_assoc]
       rfl
   ·have hp : ¬ p < l.length := fun z => h1 (decide_eq_true z)
    rw [List.drop_eq_nil_of_le (by omega)] at ecs1
    have := xQ ecs1
    subst this
    have eR2 : T0 = PyVbbraa.answers l := by
     rw [<- eR]
     exact (List.append_nil _).symm
    rw [eR2] at etd
    exact ⟨_, rfl, k H' td sm Htd etd⟩
end
end Db
end
section
namespace Db
open PySem PySem.Spec PyProof.Rows L2
open Vbbraa (Deal countOf room words fits unknown isWhole within State boardOf setBoard)
theorem be (x : List Int) (hi : Nat) (bC : Int) : bR x 0 hi bC = (decide (x.length <= hi) && x.all fun z => within z 0 bC) := by
 unfold bR
 rw [decide_eq_true (show (0 : Int) <= (x.length : Int) by omega), Bool.true_and]
 congr 1
 by_cases h : x.length <= hi
 ·rw [decide_eq_true h, decide_eq_true (by omega)]
 ·rw [decide_eq_false h, decide_eq_false (by omega)]
theorem iD (l : List Int) : (Vbbraa.nats l).length = l.length := by
 unfold Vbbraa.nats
 rw [List.length_map]
theorem lj {l : List Int} {bC : Int} {m : Nat} (e : bC < m) (h : (l.all fun z => within z 0 bC) = true) : ∀ x ∈ Vbbraa.nats l, x < m := fun x hx => by
 unfold Vbbraa.nats at hx
 obtain ⟨z, hz, rfl⟩ := List.mem_map.mp hx
 have := List.all_eq_true.mp h z hz
 unfold Vbbraa.within at this
 rw [Bool.and_eq_true] at this
 have h1 := of_decide_eq_true this.1
 have h2 := of_decide_eq_true this.2
 omega
theorem dv {x bC : Int} {m : Nat} (e : bC <= m) (h : within x 0 bC = true) : x.toNat <= m := by
 unfold Vbbraa.within at h
 rw [Bool.and_eq_true] at h
 have h1 := of_decide_eq_true h.1
 have h2 := of_decide_eq_true h.2
 omega
def wr : Form := ⟨false, [15], [(0, 200, 255)], zx⟩
def tR : Form := ⟨true, [15], [], wO⟩
def tU : Form := ⟨true, [15], [], wQ⟩
def qt : Form := ⟨true, [15], [], ua⟩
def wx : Form := ⟨false, [15], [(0, 40, 9)], zD⟩
def zf : Form := ⟨true, [15, 15], [(0, 40, 9)], A2⟩
def tS : Form := ⟨true, [15, 15], [], wP⟩
def pd : Form := ⟨false, [15, 1000000000], [(0, 40, 9)], qJ⟩
def qr : Form := ⟨true, [15, 3], [], t9⟩
def tQ : Form := ⟨true, [15], [(4, 4, 3)], wN⟩
theorem a0 {b : Bool} {c : Vbbraa.Call} (h : b = false) : Vbbraa.ranged b c = none := by rw [h]; rfl
theorem aW {b : Bool} {c : Vbbraa.Call} (h : b = true) : Vbbraa.ranged b c = some c := by rw [h]; rfl
theorem Ag : bV 0 wr where
 shape := by decide
 some_ := by decide
 few := by decide
 out := fun ps rs h1 h2 h => by
  obtain ⟨b, rfl⟩ := dj h1
  obtain ⟨t, rfl⟩ := dj h2
  have h : ((within b 0 15 && true) && (bR t 0 (200 : Nat) 255 && true)) = false := h
  rw [be, Bool.and_true, Bool.and_true] at h
  exact a0 h
 ins := fun ps rs h1 h2 h => by
  obtain ⟨b, rfl⟩ := dj h1
  obtain ⟨t, rfl⟩ := dj h2
  have h : ((within b 0 15 && true) && (bR t 0 (200 : Nat) 255 && true)) = true := h
  rw [be, Bool.and_true, Bool.and_true] at h
  refine ⟨_, aW h, ⟨b.toNat, Vbbraa.nats t, rfl, rfl, ?_, rfl⟩, fun z => by cases z⟩
  rw [Bool.and_eq_true, Bool.and_eq_true] at h
  rw [iD]
  exact of_decide_eq_true h.2.1
theorem yP : bV 1 tR where
 shape := by decide
 some_ := by decide
 few := by decide
 out := fun ps rs h1 h2 h => by
  obtain ⟨b, rfl⟩ := dj h1
  obtain rfl := eg h2
  have h : ((within b 0 15 && true) && true) = false := h
  rw [Bool.and_true, Bool.and_true] at h
  exact a0 h
 ins := fun ps rs h1 h2 h => by
  obtain ⟨b, rfl⟩ := dj h1
  obtain rfl := eg h2
  have h : ((within b 0 15 && true) && true) = true := h
  rw [Bool.and_true, Bool.and_true] at h
  exact ⟨_, aW h, ⟨b.toNat, rfl, rfl, rfl⟩, fun _ s e => cg e _⟩
theorem yR : bV 2 tU where
 shape := by decide
 some_ := by decide
 few := by decide
 out := fun ps rs h1 h2 h => by
  obtain ⟨b, rfl⟩ := dj h1
  obtain rfl := eg h2
  have h : ((within b 0 15 && true) && true) = false := h
  rw [Bool.and_true, Bool.and_true] at h
  exact a0 h
 ins := fun ps rs h1 h2 h => by
  obtain ⟨b, rfl⟩ := dj h1
  obtain rfl := eg h2
  have h : ((within b 0 15 && true) && true) = true := h
  rw [Bool.and_true, Bool.and_true] at h
  exact ⟨_, aW h, ⟨b.toNat, rfl, rfl, rfl⟩, fun _ s e => cg e _⟩
theorem xj : bV 3 qt where
 shape := by decide
 some_ := by decide
 few := by decide
 out := fun ps rs h1 h2 h => by
  obtain ⟨b, rfl⟩ := dj h1
  obtain rfl := eg h2
  have h : ((within b 0 15 && true) && true) = false := h
  rw [Bool.and_true, Bool.and_true] at h
  exact a0 h
 ins := fun ps rs h1 h2 h => by
  obtain ⟨b, rfl⟩ := dj h1
  obtain rfl := eg h2
  have h : ((within b 0 15 && true) && true) = true := h
  rw [Bool.and_true, Bool.and_true] at h
  exact ⟨_, aW h, ⟨b.toNat, rfl, rfl, rfl⟩, fun _ s e => cg e _⟩
theorem Ai : bV 4 wx where
 shape := by decide
 some_ := by decide
 few := by decide
 out := fun ps rs h1 h2 h => by
  obtain ⟨b, rfl⟩ := dj h1
  obtain ⟨t, rfl⟩ := dj h2
  have h : ((within b 0 15 && true) && (bR t 0 (40 : Nat) 9 && true)) = false := h
  rw [be, Bool.and_true, Bool.and_true] at h
  exact a0 h
 ins := fun ps rs h1 h2 h => by
  obtain ⟨b, rfl⟩ := dj h1
  obtain ⟨t, rfl⟩ := dj h2
  have h : ((within b 0 15 && true) && (bR t 0 (40 : Nat) 9 && true)) = true := h
  rw [be, Bool.and_true, Bool.and_true] at h
  have h' := h
  rw [Bool.and_eq_true, Bool.and_eq_true] at h'
  exact ⟨_, aW h, ⟨b.toNat, Vbbraa.nats t, rfl, rfl, by rw [iD]; exact of_decide_eq_true h'.2.1, lj (m := 10) (by decide) h'.2.2, rfl⟩, fun z => by cases z⟩
theorem Br : bV 5 zf where
 shape := by decide
 some_ := by decide
 few := by decide
 out := fun ps rs h1 h2 h => by
  obtain ⟨b, c, rfl⟩ := j0 h1
  obtain ⟨t, rfl⟩ := dj h2
  have h : ((within b 0 15 && (within c 0 15 && true)) && (bR t 0 (40 : Nat) 9 && true)) = false := h
  rw [be, Bool.and_true, Bool.and_true, Bool.and_assoc] at h
  exact a0 h
 ins := fun ps rs h1 h2 h => by
  obtain ⟨b, c, rfl⟩ := j0 h1
  obtain ⟨t, rfl⟩ := dj h2
  have h : ((within b 0 15 && (within c 0 15 && true)) && (bR t 0 (40 : Nat) 9 && true)) = true := h
  rw [be, Bool.and_true, Bool.and_true, Bool.and_assoc] at h
  have h' := h
  rw [Bool.and_eq_true, Bool.and_eq_true, Bool.and_eq_true] at h'
  exact ⟨_, aW h, ⟨b.toNat, c.toNat, Vbbraa.nats t, rfl, rfl, by rw [iD]; exact of_decide_eq_true h'.2.2.1, lj (m := 10) (by decide) h'.2.2.2, rfl⟩, fun _ s e => cg e _⟩
theorem yQ : bV 6 tS where
 shape := by decide
 some_ := by decide
 few := by decide
 out := fun ps rs h1 h2 h => by
  obtain ⟨b, c, rfl⟩ := j0 h1
  obtain rfl := eg h2
  have h : ((within b 0 15 && (within c 0 15 && true)) && true) = false := h
  rw [Bool.and_true, Bool.and_true] at h
  exact a0 h
 ins := fun ps rs h1 h2 h => by
  obtain ⟨b, c, rfl⟩ := j0 h1
  obtain rfl := eg h2
  have h : ((within b 0 15 && (within c 0 15 && true)) && true) = true := h
  rw [Bool.and_true, Bool.and_true] at h
  exact ⟨_, aW h, ⟨b.toNat, c.toNat, rfl, rfl, rfl⟩, fun _ s e => cg e _⟩
theorem uO : bV 7 pd where
 shape := by decide
 some_ := by decide
 few := by decide
 out := fun ps rs h1 h2 h => by
  obtain ⟨b, c, rfl⟩ := j0 h1
  obtain ⟨t, rfl⟩ := dj h2
  have h : ((within b 0 15 && (within c 0 1000000000 && true)) && (bR t 0 (40 : Nat) 9 && true)) = false := h
  rw [be, Bool.and_true, Bool.and_true, Bool.and_assoc] at h
  exact a0 h
 ins := fun ps rs h1 h2 h => by
  obtain ⟨b, c, rfl⟩ := j0 h1
  obtain ⟨t, rfl⟩ := dj h2
  have h : ((within b 0 15 && (within c 0 1000000000 && true)) && (bR t 0 (40 : Nat) 9 && true)) = true := h
  rw [be, Bool.and_true, Bool.and_true, Bool.and_assoc] at h
  have h' := h
  rw [Bool.and_eq_true, Bool.and_eq_true, Bool.and_eq_true] at h'
  exact ⟨_, aW h, ⟨b.toNat, c.toNat, Vbbraa.nats t, rfl, rfl, by rw [iD]; exact of_decide_eq_true h'.2.2.1, lj (m := 10) (by decide) h'.2.2.2, dv (by decide) h'.2.1, rfl⟩, fun z => by cases z⟩
theorem xh : bV 8 qr where
 shape := by decide
 some_ := by decide
 few := by decide
 out := fun ps rs h1 h2 h => by
  obtain ⟨b, c, rfl⟩ := j0 h1
  obtain rfl := eg h2
  have h : ((within b 0 15 && (within c 0 3 && true)) && true) = false := h
  rw [Bool.and_true, Bool.and_true] at h
  exact a0 h
 ins := fun ps rs h1 h2 h => by
  obtain ⟨b, c, rfl⟩ := j0 h1
  obtain rfl := eg h2
  have h : ((within b 0 15 && (within c 0 3 && true)) && true) = true := h
  rw [Bool.and_true, Bool.and_true] at h
  have h' := h
  rw [Bool.and_eq_true] at h'
  exact ⟨_, aW h, ⟨b.toNat, c.toNat, rfl, rfl, dv (by decide) h'.2, rfl⟩, fun _ s e => cg e _⟩
theorem or (x : List Int) (n : Nat) (bC : Int) : bR x n n bC = (decide (x.length = n) && x.all fun z => within z 0 bC) := by
 unfold bR
 rw [<- Bool.and_assoc]
 congr 1
 by_cases h : x.length = n
 ·rw [decide_eq_true h, decide_eq_true (by omega), decide_eq_true (by omega)]
  rfl
 ·rw [decide_eq_false h]
  by_cases z : (n : Int) <= (x.length : Int)
  ·rw [decide_eq_true z, decide_eq_false (by omega)]
   rfl
  ·rw [decide_eq_false z]
   rfl
theorem yO : bV 9 tQ where
 shape := by decide
 some_ := by decide
 few := by decide
 out := fun ps rs h1 h2 h => by
  obtain ⟨b, rfl⟩ := dj h1
  obtain ⟨t, rfl⟩ := dj h2
  have h : ((within b 0 15 && true) && (bR t (4 : Nat) (4 : Nat) 3 && true)) = false := h
  rw [or, Bool.and_true, Bool.and_true] at h
  exact a0 h
 ins := fun ps rs h1 h2 h => by
  obtain ⟨b, rfl⟩ := dj h1
  obtain ⟨t, rfl⟩ := dj h2
  have h : ((within b 0 15 && true) && (bR t (4 : Nat) (4 : Nat) 3 && true)) = true := h
  rw [or, Bool.and_true, Bool.and_true] at h
  have h' := h
  rw [Bool.and_eq_true, Bool.and_eq_true] at h'
  exact ⟨_, aW h, ⟨b.toNat, Vbbraa.nats t, rfl, rfl, by rw [iD]; exact of_decide_eq_true h'.2.1, fun x hx => Nat.le_of_lt_succ (lj (m := 4) (by decide) h'.2.2 x hx), rfl⟩, fun _ s e => cg e _⟩
end Db
end
section
namespace Db
open PySem PySem.Spec PyProof.Rows L2
open Vbbraa (Deal countOf room words fits unknown isWhole within State boardOf setBoard)
theorem nQ {s : State} {b : Nat} (h : boardOf s b = none) (k : Deal -> State × List Int) : Vbbraa.onWhole s b k = (s, [-2]) := cg h _
def zC (ps : List Nat) (rs : List (List Nat)) (c0 : Vbbraa.Call) : Prop := ∃ b c, ps = [b, c] /\ rs = [] /\ c <= 3 /\ c0 = .hand b c
def ww : Form := ⟨true, [15, 3], [], zC⟩
theorem xt : bV 10 ww where
 shape := by decide
 some_ := by decide
 few := by decide
 out := fun ps rs h1 h2 h => by
  obtain ⟨b, c, rfl⟩ := j0 h1
  obtain rfl := eg h2
  have h : ((within b 0 15 && (within c 0 3 && true)) && true) = false := h
  rw [Bool.and_true, Bool.and_true] at h
  exact a0 h
 ins := fun ps rs h1 h2 h => by
  obtain ⟨b, c, rfl⟩ := j0 h1
  obtain rfl := eg h2
  have h : ((within b 0 15 && (within c 0 3 && true)) && true) = true := h
  rw [Bool.and_true, Bool.and_true] at h
  have h' := h
  rw [Bool.and_eq_true] at h'
  exact ⟨_, aW h, ⟨b.toNat, c.toNat, rfl, rfl, dv (by decide) h'.2, rfl⟩, fun _ s e => cg e _⟩
def pz (ps : List Nat) (rs : List (List Nat)) (c0 : Vbbraa.Call) : Prop := ∃ b c, ps = [b, c] /\ rs = [] /\ c <= 3 /\ c0 = .features b c
def mL : Form := ⟨true, [15, 3], [], pz⟩
theorem pJ : bV 11 mL where
 shape := by decide
 some_ := by decide
 few := by decide
 out := fun ps rs h1 h2 h => by
  obtain ⟨b, c, rfl⟩ := j0 h1
  obtain rfl := eg h2
  have h : ((within b 0 15 && (within c 0 3 && true)) && true) = false := h
  rw [Bool.and_true, Bool.and_true] at h
  exact a0 h
 ins := fun ps rs h1 h2 h => by
  obtain ⟨b, c, rfl⟩ := j0 h1
  obtain rfl := eg h2
  have h : ((within b 0 15 && (within c 0 3 && true)) && true) = true := h
  rw [Bool.and_true, Bool.and_true] at h
  have h' := h
  rw [Bool.and_eq_true] at h'
  exact ⟨_, aW h, ⟨b.toNat, c.toNat, rfl, rfl, dv (by decide) h'.2, rfl⟩, fun _ s e => cg e _⟩
def zB (ps : List Nat) (rs : List (List Nat)) (c0 : Vbbraa.Call) : Prop := ∃ b c d, ps = [b, c, d] /\ rs = [] /\ c <= 51 /\ d <= 3 /\ c0 = .know b c d
def wv : Form := ⟨true, [15, 51, 3], [], zB⟩
theorem xr : bV 13 wv where
 shape := by decide
 some_ := by decide
 few := by decide
 out := fun ps rs h1 h2 h => by
  obtain ⟨b, c, d, rfl⟩ := u4 h1
  obtain rfl := eg h2
  have h : ((within b 0 15 && (within c 0 51 && (within d 0 3 && true))) && true) = false := h
  rw [Bool.and_true, Bool.and_true] at h
  exact a0 h
 ins := fun ps rs h1 h2 h => by
  obtain ⟨b, c, d, rfl⟩ := u4 h1
  obtain rfl := eg h2
  have h : ((within b 0 15 && (within c 0 51 && (within d 0 3 && true))) && true) = true := h
  rw [Bool.and_true, Bool.and_true] at h
  have h' := h
  rw [Bool.and_eq_true, Bool.and_eq_true] at h'
  exact ⟨_, aW h, ⟨b.toNat, c.toNat, d.toNat, rfl, rfl, dv (by decide) h'.2.1, dv (by decide) h'.2.2, rfl⟩, fun _ s e => cg e _⟩
def ub (ps : List Nat) (rs : List (List Nat)) (c0 : Vbbraa.Call) : Prop := ∃ b c, ps = [b, c] /\ rs = [] /\ c <= 51 /\ c0 = .forget b c
def qu : Form := ⟨true, [15, 51], [], ub⟩
theorem tq : bV 14 qu where
 shape := by decide
 some_ := by decide
 few := by decide
 out := fun ps rs h1 h2 h => by
  obtain ⟨b, c, rfl⟩ := j0 h1
  obtain rfl := eg h2
  have h : ((within b 0 15 && (within c 0 51 && true)) && true) = false := h
  rw [Bool.and_true, Bool.and_true] at h
  exact a0 h
 ins := fun ps rs h1 h2 h => by
  obtain ⟨b, c, rfl⟩ := j0 h1
  obtain rfl := eg h2
  have h : ((within b 0 15 && (within c 0 51 && true)) && true) = true := h
  rw [Bool.and_true, Bool.and_true] at h
  have h' := h
  rw [Bool.and_eq_true] at h'
  exact ⟨_, aW h, ⟨b.toNat, c.toNat, rfl, rfl, dv (by decide) h'.2, rfl⟩, fun _ s e => cg e _⟩
def zA (ps : List Nat) (rs : List (List Nat)) (c0 : Vbbraa.Call) : Prop := ∃ b c d, ps = [b, c, d] /\ rs = [] /\ c0 = .meet b c d
def wu : Form := ⟨true, [15, 15, 15], [], zA⟩
theorem xq : bV 15 wu where
 shape := by decide
 some_ := by decide
 few := by decide
 out := fun ps rs h1 h2 h => by
  obtain ⟨b, c, d, rfl⟩ := u4 h1
  obtain rfl := eg h2
  have h : ((within b 0 15 && (within c 0 15 && (within d 0 15 && true))) && true) = false := h
  rw [Bool.and_true, Bool.and_true] at h
  exact a0 h
 ins := fun ps rs h1 h2 h => by
  obtain ⟨b, c, d, rfl⟩ := u4 h1
  obtain rfl := eg h2
  have h : ((within b 0 15 && (within c 0 15 && (within d 0 15 && true))) && true) = true := h
  rw [Bool.and_true, Bool.and_true] at h
  have h' := h
  rw [Bool.and_eq_true, Bool.and_eq_true] at h'
  exact ⟨_, aW h, ⟨b.toNat, c.toNat, d.toNat, rfl, rfl, rfl⟩, fun _ s e => cg e _⟩
def wR (ps : List Nat) (rs : List (List Nat)) (c0 : Vbbraa.Call) : Prop := ∃ b, ps = [b] /\ rs = [] /\ c0 = .clear b
def tV : Form := ⟨false, [15], [], wR⟩
theorem uR : bV 16 tV where
 shape := by decide
 some_ := by decide
 few := by decide
 out := fun ps rs h1 h2 h => by
  obtain ⟨b, rfl⟩ := dj h1
  obtain rfl := eg h2
  have h : ((within b 0 15 && true) && true) = false := h
  rw [Bool.and_true, Bool.and_true] at h
  exact a0 h
 ins := fun ps rs h1 h2 h => by
  obtain ⟨b, rfl⟩ := dj h1
  obtain rfl := eg h2
  have h : ((within b 0 15 && true) && true) = true := h
  rw [Bool.and_true, Bool.and_true] at h
  have h' := h
  exact ⟨_, aW h, ⟨b.toNat, rfl, rfl, rfl⟩, fun z => by cases z⟩
def uc (ps : List Nat) (rs : List (List Nat)) (c0 : Vbbraa.Call) : Prop := ∃ b c d, ps = [b, c, d] /\ rs = [] /\ c <= 51 /\ d <= 3 /\ c0 = .chance b c d
def qv : Form := ⟨true, [15, 51, 3], [], uc⟩
theorem tu : bV 17 qv where
 shape := by decide
 some_ := by decide
 few := by decide
 out := fun ps rs h1 h2 h => by
  obtain ⟨b, c, d, rfl⟩ := u4 h1
  obtain rfl := eg h2
  have h : ((within b 0 15 && (within c 0 51 && (within d 0 3 && true))) && true) = false := h
  rw [Bool.and_true, Bool.and_true] at h
  exact a0 h
 ins := fun ps rs h1 h2 h => by
  obtain ⟨b, c, d, rfl⟩ := u4 h1
  obtain rfl := eg h2
  have h : ((within b 0 15 && (within c 0 51 && (within d 0 3 && true))) && true) = true := h
  rw [Bool.and_true, Bool.and_true] at h
  have h' := h
  rw [Bool.and_eq_true, Bool.and_eq_true] at h'
  exact ⟨_, aW h, ⟨b.toNat, c.toNat, d.toNat, rfl, rfl, dv (by decide) h'.2.1, dv (by decide) h'.2.2, rfl⟩, fun _ s e => cg e _⟩
def zy (ps : List Nat) (rs : List (List Nat)) (c0 : Vbbraa.Call) : Prop := ∃ b, ps = [b] /\ rs = [] /\ c0 = .next b
def wt : Form := ⟨true, [15], [], zy⟩
theorem xp : bV 18 wt where
 shape := by decide
 some_ := by decide
 few := by decide
 out := fun ps rs h1 h2 h => by
  obtain ⟨b, rfl⟩ := dj h1
  obtain rfl := eg h2
  have h : ((within b 0 15 && true) && true) = false := h
  rw [Bool.and_true, Bool.and_true] at h
  exact a0 h
 ins := fun ps rs h1 h2 h => by
  obtain ⟨b, rfl⟩ := dj h1
  obtain rfl := eg h2
  have h : ((within b 0 15 && true) && true) = true := h
  rw [Bool.and_true, Bool.and_true] at h
  have h' := h
  exact ⟨_, aW h, ⟨b.toNat, rfl, rfl, rfl⟩, fun _ s e => nQ e _⟩
def zw (ps : List Nat) (rs : List (List Nat)) (c0 : Vbbraa.Call) : Prop := ∃ b, ps = [b] /\ rs = [] /\ c0 = .sure b
def wq : Form := ⟨true, [15], [], zw⟩
theorem xm : bV 19 wq where
 shape := by decide
 some_ := by decide
 few := by decide
 out := fun ps rs h1 h2 h => by
  obtain ⟨b, rfl⟩ := dj h1
  obtain rfl := eg h2
  have h : ((within b 0 15 && true) && true) = false := h
  rw [Bool.and_true, Bool.and_true] at h
  exact a0 h
 ins := fun ps rs h1 h2 h => by
  obtain ⟨b, rfl⟩ := dj h1
  obtain rfl := eg h2
  have h : ((within b 0 15 && true) && true) = true := h
  rw [Bool.and_true, Bool.and_true] at h
  have h' := h
  exact ⟨_, aW h, ⟨b.toNat, rfl, rfl, rfl⟩, fun _ s e => cg e _⟩
def qK (ps : List Nat) (rs : List (List Nat)) (c0 : Vbbraa.Call) : Prop := ∃ b n e so w, ps = [b] /\ rs = [n, e, so, w] /\ (∀ r ∈ rs, r.length <= 52 /\ ∀ x ∈ r, x < 52) /\ c0 = .curtain b n e so w
def pf : Form := ⟨true, [15], [(0, 52, 51), (0, 52, 51), (0, 52, 51), (0, 52, 51)], qK⟩
theorem lF {x : List Int} (h : Vbbraa.isCards x = true) : (Vbbraa.nats x).length <= 52 /\ ∀ z ∈ Vbbraa.nats x, z < 52 := by
 have h : (decide (x.length <= 52) && x.all fun z => within z 0 51) = true := h
 rw [Bool.and_eq_true] at h
 exact ⟨by rw [iD]; exact of_decide_eq_true h.1, lj (m := 52) (by decide) h.2⟩
theorem rD : bV 12 pf where
 shape := by decide
 some_ := by decide
 few := by decide
 out := fun ps rs h1 h2 h => by
  obtain ⟨b, rfl⟩ := dj h1
  obtain ⟨n, e, so, w, rfl⟩ := yW h2
  have h : ((within b 0 15 && true) && (bR n 0 (52 : Nat) 51 && (bR e 0 (52 : Nat) 51 && (bR so 0 (52 : Nat) 51 && (bR w 0 (52 : Nat) 51 && true))))) = false := h
  rw [be, be, be, be, Bool.and_true, Bool.and_true] at h
  exact a0 h
 ins := fun ps rs h1 h2 h => by
  obtain ⟨b, rfl⟩ := dj h1
  obtain ⟨n, e, so, w, rfl⟩ := yW h2
  have h : ((within b 0 15 && true) && (bR n 0 (52 : Nat) 51 && (bR e 0 (52 : Nat) 51 && (bR so 0 (52 : Nat) 51 && (bR w 0 (52 : Nat) 51 && true))))) = true := h
  rw [be, be, be, be, Bool.and_true, Bool.and_true] at h
  have h' : (Vbbraa.isBoard b && (Vbbraa.isCards n && (Vbbraa.isCards e && (Vbbraa.isCards so && Vbbraa.isCards w)))) = true := h
  rw [Bool.and_eq_true, Bool.and_eq_true, Bool.and_eq_true, Bool.and_eq_true] at h'
  refine ⟨_, aW h, ⟨b.toNat, _, _, _, _, rfl, rfl, fun r hr => ?_, rfl⟩, fun _ s e => nQ e _⟩
  simp only [List.map_cons, List.map_nil, List.mem_cons, List.not_mem_nil, or_false] at hr
  rcases hr with rfl | rfl | rfl | rfl
  ·exact lF h'.2.1
  ·exact lF h'.2.2.1
  ·exact lF h'.2.2.2.1
  ·exact lF h'.2.2.2.2
end Db
end
section
namespace Db
open PySem PySem.Spec PyProof.Rows L2
open Vbbraa (Deal countOf room words fits unknown isWhole within State boardOf setBoard)
theorem qB {d : Deal} (h : d.length = 52) (z : Nat) : (Vbbraa.cardsOf d z).length = countOf d z := by
 unfold Vbbraa.cardsOf Vbbraa.countOf
 have e : (d.filter fun x => x == z) = (((List.range 52).map fun c => d.getD c 4).filter fun x => x == z) := by rw [<- sO h]
 rw [e, List.filter_map, List.length_map]
 rfl
theorem yq {H : Hp} {bd td : Addr} {s : State} {n b : Nat} {d : Deal} {kvs : List (Key × V)} (h : BA H bd td s n kvs) (e : boardOf s b = some d) : BA H bd td (setBoard s b d) n kvs :=
 ⟨h.dict, h.len, fun c => by
  rw [mT]
  by_cases z : c = b
  ·rw [if_pos z, z, <- e]
   exact h.all b
  ·rw [if_neg z]
   exact h.all c, h.tdin, h.ne⟩
theorem vA (d : Deal) : Vbbraa.sure d = match gk d with | [s] => c9 d s | _ => d := rfl
theorem wZ {d : Deal} (h : (gk d).length ≠ 1) : Vbbraa.sure d = d := by
 rw [vA]
 match hl : gk d with
 | [] => rfl
 | [x] => rw [hl] at h; exact absurd rfl h
 | _ :: _ :: _ => rfl
theorem ye {d : Deal} (h : (gk d).length = 1) : ∃ z, z < 4 /\ gk d = [z] /\ Vbbraa.sure d = c9 d z := by
 rw [vA]
 match hl : gk d with
 | [] => rw [hl] at h; cases h
 | [x] =>
   refine ⟨x, ?_, rfl, rfl⟩
   have m : x ∈ gk d := by rw [hl]; exact List.mem_singleton.mpr rfl
   exact List.mem_range.mp (List.mem_filter.mp m).1
 | _ :: _ :: _ => rw [hl] at h; cases h
section
variable {P : Program} {w : World} {K : W.Frag} {mg : Str -> Option Value} {base : Heap} {CF CC NF fIF : Addr} {ta : Str -> Addr}
theorem oV {f : Addr} {fd : FuncData} (F : b7 K "answer_hand" "answer_hand" fF f fd) (T : Tx K mg CF ta) (C_cards_of : ck P w K mg base aT 1 "cards_of" ["deal", "seat"] (nF K)) : aP P w K mg base aT 2 f fd ["boards", "plain", "rows"] (df true zC) := by
 refine F.ok om (fun vs H Q E h => ?_) (fun cdv A outer s H vs Q E hr h => ?_)
 ·obtain ⟨_, _, _, _, _, _, _, _, _, _, _, rfl, _⟩ := h
  rfl
 ·obtain ⟨bd, td, pl, rw', s, n, kvs, ps, bs, rs, c, rfl, ba, n1000, hpl, hrw, hrows, ⟨b, z, rfl, rfl, hz, rfl⟩, hb, k⟩ := h
  obtain ⟨d, hd⟩ := bt (b := b) (hb rfl)
  obtain ⟨p, ep, hp, g⟩ := ba.get hd
  have k : ft H bd td n (Vbbraa.onBoard s b fun d => (s, 0 :: zz (Vbbraa.cardsOf d z))) Q := k
  rw [cR hd] at k
  refine ⟨_, (ah (aq (bc gJ (aN (aa (aC T.g_DONE) ad)) (aI C_cards_of (hr.mono (by decide)) ay (aa (bZ (bG hr) (pv 0) (aA am (pv 1) aj (fun _ _ => rfl)) (fun _ _ => rfl)) (aa (aA am (pv 1) aj (fun _ _ => rfl)) ad)))))), ?_⟩
  refine ⟨(by show 1 <= sizeLine; decide), fun l hl => ?_⟩
  have s1 := ax.new (o := .lst [.int 0]) hl
  refine ⟨_, rfl, _, rfl, pl, dl [b, z], 0, .int b, rfl, rfl, .inl (.inl (s1 _ _ hpl)), rfl, bd, .ref p, rfl, (ba.same s1 (Nat.le_refl _)).dget ep, _, rfl, pl, dl [b, z], 1, .int z, rfl, rfl, .inl (.inl (s1 _ _ hpl)), rfl, p, d, z, rfl, .inl (.inl (s1 _ _ hp)), g.len, fun H2 q1 ⟨s3, _, e3⟩ => ?_⟩
  refine ⟨l, q1, _, _, rfl, rfl, s3 _ _ ae, e3, ?_, fun q hq => k.new ba (s1.trans s3) hq rfl⟩
  rw [aG, qB g.len]
  exact eY (by have := g.most z (by omega); show 1 + _ <= _; omega)
theorem ko {f : Addr} {fd : FuncData} (F : b7 K "answer_features" "answer_features" cX f fd) (T : Tx K mg CF ta) (C_cards_of : ck P w K mg base aT 1 "cards_of" ["deal", "seat"] (nF K)) (C_room_of : ck P w K mg base aT 1 "room_of" ["deal", "seat"] (iL K)) (C_features_of : ck P w K mg base aT 2 "features_of" ["hand"] (yn K)) : aP P w K mg base aT 3 f fd ["boards", "plain", "rows"] (df true pz) := by
 refine F.ok gE (fun vs H Q E h => ?_) (fun cdv A outer s H vs Q E hr h => ?_)
 ·obtain ⟨_, _, _, _, _, _, _, _, _, _, _, rfl, _⟩ := h
  rfl
 ·obtain ⟨bd, td, pl, rw', s, n, kvs, ps, bs, rs, c, rfl, ba, n1000, hpl, hrw, hrows, ⟨b, z, rfl, rfl, hz, rfl⟩, hb, k⟩ := h
  obtain ⟨d, hd⟩ := bt (b := b) (hb rfl)
  obtain ⟨p, ep, hp, g⟩ := ba.get hd
  have k : ft H bd td n (Vbbraa.onBoard s b fun d => if (Vbbraa.cardsOf d z).length = 13 then (s, 0 :: zz (Vbbraa.points (Vbbraa.cardsOf d z) :: Vbbraa.controls (Vbbraa.cardsOf d z) :: Vbbraa.losers (Vbbraa.cardsOf d z) :: (Vbbraa.lengths (Vbbraa.cardsOf d z) ++ Vbbraa.shape (Vbbraa.cardsOf d z)))) else (s, [-3])) Q := k
  rw [cR hd] at k
  have cl := qB g.len z
  have cm := g.most z (by omega)
  refine ⟨_, (ac (az (i := 3) gE.nd rfl (Or.inl rfl) (bZ (bG hr) (pv 0) (aA am (pv 1) aj (fun _ _ => rfl)) (fun _ _ => rfl)))
   (ac (bf (aH qd (aI C_room_of (hr.mono (by decide)) ay (aa (pv 3) (aa (aA am (pv 1) aj (fun _ _ => rfl)) ad))) aj (aJ _)) (ah (aq (aN (aa (aC T.g_NOT_WHOLE) ad)))) aM)
   (ah (aq (bc gJ (aN (aa (aC T.g_DONE) ad)) (aI C_features_of (hr.mono (by decide)) ay (aa (aI C_cards_of (hr.mono (by decide)) ay (aa (pv 3) (aa (aA am (pv 1) aj (fun _ _ => rfl)) ad))) ad))))))), ?_⟩
  refine ⟨_, rfl, _, rfl, pl, dl [b, z], 0, .int b, rfl, rfl, .inl (.inl (hpl)), rfl, bd, .ref p, rfl, ba.dget ep, _, rfl, _, rfl, pl, dl [b, z], 1, .int z, rfl, rfl, .inl (.inl (hpl)), rfl, p, d, z, rfl, .inl (.inl hp), _, _, rfl, rfl, _, rfl, bq (fun h1 => ?_) (fun h1 => ?_)⟩
  ·have h2 := of_decide_eq_true h1
   rw [if_neg (by omega)] at k
   exact ⟨(by show 1 <= sizeLine; decide), fun q hq => k.new ba (fun _ _ e => e) hq rfl⟩
  ·have h2 := of_decide_eq_false (Bool.eq_false_iff.mpr h1)
   rw [if_pos (by omega)] at k
   refine ⟨(by show 1 <= sizeLine; decide), fun l hl => ?_⟩
   have s1 := ax.new (o := .lst [.int 0]) hl
   refine ⟨_, rfl, _, rfl, pl, dl [b, z], 1, .int z, rfl, rfl, .inl (.inl (s1 _ _ hpl)), rfl, p, d, z, rfl, .inl (.inl (s1 _ _ hp)), g.len, fun H2 q1 ⟨s3, _, e3⟩ => ⟨q1, Vbbraa.cardsOf d z, rfl, .inl (.inl e3), by omega, fun s => yz _ s, fun H3 q2 ⟨s4, _, e4⟩ => ?_⟩⟩
   refine ⟨l, q2, _, _, rfl, rfl, s4 _ _ (s3 _ _ ae), e4, ?_, fun q hq => k.new ba ((s1.trans s3).trans s4) hq rfl⟩
   have e11 : ∀ x y u : Nat, (x :: y :: u :: (Vbbraa.lengths (Vbbraa.cardsOf d z) ++ Vbbraa.shape (Vbbraa.cardsOf d z))).length = 11 := fun x y u => by
    rw [List.length_cons, List.length_cons, List.length_cons, List.length_append, pU]
    rfl
   rw [aG, e11]
   show 1 + 11 <= sizeLine
   decide
theorem oU {f : Addr} {fd : FuncData} (F : b7 K "answer_know" "answer_know" fE f fd) (T : Tx K mg CF ta) (C_room_of : ck P w K mg base aT 1 "room_of" ["deal", "seat"] (iL K)) (C_with_holder : ck P w K mg base aT 1 "with_holder" ["deal", "card", "holder"] (n8 K)) : aP P w K mg base aT 2 f fd ["boards", "plain", "rows"] (df true zB) := by
 refine F.ok jm (fun vs H Q E h => ?_) (fun cdv A outer s H vs Q E hr h => ?_)
 ·obtain ⟨_, _, _, _, _, _, _, _, _, _, _, rfl, _⟩ := h
  rfl
 ·obtain ⟨bd, td, pl, rw', s, n, kvs, ps, bs, rs, c, rfl, ba, n1000, hpl, hrw, hrows, ⟨b, c, z, rfl, rfl, hc, hz, rfl⟩, hb, k⟩ := h
  obtain ⟨d, hd⟩ := bt (b := b) (hb rfl)
  obtain ⟨p, ep, hp, g⟩ := ba.get hd
  have k : ft H bd td n (Vbbraa.onBoard s b fun d => if d.getD c 4 ≠ 4 then (s, [-5]) else if 13 <= countOf d z then (s, [-8]) else (setBoard s b (d.set c z), [0])) Q := k
  rw [cR hd] at k
  have cm := g.most z (by omega)
  have len := g.len
  refine ⟨_, (ac (az (i := 3) jm.nd rfl (Or.inl rfl) (bZ (bG hr) (pv 0) (aA am (pv 1) aj (fun _ _ => rfl)) (fun _ _ => rfl)))
   (ac (bf (aH j3 (aA am (pv 3) (aA am (pv 1) aj (fun _ _ => rfl)) (fun _ _ => rfl)) (aC T.g_NOBODY) (aJ _)) (ah (aq (aN (aa (aC T.g_AT_ODDS) ad)))) aM)
   (ac (bf (aH fh (aI C_room_of (hr.mono (by decide)) ay (aa (pv 3) (aa (aA am (pv 1) aj (fun _ _ => rfl)) ad))) aj (aJ _)) (ah (aq (aN (aa (aC T.g_NO_ROOM) ad)))) aM)
   (ac (d8 (bG hr) (pv 0) (aA am (pv 1) aj (fun _ _ => rfl)) (aI C_with_holder (hr.mono (by decide)) ay (aa (pv 3) (aa (aA am (pv 1) aj (fun _ _ => rfl)) (aa (aA am (pv 1) aj (fun _ _ => rfl)) ad)))) rfl)
   (ah (aq (aN (aa (aC T.g_DONE) ad)))))))), ?_⟩
  refine ⟨_, rfl, _, rfl, pl, dl [b, c, z], 0, .int b, rfl, rfl, .inl (.inl (hpl)), rfl, bd, .ref p, rfl, ba.dget ep, _, rfl, _, rfl, pl, dl [b, c, z], 1, .int c, rfl, rfl, .inl (.inl (hpl)), rfl, p, dl d, _, _, rfl, rfl, .inl (.inl hp), bn rfl (by omega) 4, rfl, _, rfl, bq (fun h1 => ?_) (fun h1 => ?_)⟩
  ·have h2 := hZ h1
   rw [if_pos (by omega)] at k
   exact ⟨(by show 1 <= sizeLine; decide), fun q hq => k.new ba (fun _ _ e => e) hq rfl⟩
  ·have h2 := h8 h1
   rw [if_neg (by omega)] at k
   refine ⟨_, rfl, _, rfl, pl, dl [b, c, z], 2, .int z, rfl, rfl, .inl (.inl (hpl)), rfl, p, d, z, rfl, .inl (.inl hp), rfl, _, rfl, bq (fun h3 => ?_) (fun h3 => ?_)⟩
   ·have h4 := f9 h3
    rw [if_pos (by omega)] at k
    exact ⟨(by show 1 <= sizeLine; decide), fun q hq => k.new ba (fun _ _ e => e) hq rfl⟩
   ·have h4 := gb h3
    rw [if_neg (by omega)] at k
    refine ⟨_, rfl, _, rfl, pl, dl [b, c, z], 1, .int c, rfl, rfl, .inl (.inl (hpl)), rfl, _, rfl, pl, dl [b, c, z], 2, .int z, rfl, rfl, .inl (.inl (hpl)), rfl, p, d, c, z, rfl, .inl (.inl hp), len, by omega, fun H1 p2 ⟨s1, n1, e1⟩ => ?_⟩
    exact ⟨_, rfl, _, rfl, pl, dl [b, c, z], 0, .int b, rfl, rfl, .inl (.inl (s1 _ _ hpl)), rfl, bd, _, rfl, (ba.same s1 (Nat.le_refl _)).dput n1000 b (.ref p2), ⟨(by show 1 <= sizeLine; decide), fun q hq => k.put ba s1 e1 (ba.new_ne (fun _ _ e => e) n1) (g.set (by omega) (by omega) fun _ => .inr (by omega)) hq rfl⟩⟩
theorem mh {f : Addr} {fd : FuncData} (F : b7 K "answer_forget" "answer_forget" d5 f fd) (T : Tx K mg CF ta) (C_with_holder : ck P w K mg base aT 1 "with_holder" ["deal", "card", "holder"] (n8 K)) : aP P w K mg base aT 2 f fd ["boards", "plain", "rows"] (df true ub) := by
 refine F.ok ij (fun vs H Q E h => ?_) (fun cdv A outer s H vs Q E hr h => ?_)
 ·obtain ⟨_, _, _, _, _, _, _, _, _, _, _, rfl, _⟩ := h
  rfl
 ·obtain ⟨bd, td, pl, rw', s, n, kvs, ps, bs, rs, c, rfl, ba, n1000, hpl, hrw, hrows, ⟨b, c, rfl, rfl, hc, rfl⟩, hb, k⟩ := h
  obtain ⟨d, hd⟩ := bt (b := b) (hb rfl)
  obtain ⟨p, ep, hp, g⟩ := ba.get hd
  have k : ft H bd td n (Vbbraa.onBoard s b fun d => if d.getD c 4 = 4 then (s, [-5]) else (setBoard s b (d.set c 4), [0])) Q := k
  rw [cR hd] at k
  have len := g.len
  refine ⟨_, (ac (az (i := 3) ij.nd rfl (Or.inl rfl) (bZ (bG hr) (pv 0) (aA am (pv 1) aj (fun _ _ => rfl)) (fun _ _ => rfl)))
   (ac (bf (aH fh (aA am (pv 3) (aA am (pv 1) aj (fun _ _ => rfl)) (fun _ _ => rfl)) (aC T.g_NOBODY) (aJ _)) (ah (aq (aN (aa (aC T.g_AT_ODDS) ad)))) aM)
   (ac (d8 (bG hr) (pv 0) (aA am (pv 1) aj (fun _ _ => rfl)) (aI C_with_holder (hr.mono (by decide)) ay (aa (pv 3) (aa (aA am (pv 1) aj (fun _ _ => rfl)) (aa (aC T.g_NOBODY) ad)))) rfl)
   (ah (aq (aN (aa (aC T.g_DONE) ad))))))), ?_⟩
  refine ⟨_, rfl, _, rfl, pl, dl [b, c], 0, .int b, rfl, rfl, .inl (.inl (hpl)), rfl, bd, .ref p, rfl, ba.dget ep, _, rfl, _, rfl, pl, dl [b, c], 1, .int c, rfl, rfl, .inl (.inl (hpl)), rfl, p, dl d, _, _, rfl, rfl, .inl (.inl hp), bn rfl (by omega) 4, rfl, _, rfl, bq (fun h1 => ?_) (fun h1 => ?_)⟩
  ·have h2 := f9 h1
   rw [if_pos (by omega)] at k
   exact ⟨(by show 1 <= sizeLine; decide), fun q hq => k.new ba (fun _ _ e => e) hq rfl⟩
  ·have h2 := gb h1
   rw [if_neg (by omega)] at k
   refine ⟨_, rfl, _, rfl, pl, dl [b, c], 1, .int c, rfl, rfl, .inl (.inl (hpl)), rfl, p, d, c, 4, rfl, .inl (.inl hp), len, by omega, fun H1 p2 ⟨s1, n1, e1⟩ => ?_⟩
   exact ⟨_, rfl, _, rfl, pl, dl [b, c], 0, .int b, rfl, rfl, .inl (.inl (s1 _ _ hpl)), rfl, bd, _, rfl, (ba.same s1 (Nat.le_refl _)).dput n1000 b (.ref p2), ⟨(by show 1 <= sizeLine; decide), fun q hq => k.put ba s1 e1 (ba.new_ne (fun _ _ e => e) n1) (g.set (by omega) (by omega) fun h => absurd h (by omega)) hq rfl⟩⟩
theorem oS {f : Addr} {fd : FuncData} (F : b7 K "answer_meet" "answer_meet" fD f fd) (T : Tx K mg CF ta) (C_joined : ck P w K mg base aT 3 "joined" ["deal", "other"] (yl K)) : aP P w K mg base aT 4 f fd ["boards", "plain", "rows"] (df true zA) := by
 refine F.ok jk (fun vs H Q E h => ?_) (fun cdv A outer s H vs Q E hr h => ?_)
 ·obtain ⟨_, _, _, _, _, _, _, _, _, _, _, rfl, _⟩ := h
  rfl
 ·obtain ⟨bd, td, pl, rw', s, n, kvs, ps, bs, rs, c, rfl, ba, n1000, hpl, hrw, hrows, ⟨b, x, y, rfl, rfl, rfl⟩, hb, k⟩ := h
  obtain ⟨d, hd⟩ := bt (b := b) (hb rfl)
  obtain ⟨p, ep, hp, g⟩ := ba.get hd
  have k : ft H bd td n (Vbbraa.onBoard s b fun d => Vbbraa.onBoard s x fun e => match Vbbraa.both d e with | none => (s, [-5]) | some m => (setBoard s y m, [0])) Q := k
  rw [cR hd] at k
  refine ⟨_, (ac (bf (uI (lZ (bG hr) (aA am (pv 1) aj (fun _ _ => rfl)) (pv 0))) (ah (aq (aN (aa (aC T.g_NO_BOARD) ad)))) aM)
   (ac (az (i := 3) jk.nd rfl (Or.inl rfl) (aI C_joined (hr.mono (by decide)) ay (aa (bZ (bG hr) (pv 0) (aA am (pv 1) aj (fun _ _ => rfl)) (fun _ _ => rfl)) (aa (bZ (bG hr) (pv 0) (aA am (pv 1) aj (fun _ _ => rfl)) (fun _ _ => rfl)) ad))))
   (ac (bf (aH rA (pv 3) hX (aJ _)) (ah (aq (aN (aa (aC T.g_AT_ODDS) ad)))) aM)
   (ac (d8 (bG hr) (pv 0) (aA am (pv 1) aj (fun _ _ => rfl)) (pv 3) rfl)
   (ah (aq (aN (aa (aC T.g_DONE) ad)))))))), ?_⟩
  refine ⟨_, rfl, pl, dl [b, x, y], 1, .int x, rfl, rfl, .inl (.inl (hpl)), rfl, _, rfl, bd, _, rfl, ba.dask x, _, rfl, bq (fun h1 => ?_) (fun h1 => ?_)⟩
  ·rw [ba.isSome] at h1
   have hx : boardOf s x = none := by simpa using h1
   rw [cg hx] at k
   exact ⟨(by show 1 <= sizeLine; decide), fun q hq => k.new ba (fun _ _ e => e) hq rfl⟩
  ·rw [ba.isSome] at h1
   obtain ⟨e, he⟩ := bt (s := s) (b := x) (fun z => h1 (by rw [z]; rfl))
   obtain ⟨p2, ep2, hp2, g2⟩ := ba.get he
   rw [cR he] at k
   refine ⟨_, rfl, _, rfl, pl, dl [b, x, y], 0, .int b, rfl, rfl, .inl (.inl (hpl)), rfl, bd, .ref p, rfl, ba.dget ep, _, rfl, _, rfl, pl, dl [b, x, y], 1, .int x, rfl, rfl, .inl (.inl (hpl)), rfl, bd, .ref p2, rfl, ba.dget ep2, p, p2, d, e, rfl, .inl (.inl hp), .inl (.inl hp2), g.len, g2.len, fun hn H1 s1 => ?_, fun m hm H1 p3 ⟨s1, n1, e1⟩ => ?_⟩
   ·rw [hn] at k
    exact ⟨_, rfl, rfl, _, rfl, j1 ⟨(by show 1 <= sizeLine; decide), fun q hq => k.new ba s1 hq rfl⟩⟩
   ·rw [hm] at k
    refine ⟨_, rfl, rfl, _, rfl, iE ⟨_, rfl, _, rfl, _, rfl, pl, dl [b, x, y], 2, .int y, rfl, rfl, .inl (.inl (s1 _ _ hpl)), rfl, bd, _, rfl, (ba.same s1 (Nat.le_refl _)).dput n1000 y (.ref p3), ⟨(by show 1 <= sizeLine; decide), fun q hq => k.put ba s1 e1 (ba.new_ne (fun _ _ e => e) n1) (xS g g2 hm) hq rfl⟩⟩⟩
theorem nv {f : Addr} {fd : FuncData} (F : b7 K "answer_clear" "answer_clear" eS f fd) (T : Tx K mg CF ta) (C_nothing_known : ck P w K mg base aT 1 "nothing_known" [] spNK) : aP P w K mg base aT 2 f fd ["boards", "plain", "rows"] (df false wR) := by
 refine F.ok m4 (fun vs H Q E h => ?_) (fun cdv A outer s H vs Q E hr h => ?_)
 ·obtain ⟨_, _, _, _, _, _, _, _, _, _, _, rfl, _⟩ := h
  rfl
 ·obtain ⟨bd, td, pl, rw', s, n, kvs, ps, bs, rs, c, rfl, ba, n1000, hpl, hrw, hrows, ⟨b, rfl, rfl, rfl⟩, hb, k⟩ := h
  have k : ft H bd td n (setBoard s b unknown, [0]) Q := k
  refine ⟨_, (ac (d8 (bG hr) (pv 0) (aA am (pv 1) aj (fun _ _ => rfl)) (fq C_nothing_known (hr.mono (by decide)) ay) rfl)
   (ah (aq (aN (aa (aC T.g_DONE) ad))))), ?_⟩
  refine ⟨rfl, fun H1 p ⟨s1, n1, e1⟩ => ?_⟩
  exact ⟨_, rfl, _, rfl, pl, dl [b], 0, .int b, rfl, rfl, .inl (.inl (s1 _ _ hpl)), rfl, bd, _, rfl, (ba.same s1 (Nat.le_refl _)).dput n1000 b (.ref p), ⟨(by show 1 <= sizeLine; decide), fun q hq => k.put ba s1 e1 (ba.new_ne (fun _ _ e => e) n1) aY hq rfl⟩⟩
theorem mi {f : Addr} {fd : FuncData} (F : b7 K "answer_chance" "answer_chance" d6 f fd) (T : Tx K mg CF ta) (C_chance_of : ck P w K mg base aT 2 "chance_of" ["deal", "card", "seat"] (sM K)) : aP P w K mg base aT 3 f fd ["boards", "plain", "rows"] (df true uc) := by
 refine F.ok lS (fun vs H Q E h => ?_) (fun cdv A outer s H vs Q E hr h => ?_)
 ·obtain ⟨_, _, _, _, _, _, _, _, _, _, _, rfl, _⟩ := h
  rfl
 ·obtain ⟨bd, td, pl, rw', s, n, kvs, ps, bs, rs, c, rfl, ba, n1000, hpl, hrw, hrows, ⟨b, c, z, rfl, rfl, hc, hz, rfl⟩, hb, k⟩ := h
  obtain ⟨d, hd⟩ := bt (b := b) (hb rfl)
  obtain ⟨p, ep, hp, g⟩ := ba.get hd
  have k : ft H bd td n (Vbbraa.onBoard s b fun d => (s, 0 :: zz [(Vbbraa.chance d c z).1, (Vbbraa.chance d c z).2])) Q := k
  rw [cR hd] at k
  refine ⟨_, (ah (aq (bc gJ (aN (aa (aC T.g_DONE) ad)) (aI C_chance_of (hr.mono (by decide)) ay (aa (bZ (bG hr) (pv 0) (aA am (pv 1) aj (fun _ _ => rfl)) (fun _ _ => rfl)) (aa (aA am (pv 1) aj (fun _ _ => rfl)) (aa (aA am (pv 1) aj (fun _ _ => rfl)) ad))))))), ?_⟩
  refine ⟨(by show 1 <= sizeLine; decide), fun l hl => ?_⟩
  have s1 := ax.new (o := .lst [.int 0]) hl
  refine ⟨_, rfl, _, rfl, pl, dl [b, c, z], 0, .int b, rfl, rfl, .inl (.inl (s1 _ _ hpl)), rfl, bd, .ref p, rfl, (ba.same s1 (Nat.le_refl _)).dget ep, _, rfl, pl, dl [b, c, z], 1, .int c, rfl, rfl, .inl (.inl (s1 _ _ hpl)), rfl, _, rfl, pl, dl [b, c, z], 2, .int z, rfl, rfl, .inl (.inl (s1 _ _ hpl)), rfl, p, d, c, z, rfl, .inl (.inl (s1 _ _ hp)), g, by omega, by omega, fun H2 q1 ⟨s3, _, e3⟩ => ?_⟩
  exact ⟨l, q1, _, _, rfl, rfl, s3 _ _ ae, e3, (by show 1 + 2 <= sizeLine; decide), fun q hq => k.new ba (s1.trans s3) hq rfl⟩
theorem oR {f : Addr} {fd : FuncData} (F : b7 K "answer_next" "answer_next" fC f fd) (T : Tx K mg CF ta) (C_is_whole : ck P w K mg base aT 1 "is_whole" ["deal"] (kL K)) (C_nothing_known : ck P w K mg base aT 1 "nothing_known" [] spNK) (C_place_among_fits : ck P w K mg base aT 3 "place_among_fits" ["deal", "whole"] (nD K)) (C_count_of_all : ck P w K mg base aT 4 "count_of_all" [] spAll) (C_fit_with_place : ck P w K mg base aT 3 "fit_with_place" ["deal", "place"] (sL K)) : aP P w K mg base aT 5 f fd ["boards", "plain", "rows"] (df true zy) := by
 refine F.ok gD (fun vs H Q E h => ?_) (fun cdv A outer s H vs Q E hr h => ?_)
 ·obtain ⟨_, _, _, _, _, _, _, _, _, _, _, rfl, _⟩ := h
  rfl
 ·obtain ⟨bd, td, pl, rw', s, n, kvs, ps, bs, rs, c, rfl, ba, n1000, hpl, hrw, hrows, ⟨b, rfl, rfl, rfl⟩, hb, k⟩ := h
  obtain ⟨d, hd⟩ := bt (b := b) (hb rfl)
  obtain ⟨p, ep, hp, g⟩ := ba.get hd
  have k : ft H bd td n (Vbbraa.onBoard s b fun d => if isWhole d = true then (if Vbbraa.placeOf unknown d + 1 < Vbbraa.ALL then (setBoard s b (Vbbraa.nth unknown (Vbbraa.placeOf unknown d + 1)), [0]) else (s, [-4])) else (s, [-3])) Q := k
  rw [cR hd] at k
  refine ⟨_, (ac (az (i := 3) gD.nd rfl (Or.inl rfl) (bZ (bG hr) (pv 0) (aA am (pv 1) aj (fun _ _ => rfl)) (fun _ _ => rfl)))
   (ac (bf (hU (cN (aI C_is_whole (hr.mono (by decide)) ay (aa (pv 3) ad)))) (ah (aq (aN (aa (aC T.g_NOT_WHOLE) ad)))) aM)
   (ac (az (i := 4) gD.nd rfl (Or.inl rfl) (bc ki (aI C_place_among_fits (hr.mono (by decide)) ay (aa (fq C_nothing_known (hr.mono (by decide)) ay) (aa (pv 3) ad))) aj))
   (ac (bf (aH fh (pv 4) (fq C_count_of_all (hr.mono (by decide)) ay) (aJ _)) (ah (aq (aN (aa (aC T.g_NO_SUCH_NUMBER) ad)))) aM)
   (ac (d8 (bG hr) (pv 0) (aA am (pv 1) aj (fun _ _ => rfl)) (aI C_fit_with_place (hr.mono (by decide)) ay (aa (fq C_nothing_known (hr.mono (by decide)) ay) (aa (pv 4) ad))) rfl)
   (ah (aq (aN (aa (aC T.g_DONE) ad))))))))), ?_⟩
  refine ⟨_, rfl, _, rfl, pl, dl [b], 0, .int b, rfl, rfl, .inl (.inl (hpl)), rfl, bd, .ref p, rfl, ba.dget ep, _, rfl, p, d, rfl, .inl (.inl hp), _, rfl, bq (fun h1 => ?_) (fun h1 => ?_)⟩
  ·have h2 : ¬ isWhole d = true := by simpa using h1
   rw [if_neg h2] at k
   exact ⟨(by show 1 <= sizeLine; decide), fun l hl => k.new ba (fun _ _ e => e) hl rfl⟩
  ·have h2 : isWhole d = true := by simpa using h1
   rw [if_pos h2] at k
   have lt := gI aY g h2 (dm d)
   refine ⟨rfl, fun H1 u ⟨s2, _, e2⟩ => ⟨_, rfl, u, p, unknown, d, rfl, .inl (.inl e2), .inl (.inl (s2 _ _ hp)), aY, g, h2, dm d, fun H2 s3 => ?_⟩⟩
   refine ⟨_, _, rfl, rfl, _, rfl, rfl, fun H3 s4 => ⟨rfl, _, rfl, bq (fun h3 => ?_) (fun h3 => ?_)⟩⟩
   ·have h4 := f9 h3
    rw [if_neg (by omega)] at k
    exact ⟨(by show 1 <= sizeLine; decide), fun l hl => k.new ba ((s2.trans s3).trans s4) hl rfl⟩
   ·have h4 := gb h3
    rw [sk] at h4 k
    rw [if_pos (by omega)] at k
    have hf : Vbbraa.placeOf unknown d + 1 < fits unknown := by omega
    refine ⟨rfl, fun H4 v ⟨s5, _, e5⟩ => ⟨_, rfl, v, unknown, Vbbraa.placeOf unknown d + 1, rfl, .inl (.inl e5), aY, hf, fun H5 p3 ⟨s6, n6, e6⟩ => ?_⟩⟩
    have sa := ((s2.trans s3).trans s4).trans s5
    exact ⟨_, rfl, _, rfl, pl, dl [b], 0, .int b, rfl, rfl, .inl (.inl ((sa.trans s6) _ _ hpl)), rfl, bd, _, rfl, (ba.same (sa.trans s6) (Nat.le_refl _)).dput n1000 b (.ref p3), ⟨(by show 1 <= sizeLine; decide), fun q hq => k.put ba (sa.trans s6) e6 (ba.new_ne sa n6) (ju aY hf).1 hq rfl⟩⟩
theorem oP {f : Addr} {fd : FuncData} (F : b7 K "answer_sure" "answer_sure" fA f fd) (T : Tx K mg CF ta) (C_seats_with_room : ck P w K mg base aT 2 "seats_with_room" ["deal"] (vH K)) (C_with_rest : ck P w K mg base aT 1 "with_rest" ["deal", "seat"] (yj K)) (C_unknown_cards : ck P w K mg base aT 1 "unknown_cards" ["deal"] (vC K)) : aP P w K mg base aT 3 f fd ["boards", "plain", "rows"] (df true zw) := by
 refine F.ok gB (fun vs H Q E h => ?_) (fun cdv A outer s H vs Q E hr h => ?_)
 ·obtain ⟨_, _, _, _, _, _, _, _, _, _, _, rfl, _⟩ := h
  rfl
 ·obtain ⟨bd, td, pl, rw', s, n, kvs, ps, bs, rs, c, rfl, ba, n1000, hpl, hrw, hrows, ⟨b, rfl, rfl, rfl⟩, hb, k⟩ := h
  obtain ⟨d, hd⟩ := bt (b := b) (hb rfl)
  obtain ⟨p, ep, hp, g⟩ := ba.get hd
  have k : ft H bd td n (Vbbraa.onBoard s b fun d => (setBoard s b (Vbbraa.sure d), [0, Int.ofNat (countOf d 4 - countOf (Vbbraa.sure d) 4)])) Q := k
  rw [cR hd] at k
  refine ⟨_, (ac (az (i := 3) gB.nd rfl (Or.inl rfl) (bZ (bG hr) (pv 0) (aA am (pv 1) aj (fun _ _ => rfl)) (fun _ _ => rfl)))
   (ac (az (i := 4) gB.nd rfl (Or.inl rfl) (aI C_seats_with_room (hr.mono (by decide)) ay (aa (pv 3) ad)))
   (ac (bf (aH j3 (aO aV rfl T.n_len (by decide +kernel) (aa (pv 4) ad)) aj (aJ _)) (ah (aq (aN (aa (aC T.g_DONE) (aa aj ad))))) aM)
   (ac (d8 (bG hr) (pv 0) (aA am (pv 1) aj (fun _ _ => rfl)) (aI C_with_rest (hr.mono (by decide)) ay (aa (pv 3) (aa (aA am (pv 4) aj (fun _ _ => rfl)) ad))) rfl)
   (ah (aq (aN (aa (aC T.g_DONE) (aa (aI C_unknown_cards (hr.mono (by decide)) ay (aa (pv 3) ad)) ad))))))))), ?_⟩
  refine ⟨_, rfl, _, rfl, pl, dl [b], 0, .int b, rfl, rfl, .inl (.inl (hpl)), rfl, bd, .ref p, rfl, ba.dget ep, _, rfl, p, d, rfl, .inl (.inl hp), fun H1 r ⟨s1, n1, e1⟩ => ?_⟩
  refine ⟨_, rfl, r, dl (gk d), rfl, .inl (.inl (.inl e1)), rfl, _, rfl, bq (fun h1 => ?_) (fun h1 => ?_)⟩
  ·have h2 := hZ h1
   rw [aG] at h2
   have e2 : Vbbraa.sure d = d := wZ (by omega)
   rw [e2, Nat.sub_self] at k
   exact ⟨(by show 2 <= sizeLine; decide), fun q hq => k _ q kvs ((yq ba hd).same (s1.trans (ax.new hq)) (Nat.le_succ _)) (fun c o e _ => (s1.trans (ax.new hq)) _ _ e) (s1.free hq) ae⟩
  ·have h2 := h8 h1
   rw [aG] at h2
   obtain ⟨z, hz, ez, e2⟩ := ye (d := d) (by omega)
   rw [ez] at e1
   have e3 : countOf (c9 d z) 4 = 0 := j5 z hz d
   have gs := w6 g
   rw [e2] at k gs
   rw [e3, Nat.sub_zero] at k
   refine ⟨_, rfl, _, rfl, r, dl [z], 0, .int z, rfl, rfl, .inl (.inl e1), rfl, p, d, z, rfl, .inl (.inl (s1 _ _ hp)), g.len, fun H2 p2 ⟨s2, n2, e4⟩ => ?_⟩
   have sa := s1.trans s2
   have ne : p2 ≠ p := fun y => by
    rw [y, s1 _ _ hp] at n2
    cases n2
   have pb : p ≠ bd := eW hp ba.dict (by intro y; cases y)
   refine ⟨_, rfl, _, rfl, pl, dl [b], 0, .int b, rfl, rfl, .inl (.inl (sa _ _ hpl)), rfl, bd, _, rfl, (ba.same sa (Nat.le_refl _)).dput n1000 b (.ref p2), ⟨_, rfl, p, d, rfl, .inl (.inl ?_), (by show 2 <= sizeLine; decide), fun q hq => k.put ba sa e4 (ba.new_ne s1 n2) gs hq rfl⟩⟩
   rw [ak pb]
   exact sa _ _ hp
end
end Db
end
section
namespace Db
open PySem PySem.Spec PyProof.Rows L2
open Vbbraa (Deal countOf room words fits unknown isWhole within State boardOf setBoard)
theorem v4 (f : Nat -> Int) : ∀ i, ((firstMet f i).length = i ↔ ∀ a b, a < b -> b < i -> f a ≠ f b)
 | 0 => ⟨fun _ a b _ h => absurd h (Nat.not_lt_zero _), fun _ => rfl⟩
 | i + 1 => by
   have ih := v4 f i
   have le := firstMet_length_le f i
   have any := firstMet_any f i (f i)
   rw [firstMet_succ]
   unfold step_dedup
   rw [any]
   by_cases h : (((List.range i).map f).any (· == f i)) = true
   ·rw [if_pos h]
    refine ⟨fun q => by omega, fun q => ?_⟩
    obtain ⟨x, hx, e⟩ := List.any_eq_true.mp h
    obtain ⟨a, ha, rfl⟩ := List.mem_map.mp hx
    exact absurd (beq_iff_eq.mp e) (q a i (List.mem_range.mp ha) (Nat.lt_succ_self _))
   ·rw [if_neg h, List.length_append, List.length_singleton]
    constructor
    ·intro q a b hab hb e
     rcases Nat.lt_succ_iff_lt_or_eq.mp hb with z | z
     ·exact ih.mp (by omega) a b hab z e
     ·subst z
      exact h (List.any_eq_true.mpr ⟨f a, List.mem_map.mpr ⟨a, List.mem_range.mpr hab, rfl⟩, beq_iff_eq.mpr e⟩)
    ·intro q
     rw [ih.mpr fun a b hab hb => q a b hab (by omega)]
theorem Ao (r : List Nat) : decide (((iY (zz r) : Nat) : Int) < (r.length : Nat)) = !Vbbraa.distinct r := by
 have zl : (zz r).length = r.length := List.length_map _
 have le : iY (zz r) <= r.length := by
  have := firstMet_length_le (fun i => (zz r).getD i 0) (zz r).length
  unfold iY
  omega
 have key : iY (zz r) = r.length ↔ r.Nodup := by
  have := v4 (fun i => (zz r).getD i 0) (zz r).length
  unfold iY
  rw [<- zl, this, zl, List.nodup_iff_pairwise_ne, List.pairwise_iff_getElem]
  have gd : ∀ i (h : i < r.length), (zz r).getD i 0 = ((r[i] : Nat) : Int) := fun i h => by
   rw [List.getD_eq_getElem?_getD]
   unfold zz Vbbraa.«ints»
   rw [List.getElem?_map, List.getElem?_eq_getElem h]
   rfl
  constructor
  ·intro q a b ha hb hab e
   refine q a b hab hb ?_
   rw [gd a ha, gd b hb, e]
  ·intro q a b hab hb e
   rw [gd a (by omega), gd b hb] at e
   exact q a b (by omega) hb hab (by omega)
 rw [<- jG] at key
 cases hd : Vbbraa.distinct r with
 | true =>
   have := key.mpr hd
   exact decide_eq_false (by omega)
 | false =>
   have : iY (zz r) ≠ r.length := fun z => by
    rw [key.mp z] at hd
    cases hd
   exact decide_eq_true (by omega)
theorem ut {d : Deal} {z : Nat} {r : List Nat} {ns : List Int} (nd : Vbbraa.distinct r = true) (lt : ∀ x ∈ r, x < 52) (hp : ns.Perm (zz (r.filter fun c => d.getD c 4 != z))) (hs : ns.Pairwise (· <= ·)) : ns = zz ((Vbbraa.rising r).filter fun c => d.getD c 4 != z) := by
 have n2 := (jG r).mp nd
 have p2 : (r.filter fun c => d.getD c 4 != z).Perm ((Vbbraa.rising r).filter fun c => d.getD c 4 != z) := by
  refine (List.perm_ext_iff_of_nodup (n2.filter _) ((List.nodup_range.filter _).filter _)).mpr fun a => ?_
  rw [List.mem_filter, List.mem_filter, List.mem_filter, List.mem_range, List.contains_iff_mem]
  exact ⟨fun h => ⟨⟨lt a h.1, h.1⟩, h.2⟩, fun h => ⟨h.1.2, h.2⟩⟩
 have s2 : (zz ((Vbbraa.rising r).filter fun c => d.getD c 4 != z)).Pairwise (· <= ·) := by
  unfold zz Vbbraa.«ints» Vbbraa.rising
  refine List.pairwise_map.mpr ?_
  refine ((List.pairwise_lt_range.filter _).filter _).imp fun h => ?_
  exact Int.ofNat_le.mpr (Nat.le_of_lt h)
 exact List.Perm.eq_of_pairwise (fun a b _ _ h1 h2 => Int.le_antisymm h1 h2) hs s2 (hp.trans (p2.map _))
theorem ou (r : List Nat) (q : Nat -> Bool) : ((Vbbraa.rising r).filter q).length <= 52 := by
 unfold Vbbraa.rising
 exact Nat.le_trans (List.length_filter_le _ _) (iG _ 52)
def vD (K : W.Frag) : Sp := fun vs H Q _ => ∃ (a : Addr) (r : List Nat), vs = [.ref a] /\ bj K H a (dl r) /\ r.length <= 52 /\ ∀ H', ax H H' -> Q (.bl (!Vbbraa.distinct r)) H'
def spBehind : Sp := fun vs H Q _ => ∃ (a : Addr) (l : List Nat), vs = [.ref a] /\ H a = some (.lst (dl l)) /\ l.length <= 52 /\ ∀ H' p, gS H H' p (dl (l.length :: l)) -> Q (.ref p) H'
theorem h9.at_ {H : Hp} : ∀ {bs : List Addr} {rs : List (List Nat)} {i : Nat} {b : Addr}, h9 H bs rs -> bs[i]? = some b -> ∃ r, rs[i]? = some r /\ H b = some (.lst (dl r))
 | [], [], _, _, _, e => by cases e
 | _ :: _, x :: _, 0, _, h, e => by
   cases e
   exact ⟨x, rfl, h.1⟩
 | _ :: _, _ :: _, i + 1, _, h, e => h9.at_ (i := i) h.2 e
theorem h9.len {H : Hp} : ∀ {bs : List Addr} {rs : List (List Nat)}, h9 H bs rs -> bs.length = rs.length
 | [], [], _ => rfl
 | _ :: _, _ :: _, h => by rw [List.length_cons, List.length_cons, h.2.len]
section
variable {P : Program} {w : World} {K : W.Frag} {mg : Str -> Option Value} {base : Heap} {CF CC NF fIF : Addr} {ta : Str -> Addr}
theorem oM {f : Addr} {fd : FuncData} (F : b7 K "tells_twice" "tells_twice" fw f fd) (T : Tx K mg CF ta) : aP P w K mg base aT 1 f fd ["row"] (vD K) := by
 refine F.ok oj (fun vs H Q E h => ?_) (fun cdv A outer s H vs Q E hr h => ?_)
 ·obtain ⟨_, _, rfl, _⟩ := h
  rfl
 ·obtain ⟨a, r, rfl, hs, len, k⟩ := h
  refine ⟨_, (ah (aq (fH oI (aO call_len_set rfl T.n_len (by decide +kernel) (aa (gt (t4 rfl) rfl T.n_set (by decide +kernel) (aa (pv 0) ad)) ad)) (aO aV rfl T.n_len (by decide +kernel) (aa (pv 0) ad)) (aJ _)))), ?_⟩
  refine ⟨_, rfl, a, zz r, rfl, hs, ?_, fun p S hp => ⟨p, S, _, rfl, ae, _, rfl, a, dl r, rfl, .inl ((ax.new hp).seq hs), _, _, rfl, rfl, ?_⟩⟩
  ·unfold zz Vbbraa.«ints»
   rw [List.length_map]
   omega
  ·have k2 := k _ (ax.new (o := .set S (iY (zz r))) hp)
   rw [<- Ao] at k2
   rw [aG]
   exact k2
theorem md {f : Addr} {fd : FuncData} (F : b7 K "behind_length" "behind_length" dY f fd) (T : Tx K mg CF ta) : aP P w K mg base aT 1 f fd ["cards"] spBehind := by
 refine F.ok lQ (fun vs H Q E h => ?_) (fun cdv A outer s H vs Q E hr h => ?_)
 ·obtain ⟨_, _, rfl, _⟩ := h
  rfl
 ·obtain ⟨a, l, rfl, hs, len, k⟩ := h
  refine ⟨_, (ah (aq (bc gJ (aN (aa (aO aV rfl T.n_len (by decide +kernel) (aa (pv 0) ad)) ad)) (pv 0)))), ?_⟩
  refine ⟨_, rfl, a, dl l, rfl, .inl (bj.of hs), (by show 1 <= sizeLine; decide), fun q hq => ⟨_, rfl, q, a, _, _, rfl, rfl, ae, (ax.new hq) _ _ hs, ?_, fun p hp => ?_⟩⟩
  ·rw [aG]
   exact eY (by show 1 + _ <= _; omega)
  ·rw [aG] at hp ⊢
   exact k _ p ⟨(ax.new (by exact hq)).trans (ax.new hp), (ax.new (by exact hq)).free hp, ae⟩
def nW (d : Deal) (rs : List (List Nat)) : Nat -> List Nat
 | 0 => []
 | i + 1 => nW d rs i ++ Vbbraa.compared d i (rs.getD i [])
theorem sE (d : Deal) (rs : List (List Nat)) : ∀ i, (nW d rs i).length <= 110 * i
 | 0 => Nat.le_refl _
 | i + 1 => by
   have ih := sE d rs i
   have l1 : ((Vbbraa.cardsOf d i).filter fun x => !(rs.getD i []).contains x).length <= 52 := Nat.le_trans (List.length_filter_le _ _) (iG (fun x => d.getD x 4 == i) 52)
   have l2 := ou (rs.getD i []) fun x => d.getD x 4 != i
   show (nW d rs i ++ ((_ :: List.filter _ _) ++ (_ :: List.filter _ _))).length <= _
   rw [List.length_append, List.length_append, List.length_cons, List.length_cons]
   omega
theorem lg {f : Addr} {fd : FuncData} (F : b7 K "answer_curtain" "answer_curtain" bu f fd) (T : Tx K mg CF ta) (C_is_whole : ck P w K mg base aT 1 "is_whole" ["deal"] (kL K)) (C_tells_twice : ck P w K mg base aT 1 "tells_twice" ["row"] (vD K)) (C_cards_of : ck P w K mg base aT 1 "cards_of" ["deal", "seat"] (nF K)) (C_behind_length : ck P w K mg base aT 1 "behind_length" ["cards"] spBehind) : aP P w K mg base aT 2 f fd ["boards", "plain", "rows"] (df true qK) := by
 refine F.ok aQ (fun vs H Q E h => ?_) (fun cdv A outer s H vs Q E hr h => ?_)
 ·obtain ⟨_, _, _, _, _, _, _, _, _, _, _, rfl, _⟩ := h
  rfl
 ·obtain ⟨bd, td, pl, rw', s, n, kvs, ps, bs, rs, c, rfl, ba, n1000, hpl, hrw, hrows, ⟨b, rn, re, rs', rw2, rfl, rfl, hr52, rfl⟩, hb, k⟩ := h
  obtain ⟨d, hd⟩ := bt (b := b) (hb rfl)
  obtain ⟨p, ep, hp, g⟩ := ba.get hd
  have k : ft H bd td n (Vbbraa.onBoard s b fun d => if isWhole d = true then (if (Vbbraa.distinct rn && (Vbbraa.distinct re && (Vbbraa.distinct rs' && Vbbraa.distinct rw2))) = true then (s, 0 :: zz (Vbbraa.compared d 0 rn ++ (Vbbraa.compared d 1 re ++ (Vbbraa.compared d 2 rs' ++ Vbbraa.compared d 3 rw2)))) else (s, [-7])) else (s, [-3])) Q := k
  rw [cR hd] at k
  have blen := hrows.len
  have len := g.len
  refine ⟨_, (ac (az (i := 3) aQ.nd rfl (Or.inr rfl) (bZ (bG hr) (pv 0) (aA am (pv 1) aj (fun _ _ => rfl)) (fun _ _ => rfl)))
   (ac (bf (hU (cN (aI C_is_whole (hr.mono (by decide)) ay (aa (pv 3) ad)))) (ah (aq (aN (aa (aC T.g_NOT_WHOLE) ad)))) aM)
   (ac (bf (cN (aO (BP rfl) rfl T.n_any (by decide +kernel) (aa (eV rfl aQ.nd (dD (pv 2)) (bb (own := [("row", 9)]) (by show f6 ["boards", "plain", "rows", "deal", "told", "seat", "found", "missing", "strange", "row", "card"] (ai bu) _ _ = true; decide +kernel)) (fun _ _ _ _ _ => (aK (i := 9) aQ.nd rfl (Or.inl rfl))) (fun _ _ _ _ _ => cv) (fun _ _ _ _ _ => (aI C_tells_twice (hr.mono (by decide)) ay (aa (pv 9) ad)))) ad))) (ah (aq (aN (aa (aC T.g_CARD_TWICE) ad)))) aM)
   (ac (az (i := 4) aQ.nd rfl (Or.inl rfl) (aN (aa (aC T.g_DONE) ad)))
   (ac (ef PassesOwn.never rfl (b9 rfl T.n_range (aa (aC T.g_SEATS) ad)) (aK (i := 5) aQ.nd rfl (Or.inr rfl)) (ac (az (i := 6) aQ.nd rfl (Or.inr rfl) (aA am (pv 2) (pv 5) (fun _ _ => rfl)))
   (ac (kT (i := 7) rfl aQ.nd rfl rfl (nB rfl rfl rfl rfl) (dD (aI C_cards_of (hr.mono (by decide)) ay (aa (pv 3) (aa (pv 5) ad)))) (bb (own := [("card", 10)]) (by show f6 ["boards", "plain", "rows", "deal", "told", "seat", "found", "missing", "strange", "row", "card"] (ai bu) _ _ = true; decide +kernel)) (fun _ _ _ _ _ => (aK (i := 10) aQ.nd rfl (Or.inl rfl))) (fun _ _ _ _ _ => (iT (aH (show kF _ _ (Ds K true) from iU) (pv 10) (pv 6) (by with_unfolding_all rfl)))) (fun _ _ _ _ _ => (pv 10)))
   (ac (az (i := 8) aQ.nd rfl (Or.inl rfl) (aO qA rfl T.n_sorted (by decide +kernel) (aa (eV rfl aQ.nd (dD (pv 6)) (bb (own := [("card", 10)]) (by show f6 ["boards", "plain", "rows", "deal", "told", "seat", "found", "missing", "strange", "row", "card"] (ai bu) _ _ = true; decide +kernel)) (fun _ _ _ _ _ => (aK (i := 10) aQ.nd rfl (Or.inl rfl))) (fun _ _ _ _ _ => (iT (aH j3 (aA (show zM _ (yA K) from am) (pv 3) (pv 10) (fun _ _ => rfl)) (pv 5) (aJ _)))) (fun _ _ _ _ _ => (pv 10))) ad)))
   (ah (d7 (qc PySem.F.plainAttrs_list PySem.F.slot_list_extend PySem.F.type_list_extend qf (pv 4) (aa (bc gJ (aI C_behind_length (hr.mono (by decide)) ay (aa (pv 7) ad)) (aI C_behind_length (hr.mono (by decide)) ay (aa (pv 8) ad))) ad))))))))
   (ah (aq (pv 4)))))))), ?_⟩
  refine ⟨_, rfl, _, rfl, pl, dl [b], 0, .int b, rfl, rfl, .inl (.inl (hpl)), rfl, bd, .ref p, rfl, ba.dget ep, _, rfl, p, d, rfl, .inl (.inl hp), _, rfl, bq (fun h1 => ?_) (fun h1 => ?_)⟩
  ·have h2 : ¬ isWhole d = true := by simpa using h1
   rw [if_neg h2] at k
   exact ⟨(by show 1 <= sizeLine; decide), fun l hl => k.new ba (fun _ _ e => e) hl rfl⟩
  ·have h2 : isWhole d = true := by simpa using h1
   rw [if_pos h2] at k
   have sqr : bj K H rw' (bs.map V.ref) := bj.of hrw
   refine ⟨_, rfl, rw', rfl, ⟨_, sqr⟩, fun D hD => eZ (K := K) (a := rw') (xs := bs.map V.ref) (fun i H' => H' D = some (.lst ((([rn, re, rs', rw2].take i).map fun r => !Vbbraa.distinct r).map V.bl)) /\ ax H H') ⟨ae, ax.new hD⟩ (fun i H' _ hP => hP.2.seq sqr) (fun i x H' hx hP => ?_) (fun H' hP => ?_)⟩
   ·obtain ⟨e1, s1⟩ := hP
    rw [List.getElem?_map] at hx
    obtain ⟨c, hc, rfl⟩ := Option.map_eq_some_iff.mp hx
    obtain ⟨r, hr1, hr2⟩ := hrows.at_ hc
    refine ⟨rfl, jX ?_⟩
    refine ⟨_, rfl, c, r, rfl, bj.of (s1 _ _ hr2), (hr52 r (List.mem_of_getElem? hr1)).1, fun H4 s4 => ⟨_, s4 _ _ e1, ?_, ?_, fun x o ex => ?_⟩⟩
    ·rw [List.length_map, List.length_map, List.length_take]
     exact aX (by have := mo hr1; have l4 : [rn, re, rs', rw2].length = 4 := rfl; omega)
    ·rw [ae, List.take_add_one, hr1, List.map_append, List.map_append]
     rfl
    ·rw [ak (au ex hD)]
     exact s4 _ _ (s1 _ _ ex)
   ·obtain ⟨e1, s1⟩ := hP
    rw [List.length_map, blen, List.take_length] at e1
    refine ⟨D, _, rfl, bj.of e1, _, rfl, bq (fun h3 => ?_) (fun h3 => ?_)⟩
    ·have h4 : ¬ (Vbbraa.distinct rn && (Vbbraa.distinct re && (Vbbraa.distinct rs' && Vbbraa.distinct rw2))) = true := by
      intro q
      simp only [Bool.and_eq_true] at q
      obtain ⟨q1, q2, q3, q4⟩ := q
      simp [q1, q2, q3, q4] at h3
     rw [if_neg h4] at k
     exact ⟨(by show 1 <= sizeLine; decide), fun l hl => k.new ba s1 hl rfl⟩
    ·have h4 : Vbbraa.distinct rn = true /\ Vbbraa.distinct re = true /\ Vbbraa.distinct rs' = true /\ Vbbraa.distinct rw2 = true := by
      simpa [List.any] using h3
     rw [if_pos (by rw [h4.1, h4.2.1, h4.2.2.1, h4.2.2.2]; rfl)] at k
     have dall : ∀ r ∈ [rn, re, rs', rw2], Vbbraa.distinct r = true := fun r hr => by
      simp only [List.mem_cons, List.not_mem_nil, or_false] at hr
      rcases hr with rfl | rfl | rfl | rfl
      ·exact h4.1
      ·exact h4.2.1
      ·exact h4.2.2.1
      ·exact h4.2.2.2
     refine ⟨(by show 1 <= sizeLine; decide), fun t0 ht0 => ?_⟩
     have nt : H t0 = none := s1.free ht0
     refine ⟨4, rfl, by decide, by decide, dF (n := 4) (fun i σ' H2 => ∃ v5 v6 v7 v8 v9 v10 : Option V, σ' = [some (.ref bd), some (.ref pl), some (.ref rw'), some (.ref p), some (.ref t0), v5, v6, v7, v8, v9, v10] /\ H2 t0 = some (.lst (dl (0 :: nW d [rn, re, rs', rw2] i))) /\ ax H H2) ⟨none, none, none, none, none, none, rfl, ae, s1.trans (ax.new ht0)⟩ ?_ ?_⟩
     ·rintro i σ' H2 hi ⟨v5, v6, v7, v8, v9, v10, rfl, e2, s2⟩
      have ei : (0 : Int) + (i : Nat) = (i : Int) := Int.zero_add _
      obtain ⟨c, hc⟩ : ∃ c, bs[i]? = some c := ⟨_, List.getElem?_eq_getElem (by rw [blen]; exact hi)⟩
      obtain ⟨r, hr1, hr2⟩ := hrows.at_ hc
      have rm := List.mem_of_getElem? hr1
      have rl := (hr52 r rm).1
      have hcr : (bs.map V.ref)[i]? = some (.ref c) := by rw [List.getElem?_map, hc]; rfl
      refine ⟨_, rfl, _, rfl, rw', bs.map V.ref, _, _, rfl, rfl, s2.seq sqr, zr ei hcr, ?_⟩
      refine ⟨_, rfl, _, rfl, p, d, i, by rw [ei]; rfl, s2.seq (bj.of hp), len, fun H3 q1 ⟨s3, n3, e3⟩ => ⟨q1, rfl, ⟨_, bj.of e3⟩, fun D1 hD1 => eZ (K := K) (a := q1) (xs := dl (Vbbraa.cardsOf d i)) (fun j H4 => H4 = aU H3 D1 (.lst (dl (((Vbbraa.cardsOf d i).take j).filter fun x => !r.contains x)))) rfl (fun j H4 _ e => ?_) (fun j x H4 hx e => ?_) (fun H4 e => ?_)⟩⟩
      ·subst e
       exact (ax.new hD1).seq (bj.of e3)
      ·subst e
       obtain ⟨y, hy, rfl⟩ := fb hx
       refine ⟨rfl, _, rfl, _, rfl, c, dl r, rfl, .inl (((s2.trans s3).trans (ax.new hD1)).seq (bj.of hr2)), rfl, rR r, _, rfl, ?_⟩
       rw [u7, if_pos rfl]
       refine bq (fun h5 => ?_) (fun h5 => ?_)
       ·refine ⟨_, rfl, _, ae, ?_, ?_⟩
        ·rw [aG]
         have l1 := List.length_filter_le (fun x => !r.contains x) ((Vbbraa.cardsOf d i).take j)
         have l2 := iG (fun x => d.getD x 4 == i) 52
         have l3 : (Vbbraa.cardsOf d i).length <= 52 := l2
         rw [List.length_take] at l1
         exact aX (by omega)
        ·rw [bv, eF _ _ j y hy, if_pos h5, bp]
         rfl
       ·rw [eF _ _ j y hy, if_neg h5, List.append_nil]
      ·subst e
       rw [aG, List.take_length]
       have s4 := (s2.trans s3).trans (ax.new (o := .lst (dl ((Vbbraa.cardsOf d i).filter fun x => !r.contains x))) hD1)
       have e4 : (aU H3 D1 (.lst (dl ((Vbbraa.cardsOf d i).filter fun x => !r.contains x)))) D1 = some (.lst (dl ((Vbbraa.cardsOf d i).filter fun x => !r.contains x))) := ae
       have e2' : (aU H3 D1 (.lst (dl ((Vbbraa.cardsOf d i).filter fun x => !r.contains x)))) t0 = some (.lst (dl (0 :: nW d [rn, re, rs', rw2] i))) := (ax.new hD1) _ _ (s3 _ _ e2)
       generalize aU H3 D1 (.lst (dl ((Vbbraa.cardsOf d i).filter fun x => !r.contains x))) = H4 at s4 e4 e2' ⊢
       refine ⟨_, rfl, c, rfl, ⟨_, s4.seq (bj.of hr2)⟩, fun D2 hD2 => eZ (K := K) (a := c) (xs := dl r) (fun j H5 => H5 = aU H4 D2 (.lst (dl ((r.take j).filter fun x => d.getD x 4 != i)))) rfl (fun j H5 _ e => ?_) (fun j x H5 hx e => ?_) (fun H5 e => ?_)⟩
       ·subst e
        exact (ax.new hD2).seq (s4.seq (bj.of hr2))
       ·subst e
        obtain ⟨y, hy, rfl⟩ := fb hx
        have y52 := (hr52 r rm).2 y (List.mem_of_getElem? hy)
        refine ⟨rfl, _, rfl, _, rfl, p, dl d, _, _, rfl, rfl, (ax.new hD2).seq (s4.seq (bj.of hp)), bn rfl (by omega) 4, _, rfl, rfl, _, rfl, bq (fun h5 => ?_) (fun h5 => ?_)⟩
        ·have h6 := hZ h5
         refine ⟨_, rfl, _, ae, ?_, ?_⟩
         ·rw [aG]
          have l1 := List.length_filter_le (fun x => d.getD x 4 != i) (r.take j)
          rw [List.length_take] at l1
          exact aX (by omega)
         ·rw [bv, eF _ _ j y hy, if_pos (bne_iff_ne.mpr (by omega)), bp]
          rfl
        ·have h6 := h8 h5
         rw [eF _ _ j y hy, if_neg (fun q => bne_iff_ne.mp q (by omega)), List.append_nil]
       ·subst e
        rw [aG, List.take_length]
        refine ⟨D2, zz (r.filter fun x => d.getD x 4 != i), rfl, bj.of ae, ?_, fun ns q2 hperm hsort hq2 => ?_⟩
        ·unfold zz Vbbraa.«ints»
         rw [List.length_map]
         have := List.length_filter_le (fun x => d.getD x 4 != i) r
         omega
        ·have e5 := ut (dall r rm) (hr52 r rm).2 hperm hsort
         subst e5
         have lm : ((Vbbraa.cardsOf d i).filter fun x => !r.contains x).length <= 52 := Nat.le_trans (List.length_filter_le _ _) (iG (fun x => d.getD x 4 == i) 52)
         have lx := ou r fun x => d.getD x 4 != i
         have s5 := (ax.new hD2).trans (ax.new (o := .lst ((zz ((Vbbraa.rising r).filter fun x => d.getD x 4 != i)).map V.int)) hq2)
         refine ⟨_, rfl, .inl ⟨rfl, _, bj.of (s5 _ _ e2')⟩, _, rfl, D1, _, rfl, s5 _ _ e4, lm, fun H6 q3 ⟨s6, n6, e6⟩ => ⟨_, rfl, q2, (Vbbraa.rising r).filter fun x => d.getD x 4 != i, rfl, s6 _ _ ae, lx, fun H7 q4 ⟨s7, n7, e7⟩ => ⟨q3, q4, _, _, rfl, rfl, s7 _ _ e6, e7, ?_, fun q5 hq5 => ⟨t0, q5, _, _, rfl, rfl, (ax.new hq5) _ _ (s7 _ _ (s6 _ _ (s5 _ _ e2'))), ae, ?_, _, _, _, _, _, _, rfl, ?_, fun c o ec => ?_⟩⟩⟩⟩
         ·rw [aG, aG, List.length_cons, List.length_cons]
          exact eY (by omega)
         ·have lt := sE d [rn, re, rs', rw2] i
          rw [List.length_append, aG, aG, aG, List.length_cons, List.length_cons, List.length_cons]
          exact eY (by omega)
         ·rw [ae, <- bp, <- bp]
          show some (HO.lst (dl (0 :: (nW d [rn, re, rs', rw2] i ++ _)))) = some (HO.lst (dl (0 :: (nW d [rn, re, rs', rw2] i ++ Vbbraa.compared d i ([rn, re, rs', rw2].getD i [])))))
          rw [show ([rn, re, rs', rw2] : List (List Nat)).getD i [] = r by rw [List.getD_eq_getElem?_getD, hr1]; rfl]
          rfl
         ·rw [ak (au ec nt)]
          exact (ax.new hq5) _ _ (s7 _ _ (s6 _ _ (s5 _ _ (s4 _ _ ec))))
     ·rintro σ' H2 ⟨v5, v6, v7, v8, v9, v10, rfl, e2, s2⟩
      refine ⟨_, rfl, k H2 t0 kvs (ba.same s2 (Nat.le_succ _)) (fun c o e _ => s2 _ _ e) nt ?_⟩
      rw [e2]
      show some (HO.lst (dl (0 :: ((([] ++ Vbbraa.compared d 0 rn) ++ Vbbraa.compared d 1 re) ++ Vbbraa.compared d 2 rs' ++ Vbbraa.compared d 3 rw2)))) = some (HO.lst (dl (0 :: (Vbbraa.compared d 0 rn ++ (Vbbraa.compared d 1 re ++ (Vbbraa.compared d 2 rs' ++ Vbbraa.compared d 3 rw2))))))
      rw [List.nil_append, List.append_assoc, List.append_assoc]
end
end Db
end
section
namespace Db
open PySem PySem.Spec PyProof.Rows L2
theorem x9 {u : Value} {x : V} (h : vw u = some x) : aZ x u := by
 unfold vw at h
 split at h <;> cases h
 ·exact ⟨_, rfl⟩
 ·rfl
 ·exact ⟨_, rfl⟩
 ·rfl
theorem vq : ∀ {us : List Value} {xs : List V}, us.mapM vw = some xs -> aR xs us
 | [], xs, h => by
   rw [List.mapM_nil] at h
   cases h
   exact .nil
 | u :: us, xs, h => by
   rw [List.mapM_cons] at h
   cases hu : vw u with
   | none =>
     rw [hu] at h
     cases h
   | some x =>
     rw [hu] at h
     cases hs : us.mapM vw with
     | none =>
       rw [hs] at h
       cases h
     | some ys =>
       rw [hs] at h
       cases h
       exact .cons (x9 hu) (vq hs)
section
variable {K : W.Frag} {h : Heap} {mg : Str -> Option Value}
theorem za (X : K.In h) (G : h.Ns mainGlobals mg) {x : Str} {y : V} (e : gV K x = some y) : ∃ v, mg x = some v /\ aZ y v := by
 unfold gV at e
 split at e
 ·rename_i v hv
  exact ⟨v, W.mg_of X G hv, x9 e⟩
 ·cases e
theorem dP (X : K.In h) (G : h.Ns mainGlobals mg) {x : Str} {n : Int} (e : gV K x = some (.int n)) : GI mg x n := by
 obtain ⟨v, m, t, rfl⟩ := za X G e
 exact ⟨t, m⟩
theorem AX (X : K.In h) (G : h.Ns mainGlobals mg) {x z : Str} (e : gV K x = some (.str z)) : GS mg x z := by
 obtain ⟨v, m, t, rfl⟩ := za X G e
 exact ⟨t, m⟩
theorem lr {α β : Type} {f : α -> Option β} : ∀ {us : List α} {xs : List β}, us.mapM f = some xs -> us.length = xs.length
 | [], xs, h => by
   rw [List.mapM_nil] at h
   cases h
   rfl
 | u :: us, xs, h => by
   rw [List.mapM_cons] at h
   cases hu : f u with
   | none =>
     rw [hu] at h
     cases h
   | some x =>
     rw [hu] at h
     cases hs : us.mapM f with
     | none =>
       rw [hs] at h
       cases h
     | some ys =>
       rw [hs] at h
       cases h
       rw [List.length_cons, List.length_cons, lr hs]
theorem uq {p : Addr} {xs : List V} (e : A9 K p = some (.type "tuple", xs)) (z : xs.length <= sizeLine) : ∃ (o : Obj) (its : Array Value) (n : Nat), K.lookup p = some o /\ o.cls = .type "tuple" /\ o.data = .seq its n /\ its.size <= sizeLine /\ aR xs its.toList := by
 unfold A9 at e
 split at e
 ·rename_i c d its n sl hl
  obtain ⟨l, hl2, e2⟩ := Option.map_eq_some_iff.mp e
  simp only [Prod.mk.injEq] at e2
  obtain ⟨rfl, rfl⟩ := e2
  refine ⟨_, its, n, hl, rfl, rfl, ?_, vq hl2⟩
  rw [<- Array.length_toList, lr hl2]
  exact z
 ·cases e
theorem yb {p : Addr} {xs : List V} (e : A9 K p = some (.type "tuple", xs)) (z : xs.length <= sizeLine) (H : Hp) : fV K H p xs := .inr (uq e z)
theorem DS (X : K.In h) (G : h.Ns mainGlobals mg) {x : Str} {p : Addr} {xs : List V} (e : gV K x = some (.ref p)) (e2 : A9 K p = some (.type "tuple", xs)) (z : xs.length <= sizeLine) : GT K mg x p xs := by
 obtain ⟨v, m, rfl⟩ := za X G e
 exact ⟨m, uq e2 z⟩
theorem AC {fd : FuncData} {x qual : Str} {st : Stmt} (e : bare fd = ze x qual st) : fd = W.fnOf x qual (i6 st) (gZ st) (ai st) .none fd.kwdefaults fd.doc fd.pyModule fd.annotations fd.code fd.closureTuple := by
 obtain ⟨a1, a2, a3, a4, a5, a6, a7, a8, a9, a10, a11, a12, a13, a14, a15⟩ := fd
 unfold bare ze at e
 injection e with e1 e2 e3 e4 e5 e6 e7 e8 e9 e10 e11 e12 e13 e14 e15
 subst e1 e2 e3 e4 e5 e6 e7 e8 e15
 rfl
theorem vc {x qual : Str} {st : Stmt} {f : Addr} {oc : Value} (e : Cu K qual f = some (oc, ze x qual st, true, true)) : ∃ fd, b7 K x qual st f fd /\ ∃ od osl, K.lookup f = some ⟨oc, od, .func fd, osl⟩ := by
 unfold Cu at e
 split at e
 ·rename_i oc2 od fd osl hl
  simp only [Option.some.injEq, Prod.mk.injEq] at e
  obtain ⟨rfl, e1, e2, e3⟩ := e
  have q := AC e1
  exact ⟨fd, ⟨⟨oc2, od, _, _, _, _, _, _, osl, q, hl, e2⟩, e3⟩, od, osl, hl⟩
 ·cases e
theorem BD (X : K.In h) (G : h.Ns mainGlobals mg) {x : Str} {st : Stmt} (e : DF K x = some (ze x x st, true, true)) : ∃ f fd, b7 K x x st f fd /\ mg x = some (.ref f) := by
 unfold DF at e
 split at e
 ·rename_i f hf
  obtain ⟨y, hy, e2⟩ := Option.map_eq_some_iff.mp e
  obtain ⟨oc, y⟩ := y
  dsimp only at e2
  subst e2
  obtain ⟨fd, F, _⟩ := vc hy
  exact ⟨f, fd, F, W.mg_of X G hf⟩
 ·cases e
theorem BC {C : Addr} {m qual : Str} {st : Stmt} (e : DE K C m qual = some (true, ze m qual st, true, true)) : ∃ f fd, b7 K m qual st f fd /\ mH K C m f := by
 unfold DE at e
 split at e
 ·rename_i f hf
  obtain ⟨y, hy, e2⟩ := Option.map_eq_some_iff.mp e
  obtain ⟨oc, y⟩ := y
  simp only [Prod.mk.injEq] at e2
  obtain ⟨e1, rfl⟩ := e2
  obtain ⟨fd, F, _⟩ := vc hy
  exact ⟨f, fd, F, hf, e1, F.kp⟩
 ·cases e
theorem vT {β σ : Type} {g : Addr -> Option β} {enc : σ -> β} : ∀ {l : List σ} {us : List Value}, us.mapM (mU g) = some (l.map enc) -> ∃ sh : List (Addr × σ), us = sh.map (fun y => Value.ref y.1) /\ sh.map (·.2) = l /\ ∀ y ∈ sh, g y.1 = some (enc y.2)
 | [], us, e => by
   have := lr e
   have : us = [] := List.eq_nil_of_length_eq_zero this
   subst this
   exact ⟨[], rfl, rfl, fun y hy => by cases hy⟩
 | x :: l, us, e => by
   cases us with
   | nil => cases lr e
   | cons u us =>
     rw [List.mapM_cons] at e
     cases hu : mU g u with
     | none =>
       rw [hu] at e
       cases e
     | some b =>
       rw [hu] at e
       cases hs : us.mapM (mU g) with
       | none =>
         rw [hs] at e
         cases e
       | some bs =>
         rw [hs] at e
         have e2 : b :: bs = enc x :: l.map enc := Option.some.inj e
         injection e2 with e3 e4
         subst e3 e4
         obtain ⟨sh, h1, h2, h3⟩ := vT hs
         unfold mU at hu
         split at hu
         ·rename_i z
          refine ⟨(z, x) :: sh, by rw [List.map_cons, <- h1], by rw [List.map_cons, h2], fun y hy => ?_⟩
          rcases List.mem_cons.mp hy with rfl | hy
          ·exact hu
          ·exact h3 y hy
         ·cases hu
theorem lU {σ : Type} : ∀ sh : List (Addr × σ), aR (sh.map fun y => V.ref y.1) (sh.map fun y => Value.ref y.1)
 | [] => .nil
 | y :: sh => .cons rfl (lU sh)
theorem BE (X : K.In h) (G : h.Ns mainGlobals mg) {nm : Str} {a : Addr} {b : Bool} {bs : List Int} {l : List (Int × Int × Int)} (zb : bs.length <= 1000) (zl : l.length <= 1000)
 (e : Cv K nm a = some (.type "tuple", true, b, (.type "tuple", il bs), .type "tuple", l.map fun y => (Value.type "tuple", il [y.1, y.2.1, y.2.2]))) :
 ∃ (f bnd shp : Addr) (sh : List (Addr × (Int × Int × Int))), mg nm = some (.ref f) /\ (∀ H, fV K H a [.ref f, .bl b, .ref bnd, .ref shp]) /\ (∀ H, fV K H bnd (il bs)) /\ (∀ H, fV K H shp (sh.map fun y => V.ref y.1)) /\ sh.map (·.2) = l /\
  ∀ y ∈ sh, ∀ H, fV K H y.1 (il [y.2.1, y.2.2.1, y.2.2.2]) := by
 have big : ∀ n, n <= 1000 -> n <= sizeLine := fun n hn => Nat.le_trans hn (by decide)
 unfold Cv at e
 split at e
 ·rename_i c d f b' bnd shp n sl hl
  split at e
  ·rename_i g y c2 d2 its n2 sl2 hg hy hs
   obtain ⟨l2, hm, e2⟩ := Option.map_eq_some_iff.mp e
   simp only [Prod.mk.injEq] at e2
   obtain ⟨rfl, e3, rfl, rfl, rfl, rfl⟩ := e2
   have e4 := Nat.eq_of_beq_eq_true e3
   subst e4
   obtain ⟨sh, h1, h2, h3⟩ := vT hm
   have len : sh.length = l.length := by rw [<- h2, List.length_map]
   refine ⟨f, bnd, shp, sh, W.mg_of X G hg, fun H => .inr ⟨_, _, n, hl, rfl, rfl, big _ (by show 4 <= 1000; decide), .cons rfl (.cons rfl (.cons rfl (.cons rfl .nil)))⟩, yb hy (by unfold il; rw [List.length_map]; exact big _ zb), fun H => .inr ⟨_, its, n2, hs, rfl, rfl, ?_, ?_⟩, h2, fun y hy2 => yb (h3 y hy2) (big _ (by show 3 <= 1000; decide))⟩
   ·rw [<- Array.length_toList, h1, List.length_map, len]
    exact big _ zl
   ·rw [h1]
    exact lU sh
  ·cases e
 ·cases e
def zP (mg : Str -> Option Value) (x : Str) : Addr := match mg x with
 | some (.ref p) => p
 | _ => 0
theorem nU (X : K.In h) (G : h.Ns mainGlobals mg) {x : Str} {xs : List V} (e : CW K x = some (.type "tuple", xs)) (z : xs.length <= sizeLine) : GT K mg x (zP mg x) xs := by
 unfold CW at e
 split at e
 ·rename_i p hp
  have m := W.mg_of X G hp
  have t : zP mg x = p := by
   unfold zP
   rw [m]
  rw [t]
  exact ⟨m, uq e z⟩
 ·cases e
theorem zo (X : K.In h) (G : h.Ns mainGlobals mg) {x : Str} {fs : List Str} {ms : List (Str × Str × Stmt)}
 (e : C3 K x fs (ms.map fun y => (y.1, y.2.1)) = some (true, some (some (.builtin "object.__setattr__")), fs.map (fun _ => some none), ms.map fun y => some (true, ze y.1 y.2.1 y.2.2, true, true))) :
 ∃ C, mg x = some (.ref C) /\ ue K C /\ W.makesIn K C = true /\ W.keepIn K (.ref C) = true /\ (∀ f ∈ fs, fu K C f) /\ ∀ y ∈ ms, ∃ f fd, b7 K y.1 y.2.1 y.2.2 f fd /\ mH K C y.1 f := by
 unfold C3 at e
 split at e
 ·rename_i C hC
  simp only [Option.some.injEq, Prod.mk.injEq, Bool.and_eq_true] at e
  obtain ⟨⟨⟨⟨⟨a1, a2⟩, a3⟩, a4⟩, a5⟩, a6, a7, a8⟩ := e
  refine ⟨C, W.mg_of X G hC, ⟨a1, a2, a3, a6⟩, a4, a5, fun f hf => List.map_inj_left.mp a7 f hf, fun y hy => ?_⟩
  rw [List.map_map] at a8
  exact BC (List.map_inj_left.mp a8 y hy)
 ·cases e
theorem mH.mk_ {C f : Addr} (m : mH K C "__init__" f) (a : W.makesIn K C = true) (b : W.keepIn K (.ref C) = true) : Mk K C f := ⟨a, m.at_, m.fn, b⟩
abbrev DG (x : Form × Str) : Option (Value × Bool × Bool × (Value × List V) × Value × List (Value × List V)) := some (.type "tuple", true, x.1.need, (.type "tuple", il x.1.bounds), .type "tuple", x.1.shapes.map fun y => (Value.type "tuple", il [y.1, y.2.1, y.2.2]))
theorem tO : ∀ {fms : List (Form × Str)} {us : List Value}, us.length = fms.length -> (us.zip (fms.map (·.2))).map (fun y => mU (Cv K y.2) y.1) = fms.map DG -> ∃ l : List (Addr × Form × Str), us = l.map (fun x => Value.ref x.1) /\ l.map (·.2) = fms /\ ∀ x ∈ l, Cv K x.2.2 x.1 = DG x.2
 | [], [], _, _ => ⟨[], rfl, rfl, fun x hx => by cases hx⟩
 | [], _ :: _, e, _ => by cases e
 | _ :: _, [], e, _ => by cases e
 | fm :: fms, u :: us, e, e2 => by
   rw [List.map_cons, List.zip_cons_cons, List.map_cons, List.map_cons] at e2
   injection e2 with e3 e4
   obtain ⟨l, h1, h2, h3⟩ := tO (Nat.succ.inj e) e4
   dsimp only at e3
   unfold mU at e3
   split at e3
   ·rename_i z
    refine ⟨(z, fm) :: l, by rw [List.map_cons, <- h1], by rw [List.map_cons, h2], fun x hx => ?_⟩
    rcases List.mem_cons.mp hx with rfl | hx
    ·exact e3
    ·exact h3 x hx
   ·cases e3
end
end Db
end
section
namespace Db
open PySem PySem.Spec PyProof.Rows L2
theorem B2 {K : W.Frag} {f : Addr} {od an : Option Addr} {osl : Array (Option Value)} {kV doc pm cdv ct : Value}
 (l : K.lookup f = some ⟨.type "function", od, .func (W.fnOf "__init__" "TextFault.__init__" (i6 bi) (gZ bi) (ai bi) .none kV doc pm an cdv ct), osl⟩) (c : W.codeIn K cdv "TextFault.__init__" = true) : ja K f "kind" "place" := by
 refine ⟨⟨.type "function", od, "__init__", "TextFault.__init__", i6 bi, _, _, _, _, _, _, _, _, ai bi, .none, kV, doc, pm, an, cdv, ct, osl, l, c, rfl, fun us hl => ?_, rfl, rfl, rfl, rfl, rfl, rfl⟩, by decide +kernel, by decide +kernel, by decide +kernel, by decide +kernel, by decide +kernel⟩
 match us, hl with
 | [_, _, _], _ => rfl
theorem B3 {K : W.Frag} {C N fI : Addr} {nm q : Str} {bs : List Value} {sn : List Str} {sub : List Value} {ab : Bool} {col : Option Bool} {dd : Option Addr} {k0 k1 k2 k3 k5 : Option Value} {c : Value} {d : Option Addr} {es : Array DictEntry} {n : Nat} {sl : Array (Option Value)}
 (xo : K.lookup C = some ⟨.type "type", dd, .cls ⟨nm, bs, [.ref C, .type "Exception", .type "BaseException", .type "object"], N, q, true, sn, sub, ab, col, false⟩, #[k0, k1, k2, k3, some (.builtin "Exception.__new__"), k5]⟩)
 (xn : K.lookup N = some ⟨c, d, .dict es n, sl⟩) (xa : es.toList.all qN = true) (xi : W.nsIn K N "__init__" = some (some (.ref fI))) (x0 : W.nsIn K N "__setattr__" = some none) (x1 : W.nsIn K N "__getattribute__" = some none) (x2 : W.nsIn K N "__getattr__" = some none)
 (x3 : W.nsIn K N "kind" = some none) (x4 : W.nsIn K N "place" = some none) (xk : W.keepIn K (.ref C) = true) : jK K C N fI "kind" "place" :=
 ⟨⟨nm, q, bs, sn, sub, ab, col, dd, k0, k1, k2, k3, k5, xo⟩, ⟨c, d, es, n, sl, xn, xa⟩, xi, x0, x1, x2, x3, x4, xk, rfl, rfl⟩
end Db
end
section
namespace Db
open PySem PySem.Spec PyProof.Rows L2
def allForms : List (Form × Str) := [(wr, "answer_read"), (tR, "answer_shown"), (tU, "answer_count"), (qt, "answer_number"), (wx, "answer_deal"), (zf, "answer_nth"), (tS, "answer_place"), (pd, "answer_session"), (qr, "answer_rotate"), (tQ, "answer_suits"), (ww, "answer_hand"), (mL, "answer_features"), (pf, "answer_curtain"), (wv, "answer_know"), (qu, "answer_forget"), (wu, "answer_meet"), (tV, "answer_clear"), (qv, "answer_chance"), (wt, "answer_next"), (wq, "answer_sure")]
theorem BF : C2 = allForms.map fun x => (x.2, x.1.need, x.1.bounds, x.1.shapes) := rfl
structure si (K : W.Frag) (mg : Str -> Option Value) (aF : Addr) (l : List (Addr × Form × Str)) : Prop where
 g : GT K mg "FORMS" aF (l.map fun x => V.ref x.1)
 each : ∀ x ∈ l, ∃ (f bnd shp : Addr) (sh : List (Addr × (Int × Int × Int))), mg x.2.2 = some (.ref f) /\ (∀ H, fV K H x.1 [.ref f, .bl x.2.1.need, .ref bnd, .ref shp]) /\ (∀ H, fV K H bnd (il x.2.1.bounds)) /\ (∀ H, fV K H shp (sh.map fun y => V.ref y.1)) /\ sh.map (·.2) = x.2.1.shapes /\
  ∀ y ∈ sh, ∀ H, fV K H y.1 (il [y.2.1, y.2.2.1, y.2.2.2])
theorem si.form {P : Program} {w : World} {K : W.Frag} {mg : Str -> Option Value} {base : Heap} {aF : Addr} {l : List (Addr × Form × Str)} (h : si K mg aF l) {x : Addr × Form × Str} (hx : x ∈ l) {k : Nat} (hk : k <= 6) (C : ck P w K mg base aT k x.2.2 ["boards", "plain", "rows"] (df x.2.1.need x.2.1.R)) : vn P w K mg base 6 x.1 x.2.1 := by
 obtain ⟨f, bnd, shp, sh, m, s1, s2, s3, e, s4⟩ := h.each x hx
 obtain ⟨f2, fd, G, b, m2, kp⟩ := C.ex
 rw [m] at m2
 injection m2 with m2
 injection m2 with m2
 subst m2
 exact ⟨f, bnd, shp, fd, k, sh, s1, s2, s3, e, s4, G, hk, b, kp⟩
theorem eG {P : Program} {w : World} {K : W.Frag} {mg : Str -> Option Value} {base : Heap} {CX : CXT} {k : Nat} {x q : Str} {st : Stmt} {f : Addr} {fd : FuncData} {ps : List Str} {sp : Sp} (G : aP P w K mg base CX k f fd ps sp) (b : aB K fd ps []) (m : mg x = some (.ref f)) (F : b7 K x q st f fd) : ck P w K mg base CX k x ps sp := ⟨f, fd, G, b, m, F.kp⟩
theorem sN : ∀ x ∈ allForms, x.1.bounds.length <= 1000 /\ x.1.shapes.length <= 1000 := by decide
theorem Ct {K : W.Frag} {h : Heap} {mg : Str -> Option Value} (X : K.In h) (G : h.Ns mainGlobals mg) (e : DD K (allForms.map (·.2)) = some (.type "tuple", allForms.length, allForms.map DG)) : ∃ aF l, si K mg aF l /\ l.map (·.2) = allForms := by
 unfold DD at e
 split at e
 ·rename_i a ha
  split at e
  ·rename_i c dd its n sl hl
   simp only [Option.some.injEq, Prod.mk.injEq] at e
   obtain ⟨rfl, e1, e2⟩ := e
   obtain ⟨l, h1, h2, h3⟩ := tO e1 e2
   refine ⟨a, l, ⟨⟨W.mg_of X G ha, _, its, n, hl, rfl, rfl, ?_, ?_⟩, fun x hx => ?_⟩, h2⟩
   ·rw [<- Array.length_toList, e1]
    decide
   ·rw [h1]
    exact lU l
   ·have hm : x.2 ∈ allForms := by
     rw [<- h2]
     exact List.mem_map.mpr ⟨x, hx, rfl⟩
    obtain ⟨z1, z2⟩ := sN _ hm
    exact BE X G z1 z2 (h3 x hx)
  ·cases e
 ·cases e
theorem B4 {K : W.Frag} {h : Heap} {mg : Str -> Option Value} (X : K.In h) (G : h.Ns mainGlobals mg) (e : C7 K = some (Value.type "type", true, [Value.type "Exception", Value.type "BaseException", Value.type "object"], true, false, some (Value.builtin "Exception.__new__"), true, true, [some (none : Option Value), some none, some none, some none, some none], some (Value.type "function", ze "__init__" "TextFault.__init__" bi, true, true))) :
 ∃ C N fI, mg "TextFault" = some (.ref C) /\ jK K C N fI "kind" "place" /\ ja K fI "kind" "place" := by
 unfold C7 at e
 split at e
 ·rename_i C hC
  split at e
  ·rename_i t dd nm bs C' m1 m2 m3 N q b1 sn sub ab col b2 k0 k1 k2 k3 k4 k5 hl
   split at e
   ·rename_i c2 d2 es n2 sl2 fI hN hI
    simp only [Option.some.injEq, Prod.mk.injEq, List.cons.injEq, List.map_cons, List.map_nil, and_true] at e
    obtain ⟨rfl, e1, ⟨rfl, rfl, rfl⟩, rfl, rfl, rfl, e2, e3, ⟨x0, x1, x2, x3, x4⟩, e4⟩ := e
    have e5 := Nat.eq_of_beq_eq_true e1
    subst e5
    obtain ⟨fd, F, od, osl, lk⟩ := vc e4
    obtain ⟨oc, od2, kV, doc, pm, an, cdv, ct, osl2, rfl, lk2, cd⟩ := F.ex
    exact ⟨C, N, fI, W.mg_of X G hC, B3 hl hN e2 hI x0 x1 x2 x3 x4 e3, B2 lk cd⟩
   ·cases e
  ·cases e
 ·cases e
theorem zd : ∀ (i : Nat) (x : Form × Str), allForms[i]? = some x -> bV i x.1
 | 0, _, h => by cases h; exact Ag
 | 1, _, h => by cases h; exact yP
 | 2, _, h => by cases h; exact yR
 | 3, _, h => by cases h; exact xj
 | 4, _, h => by cases h; exact Ai
 | 5, _, h => by cases h; exact Br
 | 6, _, h => by cases h; exact yQ
 | 7, _, h => by cases h; exact uO
 | 8, _, h => by cases h; exact xh
 | 9, _, h => by cases h; exact yO
 | 10, _, h => by cases h; exact xt
 | 11, _, h => by cases h; exact pJ
 | 12, _, h => by cases h; exact rD
 | 13, _, h => by cases h; exact xr
 | 14, _, h => by cases h; exact tq
 | 15, _, h => by cases h; exact xq
 | 16, _, h => by cases h; exact uR
 | 17, _, h => by cases h; exact tu
 | 18, _, h => by cases h; exact xp
 | 19, _, h => by cases h; exact xm
 | n + 20, _, h => by cases h
theorem xL (q : Int) (n k : Nat) (h : PyVbbraa.shape q = some (n, k)) : ∃ (i : Nat) (x : Form × Str), q = (i : Int) /\ allForms[i]? = some x := by
 obtain ⟨i, hi, e⟩ := pV q n k h
 exact ⟨i, _, e, List.getElem?_eq_getElem (by show i < 20; exact hi)⟩
theorem cu {α β : Type} {f g : α -> β} {l : List α} (h : l.map f = l.map g) (i : Nat) (x : α) (e : l[i]? = some x) : f x = g x := List.map_inj_left.mp h x (List.mem_of_getElem? e)
section
variable {K : W.Frag} {h : Heap} {mg : Str -> Option Value} {fa : Addr}
theorem B6 (X : K.In h) (G : h.Ns mainGlobals mg) (e1 : C4.map (fun x => gV K x.1) = C4.map fun x => some x.2) (e2 : CY.map (fun x => CW K x.1) = CY.map fun x => some (Value.type "tuple", x.2)) (e3 : C0.map (W.nsIn K mainGlobals) = C0.map fun _ => some (none : Option Value)) {CF : Addr} (hC : mg "TextFault" = some (.ref CF)) : Tx K mg CF (zP mg) where
 g_SEATS := dP X G (cu e1 0 ("SEATS", .int 4) rfl)
 g_RANKS := dP X G (cu e1 1 ("RANKS", .int 13) rfl)
 g_CARDS := dP X G (cu e1 2 ("CARDS", .int 52) rfl)
 g_HAND_SIZE := dP X G (cu e1 3 ("HAND_SIZE", .int 13) rfl)
 g_NOBODY := dP X G (cu e1 4 ("NOBODY", .int 4) rfl)
 g_CLUBS := dP X G (cu e1 5 ("CLUBS", .int 0) rfl)
 g_CANNOT_GO_ON := dP X G (cu e1 6 ("CANNOT_GO_ON", .int 1) rfl)
 g_RANK_NOT_BELOW := dP X G (cu e1 7 ("RANK_NOT_BELOW", .int 2) rfl)
 g_CARD_TOLD_BEFORE := dP X G (cu e1 8 ("CARD_TOLD_BEFORE", .int 3) rfl)
 g_FOURTEENTH_CARD := dP X G (cu e1 9 ("FOURTEENTH_CARD", .int 4) rfl)
 g_MARK_MISSING := dP X G (cu e1 10 ("MARK_MISSING", .int 5) rfl)
 g_MARK_TOO_MUCH := dP X G (cu e1 11 ("MARK_TOO_MUCH", .int 6) rfl)
 g_DONE := dP X G (cu e1 12 ("DONE", .int 0) rfl)
 g_OUT_OF_RANGE := dP X G (cu e1 13 ("OUT_OF_RANGE", .int (-1)) rfl)
 g_NO_BOARD := dP X G (cu e1 14 ("NO_BOARD", .int (-2)) rfl)
 g_NOT_WHOLE := dP X G (cu e1 15 ("NOT_WHOLE", .int (-3)) rfl)
 g_NO_SUCH_NUMBER := dP X G (cu e1 16 ("NO_SUCH_NUMBER", .int (-4)) rfl)
 g_AT_ODDS := dP X G (cu e1 17 ("AT_ODDS", .int (-5)) rfl)
 g_NOT_ALL_SUITS := dP X G (cu e1 18 ("NOT_ALL_SUITS", .int (-6)) rfl)
 g_CARD_TWICE := dP X G (cu e1 19 ("CARD_TWICE", .int (-7)) rfl)
 g_NO_ROOM := dP X G (cu e1 20 ("NO_ROOM", .int (-8)) rfl)
 g_SEAT_SIGNS := AX X G (cu e1 21 ("SEAT_SIGNS", .str "NESW") rfl)
 g_RANK_SIGNS := AX X G (cu e1 22 ("RANK_SIGNS", .str "23456789TJQKA") rfl)
 g_SUITS_AS_TOLD := nU X G (cu e2 0 ("SUITS_AS_TOLD", _) rfl) (by decide)
 g_POINTS := nU X G (cu e2 1 ("POINTS", _) rfl) (by decide)
 g_CONTROLS := nU X G (cu e2 2 ("CONTROLS", _) rfl) (by decide)
 g_WINNING_RANKS := nU X G (cu e2 3 ("WINNING_RANKS", _) rfl) (by decide)
 g_SESSION_PRIMES := nU X G (cu e2 4 ("SESSION_PRIMES", _) rfl) (by decide)
 n_all := W.mg_none_of X G (cu e3 0 "all" rfl)
 n_any := W.mg_none_of X G (cu e3 1 "any" rfl)
 n_enumerate := W.mg_none_of X G (cu e3 2 "enumerate" rfl)
 n_int := W.mg_none_of X G (cu e3 3 "int" rfl)
 n_len := W.mg_none_of X G (cu e3 4 "len" rfl)
 n_list := W.mg_none_of X G (cu e3 5 "list" rfl)
 n_min := W.mg_none_of X G (cu e3 6 "min" rfl)
 n_ord := W.mg_none_of X G (cu e3 7 "ord" rfl)
 n_range := W.mg_none_of X G (cu e3 8 "range" rfl)
 n_set := W.mg_none_of X G (cu e3 9 "set" rfl)
 n_sorted := W.mg_none_of X G (cu e3 10 "sorted" rfl)
 n_str := W.mg_none_of X G (cu e3 11 "str" rfl)
 n_sum := W.mg_none_of X G (cu e3 12 "sum" rfl)
 n_zip := W.mg_none_of X G (cu e3 13 "zip" rfl)
 g_TextFault := hC
theorem Cz (X : K.In h) (G : h.Ns mainGlobals mg) (e : pW K = seenE) (hfa : mg "answers" = some (.ref fa)) :
 ∃ fd : FuncData, (∀ (s : Shared) (us : List Value), us.length = (["calls"] : List Str).length -> BindsTo s fd ⟨us, []⟩ ((["calls"] : List Str).zip us)) /\ ∀ (P : Program) (w : World) (base : Heap), aP P w K mg base aT 8 fa fd ["calls"] (lK K) := by
 unfold pW seenE at e
 simp only [Prod.mk.injEq] at e
 obtain ⟨c1, c2, c3, c4, c5, c6, c7, c8⟩ := e
 obtain ⟨CF, NF, fIF, hCF, XC, XI⟩ := B4 X G c7
 have T := B6 X G c1 c2 c3 hCF
 obtain ⟨CT, m_CT, cl_CT, mk_CT, kp_CT, na_CT, me_CT⟩ := zo X G c5
 obtain ⟨CC, m_CC, cl_CC, mk_CC, kp_CC, na_CC, me_CC⟩ := zo X G c6
 have c_TextReader : xZ K CT := ⟨cl_CT, na_CT "text" (by decide), na_CT "at" (by decide), na_CT "deal" (by decide)⟩
 have c_CallReader : A5 K CC := ⟨cl_CC, na_CC "calls" (by decide), na_CC "at" (by decide)⟩
 rw [BF, List.map_map, List.map_map, List.length_map] at c8
 obtain ⟨aF, l, Fo, hl⟩ := Ct X G c8
 have D : ∀ (i : Nat) (x : Str) (st : Stmt), DH[i]? = some (x, st) -> ∃ f fd, b7 K x x st f fd /\ mg x = some (.ref f) := fun i x st q => BD X G (cu c4 i (x, st) q)
 have MT : ∀ (i : Nat) (x q : Str) (st : Stmt), Dv[i]? = some (x, q, st) -> ∃ f fd, b7 K x q st f fd /\ mH K CT x f := fun i x q st z => me_CT (x, q, st) (List.mem_of_getElem? z)
 have MC : ∀ (i : Nat) (x q : Str) (st : Stmt), Dx[i]? = some (x, q, st) -> ∃ f fd, b7 K x q st f fd /\ mH K CC x f := fun i x q st z => me_CC (x, q, st) (List.mem_of_getElem? z)
 obtain ⟨zaaa, zaab, zaac, zaad⟩ := D 0 "nothing_known" dW rfl
 obtain ⟨zaai, zaaj, zaak, zaal⟩ := D 1 "card_of" jQ rfl
 obtain ⟨zaaq, zaar, zaas, zaat⟩ := D 2 "room_of" jP rfl
 obtain ⟨zaay, zaaz, zaba, zabb⟩ := D 3 "rooms_of" gF rfl
 obtain ⟨zabg, zabh, zabi, zabj⟩ := D 4 "unknown_cards" dU rfl
 obtain ⟨zabo, zabp, zabq, zabr⟩ := D 5 "known_cards" fz rfl
 obtain ⟨zabw, zabx, zaby, zabz⟩ := D 6 "is_whole" iQ rfl
 obtain ⟨zace, zacf, zacg, zach⟩ := D 7 "fits" qW rfl
 obtain ⟨zacm, zacn, zaco, zacp⟩ := D 8 "rotated" io rfl
 obtain ⟨zacu, zacv, zacw, zacx⟩ := D 9 "with_suits" gh rfl
 obtain ⟨zadc, zadd, zade, zadf⟩ := D 10 "cards_of" gG rfl
 obtain ⟨zadk, zadl, zadm, zadn⟩ := D 11 "seats_with_room" cb rfl
 obtain ⟨zads, zadt, zadu, zadv⟩ := D 12 "with_holder" fv rfl
 obtain ⟨zaea, zaeb, zaec, zaed⟩ := D 13 "with_rest" fL rfl
 obtain ⟨zaei, zaej, zaek, zael⟩ := D 14 "joined" kP rfl
 obtain ⟨zaeq, zaer, zaes, zaet⟩ := D 15 "greatest_divisor" cM rfl
 obtain ⟨zaey, zaez, zafa, zafb⟩ := D 16 "chance_of" gX rfl
 obtain ⟨zafg, zafh, zafi, zafj⟩ := D 17 "worth" kO rfl
 obtain ⟨zafo, zafp, zafq, zafr⟩ := D 18 "ranks_in_suit" cP rfl
 obtain ⟨zafw, zafx, zafy, zafz⟩ := D 19 "losers_of_suit" cH rfl
 obtain ⟨zage, zagf, zagg, zagh⟩ := D 20 "features_of" cr rfl
 obtain ⟨zagm, zagn, zago, zagp⟩ := D 21 "factorial" gW rfl
 obtain ⟨zagu, zagv, zagw, zagx⟩ := D 22 "ways_to_fill" eJ rfl
 obtain ⟨zahc, zahd, zahe, zahf⟩ := D 23 "count_of_fits" dX rfl
 obtain ⟨zahk, zahl, zahm, zahn⟩ := D 24 "count_of_all" eM rfl
 obtain ⟨zahs, zaht, zahu, zahv⟩ := D 25 "place_among_fits" cK rfl
 obtain ⟨zaia, zaib, zaic, zaid⟩ := D 26 "digits_of" fM rfl
 obtain ⟨zaii, zaij, zaik, zail⟩ := D 27 "number_below" eK rfl
 obtain ⟨zaiq, zair, zais, zait⟩ := D 28 "session_number" dz rfl
 obtain ⟨zaiy, zaiz, zaja, zajb⟩ := D 29 "fit_with_place" dA rfl
 obtain ⟨zami, zamj, zamk, zaml⟩ := D 30 "deal_from_text" dB rfl
 obtain ⟨zamq, zamr, zams, zamt⟩ := D 31 "suit_signs" dy rfl
 obtain ⟨zamy, zamz, zana, zanb⟩ := D 32 "hand_signs" eL rfl
 obtain ⟨zang, zanh, zani, zanj⟩ := D 33 "text_of_deal" cF rfl
 obtain ⟨zapc, zapd, zape, zapf⟩ := D 34 "in_range" iR rfl
 obtain ⟨zapk, zapl, zapm, zapn⟩ := D 35 "plain_in_range" cG rfl
 obtain ⟨zaps, zapt, zapu, zapv⟩ := D 36 "row_in_range" dh rfl
 obtain ⟨zaqa, zaqb, zaqc, zaqd⟩ := D 37 "rows_in_range" cO rfl
 obtain ⟨zaqi, zaqj, zaqk, zaql⟩ := D 38 "answer_shown" eO rfl
 obtain ⟨zaqq, zaqr, zaqs, zaqt⟩ := D 39 "answer_count" eQ rfl
 obtain ⟨zaqy, zaqz, zara, zarb⟩ := D 40 "answer_number" d4 rfl
 obtain ⟨zarg, zarh, zari, zarj⟩ := D 41 "answer_deal" fG rfl
 obtain ⟨zaro, zarp, zarq, zarr⟩ := D 42 "answer_nth" gj rfl
 obtain ⟨zarw, zarx, zary, zarz⟩ := D 43 "answer_session" dC rfl
 obtain ⟨zase, zasf, zasg, zash⟩ := D 44 "answer_rotate" dZ rfl
 obtain ⟨zasm, zasn, zaso, zasp⟩ := D 45 "answer_place" eP rfl
 obtain ⟨zasu, zasv, zasw, zasx⟩ := D 46 "answer_suits" eN rfl
 obtain ⟨zatc, zatd, zate, zatf⟩ := D 47 "answer_read" fB rfl
 obtain ⟨zatk, zatl, zatm, zatn⟩ := D 48 "answer_hand" fF rfl
 obtain ⟨zats, zatt, zatu, zatv⟩ := D 49 "answer_features" cX rfl
 obtain ⟨zaua, zaub, zauc, zaud⟩ := D 50 "answer_know" fE rfl
 obtain ⟨zaui, zauj, zauk, zaul⟩ := D 51 "answer_forget" d5 rfl
 obtain ⟨zauq, zaur, zaus, zaut⟩ := D 52 "answer_meet" fD rfl
 obtain ⟨zauy, zauz, zava, zavb⟩ := D 53 "answer_clear" eS rfl
 obtain ⟨zavg, zavh, zavi, zavj⟩ := D 54 "answer_chance" d6 rfl
 obtain ⟨zavo, zavp, zavq, zavr⟩ := D 55 "answer_next" fC rfl
 obtain ⟨zavw, zavx, zavy, zavz⟩ := D 56 "answer_sure" fA rfl
 obtain ⟨zawe, zawf, zawg, zawh⟩ := D 57 "tells_twice" fw rfl
 obtain ⟨zawm, zawn, zawo, zawp⟩ := D 58 "behind_length" dY rfl
 obtain ⟨zawu, zawv, zaww, zawx⟩ := D 59 "answer_curtain" bu rfl
 obtain ⟨zaxc, zaxd, zaxe, zaxf⟩ := D 60 "answer_one_call" cW rfl
 obtain ⟨zaxk, zaxl, zaxm, zaxn⟩ := D 61 "answers" fj rfl
 obtain ⟨zajg, zajh, zaji, zajj⟩ := MT 0 "__init__" "TextReader.__init__" cY rfl
 obtain ⟨zajo, zajp, zajq, zajr⟩ := MT 1 "stands_here" "TextReader.stands_here" bw rfl
 obtain ⟨zajw, zajx, zajy, zajz⟩ := MT 2 "take_end" "TextReader.take_end" bW rfl
 obtain ⟨zake, zakf, zakg, zakh⟩ := MT 3 "rank_here" "TextReader.rank_here" bO rfl
 obtain ⟨zakm, zakn, zako, zakp⟩ := MT 4 "step_over" "TextReader.step_over" bN rfl
 obtain ⟨zaku, zakv, zakw, zakx⟩ := MT 5 "take_seat" "TextReader.take_seat" bJ rfl
 obtain ⟨zalc, zald, zale, zalf⟩ := MT 6 "take_card" "TextReader.take_card" bM rfl
 obtain ⟨zalk, zall, zalm, zaln⟩ := MT 7 "take_mark" "TextReader.take_mark" bK rfl
 obtain ⟨zals, zalt, zalu, zalv⟩ := MT 8 "take_suit" "TextReader.take_suit" bI rfl
 obtain ⟨zama, zamb, zamc, zamd⟩ := MT 9 "take_hand" "TextReader.take_hand" bL rfl
 obtain ⟨zano, zanp, zanq, zanr⟩ := MC 0 "__init__" "CallReader.__init__" cZ rfl
 obtain ⟨zanw, zanx, zany, zanz⟩ := MC 1 "has_more" "CallReader.has_more" bY rfl
 obtain ⟨zaoe, zaof, zaog, zaoh⟩ := MC 2 "take_numbers" "CallReader.take_numbers" br rfl
 obtain ⟨zaom, zaon, zaoo, zaop⟩ := MC 3 "take_row" "CallReader.take_row" bX rfl
 obtain ⟨zaou, zaov, zaow, zaox⟩ := MC 4 "take_rows" "CallReader.take_rows" bP rfl
 rw [hfa] at zaxn
 injection zaxn with zaxn
 injection zaxn with zaxn
 subst zaxn
 refine ⟨zaxl, ?_, fun P w base => ?_⟩
 ·obtain ⟨oc, od, kV, doc, pm, an, cdv, ct, osl, rfl, lk, hcd⟩ := zaxm.ex
  exact fun s us hu => match us, hu with | [_], _ => .of_eq rfl
 have zans := kt (P := P) (w := w) (base := base) zanq T c_CallReader
 have zant : aB K zanp ["self", "calls"] [] := zanq.binds (ps := ["self", "calls"]) fun _ _ _ _ _ _ us hl => match us, hl with | [_, _], _ => rfl
 have zaxt : CN P w K mg base aT 1 "CallReader" CC ["self", "calls"] (n9 K CC) := ⟨c_CallReader.cl, m_CC, zano, zanp, zans, zant, mH.mk_ zanr mk_CC kp_CC⟩
 have zaoa := iX (P := P) (w := w) (base := base) zany T c_CallReader
 have zaob : aB K zanx ["self"] [] := zany.binds (ps := ["self"]) fun _ _ _ _ _ _ us hl => match us, hl with | [_], _ => rfl
 have zaod : jW P w K mg base aT 1 CC "has_more" ["self"] (uw K CC) := ⟨zanw, zanx, zaoa, zaob, zanz⟩
 have zaae := l8 (P := P) (w := w) (base := base) zaac T
 have zaaf : aB K zaab [] [] := zaac.binds (ps := []) fun _ _ _ _ _ _ us hl => match us, hl with | [], _ => rfl
 have zaag := eG zaae zaaf zaad zaac
 have zajk := kq (P := P) (w := w) (base := base) zaji T c_TextReader zaag
 have zajl : aB K zajh ["self", "text"] [] := zaji.binds (ps := ["self", "text"]) fun _ _ _ _ _ _ us hl => match us, hl with | [_, _], _ => rfl
 have zaxs : CN P w K mg base aT 2 "TextReader" CT ["self", "text"] (nZ K CT) := ⟨c_TextReader.cl, m_CT, zajg, zajh, zajk, zajl, mH.mk_ zajj mk_CT kp_CT⟩
 have zajs := gR (P := P) (w := w) (base := base) zajq T c_TextReader
 have zajt : aB K zajp ["self", "sign"] [] := zajq.binds (ps := ["self", "sign"]) fun _ _ _ _ _ _ us hl => match us, hl with | [_, _], _ => rfl
 have zajv : jW P w K mg base aT 1 CT "stands_here" ["self", "sign"] (gw K CT) := ⟨zajo, zajp, zajs, zajt, zajr⟩
 have zaky := ir (P := P) (w := w) (base := base) zakw T c_TextReader XC XI zajv
 have zakz : aB K zakv ["self"] [] := zakw.binds (ps := ["self"]) fun _ _ _ _ _ _ us hl => match us, hl with | [_], _ => rfl
 have zalb : jW P w K mg base (f7 P w CF) 2 CT "take_seat" ["self"] (uu K CT CF) := ⟨zaku, zakv, zaky, zakz, zakx⟩
 have zakq := iz (P := P) (w := w) (base := base) zako T c_TextReader XC XI zajv
 have zakr : aB K zakn ["self", "sign"] [] := zako.binds (ps := ["self", "sign"]) fun _ _ _ _ _ _ us hl => match us, hl with | [_, _], _ => rfl
 have zakt : jW P w K mg base (f7 P w CF) 2 CT "step_over" ["self", "sign"] (qR K CT CF) := ⟨zakm, zakn, zakq, zakr, zakp⟩
 have zaki := iA (P := P) (w := w) (base := base) zakg T c_TextReader zajv
 have zakj : aB K zakf ["self"] [] := zakg.binds (ps := ["self"]) fun _ _ _ _ _ _ us hl => match us, hl with | [_], _ => rfl
 have zakl : jW P w K mg base aT 2 CT "rank_here" ["self"] (uv K CT) := ⟨zake, zakf, zaki, zakj, zakh⟩
 have zaau := uQ (P := P) (w := w) (base := base) zaas T
 have zaav : aB K zaar ["deal", "seat"] [] := zaas.binds (ps := ["deal", "seat"]) fun _ _ _ _ _ _ us hl => match us, hl with | [_, _], _ => rfl
 have zaaw := eG zaau zaav zaat zaas
 have zalg := iy (P := P) (w := w) (base := base) zale T c_TextReader XC XI zaaw
 have zalh : aB K zald ["self", "seat", "card"] [] := zale.binds (ps := ["self", "seat", "card"]) fun _ _ _ _ _ _ us hl => match us, hl with | [_, _, _], _ => rfl
 have zalj : jW P w K mg base (f7 P w CF) 2 CT "take_card" ["self", "seat", "card"] (qQ K CT CF) := ⟨zalc, zald, zalg, zalh, zalf⟩
 have zaam := uS (P := P) (w := w) (base := base) zaak T
 have zaan : aB K zaaj ["suit", "rank"] [] := zaak.binds (ps := ["suit", "rank"]) fun _ _ _ _ _ _ us hl => match us, hl with | [_, _], _ => rfl
 have zaao := eG zaam zaan zaal zaak
 have zalw := iq (P := P) (w := w) (base := base) zalu T c_TextReader XC XI zakl zalj zaao
 have zalx : aB K zalt ["self", "seat", "suit"] [] := zalu.binds (ps := ["self", "seat", "suit"]) fun _ _ _ _ _ _ us hl => match us, hl with | [_, _, _], _ => rfl
 have zalz : jW P w K mg base (f7 P w CF) 3 CT "take_suit" ["self", "seat", "suit"] (qP K CT CF) := ⟨zals, zalt, zalw, zalx, zalv⟩
 have zalo := iu (P := P) (w := w) (base := base) zalm T c_TextReader XC XI zajv zaaw
 have zalp : aB K zall ["self", "seat"] [] := zalm.binds (ps := ["self", "seat"]) fun _ _ _ _ _ _ us hl => match us, hl with | [_, _], _ => rfl
 have zalr : jW P w K mg base (f7 P w CF) 2 CT "take_mark" ["self", "seat"] (ux K CT CF) := ⟨zalk, zall, zalo, zalp, zaln⟩
 have zame := iw (P := P) (w := w) (base := base) zamc T c_TextReader XC XI zajv zalz zakt zalr
 have zamf : aB K zamb ["self", "seat"] [] := zamc.binds (ps := ["self", "seat"]) fun _ _ _ _ _ _ us hl => match us, hl with | [_, _], _ => rfl
 have zamh : jW P w K mg base (f7 P w CF) 4 CT "take_hand" ["self", "seat"] (qU K CT CF) := ⟨zama, zamb, zame, zamf, zamd⟩
 have zaka := iV (P := P) (w := w) (base := base) zajy T c_TextReader XC XI
 have zakb : aB K zajx ["self"] [] := zajy.binds (ps := ["self"]) fun _ _ _ _ _ _ us hl => match us, hl with | [_], _ => rfl
 have zakd : jW P w K mg base (f7 P w CF) 2 CT "take_end" ["self"] (yo K CT CF) := ⟨zajw, zajx, zaka, zakb, zajz⟩
 have zamm := k9 (P := P) (w := w) (base := base) zamk T c_TextReader zaxs zalb zakt zamh zakd
 have zamn : aB K zamj ["text"] [] := zamk.binds (ps := ["text"]) fun _ _ _ _ _ _ us hl => match us, hl with | [_], _ => rfl
 have zamo := eG zamm zamn zaml zamk
 have zabk := l5 (P := P) (w := w) (base := base) zabi T
 have zabl : aB K zabh ["deal"] [] := zabi.binds (ps := ["deal"]) fun _ _ _ _ _ _ us hl => match us, hl with | [_], _ => rfl
 have zabm := eG zabk zabl zabj zabi
 have zabs := oN (P := P) (w := w) (base := base) zabq T zabm
 have zabt : aB K zabp ["deal"] [] := zabq.binds (ps := ["deal"]) fun _ _ _ _ _ _ us hl => match us, hl with | [_], _ => rfl
 have zabu := eG zabs zabt zabr zabq
 have zatg := oQ (P := P) (w := w) (base := base) zate T XC zamo zabu
 have zath : aB K zatd ["boards", "plain", "rows"] [] := zate.binds (ps := ["boards", "plain", "rows"]) fun _ _ _ _ _ _ us hl => match us, hl with | [_, _, _], _ => rfl
 have zati := eG zatg zath zatf zate
 have zamu := pH (P := P) (w := w) (base := base) zams T zaao
 have zamv : aB K zamr ["deal", "seat", "suit"] [] := zams.binds (ps := ["deal", "seat", "suit"]) fun _ _ _ _ _ _ us hl => match us, hl with | [_, _, _], _ => rfl
 have zamw := eG zamu zamv zamt zams
 have zanc := pI (P := P) (w := w) (base := base) zana T zaaw zamw
 have zand : aB K zamz ["deal", "seat"] [] := zana.binds (ps := ["deal", "seat"]) fun _ _ _ _ _ _ us hl => match us, hl with | [_, _], _ => rfl
 have zane := eG zanc zand zanb zana
 have zank := ng (P := P) (w := w) (base := base) zani T zane
 have zanl : aB K zanh ["deal"] [] := zani.binds (ps := ["deal"]) fun _ _ _ _ _ _ us hl => match us, hl with | [_], _ => rfl
 have zanm := eG zank zanl zanj zani
 have zaqm := np (P := P) (w := w) (base := base) zaqk T zanm
 have zaqn : aB K zaqj ["boards", "plain", "rows"] [] := zaqk.binds (ps := ["boards", "plain", "rows"]) fun _ _ _ _ _ _ us hl => match us, hl with | [_, _, _], _ => rfl
 have zaqo := eG zaqm zaqn zaql zaqk
 have zaie := rE (P := P) (w := w) (base := base) zaic T
 have zaif : aB K zaib ["number"] [] := zaic.binds (ps := ["number"]) fun _ _ _ _ _ _ us hl => match us, hl with | [_], _ => rfl
 have zaig := eG zaie zaif zaid zaic
 have zagq := rC (P := P) (w := w) (base := base) zago T
 have zagr : aB K zagn ["number"] [] := zago.binds (ps := ["number"]) fun _ _ _ _ _ _ us hl => match us, hl with | [_], _ => rfl
 have zags := eG zagq zagr zagp zago
 have zagy := m9 (P := P) (w := w) (base := base) zagw T zags
 have zagz : aB K zagv ["rooms"] [] := zagw.binds (ps := ["rooms"]) fun _ _ _ _ _ _ us hl => match us, hl with | [_], _ => rfl
 have zaha := eG zagy zagz zagx zagw
 have zabc := tf (P := P) (w := w) (base := base) zaba T zaaw
 have zabd : aB K zaaz ["deal"] [] := zaba.binds (ps := ["deal"]) fun _ _ _ _ _ _ us hl => match us, hl with | [_], _ => rfl
 have zabe := eG zabc zabd zabb zaba
 have zahg := ma (P := P) (w := w) (base := base) zahe T zaha zabe
 have zahh : aB K zahd ["deal"] [] := zahe.binds (ps := ["deal"]) fun _ _ _ _ _ _ us hl => match us, hl with | [_], _ => rfl
 have zahi := eG zahg zahh zahf zahe
 have zaqu := nu (P := P) (w := w) (base := base) zaqs T zaig zahi
 have zaqv : aB K zaqr ["boards", "plain", "rows"] [] := zaqs.binds (ps := ["boards", "plain", "rows"]) fun _ _ _ _ _ _ us hl => match us, hl with | [_, _, _], _ => rfl
 have zaqw := eG zaqu zaqv zaqt zaqs
 have zaca := tj (P := P) (w := w) (base := base) zaby T
 have zacb : aB K zabx ["deal"] [] := zaby.binds (ps := ["deal"]) fun _ _ _ _ _ _ us hl => match us, hl with | [_], _ => rfl
 have zacc := eG zaca zacb zabz zaby
 have zahw := jY (P := P) (w := w) (base := base) zahu T zaha zabe
 have zahx : aB K zaht ["deal", "whole"] [] := zahu.binds (ps := ["deal", "whole"]) fun _ _ _ _ _ _ us hl => match us, hl with | [_, _], _ => rfl
 have zahy := eG zahw zahx zahv zahu
 have zarc := mf (P := P) (w := w) (base := base) zara T zaig zacc zaag zahy
 have zard : aB K zaqz ["boards", "plain", "rows"] [] := zara.binds (ps := ["boards", "plain", "rows"]) fun _ _ _ _ _ _ us hl => match us, hl with | [_, _, _], _ => rfl
 have zare := eG zarc zard zarb zara
 have zaim := ni (P := P) (w := w) (base := base) zaik T
 have zain : aB K zaij ["digits", "bound"] [] := zaik.binds (ps := ["digits", "bound"]) fun _ _ _ _ _ _ us hl => match us, hl with | [_, _], _ => rfl
 have zaio := eG zaim zain zail zaik
 have zaho := nj (P := P) (w := w) (base := base) zahm T zahi zaag
 have zahp : aB K zahl [] [] := zahm.binds (ps := []) fun _ _ _ _ _ _ us hl => match us, hl with | [], _ => rfl
 have zahq := eG zaho zahp zahn zahm
 have zajc := k8 (P := P) (w := w) (base := base) zaja T zaha zabe
 have zajd : aB K zaiz ["deal", "place"] [] := zaja.binds (ps := ["deal", "place"]) fun _ _ _ _ _ _ us hl => match us, hl with | [_, _], _ => rfl
 have zaje := eG zajc zajd zajb zaja
 have zark := oW (P := P) (w := w) (base := base) zari T zaio zahq zaag zaje
 have zarl : aB K zarh ["boards", "plain", "rows"] [] := zari.binds (ps := ["boards", "plain", "rows"]) fun _ _ _ _ _ _ us hl => match us, hl with | [_, _, _], _ => rfl
 have zarm := eG zark zarl zarj zari
 have zars := pK (P := P) (w := w) (base := base) zarq T zaio zahi zaje
 have zart : aB K zarp ["boards", "plain", "rows"] [] := zarq.binds (ps := ["boards", "plain", "rows"]) fun _ _ _ _ _ _ us hl => match us, hl with | [_, _, _], _ => rfl
 have zaru := eG zars zart zarr zarq
 have zaci := Ah (P := P) (w := w) (base := base) zacg T
 have zacj : aB K zacf ["whole", "deal"] [] := zacg.binds (ps := ["whole", "deal"]) fun _ _ _ _ _ _ us hl => match us, hl with | [_, _], _ => rfl
 have zack := eG zaci zacj zach zacg
 have zasq := nr (P := P) (w := w) (base := base) zaso T zacc zack zaig zahy
 have zasr : aB K zasn ["boards", "plain", "rows"] [] := zaso.binds (ps := ["boards", "plain", "rows"]) fun _ _ _ _ _ _ us hl => match us, hl with | [_, _, _], _ => rfl
 have zass := eG zasq zasr zasp zaso
 have zaiu := kX (P := P) (w := w) (base := base) zais T zahq
 have zaiv : aB K zair ["start", "board"] [] := zais.binds (ps := ["start", "board"]) fun _ _ _ _ _ _ us hl => match us, hl with | [_, _], _ => rfl
 have zaiw := eG zaiu zaiv zait zais
 have zasa := lf (P := P) (w := w) (base := base) zary T zaio zahq zaag zaje zaiw
 have zasb : aB K zarx ["boards", "plain", "rows"] [] := zary.binds (ps := ["boards", "plain", "rows"]) fun _ _ _ _ _ _ us hl => match us, hl with | [_, _, _], _ => rfl
 have zasc := eG zasa zasb zarz zary
 have zacq := uP (P := P) (w := w) (base := base) zaco T
 have zacr : aB K zacn ["deal", "steps"] [] := zaco.binds (ps := ["deal", "steps"]) fun _ _ _ _ _ _ us hl => match us, hl with | [_, _], _ => rfl
 have zacs := eG zacq zacr zacp zaco
 have zasi := me (P := P) (w := w) (base := base) zasg T zacs
 have zasj : aB K zasf ["boards", "plain", "rows"] [] := zasg.binds (ps := ["boards", "plain", "rows"]) fun _ _ _ _ _ _ us hl => match us, hl with | [_, _, _], _ => rfl
 have zask := eG zasi zasj zash zasg
 have zacy := pG (P := P) (w := w) (base := base) zacw T zaag zaao
 have zacz : aB K zacv ["deal", "row"] [] := zacw.binds (ps := ["deal", "row"]) fun _ _ _ _ _ _ us hl => match us, hl with | [_, _], _ => rfl
 have zada := eG zacy zacz zacx zacw
 have zasy := nl (P := P) (w := w) (base := base) zasw T zada
 have zasz : aB K zasv ["boards", "plain", "rows"] [] := zasw.binds (ps := ["boards", "plain", "rows"]) fun _ _ _ _ _ _ us hl => match us, hl with | [_, _, _], _ => rfl
 have zata := eG zasy zasz zasx zasw
 have zadg := tw (P := P) (w := w) (base := base) zade T
 have zadh : aB K zadd ["deal", "seat"] [] := zade.binds (ps := ["deal", "seat"]) fun _ _ _ _ _ _ us hl => match us, hl with | [_, _], _ => rfl
 have zadi := eG zadg zadh zadf zade
 have zato := oV (P := P) (w := w) (base := base) zatm T zadi
 have zatp : aB K zatl ["boards", "plain", "rows"] [] := zatm.binds (ps := ["boards", "plain", "rows"]) fun _ _ _ _ _ _ us hl => match us, hl with | [_, _, _], _ => rfl
 have zatq := eG zato zatp zatn zatm
 have zafk := yN (P := P) (w := w) (base := base) zafi T
 have zafl : aB K zafh ["hand", "worths"] [] := zafi.binds (ps := ["hand", "worths"]) fun _ _ _ _ _ _ us hl => match us, hl with | [_, _], _ => rfl
 have zafm := eG zafk zafl zafj zafi
 have zafs := l7 (P := P) (w := w) (base := base) zafq T
 have zaft : aB K zafp ["hand", "suit"] [] := zafq.binds (ps := ["hand", "suit"]) fun _ _ _ _ _ _ us hl => match us, hl with | [_, _], _ => rfl
 have zafu := eG zafs zaft zafr zafq
 have zaga := kZ (P := P) (w := w) (base := base) zafy T
 have zagb : aB K zafx ["ranks"] [] := zafy.binds (ps := ["ranks"]) fun _ _ _ _ _ _ us hl => match us, hl with | [_], _ => rfl
 have zagc := eG zaga zagb zafz zafy
 have zagi := oO (P := P) (w := w) (base := base) zagg T zafm zafu zagc
 have zagj : aB K zagf ["hand"] [] := zagg.binds (ps := ["hand"]) fun _ _ _ _ _ _ us hl => match us, hl with | [_], _ => rfl
 have zagk := eG zagi zagj zagh zagg
 have zatw := ko (P := P) (w := w) (base := base) zatu T zadi zaaw zagk
 have zatx : aB K zatt ["boards", "plain", "rows"] [] := zatu.binds (ps := ["boards", "plain", "rows"]) fun _ _ _ _ _ _ us hl => match us, hl with | [_, _, _], _ => rfl
 have zaty := eG zatw zatx zatv zatu
 have zawi := oM (P := P) (w := w) (base := base) zawg T
 have zawj : aB K zawf ["row"] [] := zawg.binds (ps := ["row"]) fun _ _ _ _ _ _ us hl => match us, hl with | [_], _ => rfl
 have zawk := eG zawi zawj zawh zawg
 have zawq := md (P := P) (w := w) (base := base) zawo T
 have zawr : aB K zawn ["cards"] [] := zawo.binds (ps := ["cards"]) fun _ _ _ _ _ _ us hl => match us, hl with | [_], _ => rfl
 have zaws := eG zawq zawr zawp zawo
 have zawy := lg (P := P) (w := w) (base := base) zaww T zacc zawk zadi zaws
 have zawz : aB K zawv ["boards", "plain", "rows"] [] := zaww.binds (ps := ["boards", "plain", "rows"]) fun _ _ _ _ _ _ us hl => match us, hl with | [_, _, _], _ => rfl
 have zaxa := eG zawy zawz zawx zaww
 have zadw := oK (P := P) (w := w) (base := base) zadu T
 have zadx : aB K zadt ["deal", "card", "holder"] [] := zadu.binds (ps := ["deal", "card", "holder"]) fun _ _ _ _ _ _ us hl => match us, hl with | [_, _, _], _ => rfl
 have zady := eG zadw zadx zadv zadu
 have zaue := oU (P := P) (w := w) (base := base) zauc T zaaw zady
 have zauf : aB K zaub ["boards", "plain", "rows"] [] := zauc.binds (ps := ["boards", "plain", "rows"]) fun _ _ _ _ _ _ us hl => match us, hl with | [_, _, _], _ => rfl
 have zaug := eG zaue zauf zaud zauc
 have zaum := mh (P := P) (w := w) (base := base) zauk T zady
 have zaun : aB K zauj ["boards", "plain", "rows"] [] := zauk.binds (ps := ["boards", "plain", "rows"]) fun _ _ _ _ _ _ us hl => match us, hl with | [_, _, _], _ => rfl
 have zauo := eG zaum zaun zaul zauk
 have zaem := xl (P := P) (w := w) (base := base) zaek T zabe
 have zaen : aB K zaej ["deal", "other"] [] := zaek.binds (ps := ["deal", "other"]) fun _ _ _ _ _ _ us hl => match us, hl with | [_, _], _ => rfl
 have zaeo := eG zaem zaen zael zaek
 have zauu := oS (P := P) (w := w) (base := base) zaus T zaeo
 have zauv : aB K zaur ["boards", "plain", "rows"] [] := zaus.binds (ps := ["boards", "plain", "rows"]) fun _ _ _ _ _ _ us hl => match us, hl with | [_, _, _], _ => rfl
 have zauw := eG zauu zauv zaut zaus
 have zavc := nv (P := P) (w := w) (base := base) zava T zaag
 have zavd : aB K zauz ["boards", "plain", "rows"] [] := zava.binds (ps := ["boards", "plain", "rows"]) fun _ _ _ _ _ _ us hl => match us, hl with | [_, _, _], _ => rfl
 have zave := eG zavc zavd zavb zava
 have zaeu := jZ (P := P) (w := w) (base := base) zaes T
 have zaev : aB K zaer ["first", "second"] [] := zaes.binds (ps := ["first", "second"]) fun _ _ _ _ _ _ us hl => match us, hl with | [_, _], _ => rfl
 have zaew := eG zaeu zaev zaet zaes
 have zafc := rF (P := P) (w := w) (base := base) zafa T zaaw zabm zaew
 have zafd : aB K zaez ["deal", "card", "seat"] [] := zafa.binds (ps := ["deal", "card", "seat"]) fun _ _ _ _ _ _ us hl => match us, hl with | [_, _, _], _ => rfl
 have zafe := eG zafc zafd zafb zafa
 have zavk := mi (P := P) (w := w) (base := base) zavi T zafe
 have zavl : aB K zavh ["boards", "plain", "rows"] [] := zavi.binds (ps := ["boards", "plain", "rows"]) fun _ _ _ _ _ _ us hl => match us, hl with | [_, _, _], _ => rfl
 have zavm := eG zavk zavl zavj zavi
 have zavs := oR (P := P) (w := w) (base := base) zavq T zacc zaag zahy zahq zaje
 have zavt : aB K zavp ["boards", "plain", "rows"] [] := zavq.binds (ps := ["boards", "plain", "rows"]) fun _ _ _ _ _ _ us hl => match us, hl with | [_, _, _], _ => rfl
 have zavu := eG zavs zavt zavr zavq
 have zado := kj (P := P) (w := w) (base := base) zadm T zaaw
 have zadp : aB K zadl ["deal"] [] := zadm.binds (ps := ["deal"]) fun _ _ _ _ _ _ us hl => match us, hl with | [_], _ => rfl
 have zadq := eG zado zadp zadn zadm
 have zaee := rB (P := P) (w := w) (base := base) zaec T
 have zaef : aB K zaeb ["deal", "seat"] [] := zaec.binds (ps := ["deal", "seat"]) fun _ _ _ _ _ _ us hl => match us, hl with | [_, _], _ => rfl
 have zaeg := eG zaee zaef zaed zaec
 have zawa := oP (P := P) (w := w) (base := base) zavy T zadq zaeg zabm
 have zawb : aB K zavx ["boards", "plain", "rows"] [] := zavy.binds (ps := ["boards", "plain", "rows"]) fun _ _ _ _ _ _ us hl => match us, hl with | [_, _, _], _ => rfl
 have zawc := eG zawa zawb zavz zavy
 have G_FORMS : GT K mg "FORMS" aF ((l.map fun x => (x.1, x.2.1)).map fun x => V.ref x.1) := by rw [List.map_map]; exact Fo.g
 have el : ∀ (i : Nat) (x : Addr × Form), (l.map fun x => (x.1, x.2.1))[i]? = some x -> ∃ y, allForms[i]? = some y /\ y.1 = x.2 := fun i x hx => by
  rw [List.getElem?_map] at hx
  obtain ⟨z, hz, rfl⟩ := Option.map_eq_some_iff.mp hx
  refine ⟨z.2, ?_, rfl⟩
  rw [<- hl, List.getElem?_map, hz]
  rfl
 have hat : ∀ x ∈ l.map (fun x => (x.1, x.2.1)), vn P w K mg base 6 x.1 x.2 := fun x hx => by
  obtain ⟨y, hy, rfl⟩ := List.mem_map.mp hx
  have hy2 : y.2 ∈ allForms := by
   rw [<- hl]
   exact List.mem_map.mpr ⟨y, hy, rfl⟩
  obtain ⟨a, fm, nm⟩ := y
  unfold allForms at hy2
  simp only [List.mem_cons, List.not_mem_nil, or_false, Prod.mk.injEq] at hy2
  rcases hy2 with ⟨rfl, rfl⟩ | ⟨rfl, rfl⟩ | ⟨rfl, rfl⟩ | ⟨rfl, rfl⟩ | ⟨rfl, rfl⟩ | ⟨rfl, rfl⟩ | ⟨rfl, rfl⟩ | ⟨rfl, rfl⟩ | ⟨rfl, rfl⟩ | ⟨rfl, rfl⟩ | ⟨rfl, rfl⟩ | ⟨rfl, rfl⟩ | ⟨rfl, rfl⟩ | ⟨rfl, rfl⟩ | ⟨rfl, rfl⟩ | ⟨rfl, rfl⟩ | ⟨rfl, rfl⟩ | ⟨rfl, rfl⟩ | ⟨rfl, rfl⟩ | ⟨rfl, rfl⟩
  ·exact Fo.form hy (k := 6) (by decide) zati
  ·exact Fo.form hy (k := 5) (by decide) zaqo
  ·exact Fo.form hy (k := 4) (by decide) zaqw
  ·exact Fo.form hy (k := 4) (by decide) zare
  ·exact Fo.form hy (k := 5) (by decide) zarm
  ·exact Fo.form hy (k := 4) (by decide) zaru
  ·exact Fo.form hy (k := 4) (by decide) zass
  ·exact Fo.form hy (k := 6) (by decide) zasc
  ·exact Fo.form hy (k := 2) (by decide) zask
  ·exact Fo.form hy (k := 3) (by decide) zata
  ·exact Fo.form hy (k := 2) (by decide) zatq
  ·exact Fo.form hy (k := 3) (by decide) zaty
  ·exact Fo.form hy (k := 2) (by decide) zaxa
  ·exact Fo.form hy (k := 2) (by decide) zaug
  ·exact Fo.form hy (k := 2) (by decide) zauo
  ·exact Fo.form hy (k := 4) (by decide) zauw
  ·exact Fo.form hy (k := 2) (by decide) zave
  ·exact Fo.form hy (k := 3) (by decide) zavm
  ·exact Fo.form hy (k := 5) (by decide) zavu
  ·exact Fo.form hy (k := 3) (by decide) zawc
 have zaoi := gL (P := P) (w := w) (base := base) zaog T c_CallReader
 have zaoj : aB K zaof ["self", "how_many"] [] := zaog.binds (ps := ["self", "how_many"]) fun _ _ _ _ _ _ us hl => match us, hl with | [_, _], _ => rfl
 have zaol : jW P w K mg base aT 1 CC "take_numbers" ["self", "how_many"] (qT K CC) := ⟨zaoe, zaof, zaoi, zaoj, zaoh⟩
 have zaoq := iW (P := P) (w := w) (base := base) zaoo T c_CallReader zaol
 have zaor : aB K zaon ["self"] [] := zaoo.binds (ps := ["self"]) fun _ _ _ _ _ _ us hl => match us, hl with | [_], _ => rfl
 have zaot : jW P w K mg base aT 2 CC "take_row" ["self"] (yi K CC) := ⟨zaom, zaon, zaoq, zaor, zaop⟩
 have zaoy := iB (P := P) (w := w) (base := base) zaow T c_CallReader zaot
 have zaoz : aB K zaov ["self", "how_many"] [] := zaow.binds (ps := ["self", "how_many"]) fun _ _ _ _ _ _ us hl => match us, hl with | [_, _], _ => rfl
 have zapb : jW P w K mg base aT 3 CC "take_rows" ["self", "how_many"] (qS K CC) := ⟨zaou, zaov, zaoy, zaoz, zaox⟩
 have zapg := tm (P := P) (w := w) (base := base) zape T
 have zaph : aB K zapd ["number", "highest"] [] := zape.binds (ps := ["number", "highest"]) fun _ _ _ _ _ _ us hl => match us, hl with | [_, _], _ => rfl
 have zapi := eG zapg zaph zapf zape
 have zapo := kY (P := P) (w := w) (base := base) zapm T zapi
 have zapp : aB K zapl ["plain", "bounds"] [] := zapm.binds (ps := ["plain", "bounds"]) fun _ _ _ _ _ _ us hl => match us, hl with | [_, _], _ => rfl
 have zapq := eG zapo zapp zapn zapm
 have zapw := nh (P := P) (w := w) (base := base) zapu T zapi
 have zapx : aB K zapt ["row", "shape"] [] := zapu.binds (ps := ["row", "shape"]) fun _ _ _ _ _ _ us hl => match us, hl with | [_, _], _ => rfl
 have zapy := eG zapw zapx zapv zapu
 have zaqe := l6 (P := P) (w := w) (base := base) zaqc T zapy
 have zaqf : aB K zaqb ["rows", "shapes"] [] := zaqc.binds (ps := ["rows", "shapes"]) fun _ _ _ _ _ _ us hl => match us, hl with | [_, _], _ => rfl
 have zaqg := eG zaqe zaqf zaqd zaqc
 have zaxg := km (P := P) (w := w) (base := base) zaxe T c_CallReader G_FORMS hat (fun i x hx => by obtain ⟨y, hy, e⟩ := el i x hx; rw [<- e]; exact zd i y hy) (fun q n k h => by obtain ⟨i, x, e, hx⟩ := xL q n k h; rw [<- hl, List.getElem?_map] at hx; obtain ⟨z, hz, _⟩ := Option.map_eq_some_iff.mp hx; exact ⟨i, (z.1, z.2.1), e, by rw [List.getElem?_map, hz]; rfl⟩) zaol zapb zapq zaqg
 have zaxh : aB K zaxd ["reader", "boards"] [] := zaxe.binds (ps := ["reader", "boards"]) fun _ _ _ _ _ _ us hl => match us, hl with | [_, _], _ => rfl
 have zaxi := eG zaxg zaxh zaxf zaxe
 have zaxo := uT (P := P) (w := w) (base := base) zaxm T c_CallReader zaxt zaod zaxi
 have zaxp : aB K zaxl ["calls"] [] := zaxm.binds (ps := ["calls"]) fun _ _ _ _ _ _ us hl => match us, hl with | [_], _ => rfl
 exact zaxo
end
end Db
end
section
namespace Db
open PySem PySem.W PySem.Calls PyProof.Rows
theorem Ba (w : World) (os : OsState) : ∃ s, topRun treeTable pw w 11 t8 3625 (S0 w os) (topStub pw) = some s /\ A1 pw qE ["FORMS"] CU pM.obs (pM.val w) (boot_heap w.params) s := by
 obtain ⟨s, e, l1⟩ := Option.map_eq_some_iff.mp (kd (k1 w os))
 have more : ∀ {β : Type} {L : Shared -> β} {r : β}, (topRun treeTable pw w 11 t8 (12 + (1 + (3610 + 2))) (S0 w os) (topStub pw)).map L = some r -> L s = r := fun h => by
  rw [e] at h
  exact Option.some.inj h
 have l2 := more (kd (k2 w os))
 rw [<- Fast.te5160383126252970620] at l2
 obtain ⟨a1, b1⟩ := Prod.mk.inj l1
 obtain ⟨a2, a3⟩ := Prod.mk.inj b1
 obtain ⟨a4, a5⟩ := Prod.mk.inj a3
 obtain ⟨c1, c2⟩ := Prod.mk.inj l2
 exact ⟨s, e, a1, Prod.ext c1 (Prod.ext a2 (Prod.ext (more (kd (k3 w os))) (Prod.ext (more (kd (k7 w os))) (Prod.ext c2 (Prod.ext (more (kd (k4 w os))) (Prod.ext a4 (Prod.ext (more (kd (k6 w os))) a5))))))), more (kd (k5 w os))⟩
theorem Cm : LeftO pw qE ["FORMS"] CU pM.obs pM.val 3625 := by
 refine Aq (H := boot_heap) (gs := Array.mk []) (d := boot_drawn) (k := boot_toks) (m := 11) (ann := t8) (M := 3625) (boot_open ?_ rfl fun s => rfl) (fun w => ⟨?_, ?_, ?_⟩) Ba (Nat.le_refl _)
 ·kernel_rfl
 ·kernel_rfl
 ·kernel_rfl
 ·kernel_rfl
def d0 : DefRec := ⟨"answers", L2.i6 fj, L2.gZ fj, L2.ai fj, ⟨425, 0, 433, 15⟩⟩
theorem B5 {r : OpenSpec} {q : Program} {loose : List Str} {XP : (Str -> Option Value) -> Heap -> Prop} {d : DefRec} {run : Value -> List Value -> Sem Value} (h : ∀ K : Frag, pW K = seenE -> WalkOS q loose XP (fun _ h => K.In h) r d [] run) : WalkOS q loose XP pM.says r d [] run :=
 fun w s0 s1 mg mb G Y => by
  obtain ⟨K, X, e⟩ := Y
  exact h K e w s0 s1 mg mb G X
end Db
open PySem PySem.W PyProof.Rows
theorem PySem.Challenge.cw_dealboards_s01_answers_holds : PySem.Challenge.rw_dealboards_s01_answers.Holds := by
 refine holds_os (q := Db.qE) (loose := ["FORMS"]) (Xt := Db.CU) (XP := XL Db.qE []) (Yf := Db.pM.obs) (Ya := Db.pM.val) (YP := Db.pM.says) (d := Db.d0) (kwd := []) (N := 3625) Db.Cm Db.pM.of Db.pM.keeps (fun s e => xl_of s (Bool.and_eq_true_iff.mp e).1) XL.keeps ?h1 ?h2 ?h3 (fun s e => recFacts_of (Bool.and_eq_true_iff.mp e).2) os_shapes ?h4 ?h5 ⟨rfl, rfl, rfl, rfl, rfl, by decide +kernel⟩ ⟨[.list [.int 16, .int 0]], by decide +kernel, by decide +kernel⟩ ?h6
 case h1 => kernel_rfl
 case h2 => kernel_rfl
 case h3 => kernel_rfl
 case h4 => decide +kernel
 case h5 => decide +kernel
 case h6 =>
  refine Db.B5 fun K e => ?_
  refine L2.uk (r := PySem.Challenge.rw_dealboards_s01_answers) (k := 8) (CX := L2.aT) (ps := ["calls"]) (sp := Db.lK) (K := fun _ => K) (by decide +kernel) ?g1 rfl ⟨rfl, by decide, by decide⟩ (fun w h Y => Y) ?F ?S (fun _ _ _ _ z => z)
  case g1 => kernel_rfl
  case F =>
   intro w mg fa h Y KX G hmg
   obtain ⟨fd, b, k⟩ := Db.Cz KX G e hmg
   exact ⟨fd, b, fun base _ _ => k _ w base⟩
  case S =>
   intro K H xs a hO hwi hask hx
   cases hx with
   | cons h1 h2 =>
     cases h2
     cases h1 with
     | lst hs ha =>
       have e := L2.wo a.1 _ ha
       subst e
       exact ⟨_, a.1, rfl, hs, hask, fun H' q _ _ hp => .lst (L2.bj.of hp) (L2.wA _)⟩
end

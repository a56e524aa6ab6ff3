import PyProof.Rows.All
import Wide.All
import OpenK.AllK
import Wide.FinOn
import Lean
import PyProof.EqAt
import PyProof.EqKinds
import PyProof.TupleCall
import KE.KTryMore
import KE.KRevIter
import PyProof.CollectIter
import PyProof.ConsumeWalk
import PyProof.TupleOfStr
import KE.KIsAll
import PyProof.ExcArgs
import PyProof.ExcAttrAll.ValueError
import PyProof.CompUse
import PyProof.NeKinds
import PyProof.EnumIter
import PyProof.EnumFor
import PyProof.EnumMake
import PyProof.EnumStmt
import PyProof.ListMulRoad
import PyProof.ZipIter
import PyProof.TupleIter
import PyProof.Rows.SortWalk
import PyProof.SetKind
import PyProof.Rows.SetFrom
import PyProof.FactsAll.set_1
import KE.KDictSum
import PyProof.FactsAll.set_2
import PyProof.FactsAll.tuple_2
import PyProof.ReprRoads
import PyProof.Rows.SeqMore
import PyProof.ReprLen
import PyProof.WalkInts
import PyProof.SeqI3
import PyProof.Rows.TupIter
import PyProof.ListRange
import PyProof.SumWalk
import PySem.Challenge.RW_circuits_k14_forms_of_tables
set_option Elab.async false
set_option linter.all false
set_option maxRecDepth 100000
set_option genSizeOf false
set_option genInjectivity false
theorem PySem.W.Fast.te16056516558029925586 : True := trivial
local macro_rules | `(tactic| omega) => `(tactic| first | with_reducible assumption | decide | with_reducible exact Nat.le_refl _ | with_reducible exact Nat.zero_le _ | lia)
local macro_rules | `(tactic| walk_at "1") => `(tactic| (first | exact Or.inl rfl | exact Or.inr (Or.inl rfl) | exact Or.inr (Or.inr rfl)))
local macro_rules | `(tactic| walk_at "2") => `(tactic| (first | exact .inl rfl | exact .inr rfl | assumption))
local macro_rules | `(tactic| walk_at "3") => `(tactic| (first | exact Or.inl rfl | exact Or.inr rfl))
namespace L2
open PySem PySem.Spec PyProof.Rows
noncomputable abbrev Key := Sum Int Str
noncomputable def keyIs : Key -> Value -> Bool
 | .inl k, v => Value.isInt k v
 | .inr x, v => Value.isStrOf x v
noncomputable def keyH (w : World) : Key -> Int
 | .inl k => hashInt k
 | .inr x => hashStr w x
theorem keyIs_shape : ∀ {k : Key} {v : Value}, keyIs k v = true -> (∃ i t, k = Sum.inl i /\ v = Value.int i t) \/ (∃ x t, k = Sum.inr x /\ v = Value.str x t)
 | .inl i, v, h => by
  obtain ⟨t, e⟩ := Value.isInt_shape (k := i) (v := v) h
  exact .inl ⟨i, t, rfl, e⟩
 | .inr x, v, h => by
  obtain ⟨t, e⟩ := Value.isStrOf_shape (x := x) (v := v) h
  exact .inr ⟨x, t, rfl, e⟩
theorem key_ll (a b : Int) : decide ((Sum.inl a : Key) = Sum.inl b) = (a == b) := by
 by_cases e : a = b
 ·subst e; simp
 ·have h : ¬ (Sum.inl a : Key) = Sum.inl b := fun q => e (Sum.inl.inj q)
  rw [decide_eq_false h]
  exact (beq_eq_false_iff_ne.mpr e).symm
theorem key_rr (a b : Str) : decide ((Sum.inr a : Key) = Sum.inr b) = decide (a = b) := by
 by_cases e : a = b
 ·subst e; simp
 ·have h : ¬ (Sum.inr a : Key) = Sum.inr b := fun q => e (Sum.inr.inj q)
  rw [decide_eq_false h, decide_eq_false e]
theorem key_lr (a : Int) (b : Str) : decide ((Sum.inl a : Key) = Sum.inr b) = false := decide_eq_false (fun q => nomatch q)
theorem key_rl (a : Str) (b : Int) : decide ((Sum.inr a : Key) = Sum.inl b) = false := decide_eq_false (fun q => nomatch q)
noncomputable def mixKind (prog : Program) (w : World) : PySem.KeyKind prog w Key where
 is := keyIs
 hash := keyH w
 inj := fun v a b ha hb => by
  rcases keyIs_shape ha with ⟨i, t, rfl, rfl⟩ | ⟨x, t, rfl, rfl⟩
  ·rcases keyIs_shape hb with ⟨j, u, rfl, e⟩ | ⟨y, u, rfl, e⟩
   ·injection e with e1 _; rw [e1]
   ·exact nomatch e
  ·rcases keyIs_shape hb with ⟨j, u, rfl, e⟩ | ⟨y, u, rfl, e⟩
   ·exact nomatch e
   ·injection e with e1 _; rw [e1]
 byValue := fun k v h => by
  rcases keyIs_shape h with ⟨i, t, rfl, rfl⟩ | ⟨x, t, rfl, rfl⟩ <;> rfl
 pyHash := fun hv h => by
  rcases keyIs_shape hv with ⟨i, t, rfl, rfl⟩ | ⟨x, t, rfl, rfl⟩
  ·exact wpAny_pyHash_int h
  ·exact wpAny_pyHash_str h
 eqBool := fun hu hv h => by
  rcases keyIs_shape hu with ⟨i, t, rfl, rfl⟩ | ⟨x, t, rfl, rfl⟩
  ·rcases keyIs_shape hv with ⟨j, u, rfl, rfl⟩ | ⟨y, u, rfl, rfl⟩
   ·rw [key_ll] at h; exact wpAny_eqBool_int h
   ·rw [key_lr] at h; exact SeqAt.EqAt.int_str i t y u _ _ _ _ h
  ·rcases keyIs_shape hv with ⟨j, u, rfl, rfl⟩ | ⟨y, u, rfl, rfl⟩
   ·rw [key_rl] at h; exact SeqAt.EqAt.str_int x t j u _ _ _ _ h
   ·rw [key_rr] at h; exact wpAny_eqBool_str h
 «strs» := fun k x t v h => by
  rcases keyIs_shape h with ⟨i, u, rfl, e⟩ | ⟨y, u, rfl, e⟩
  ·exact nomatch e
  ·injection e with e1 _
   subst e1
   cases v <;> rfl
end L2
namespace L2
open PySem PySem.Spec PyProof.Rows
set_option genInjectivity true in
inductive V where
 | non | bl (b : Bool) | int (i : Int) | str (x : Str) | byt (b : Array UInt8) | flt (b : UInt64) | ref (a : Addr) | ty (n : String)
noncomputable instance : DecidableEq V := fun _ _ => Classical.propDecidable _
def RelV : V -> Value -> Prop
 | .non, u => u = Value.none
 | .bl b, u => u = Value.bool b
 | .int i, u => ∃ t, u = Value.int i t
 | .str x, u => ∃ t, u = Value.str x t
 | .byt b, u => ∃ t, u = Value.bytes b t
 | .flt b, u => ∃ t, u = Value.float b t
 | .ref a, u => u = Value.ref a
 | .ty n, u => u = Value.type n
abbrev Vals : List V -> List Value -> Prop := Paired RelV
theorem Vals.length {xs : List V} {us : List Value} (r : Vals xs us) : xs.length = us.length := Paired.length r
theorem Vals.get : ∀ {xs : List V} {us : List Value} {i : Nat} {x : V}, Vals xs us -> xs[i]? = some x -> ∃ u, us[i]? = some u /\ RelV x u
 | _, _, _, _, .nil, e => by simp at e
 | _, _, 0, _, .cons r _, e => by simp at e; subst e; exact ⟨_, rfl, r⟩
 | _, _, i + 1, x, .cons _ t, e => by
  obtain ⟨u, h1, h2⟩ := Vals.get (i := i) (x := x) t (by simpa using e)
  exact ⟨u, by simpa using h1, h2⟩
theorem Vals.set {x : V} {u : Value} (r : RelV x u) : ∀ {xs : List V} {us : List Value} (i : Nat), Vals xs us -> Vals (xs.set i x) (us.set i u)
 | _, _, _, .nil => .nil
 | _, _, 0, .cons _ t => .cons r t
 | _, _, i + 1, .cons q t => .cons q (Vals.set r i t)
theorem Vals.append : ∀ {xs ys : List V} {us ws : List Value}, Vals xs us -> Vals ys ws -> Vals (xs ++ ys) (us ++ ws)
 | _, _, _, _, .nil, s => s
 | _, _, _, _, .cons r t, s => .cons r (Vals.append t s)
theorem Vals.take : ∀ {xs : List V} {us : List Value} (n : Nat), Vals xs us -> Vals (xs.take n) (us.take n)
 | _, _, 0, _ => .nil
 | _, _, _ + 1, .nil => .nil
 | _, _, n + 1, .cons r t => .cons r (Vals.take n t)
theorem Vals.drop : ∀ {xs : List V} {us : List Value} (n : Nat), Vals xs us -> Vals (xs.drop n) (us.drop n)
 | _, _, 0, r => r
 | _, _, _ + 1, .nil => .nil
 | _, _, n + 1, .cons _ t => Vals.drop n t
def RelO : Option V -> Option Value -> Prop
 | some v, some u => RelV v u
 | none, none => True
 | _, _ => False
def KV {κ : Type} : List (κ × V) -> List (κ × Value) -> Prop := Paired fun (p : κ × V) (q : κ × Value) => p.1 = q.1 /\ RelV p.2 q.2
noncomputable def kV : Key -> V
 | .inl i => .int i
 | .inr x => .str x
inductive HO where
 /-- a list -/
 | lst (xs : List V)
 /-- a tuple (never changes) -/
 | tup (xs : List V)
 /-- a dict whose keys are ints and texts; one whose keys are tuples of ints and texts (the empty one is both) -/
 | dK (kvs : List (Key × V)) | dT (kvs : List (List Key × V))
 /-- a set of ints: its members, its size -/
 | set (S : Int -> Bool) (n : Nat)
 /-- an instance of the class at C, its dict at dx, its attributes -/
 | ins (C dx : Addr) (fs : List (Str × V))
 /-- the dict of the instance at x -/
 | own (x : Addr)
 /-- the dict of an exception -/
 | xd (fs : List (Str × V))
 /-- a bound method, f of x -/
 | met (f x : Addr)
 /-- a range object lo, lo + 1, .. below hi -/
 | rng (lo hi : Int)
 /-- a thing that is known to the object (the script; a dict while a loop walks it): read, never written while it is so -/
 | frz (o : Obj) (u : HO)
 /-- a code object's table -/
 | tbl (ps : Array Value)
 /-- any other thing, by what is true of its one object (a def of one's own: SetO a S n := HO.ext fun h => ..) -/
 | ext (φ : Heap -> Prop)
noncomputable abbrev Hp := Addr -> Option HO
noncomputable def upd (H : Hp) (a : Addr) (o : HO) : Hp := fun b => if b = a then some o else H b
theorem upd_same {H : Hp} {a : Addr} {o : HO} : upd H a o a = some o := by unfold upd; rw [if_pos rfl]
theorem upd_ne {H : Hp} {a b : Addr} {o : HO} (h : b ≠ a) : upd H a o b = H b := by unfold upd; rw [if_neg h]
theorem ne_of {H : Hp} {a b : Addr} {o u : HO} (h : H a = some o) (h' : H b = some u) (d : o ≠ u) : a ≠ b := by
 intro e; subst e; rw [h] at h'; exact d (Option.some.inj h')
theorem ne_of_none {H : Hp} {a b : Addr} {o : HO} (h : H a = some o) (h' : H b = none) : a ≠ b := by
 intro e; subst e; rw [h] at h'; cases h'
section
variable (P : Program) (w : World)
def ObjOk (H : Hp) (h : Heap) (a : Addr) : HO -> Prop
 | .lst xs => xs.length <= sizeLine /\ ∃ (its : List Value) (n : Nat), Vals xs its /\ h.get? a = some { cls := .type "list", data := .seq its.toArray n }
 | .tup xs => xs.length <= sizeLine /\ ∃ its : List Value, Vals xs its /\ IsTup h a its.toArray
 | .dK kvs => kvs.length <= sizeLine /\ (a == sysModules) = false /\ ∃ vs, KV kvs vs /\ h.DictOf (mixKind P w) a vs
 | .dT kvs => kvs.length <= sizeLine /\ (a == sysModules) = false /\ ∃ xs : List (List Key × Addr × Value),
   Paired (fun (p : List Key × V) (q : List Key × Addr × Value) => p.1 = q.1 /\ H q.2.1 = some (.tup (p.1.map kV)) /\ RelV p.2 q.2.2) kvs xs /\
   ∃ o es ep, h.get? a = some o /\ o.ExactDict /\ o.data = .dict es ep /\ es.toList = xs.map (entryOfKey (tupleKind (mixKind P w))) /\ (xs.map (·.1)).Nodup
 | .set S n => h.SetOf (intKind P w) a S n
 | .ins C dx fs => H dx = some (.own a) /\ fs.length <= 1000 /\ dx ≠ a /\ h.get? a = some (PySem.W.instObj C dx) /\
   ∃ mA, h.Ns1 dx mA /\ (∀ f, RelO (fs.lookup f) (mA f)) /\ PySem.Within mA (fs.map (·.1))
 | .own _ => ∃ o, h.get? a = some o
 | .xd fs => ∃ mA, h.Ns1 a mA /\ ∀ f, RelO (fs.lookup f) (mA f)
 | .rng lo hi => ∃ t u v, h.get? a = some { cls := .type "range", data := .fields #[.int lo t, .int hi u, .int 1 v] }
 | .frz o u => h.get? a = some o /\ ObjOk H h a u
 | .tbl ps => h.get? a = some { cls := .none, data := .fields ps }
 | .met f x => h.get? a = some (PySem.W.methodObj (.ref f) (.ref x))
 | .ext φ => φ h /\ (∃ o, h.get? a = some o) /\ ∀ h1 h2 : Heap, φ h1 -> (∀ o, h1.get? a = some o -> h2.get? a = some o) -> φ h2
def HOk (H : Hp) (h : Heap) : Prop := ∀ a o, H a = some o -> ObjOk P w H h a o
end
section
variable {P : Program} {w : World} {H H' : Hp} {h h' : Heap} {a : Addr} {o : HO}
theorem ObjOk.lt (x : ObjOk P w H h a o) : a < h.objs.size := by
 cases o with
 | lst xs => obtain ⟨_, _, _, _, e⟩ := x; exact Heap.lt_size e
 | tup xs => obtain ⟨_, _, _, p⟩ := x; exact p.lt
 | dK kvs => obtain ⟨_, _, _, _, o, _, _, e, _⟩ := x; exact Heap.lt_size e
 | dT kvs => obtain ⟨_, _, _, _, o, _, _, e, _⟩ := x; exact Heap.lt_size e
 | set S n => obtain ⟨o, _, _, _, e, _⟩ := x; exact Heap.lt_size e
 | ins C dx fs => obtain ⟨_, _, _, e, _⟩ := x; exact Heap.lt_size e
 | own y => obtain ⟨_, e⟩ := x; exact Heap.lt_size e
 | xd fs => obtain ⟨_, ⟨_, _, _, e, _⟩, _⟩ := x; exact Heap.lt_size e
 | rng lo hi => obtain ⟨_, _, _, e⟩ := x; exact Heap.lt_size e
 | frz ob u => obtain ⟨e, _⟩ := x; exact Heap.lt_size e
 | tbl ps => exact Heap.lt_size (show h.get? a = some _ from x)
 | met f y => exact Heap.lt_size (show h.get? a = some _ from x)
 | ext φ => obtain ⟨_, ⟨_, e⟩, _⟩ := x; exact Heap.lt_size e
theorem Paired.mapP {α β : Type} {F G : α -> β -> Prop} : ∀ {l₁ : List α} {l₂ : List β}, Paired F l₁ l₂ -> (∀ a b, F a b -> G a b) -> Paired G l₁ l₂
 | _, _, .nil, _ => .nil
 | _, _, .cons r t, f => .cons (f _ _ r) (Paired.mapP t f)
theorem ObjOk.stay (x : ObjOk P w H h a o) (k : ∀ b u, (b = a \/ H b = some (.own a)) -> h.get? b = some u -> h'.get? b = some u)
  (ho : ∀ b, H b = some (.own a) -> H' b = some (.own a)) (ht : ∀ b xs, H b = some (.tup xs) -> H' b = some (.tup xs)) : ObjOk P w H' h' a o := by
 induction o with
 | lst xs => obtain ⟨z, its, n, r, e⟩ := x; exact ⟨z, its, n, r, k _ _ (.inl rfl) e⟩
 | tup xs => obtain ⟨z, its, r, ob, e, c⟩ := x; exact ⟨z, its, r, ob, k _ _ (.inl rfl) e, c⟩
 | dK kvs => obtain ⟨z, y, vs, r, ob, es, ep, e, c⟩ := x; exact ⟨z, y, vs, r, ob, es, ep, k _ _ (.inl rfl) e, c⟩
 | dT kvs =>
  obtain ⟨z, y, xs, r, ob, es, ep, e, c⟩ := x
  exact ⟨z, y, xs, Paired.mapP r fun p q z => ⟨z.1, ht _ _ z.2.1, z.2.2⟩, ob, es, ep, k _ _ (.inl rfl) e, c⟩
 | set S n => obtain ⟨ob, es, ep, t, e, c⟩ := x; exact ⟨ob, es, ep, t, k _ _ (.inl rfl) e, c⟩
 | ins C dx fs =>
  obtain ⟨d, z, ne, e, mA, ⟨od, es, ep, e2, c⟩, r⟩ := x
  exact ⟨ho _ d, z, ne, k _ _ (.inl rfl) e, mA, ⟨od, es, ep, k _ _ (.inr d) e2, c⟩, r⟩
 | own y => obtain ⟨ob, e⟩ := x; exact ⟨ob, k _ _ (.inl rfl) e⟩
 | xd fs => obtain ⟨mA, ⟨od, es, ep, e, c⟩, r⟩ := x; exact ⟨mA, ⟨od, es, ep, k _ _ (.inl rfl) e, c⟩, r⟩
 | rng lo hi => obtain ⟨t, u, v, e⟩ := x; exact ⟨t, u, v, k _ _ (.inl rfl) e⟩
 | frz ob u ih => obtain ⟨e, q⟩ := x; exact ⟨k _ _ (.inl rfl) e, ih q⟩
 | tbl ps =>
  have e : h.get? a = some { cls := .none, data := .fields ps } := x
  show h'.get? a = some { cls := .none, data := .fields ps }
  exact k a _ (.inl rfl) e
 | met f y =>
  have e : h.get? a = some (PySem.W.methodObj (.ref f) (.ref y)) := x
  show h'.get? a = some (PySem.W.methodObj (.ref f) (.ref y))
  exact k a _ (.inl rfl) e
 | ext φ => obtain ⟨p, ⟨o, e⟩, st⟩ := x; exact ⟨st _ _ p fun o q => k _ _ (.inl rfl) q, ⟨o, k _ _ (.inl rfl) e⟩, st⟩
theorem HOk.lt (x : HOk P w H h) (e : H a = some o) : a < h.objs.size := (x a o e).lt
theorem HOk.fresh (x : HOk P w H h) (e : h.objs.size <= a) : H a = none := by
 cases q : H a with
 | none => rfl
 | some u => exact absurd (Nat.lt_of_lt_of_le (x.lt q) e) (Nat.lt_irrefl _)
theorem HOk.kept (x : HOk P w H h) (k : ∀ b u, h.get? b = some u -> h'.get? b = some u) : HOk P w H h' := fun a o e =>
 (x a o e).stay (fun b u _ q => k b u q) (fun _ q => q) fun _ _ q => q
theorem HOk.laid (x : HOk P w H h) (k : ∀ b u, h.get? b = some u -> h'.get? b = some u) (hp : h.objs.size <= a) (new : ObjOk P w (upd H a o) h' a o) : HOk P w (upd H a o) h' := fun b u e => by
 have hn := x.fresh hp
 by_cases hb : b = a
 ·subst hb; rw [upd_same] at e; cases e; exact new
 ·rw [upd_ne hb] at e
  exact (x b u e).stay (fun c v _ q => k c v q) (fun c q => by rw [upd_ne (ne_of_none q hn)]; exact q) fun c xs q => by rw [upd_ne (ne_of_none q hn)]; exact q
end
def Rd (H : Hp) (a : Addr) (u : HO) : Prop := H a = some u \/ ∃ o, H a = some (.frz o u)
theorem Rd.ok {P : Program} {w : World} {H : Hp} {h : Heap} {a : Addr} {u : HO} (r : Rd H a u) (x : HOk P w H h) : ObjOk P w H h a u := by
 rcases r with r | ⟨o, r⟩
 ·exact x a u r
 ·obtain ⟨_, q⟩ := x a _ r
  exact q
def Mut : Option HO -> Prop
 | some (.lst _) => True
 | some (.dK _) => True
 | some (.dT _) => True
 | some (.set _ _) => True
 | some (.ins _ _ _) => True
 | some (.ext _) => True
 | _ => False
section
variable {P : Program} {w : World} {H : Hp} {h h' : Heap} {x e : Addr} {o' : HO}
theorem HOk.write (ok : HOk P w H h) (mu : Mut (H x)) (he : e = x \/ H e = some (.own x)) (k : ∀ b u, b ≠ e -> h.get? b = some u -> h'.get? b = some u) (heo : ∃ u, h'.get? e = some u)
  (new : ObjOk P w (upd H x o') h' x o') : HOk P w (upd H x o') h' := fun b u q => by
 have nown : ∀ c y, H c = some (.own y) -> c ≠ x := fun c y r z => by subst z; rw [r] at mu; exact mu
 have ntup : ∀ c xs, H c = some (.tup xs) -> c ≠ x := fun c xs r z => by subst z; rw [r] at mu; exact mu
 by_cases hb : b = x
 ·subst hb; rw [upd_same] at q; cases q; exact new
 ·rw [upd_ne hb] at q
  by_cases hbe : b = e
  ·have q' : H b = some (.own x) := by
    rcases he with z | z
    ·exact absurd (hbe.trans z) hb
    ·rw [hbe]; exact z
   rw [q] at q'; cases q'
   obtain ⟨v, hv⟩ := heo
   exact ⟨v, by rw [hbe]; exact hv⟩
  ·refine (ok b u q).stay (fun c v hc r => k c v ?_ r) (fun c r => by rw [upd_ne (nown c b r)]; exact r) fun c xs r => by rw [upd_ne (ntup c xs r)]; exact r
   rcases hc with rfl | hc
   ·exact hbe
   ·rintro rfl
    rcases he with z | z
    ·exact nown c b hc z
    ·rw [hc] at z; cases z; exact hb rfl
end
structure Un (fs ex : List Addr) (H H' : Hp) (h h' : Heap) : Prop where
 keep : ∀ b o, h.get? b = some o -> H b = none -> b ∉ fs -> b ∉ ex -> h'.get? b = some o
 slot : ∀ b o, h.get? b = some o -> H b = none -> b ∈ fs -> b ∉ ex -> ∃ sl, h'.get? b = some { o with slots := sl }
 free : ∀ b o, h.get? b = some o -> H b = none -> b ∉ ex -> H' b = none
 there : ∀ b o, h.get? b = some o -> b ∉ ex -> ∃ o', h'.get? b = some o'
 tups : ∀ b xs, H b = some (.tup xs) -> H' b = some (.tup xs)
 frzs : ∀ b o u, H b = some (.frz o u) -> H' b = some (.frz o u)
 tbls : ∀ b ps, H b = some (.tbl ps) -> ∃ more, H' b = some (.tbl (ps ++ more))
section
variable {fs fs' ex ex' : List Addr} {H H1 H2 : Hp} {h h1 h2 h' : Heap} {a x e : Addr} {o : HO}
theorem Un.any (u : Un fs ex H H1 h h1) {b : Addr} {ob : Obj} (q : h.get? b = some ob) (n : H b = none) (hx : b ∉ ex) : ∃ sl, h1.get? b = some { ob with slots := sl } := by
 by_cases hb : b ∈ fs
 ·exact u.slot b ob q n hb hx
 ·exact ⟨ob.slots, u.keep b ob q n hb hx⟩
theorem Un.kept (k : ∀ b u, h.get? b = some u -> h'.get? b = some u) : Un fs ex H H h h' :=
 ⟨fun b ob q _ _ _ => k b ob q, fun b ob q _ _ _ => ⟨ob.slots, k b ob q⟩, fun _ _ _ n _ => n, fun b ob q _ => ⟨ob, k b ob q⟩, fun _ _ q => q, fun _ _ _ q => q, fun _ ps q => ⟨#[], by rw [q]; simp⟩⟩
theorem Un.refl : Un fs ex H H h h := Un.kept fun _ _ q => q
theorem Un.laid (k : ∀ b u, h.get? b = some u -> h'.get? b = some u) (hp : h.objs.size <= a) (hn : H a = none) : Un fs ex H (upd H a o) h h' where
 keep := fun b u q _ _ _ => k b u q
 slot := fun b u q _ _ _ => ⟨u.slots, k b u q⟩
 free := fun b u q n _ => by rw [upd_ne (Nat.ne_of_lt (Nat.lt_of_lt_of_le (Heap.lt_size q) hp))]; exact n
 there := fun b u q _ => ⟨u, k b u q⟩
 tups := fun b xs q => by rw [upd_ne (ne_of_none q hn)]; exact q
 frzs := fun b u xs q => by rw [upd_ne (ne_of_none q hn)]; exact q
 tbls := fun b ps q => ⟨#[], by rw [upd_ne (ne_of_none q hn), q]; simp⟩
theorem Un.write (mu : Mut (H x)) (he : e = x \/ H e = some (.own x)) (k : ∀ b u, b ≠ e -> h.get? b = some u -> h'.get? b = some u) (heo : ∃ u, h'.get? e = some u) : Un fs ex H (upd H x o) h h' := by
 have hx : ∀ b, H b = none -> b ≠ x := fun b n z => by subst z; rw [n] at mu; exact mu
 have hb : ∀ b, H b = none -> b ≠ e := fun b n z => by
  subst z
  rcases he with r | r
  ·exact hx b n r
  ·rw [n] at r; cases r
 have hm : ∀ b u, H b = some u -> ¬ Mut (some u) -> b ≠ x := fun b u q nm z => by subst z; rw [q] at mu; exact nm mu
 refine ⟨fun b u q n _ _ => k b u (hb b n) q, fun b u q n _ _ => ⟨u.slots, k b u (hb b n) q⟩, fun b u q n _ => by rw [upd_ne (hx b n)]; exact n, fun b u q _ => ?_,
  fun b xs q => by rw [upd_ne (hm b _ q fun z => z)]; exact q, fun b u xs q => by rw [upd_ne (hm b _ q fun z => z)]; exact q, fun b ps q => ⟨#[], by rw [upd_ne (hm b _ q fun z => z), q]; simp⟩⟩
 by_cases hbe : b = e
 ·subst hbe; exact heo
 ·exact ⟨u, k b u hbe q⟩
end
noncomputable def trk (h : Heap) (H : Hp) : List Addr := (List.range h.objs.size).filter fun a => (H a).isSome
noncomputable def hidT (h : Heap) (H : Hp) : Heap := PySem.W.hideAll h (trk h H)
theorem hidT_size (h : Heap) (H : Hp) : (hidT h H).objs.size = h.objs.size := PySem.W.hideAll_size _ _
theorem hidT_get {h : Heap} {H : Hp} {b : Addr} {o : Obj} (e : h.get? b = some o) (n : H b = none) : (hidT h H).get? b = some o :=
 PySem.W.hideAll_get _ e fun hm => by
  have q : (H b).isSome = true := (List.mem_filter.mp hm).2
  rw [n] at q; simp at q
theorem of_hidT {h : Heap} {H : Hp} {b : Addr} {o : Obj} (e : (hidT h H).get? b = some o) : h.get? b = some o /\ H b = none := by
 have e' : h.get? b = some o := PySem.W.of_hideAll (trk h H) e
 refine ⟨e', ?_⟩
 cases q : H b with
 | none => rfl
 | some x =>
  have hm : b ∈ trk h H := List.mem_filter.mpr ⟨List.mem_range.mpr (Heap.lt_size e'), by simp [q]⟩
  have z : (hidT h H).get? b = none := PySem.W.hideAll_none (trk h H) hm
  rw [z] at e; cases e
noncomputable def allNews (g h : Heap) (L : Addr) : List (Addr × Obj) := (List.range h.objs.size).filterMap fun a => if a = L \/ (g.get? a).isSome = true then none else (h.get? a).map fun o => (a, o)
noncomputable def rest (g h : Heap) (L d : Addr) : List (Addr × Obj) := (allNews g h L).filter fun p => decide (p.1 ≠ d)
end L2
namespace L2
open PySem PySem.Spec PyProof.Rows
structure Mod (K : PySem.W.Frag) (mg : Str -> Option Value) (base : Heap) : Prop where
 kin : K.In base
 glob : base.Ns mainGlobals mg
 blt : ∃ mb, base.Ns builtinsNs mb /\ ∀ x : Str, x ≠ "__name__" -> mb x = bootBuiltins x
 nolimit : base.NoLimit
structure Cx where
 prog : Program
 w : World
 K : PySem.W.Frag
 mg : Str -> Option Value
 base : Heap
 A : Around
 N : List Str
 s₀ : Shared
 H₀ : Hp
 env : Env
 outer : List Env
 stack : List Env
 ex : List Addr
 fn : Str -> Bool
 calm : Bool
 pn : List (Addr × Obj)
 xe : Value -> Shared -> Prop
noncomputable def frs (l : List Env) : List Addr := l.filterMap (·.frame)
noncomputable abbrev Cx.fs (X : Cx) : List Addr := frs X.outer
def Vis (sc : Scope) (x : Str) : Prop := sc.names.lookup x = some .local \/ sc.names.lookup x = some .cell \/ sc.names.lookup x = some .free
def Loc (sc : Scope) (x : Str) : Prop := sc.names.lookup x = some .local \/ sc.names.lookup x = some .cell
def Look (env : Env) (h : Heap) (m : Str -> Option Value) (x : Str) (u : Value) : Prop :=
 (env.kindOf x = some .local /\ m x = some u) \/ ((env.kindOf x = some .cell \/ env.kindOf x = some .free) /\ ∃ c, env.cells.lookup x = some c /\ h.IsCell c (some u))
structure Cx.Ok (X : Cx) : Prop where
 mod : Mod X.K X.mg X.base
 kind : X.env.scope.kind = .function
 glob : X.env.globals = mainGlobals
 blt : X.env.builtins = builtinsNs
 above : X.s₀.heap.objs.size <= X.env.locals
 inj : ∀ x y c, X.env.cells.lookup x = some c -> X.env.cells.lookup y = some c -> x = y
 has : ∀ x, (X.env.kindOf x = some .cell \/ X.env.kindOf x = some .free) -> ∃ c, X.env.cells.lookup x = some c
 cab : ∀ x c, X.fn x = true -> X.env.cells.lookup x = some c -> X.s₀.heap.objs.size <= c
 hd : X.calm = true -> X.A.handled = none
 frames : X.A.frames = some X.stack
 stk : X.stack = X.outer \/ (X.stack = X.env :: X.outer /\ X.env.frame = some X.env.locals)
 exf : ∀ b ∈ X.ex, b ≠ X.env.locals /\ ∀ x c, X.env.cells.lookup x = some c -> c ≠ b
 bs : ∀ b o, X.base.get? b = some o -> X.s₀.heap.get? b = some o /\ X.H₀ b = none
 bsz : X.base.objs.size <= X.s₀.heap.objs.size
 noex : ∀ b o, X.base.get? b = some o -> b ∉ X.ex
 exfs : ∀ b ∈ X.ex, b ∉ X.fs
 funs : X.s₀.heap.FunFrames X.base X.outer
 frf : ∀ b ∈ X.fs, X.H₀ b = none
structure Inv (X : Cx) (pins : List (Addr × Obj)) (σ : List (Option V)) (H : Hp) (s : Shared) : Prop where
 ok : X.Ok
 os : s.os = X.s₀.os
 bare : AllBare s.gens
 base : Un X.fs X.ex X.H₀ H X.s₀.heap s.heap
 loc : ∃ m, s.heap.Ns X.env.locals m /\ ∀ (i : Nat) (x : Str) (v : V), X.N[i]? = some x -> σ[i]? = some (some v) -> Vis X.env.scope x -> ∃ u, RelV v u /\ Look X.env s.heap m x u
 cell : ∀ x c, X.env.cells.lookup x = some c -> ∃ v, s.heap.IsCell c v
 free : H X.env.locals = none
 freeC : ∀ x c, X.env.cells.lookup x = some c -> H c = none
 pin : ∀ p ∈ X.pn ++ pins, s.heap.get? p.1 = some p.2 /\ H p.1 = none /\ p.1 ≠ X.env.locals /\ p.1 ∉ X.fs /\ ∀ v, p.2.data ≠ .cell v
 hok : HOk X.prog X.w H s.heap
 len : σ.length = X.N.length
section
variable {X : Cx} {pins : List (Addr × Obj)} {σ : List (Option V)} {H H' : Hp} {s : Shared} {h' : Heap}
theorem Cx.Ok.nofr (ok : X.Ok) {b : Addr} {o : Obj} (e : X.base.get? b = some o) : b ∉ X.fs := fun hb => by
 have := (ok.funs.mem hb).1
 rw [e] at this; cases this
theorem Inv.bs (I : Inv X pins σ H s) : ∀ b o, X.base.get? b = some o -> s.heap.get? b = some o /\ H b = none := fun b o e =>
 ⟨I.base.keep b o (I.ok.bs b o e).1 (I.ok.bs b o e).2 (I.ok.nofr e) (I.ok.noex b o e), I.base.free b o (I.ok.bs b o e).1 (I.ok.bs b o e).2 (I.ok.noex b o e)⟩
theorem Inv.bk (I : Inv X pins σ H s) : ∀ b o, X.base.get? b = some o -> s.heap.get? b = some o := fun b o e => (I.bs b o e).1
theorem Inv.mod (I : Inv X pins σ H s) : Mod X.K X.mg X.base := I.ok.mod
theorem Inv.kIn (I : Inv X pins σ H s) : X.K.In s.heap := I.ok.mod.kin.keeps I.bk
theorem Inv.fr (I : Inv X pins σ H s) : ∃ m, Fr X.base X.env.locals s.heap m :=
 let ⟨m, hn, _⟩ := I.loc
 ⟨m, hn, I.bk, Nat.le_trans I.ok.bsz I.ok.above⟩
theorem Inv.lt (I : Inv X pins σ H s) : X.env.locals < s.heap.objs.size := let ⟨_, hn, _⟩ := I.loc; hn.lt
theorem Inv.sz (I : Inv X pins σ H s) : X.s₀.heap.objs.size <= s.heap.objs.size := Nat.le_trans I.ok.above (Nat.le_of_lt I.lt)
theorem Inv.nofs (I : Inv X pins σ H s) {a : Addr} (h : s.heap.objs.size <= a) : a ∉ X.fs := fun hb => by
 obtain ⟨_, o, ho, _⟩ := I.ok.funs.mem hb
 exact absurd (Nat.lt_of_lt_of_le (Heap.lt_size ho) (Nat.le_trans I.sz h)) (Nat.lt_irrefl _)
theorem Inv.cne (I : Inv X pins σ H s) : ∀ x c, X.env.cells.lookup x = some c -> c ≠ X.env.locals := fun x c e z => by
 obtain ⟨v, o, ho, hd⟩ := I.cell x c e
 obtain ⟨m, ⟨o', es, ep, ho', hd', _⟩, _⟩ := I.loc
 rw [z, ho'] at ho; cases ho; rw [hd'] at hd; cases hd
theorem Inv.funs (I : Inv X pins σ H s) : s.heap.FunFrames X.base X.outer := by
 have all : ∀ (l : List Env), (∀ b ∈ frs l, b ∈ X.fs) -> X.s₀.heap.FunFrames X.base l -> s.heap.FunFrames X.base l := by
  intro l
  induction l with
  | nil => intro _ _; trivial
  | cons env r ih =>
   intro hs hl
   obtain ⟨hk, ⟨L, o, hf, hn, ho, hd⟩, hr⟩ := hl
   have hL : L ∈ X.fs := hs L (by unfold frs; rw [List.filterMap_cons, hf]; exact List.mem_cons_self)
   obtain ⟨sl, e⟩ := I.base.slot L o ho (I.ok.frf L hL) hL fun z => I.ok.exfs L z hL
   exact ⟨hk, ⟨L, _, hf, hn, e, hd⟩, ih (fun b hb => hs b (by unfold frs; rw [List.filterMap_cons, hf]; exact List.mem_cons_of_mem _ hb)) hr⟩
 exact all X.outer (fun _ hb => hb) I.ok.funs
theorem Inv.stack (I : Inv X pins σ H s) : s.heap.FunFrames X.base X.stack := by
 rcases I.ok.stk with e | ⟨e, hf⟩
 ·rw [e]; exact I.funs
 ·rw [e]
  obtain ⟨m, hn, _⟩ := I.loc
  refine .cons (by rw [I.ok.kind]; decide) hf hn ?_ I.funs
  exact Heap.get?_none_of_le (Nat.le_trans I.ok.bsz I.ok.above)
theorem Inv.stkSub (I : Inv X pins σ H s) : ∀ b ∈ frs X.stack, b ∈ X.env.locals :: X.fs := fun b hb => by
 rcases I.ok.stk with e | ⟨e, hf⟩
 ·rw [e] at hb; exact List.mem_cons_of_mem _ hb
 ·rw [e] at hb
  unfold frs at hb
  rw [List.filterMap_cons, hf] at hb
  exact hb
theorem Inv.stkFree (I : Inv X pins σ H s) : ∀ b ∈ frs X.stack, H b = none := fun b hb => by
 rcases List.mem_cons.mp (I.stkSub b hb) with e | hb
 ·rw [e]; exact I.free
 ·obtain ⟨_, o, ho, _⟩ := I.ok.funs.mem hb
  exact I.base.free b o ho (I.ok.frf b hb) fun z => I.ok.exfs b z hb
theorem Inv.step {g' : Array GenState} {t' : Nat} {d' : Drawn} {ch : List Addr} (I : Inv X pins σ H s)
  (hch : ∀ b ∈ ch, (b ∈ X.ex \/ X.s₀.heap.objs.size <= b) /\ b ≠ X.env.locals /\ (∀ x c, X.env.cells.lookup x = some c -> c ≠ b) /\ ∀ p ∈ X.pn ++ pins, p.1 ≠ b)
  (keep : ∀ b o, b ≠ X.env.locals -> b ∉ X.fs -> b ∉ ch -> s.heap.get? b = some o -> H b = none -> h'.get? b = some o)
  (slot : ∀ b o, b ≠ X.env.locals -> b ∈ X.fs -> b ∉ ch -> s.heap.get? b = some o -> H b = none -> ∃ sl, h'.get? b = some { o with slots := sl }) (free : ∀ b o, b ∉ ch -> s.heap.get? b = some o -> H b = none -> H' b = none)
  (there : ∀ b o, b ∉ ch -> s.heap.get? b = some o -> ∃ o', h'.get? b = some o')
  (tups : ∀ b xs, H b = some (.tup xs) -> H' b = some (.tup xs)) (frzs : ∀ b o u, H b = some (.frz o u) -> H' b = some (.frz o u)) (tbls : ∀ b ps, H b = some (.tbl ps) -> ∃ more, H' b = some (.tbl (ps ++ more)))
  (ns : ∀ m, s.heap.Ns X.env.locals m -> h'.Ns X.env.locals m) (hok : HOk X.prog X.w H' h') (hg : AllBare g') :
  Inv X pins σ H' { s with heap := h', gens := g', drawn := d', toks := t' } := by
 have neL : ∀ b o, X.s₀.heap.get? b = some o -> b ≠ X.env.locals := fun b o e => Nat.ne_of_lt (Nat.lt_of_lt_of_le (Heap.lt_size e) I.ok.above)
 have neC : ∀ b o, X.s₀.heap.get? b = some o -> b ∉ X.ex -> b ∉ ch := fun b o e hx hb => by
  rcases (hch b hb).1 with z | z
  ·exact hx z
  ·exact absurd (Nat.lt_of_lt_of_le (Heap.lt_size e) z) (Nat.lt_irrefl _)
 have cellK : ∀ x c, X.env.cells.lookup x = some c -> ∀ v, s.heap.IsCell c v -> h'.IsCell c v := fun x c e v ⟨o, ho, hd⟩ => by
  have nch : c ∉ ch := fun z => (hch c z).2.2.1 x c e rfl
  by_cases hc : c ∈ X.fs
  ·obtain ⟨sl, q⟩ := slot c o (I.cne x c e) hc nch ho (I.freeC x c e)
   exact ⟨_, q, hd⟩
  ·exact ⟨o, keep c o (I.cne x c e) hc nch ho (I.freeC x c e), hd⟩
 refine ⟨I.ok, I.os, hg, ⟨fun b o e n hb hx => ?_, fun b o e n hb hx => ?_, fun b o e n hx => ?_, fun b o e hx => ?_, fun b xs e => tups b xs (I.base.tups b xs e), fun b o xs e => frzs b o xs (I.base.frzs b o xs e), fun b ps e => ?_⟩, ?_, fun x c e => ?_, ?_, fun x c e => ?_, fun p hp => ?_, hok, I.len⟩
 ·exact keep b o (neL b o e) hb (neC b o e hx) (I.base.keep b o e n hb hx) (I.base.free b o e n hx)
 ·obtain ⟨sl, e1⟩ := I.base.slot b o e n hb hx
  obtain ⟨sl', e2⟩ := slot b _ (neL b o e) hb (neC b o e hx) e1 (I.base.free b o e n hx)
  exact ⟨sl', e2⟩
 ·obtain ⟨o', e1⟩ := I.base.there b o e hx
  exact free b o' (neC b o e hx) e1 (I.base.free b o e n hx)
 ·obtain ⟨o', e1⟩ := I.base.there b o e hx
  exact there b o' (neC b o e hx) e1
 ·obtain ⟨m1, e1⟩ := I.base.tbls b ps e
  obtain ⟨m2, e2⟩ := tbls b _ e1
  exact ⟨m1 ++ m2, by rw [e2, Array.append_assoc]⟩
 ·obtain ⟨m, hn, hl⟩ := I.loc
  refine ⟨m, ns m hn, fun i x v e1 e2 e3 => ?_⟩
  obtain ⟨u, r, l⟩ := hl i x v e1 e2 e3
  refine ⟨u, r, ?_⟩
  rcases l with l | ⟨k, c, e, z⟩
  ·exact .inl l
  ·exact .inr ⟨k, c, e, cellK x c e _ z⟩
 ·obtain ⟨v, z⟩ := I.cell x c e
  exact ⟨v, cellK x c e v z⟩
 ·obtain ⟨m, ⟨o, _, _, ho, _⟩, _⟩ := I.loc
  exact free _ o (fun z => (hch _ z).2.1 rfl) ho I.free
 ·obtain ⟨v, o, ho, hd⟩ := I.cell x c e
  exact free c o (fun z => (hch c z).2.2.1 x c e rfl) ho (I.freeC x c e)
 ·obtain ⟨e, n, ne, nf, d⟩ := I.pin p hp
  have nch : p.1 ∉ ch := fun z => (hch p.1 z).2.2.2 p hp rfl
  exact ⟨keep p.1 p.2 ne nf nch e n, free p.1 p.2 nch e n, ne, nf, d⟩
theorem Inv.un {t' : Nat} (I : Inv X pins σ H s) (u : Un X.fs [] H H' s.heap h') (hok : HOk X.prog X.w H' h') : Inv X pins σ H' { s with heap := h', toks := t' } := by
 obtain ⟨m, ⟨o, es, ep, ho, r⟩, _⟩ := id I.loc
 obtain ⟨sl, hL⟩ := u.any ho I.free (by simp)
 exact I.step (g' := s.gens) (d' := s.drawn) (ch := []) (fun _ z => nomatch z) (fun b o _ hb _ e n => u.keep b o e n hb (by simp)) (fun b o _ hb _ e n => u.slot b o e n hb (by simp)) (fun b o _ e n => u.free b o e n (by simp)) (fun b o _ e => u.there b o e (by simp)) u.tups u.frzs u.tbls (fun m' hm => by
  obtain ⟨o', es', ep', ho', r'⟩ := hm
  rw [ho] at ho'; cases ho'
  exact ⟨_, es', ep', hL, r'⟩) hok I.bare
theorem Inv.call {g' : Array GenState} {t' : Nat} {d' : Drawn} {ch : List Addr} (I : Inv X pins σ H s) (u : Un (frs X.stack) ch H H' s.heap h') (hok : HOk X.prog X.w H' h') (hg : AllBare g')
  (hch : ∀ b ∈ ch, (b ∈ X.ex \/ X.s₀.heap.objs.size <= b) /\ b ≠ X.env.locals /\ (∀ x c, X.env.cells.lookup x = some c -> c ≠ b) /\ ∀ p ∈ X.pn ++ pins, p.1 ≠ b) :
  Inv X pins σ H' { s with heap := h', gens := g', drawn := d', toks := t' } := by
 obtain ⟨m, ⟨o, es, ep, ho, r⟩, _⟩ := id I.loc
 obtain ⟨sl, hL⟩ := u.any ho I.free fun z => (hch _ z).2.1 rfl
 exact I.step (ch := ch) hch (fun b o hL hb hc e n => u.keep b o e n (fun z => (List.mem_cons.mp (I.stkSub b z)).elim hL hb) hc) (fun b o _ _ hc e n => u.any e n hc) (fun b o hc e n => u.free b o e n hc) (fun b o hc e => u.there b o e hc) u.tups u.frzs u.tbls (fun m' hm => by
  obtain ⟨o', es', ep', ho', r'⟩ := hm
  rw [ho] at ho'; cases ho'
  exact ⟨_, es', ep', hL, r'⟩) hok hg
theorem Inv.turned {t' : Nat} {it : Addr} (I : Inv X pins σ H s) (k : ∀ b o, b ≠ it -> s.heap.get? b = some o -> h'.get? b = some o) (hn : H it = none) (hL : it ≠ X.env.locals)
  (h1 : it ∈ X.ex \/ X.s₀.heap.objs.size <= it) (h2 : ∀ x c, X.env.cells.lookup x = some c -> c ≠ it) (h3 : ∀ p ∈ X.pn ++ pins, p.1 ≠ it) : Inv X pins σ H { s with heap := h', toks := t' } := by
 have nit : ∀ b u, H b = some u -> b ≠ it := fun b u e z => by rw [z, hn] at e; cases e
 refine I.step (g' := s.gens) (d' := s.drawn) (ch := [it]) (fun b hb => ?_) (fun b o _ _ hc e _ => k b o (fun z => hc (by simp [z])) e) (fun b o _ _ hc e _ => ⟨o.slots, k b o (fun z => hc (by simp [z])) e⟩) (fun _ _ _ _ n => n)
  (fun b o hc e => ⟨o, k b o (fun z => hc (by simp [z])) e⟩) (fun _ _ e => e) (fun _ _ _ e => e) (fun b ps e => ⟨#[], by rw [e]; simp⟩) (fun m hm => ?_) (fun b u e => ?_) I.bare
 ·have e : b = it := by simpa using hb
  subst e
  exact ⟨h1, hL, h2, h3⟩
 ·obtain ⟨o, es, ep, ho, r⟩ := hm
  exact ⟨o, es, ep, k _ o (Ne.symm hL) ho, r⟩
 ·refine (I.hok b u e).stay (fun c v hc q => k c v ?_ q) (fun _ q => q) fun _ _ q => q
  rcases hc with z | z
  ·rw [z]; exact nit b u e
  ·exact nit c _ z
theorem Inv.tok (I : Inv X pins σ H s) (t : Nat) : Inv X pins σ H { s with toks := t } := I.un (h' := s.heap) (t' := t) Un.refl I.hok
theorem Inv.kept {t' : Nat} (I : Inv X pins σ H s) (k : ∀ b u, s.heap.get? b = some u -> h'.get? b = some u) : Inv X pins σ H { s with heap := h', toks := t' } := I.un (Un.kept k) (I.hok.kept k)
theorem Inv.laid {a : Addr} {o : HO} {t' : Nat} (I : Inv X pins σ H s) (k : ∀ b u, s.heap.get? b = some u -> h'.get? b = some u) (hp : s.heap.objs.size <= a) (new : ObjOk X.prog X.w (upd H a o) h' a o) :
  Inv X pins σ (upd H a o) { s with heap := h', toks := t' } := I.un (Un.laid k hp (I.hok.fresh hp)) (I.hok.laid k hp new)
theorem Inv.write {x e : Addr} {o : HO} {t' : Nat} (I : Inv X pins σ H s) (mu : Mut (H x)) (he : e = x \/ H e = some (.own x)) (k : ∀ b u, b ≠ e -> s.heap.get? b = some u -> h'.get? b = some u) (heo : ∃ u, h'.get? e = some u)
  (new : ObjOk X.prog X.w (upd H x o) h' x o) : Inv X pins σ (upd H x o) { s with heap := h', toks := t' } := I.un (Un.write mu he k heo) (I.hok.write mu he k heo new)
theorem Inv.weak {σ' : List (Option V)} (I : Inv X pins σ H s) (hl : σ'.length = σ.length) (w : ∀ (i : Nat) v, σ'[i]? = some (some v) -> σ[i]? = some (some v)) : Inv X pins σ' H s :=
 ⟨I.ok, I.os, I.bare, I.base, let ⟨m, hn, hl'⟩ := I.loc; ⟨m, hn, fun i x v e1 e2 e3 => hl' i x v e1 (w i v e2) e3⟩, I.cell, I.free, I.freeC, I.pin, I.hok, hl.trans I.len⟩
theorem Inv.pins_of {pins' : List (Addr × Obj)} (I : Inv X pins σ H s) (h : ∀ p ∈ pins', s.heap.get? p.1 = some p.2 /\ H p.1 = none /\ p.1 ≠ X.env.locals /\ p.1 ∉ X.fs /\ ∀ v, p.2.data ≠ .cell v) : Inv X pins' σ H s :=
 ⟨I.ok, I.os, I.bare, I.base, I.loc, I.cell, I.free, I.freeC, fun p hp => (List.mem_append.mp hp).elim (fun z => I.pin p (List.mem_append_left _ z)) (h p), I.hok, I.len⟩
theorem nodup_ix {N : List Str} (hN : N.Nodup) {i j : Nat} {x : Str} (a : N[i]? = some x) (b : N[j]? = some x) : i = j := by
 obtain ⟨h1, e1⟩ := List.getElem?_eq_some_iff.mp a
 obtain ⟨h2, e2⟩ := List.getElem?_eq_some_iff.mp b
 exact (List.getElem_inj hN).mp (e1.trans e2.symm)
theorem store_ok2 {M : Model} {A : Around} {E : Value -> Shared -> Prop} {i : Nat} {x : Str} {v : V} {u : Value} {Q : Unit -> Shared -> Prop} (I : Inv X pins σ H s) (hN : X.N.Nodup) (hi : X.N[i]? = some x) (hx : Loc X.env.scope x) (r : RelV v u)
  (h : ∀ s', Inv X pins (σ.set i (some v)) H s' -> (∃ a, Heap.SameBut a s.heap s'.heap /\ (a = X.env.locals \/ X.env.cells.lookup x = some a)) -> Q () s') (hf : X.fn x = true \/ X.env.scope.names.lookup x = some .local := by walk_at "2") : wpAny M A (storeName X.env x u) Q E s := by
 obtain ⟨m, hn, hl⟩ := id I.loc
 have hcls : (X.env.scope.kind == .class || (X.env.scope.kind == .module && X.env.locals != X.env.globals)) = false := by rw [I.ok.kind]; rfl
 have hiσ : i < σ.length := by rw [I.len]; exact (List.getElem?_eq_some_iff.mp hi).1
 have cne := I.cne
 have tracked : ∀ {a : Addr} {h' : Heap}, (∃ o, s.heap.get? a = some o /\ H a = none) -> Heap.SameBut a s.heap h' -> HOk X.prog X.w H h' := fun {a h'} ha hs b ob e => by
  obtain ⟨_, _, hfree⟩ := ha
  refine (I.hok b ob e).stay (fun c w' hc q => (hs.2 c ?_).trans q) (fun _ q => q) fun _ _ q => q
  rintro rfl
  rcases hc with rfl | hc
  ·rw [hfree] at e; cases e
  ·rw [hfree] at hc; cases hc
 rcases hx with hk | hk
 ·refine wpAny_storeName_local hk hn (fun h' hn' hs => ?_) hcls
  obtain ⟨oL, _, _, hoL, _⟩ := id hn
  refine h _ ⟨I.ok, I.os, I.bare, ⟨fun b o e n hb hx => ?_, fun b o e n hb hx => ?_, I.base.free, fun b o e hx => ?_, I.base.tups, I.base.frzs, I.base.tbls⟩, ⟨_, hn', fun j y v' e1 e2 e3 => ?_⟩, fun y c e => ?_, I.free, I.freeC, fun p hp => ?_, tracked ⟨oL, hoL, I.free⟩ hs, by simpa using I.len⟩ ⟨_, hs, .inl rfl⟩
  ·exact (hs.2 b (Nat.ne_of_lt (Nat.lt_of_lt_of_le (Heap.lt_size e) I.ok.above))).trans (I.base.keep b o e n hb hx)
  ·obtain ⟨sl, e1⟩ := I.base.slot b o e n hb hx
   exact ⟨sl, (hs.2 b (Nat.ne_of_lt (Nat.lt_of_lt_of_le (Heap.lt_size e) I.ok.above))).trans e1⟩
  ·obtain ⟨o', e1⟩ := I.base.there b o e hx
   exact ⟨o', (hs.2 b (Nat.ne_of_lt (Nat.lt_of_lt_of_le (Heap.lt_size e) I.ok.above))).trans e1⟩
  ·by_cases hj : j = i
   ·subst hj
    rw [hi] at e1; cases e1
    rw [List.getElem?_set_self hiσ] at e2
    cases e2
    exact ⟨u, r, .inl ⟨hk, by simp⟩⟩
   ·rw [List.getElem?_set_ne (Ne.symm hj)] at e2
    obtain ⟨u', r', q⟩ := hl j y v' e1 e2 e3
    refine ⟨u', r', ?_⟩
    rcases q with ⟨k, e⟩ | ⟨k, c, e, z⟩
    ·refine .inl ⟨k, ?_⟩
     have : y ≠ x := fun e => hj (nodup_ix hN e1 (e ▸ hi))
     simp [this, e]
    ·exact .inr ⟨k, c, e, z.sameBut hs (cne y c e)⟩
  ·obtain ⟨w', z⟩ := I.cell y c e
   exact ⟨w', z.sameBut hs (cne y c e)⟩
  ·obtain ⟨e, n, ne, nf, d⟩ := I.pin p hp
   exact ⟨(hs.2 p.1 ne).trans e, n, ne, nf, d⟩
 ·have hfn : X.fn x = true := by
   rcases hf with z | z
   ·exact z
   ·rw [z] at hk; cases hk
  obtain ⟨c, hc⟩ := I.ok.has x (.inl hk)
  obtain ⟨w', z⟩ := I.cell x c hc
  refine wpAny_storeName_cell I.ok.kind hk hc z (fun h' hc' hs => ?_)
  obtain ⟨oc, hoc, hocd⟩ := id z
  refine h { s with heap := h' } ⟨I.ok, I.os, I.bare, ⟨fun b o e n hb hx => ?_, fun b o e n hb hx => ?_, I.base.free, fun b o e hx => ?_, I.base.tups, I.base.frzs, I.base.tbls⟩, ⟨m, hn.sameBut hs (Ne.symm (cne x c hc)), fun j y v' e1 e2 e3 => ?_⟩, fun y c' e => ?_, I.free, I.freeC, fun p hp => ?_, tracked ⟨oc, hoc, I.freeC x c hc⟩ hs, by simpa using I.len⟩ ⟨c, hs, .inr hc⟩
  ·exact (hs.2 b (Nat.ne_of_lt (Nat.lt_of_lt_of_le (Heap.lt_size e) (I.ok.cab x c hfn hc)))).trans (I.base.keep b o e n hb hx)
  ·obtain ⟨sl, e1⟩ := I.base.slot b o e n hb hx
   exact ⟨sl, (hs.2 b (Nat.ne_of_lt (Nat.lt_of_lt_of_le (Heap.lt_size e) (I.ok.cab x c hfn hc)))).trans e1⟩
  ·obtain ⟨o', e1⟩ := I.base.there b o e hx
   exact ⟨o', (hs.2 b (Nat.ne_of_lt (Nat.lt_of_lt_of_le (Heap.lt_size e) (I.ok.cab x c hfn hc)))).trans e1⟩
  ·by_cases hj : j = i
   ·subst hj
    rw [hi] at e1; cases e1
    rw [List.getElem?_set_self hiσ] at e2
    cases e2
    exact ⟨u, r, .inr ⟨.inl hk, c, hc, hc'⟩⟩
   ·rw [List.getElem?_set_ne (Ne.symm hj)] at e2
    obtain ⟨u', r', q⟩ := hl j y v' e1 e2 e3
    refine ⟨u', r', ?_⟩
    rcases q with q | ⟨k, c', e, z'⟩
    ·exact .inl q
    ·refine .inr ⟨k, c', e, z'.sameBut hs ?_⟩
     rintro rfl
     exact hj (nodup_ix hN e1 (I.ok.inj _ _ _ e hc ▸ hi))
  ·by_cases hcc : c' = c
   ·subst hcc; exact ⟨_, hc'⟩
   ·obtain ⟨w2, z2⟩ := I.cell y c' e
    exact ⟨w2, z2.sameBut hs hcc⟩
  ·obtain ⟨e, n, ne, nf, d⟩ := I.pin p hp
   refine ⟨(hs.2 p.1 ?_).trans e, n, ne, nf, d⟩
   intro q
   rw [q, hoc] at e
   have q' : oc = p.2 := Option.some.inj e
   exact d w' (by rw [<- q']; exact hocd)
theorem store_ok {M : Model} {A : Around} {E : Value -> Shared -> Prop} {i : Nat} {x : Str} {v : V} {u : Value} {Q : Unit -> Shared -> Prop} (I : Inv X pins σ H s) (hN : X.N.Nodup) (hi : X.N[i]? = some x) (hx : Loc X.env.scope x) (r : RelV v u)
  (h : ∀ s', Inv X pins (σ.set i (some v)) H s' -> Q () s') (hf : X.fn x = true \/ X.env.scope.names.lookup x = some .local := by walk_at "2") : wpAny M A (storeName X.env x u) Q E s :=
 store_ok2 I hN hi hx r (fun s' I' _ => h s' I') hf
theorem Inv.call' {s' : Shared} {ch : List Addr} (I : Inv X pins σ H s) (ho : s'.os = s.os) (u : Un (frs X.stack) ch H H' s.heap s'.heap) (hok : HOk X.prog X.w H' s'.heap) (hg : AllBare s'.gens)
  (hch : ∀ b ∈ ch, (b ∈ X.ex \/ X.s₀.heap.objs.size <= b) /\ b ≠ X.env.locals /\ (∀ x c, X.env.cells.lookup x = some c -> c ≠ b) /\ ∀ p ∈ X.pn ++ pins, p.1 ≠ b) : Inv X pins σ H' s' := by
 obtain ⟨h', g', d', t', o'⟩ := s'
 have e : o' = s.os := ho
 subst e
 exact I.call (g' := g') (t' := t') (d' := d') u hok hg hch
end
abbrev XK := Value -> Option Addr -> Hp -> Prop
noncomputable abbrev St := List (Option V)
abbrev VK := V -> Hp -> Prop
abbrev TE := St -> Hp -> VK -> Prop
abbrev TT := St -> Hp -> (Bool -> Hp -> Prop) -> Prop
abbrev TA := St -> Hp -> (List V -> Hp -> Prop) -> Prop
structure Ends where
 nx : St -> Hp -> Prop
 rt : VK
 bk : St -> Hp -> Prop := fun _ _ => False
 ct : St -> Hp -> Prop := fun _ _ => False
abbrev TS := Ends -> St -> Hp -> Prop
def EP (X : Cx) (pins : List (Addr × Obj)) (σ : St) (Q : VK) (u : Value) (s' : Shared) : Prop := ∃ v H', Inv X pins σ H' s' /\ RelV v u /\ Q v H'
def TP (X : Cx) (pins : List (Addr × Obj)) (σ : St) (Q : Bool -> Hp -> Prop) (b : Bool) (s' : Shared) : Prop := ∃ H', Inv X pins σ H' s' /\ Q b H'
def AP (X : Cx) (pins : List (Addr × Obj)) (σ : St) (Q : List V -> Hp -> Prop) (us : List Value) (s' : Shared) : Prop := ∃ vs H', Inv X pins σ H' s' /\ Vals vs us /\ Q vs H'
def SP (X : Cx) (pins : List (Addr × Obj)) (D : Ends) (f : Flow) (s' : Shared) : Prop :=
 match f with
 | .next => ∃ σ' H', Inv X pins σ' H' s' /\ D.nx σ' H'
 | .brk => ∃ σ' H', Inv X pins σ' H' s' /\ D.bk σ' H'
 | .cont => ∃ σ' H', Inv X pins σ' H' s' /\ D.ct σ' H'
 | .ret u => ∃ v σ' H', Inv X pins σ' H' s' /\ RelV v u /\ D.rt v H'
def PE (X : Cx) (e : Expr) (t : TE) : Prop :=
 ∀ (pins : List (Addr × Obj)) (s : Shared) (σ : St) (H : Hp) (Q : VK), Inv X pins σ H s -> t σ H Q -> wpAny (model X.prog X.w) X.A (eval e X.env) (EP X pins σ Q) X.xe s
def PT (X : Cx) (e : Expr) (t : TT) : Prop :=
 ∀ (pins : List (Addr × Obj)) (s : Shared) (σ : St) (H : Hp) (Q : Bool -> Hp -> Prop), Inv X pins σ H s -> t σ H Q -> wpAny (model X.prog X.w) X.A (isTrue e X.env (eval e X.env)) (TP X pins σ Q) X.xe s
def PW (X : Cx) (e : Expr) (t : TT) : Prop :=
 ∀ (whole : Sem Value) (pins : List (Addr × Obj)) (s : Shared) (σ : St) (H : Hp) (Q : Bool -> Hp -> Prop), Inv X pins σ H s -> t σ H Q -> wpAny (model X.prog X.w) X.A (isTrue e X.env whole) (TP X pins σ Q) X.xe s
theorem PW.pt {X : Cx} {e : Expr} {t : TT} (h : PW X e t) : PT X e t := h _
def PA (X : Cx) (es : List Expr) (t : TA) : Prop :=
 ∀ (pos : Pos) (pins : List (Addr × Obj)) (s : Shared) (σ : St) (H : Hp) (Q : List V -> Hp -> Prop), Inv X pins σ H s -> t σ H Q -> wpAny (model X.prog X.w) X.A (spliced (backTo pos (starEach es X.env))) (AP X pins σ Q) X.xe s
def PS (X : Cx) (st : Stmt) (t : TS) : Prop :=
 ∀ (pins : List (Addr × Obj)) (s : Shared) (σ : St) (H : Hp) (D : Ends), Inv X pins σ H s -> t D σ H -> wpAny (model X.prog X.w) X.A (exec st X.env) (SP X pins D) X.xe s
def PSs (X : Cx) (st : List Stmt) (t : TS) : Prop :=
 ∀ (pins : List (Addr × Obj)) (s : Shared) (σ : St) (H : Hp) (D : Ends), Inv X pins σ H s -> t D σ H -> wpAny (model X.prog X.w) X.A (execs st X.env) (SP X pins D) X.xe s
theorem thn {α : Type} {t : Sem α} {Q Q' : α -> Shared -> Prop} {M : Model} {A : Around} {E : Value -> Shared -> Prop} {s : Shared} (h : wpAny M A t Q E s) (hQ : ∀ a s, Q a s -> Q' a s) : wpAny M A t Q' E s := wpAny_mono h hQ fun _ _ x => x
end L2
namespace L2
open PySem PySem.Spec PyProof.Rows
section
variable {X : Cx}
def tVar (i : Nat) : TE := fun σ H Q => ∃ v, σ[i]? = some (some v) /\ Q v H
def tC (v : V) : TE := fun _ H Q => Q v H
theorem pe_var {i : Nat} {x : Str} {pos : Pos} (hN : X.N[i]? = some x) (hv : Vis X.env.scope x) (hd : (x == ("__debug__" : Str)) = false := by decide) (hcd : (x == ("__classdict__" : Str)) = false := by decide) : PE X (.Name x pos) (tVar i) := by
 intro pins s σ H Q I h
 obtain ⟨v, e, h⟩ := h
 obtain ⟨m, hn, hl⟩ := I.loc
 obtain ⟨u, r, l⟩ := hl i x v hN e hv
 have fin : EP X pins σ Q u s := ⟨v, H, I, r, h⟩
 rcases l with ⟨hk, hm⟩ | ⟨hk, c, hc, hcell⟩
 ·exact wpAny_Name (wpAny_loadName_local I.ok.kind hk hn hm fin) hd
 ·rcases hk with hk | hk
  ·exact wpAny_Name (wpAny_loadName_cell I.ok.kind hk hc hcell fin) hd
  ·exact wpAny_Name (wpAny_loadName_free I.ok.kind hk hc hcell fin hcd) hd
theorem pe_int {i j pos} : PE X (.Constant (.int i) j pos) (tC (.int i)) := fun _ _ _ H _ I h => wpAny_Constant_int ⟨.int i, H, I.tok _, ⟨_, rfl⟩, h⟩
theorem pe_bl {b j pos} : PE X (.Constant (.bool b) j pos) (tC (.bl b)) := fun _ _ _ H _ I h => Constant_bool ⟨.bl b, H, I, rfl, h⟩
theorem pe_str {x j pos} : PE X (.Constant (.str x) j pos) (tC (.str x)) := fun _ _ _ H _ I h => Calls.Constant_str ⟨.str x, H, I.tok _, ⟨_, rfl⟩, h⟩
def Gl (X : Cx) (x : Str) : Prop := X.env.kindOf x = some .globalImplicit
theorem ld_glob {E : Value -> Shared -> Prop} {pins : List (Addr × Obj)} {s : Shared} {σ : St} {H : Hp} {x : Str} {u : Value} {pos : Pos} {Q : Value -> Shared -> Prop} (I : Inv X pins σ H s) (hg : Gl X x) (hm : X.mg x = some u) (h : Q u s)
  (hd : (x == ("__debug__" : Str)) = false := by decide) : wpAny (model X.prog X.w) X.A (eval (.Name x pos) X.env) Q E s :=
 Calls.Name_function_global I.ok.kind hg (Calls.loadGlobal_global (by rw [I.ok.glob]; exact I.mod.glob.keeps I.bk) hm h) hd
theorem ld_blt {E : Value -> Shared -> Prop} {pins : List (Addr × Obj)} {s : Shared} {σ : St} {H : Hp} {x : Str} {u : Value} {pos : Pos} {Q : Value -> Shared -> Prop} (I : Inv X pins σ H s) (hg : Gl X x) (hm : X.mg x = none) (hv : bootBuiltins x = some u) (h : Q u s)
  (hn : x ≠ "__name__" := by decide) (hd : (x == ("__debug__" : Str)) = false := by decide) : wpAny (model X.prog X.w) X.A (eval (.Name x pos) X.env) Q E s := by
 obtain ⟨mb, h1, h2⟩ := I.mod.blt
 exact Calls.Name_function_global I.ok.kind hg (Calls.loadGlobal_builtin (by rw [I.ok.glob]; exact I.mod.glob.keeps I.bk) hm (by rw [I.ok.blt]; exact h1.keeps I.bk) ((h2 x hn).trans hv) h) hd
theorem pe_glob {x : Str} {v : V} {u : Value} {pos : Pos} (hg : Gl X x) (hm : X.mg x = some u) (r : RelV v u) (hd : (x == ("__debug__" : Str)) = false := by decide) : PE X (.Name x pos) (tC v) :=
 fun _ _ _ H _ I h => ld_glob I hg hm ⟨v, H, I, r, h⟩ hd
theorem pe_bltn {x : Str} {v : V} {u : Value} {pos : Pos} (hg : Gl X x) (hm : X.mg x = none) (hv : bootBuiltins x = some u) (r : RelV v u) (hn : x ≠ "__name__" := by decide) (hd : (x == ("__debug__" : Str)) = false := by decide) : PE X (.Name x pos) (tC v) :=
 fun _ _ _ H _ I h => ld_blt I hg hm hv ⟨v, H, I, r, h⟩ hn hd
variable {a b : Expr} {ta tb : TE} {pos : Pos}
def PC (X : Cx) (op : CmpOp) (a b : Expr) (t : TE) : Prop :=
 ∀ (pins : List (Addr × Obj)) (s : Shared) (σ : St) (H : Hp) (Q : VK), Inv X pins σ H s -> t σ H Q ->
  wpAny (model X.prog X.w) X.A (eval a X.env) (fun v s₁ => wpAny (model X.prog X.w) X.A (eval b X.env) (fun u s₂ => wpAny (model X.prog X.w) X.A (compareOp op v u) (EP X pins σ Q) X.xe s₂) X.xe s₁) X.xe s
variable {tA tB' : TT} {rest : List Expr}
def tAnd (t u : TT) : TT := fun σ H Q => t σ H fun c H1 => if c = true then u σ H1 Q else Q false H1
def tOr (t u : TT) : TT := fun σ H Q => t σ H fun c H1 => if c = true then Q true H1 else u σ H1 Q
def tNot (t : TT) : TT := fun σ H Q => t σ H fun c H1 => Q (!c) H1
theorem pw_and1 (ha : PT X a tA) : PW X (.BoolOp .And [a] pos) tA := by
 intro wh pins s σ H Q I h
 refine isTrue_and (thn (ha pins s σ H Q I h) fun c s1 e => ?_)
 cases c with
 | true => exact isTrue_and_nil e
 | false => exact e
theorem pw_or1 (ha : PT X a tA) : PW X (.BoolOp .Or [a] pos) tA := by
 intro wh pins s σ H Q I h
 refine isTrue_or (thn (ha pins s σ H Q I h) fun c s1 e => ?_)
 cases c with
 | false => exact isTrue_or_nil e
 | true => exact e
theorem pw_and (ha : PT X a tA) (hb : PW X (.BoolOp .And (b :: rest) pos) tB') : PW X (.BoolOp .And (a :: b :: rest) pos) (tAnd tA tB') := by
 intro wh pins s σ H Q I h
 refine isTrue_and (thn (ha pins s σ H _ I h) fun c s1 ⟨H1, I1, q1⟩ => ?_)
 cases c with
 | true => exact hb wh pins s1 σ H1 Q I1 q1
 | false => exact ⟨H1, I1, q1⟩
theorem pw_or (ha : PT X a tA) (hb : PW X (.BoolOp .Or (b :: rest) pos) tB') : PW X (.BoolOp .Or (a :: b :: rest) pos) (tOr tA tB') := by
 intro wh pins s σ H Q I h
 refine isTrue_or (thn (ha pins s σ H _ I h) fun c s1 ⟨H1, I1, q1⟩ => ?_)
 cases c with
 | true => exact ⟨H1, I1, q1⟩
 | false => exact hb wh pins s1 σ H1 Q I1 q1
theorem pt_not (ha : PT X a tA) : PT X (.UnaryOp .Not a pos) (tNot tA) := by
 intro pins s σ H Q I h
 exact isTrue_not (ha pins s σ H (fun c H1 => Q (!c) H1) I h)
def tAndV (ta tb : TE) : TE := fun σ H Q => ta σ H fun x H1 => ∃ c, x = .bl c /\ if c = true then tb σ H1 Q else Q (.bl false) H1
def tNotV (ta : TE) : TE := fun σ H Q => ta σ H fun x H1 => ∃ c, x = .bl c /\ Q (.bl (!c)) H1
theorem pe_one {op} {t : TE} (h : PE X a t) : PE X (.BoolOp op [a] pos) t := fun pins s σ H Q I hw => BoolOp_one (h pins s σ H Q I hw)
theorem pe_and (ha : PE X a ta) (hb : PE X (.BoolOp .And (b :: rest) pos) tb) : PE X (.BoolOp .And (a :: b :: rest) pos) (tAndV ta tb) := by
 intro pins s σ H Q I h
 refine BoolOp_and (thn (ha pins s σ H _ I h) fun v s1 ⟨x, H1, I1, r1, q1⟩ => ?_)
 obtain ⟨c, rfl, q1⟩ := q1
 cases r1
 refine wpAny_truthy_bool ?_
 cases c with
 | true => exact hb pins s1 σ H1 Q I1 q1
 | false => exact ⟨.bl false, H1, I1, rfl, q1⟩
theorem pe_not (ha : PE X a ta) : PE X (.UnaryOp .Not a pos) (tNotV ta) := by
 intro pins s σ H Q I h
 refine UnaryOp_ (thn (ha pins s σ H _ I h) fun v s1 ⟨x, H1, I1, r1, q1⟩ => ?_)
 obtain ⟨c, rfl, q1⟩ := q1
 cases r1
 exact not_of (wpAny_truthy_bool ⟨.bl (!c), H1, I1, rfl, q1⟩)
def tIf (t : TT) (ta tb : TE) : TE := fun σ H Q => t σ H fun c H1 => if c = true then ta σ H1 Q else tb σ H1 Q
theorem pe_ifExp {c : Expr} (hc : PT X c tA) (ha : PE X a ta) (hb : PE X b tb) : PE X (.IfExp c a b pos) (tIf tA ta tb) := by
 intro pins s σ H Q I h
 refine wpAny_IfExp (thn (hc pins s σ H _ I h) fun d s1 ⟨H1, I1, q1⟩ => ?_)
 cases d with
 | true => exact ha pins s1 σ H1 Q I1 q1
 | false => exact hb pins s1 σ H1 Q I1 q1
end
end L2
namespace L2
open PySem PySem.Spec PyProof.Rows
def SqL (K : PySem.W.Frag) (H : Hp) (a : Addr) (xs : List V) : Prop :=
 Rd H a (.lst xs) \/
  ∃ (o : Obj) (its : Array Value) (n : Nat), K.lookup a = some o /\ o.cls = .type "list" /\ o.dict = none /\ o.data = .seq its n /\ its.size <= sizeLine /\ Vals xs its.toList
def SqT (K : PySem.W.Frag) (H : Hp) (a : Addr) (xs : List V) : Prop :=
 Rd H a (.tup xs) \/
  ∃ (o : Obj) (its : Array Value) (n : Nat), K.lookup a = some o /\ o.cls = .type "tuple" /\ o.data = .seq its n /\ its.size <= sizeLine /\ Vals xs its.toList
noncomputable def absV : Value -> Option V
 | .none => some .non
 | .bool b => some (.bl b)
 | .int i _ => some (.int i)
 | .str x _ => some (.str x)
 | .bytes b _ => some (.byt b)
 | .float b _ => some (.flt b)
 | .ref a => some (.ref a)
 | .type n => some (.ty n)
 | _ => none
theorem RelV.abs {x : V} {u : Value} (r : RelV x u) : absV u = some x := by
 cases x with
 | non => cases r; rfl
 | bl _ => cases r; rfl
 | int _ => obtain ⟨t, rfl⟩ := r; rfl
 | str _ => obtain ⟨t, rfl⟩ := r; rfl
 | byt _ => obtain ⟨t, rfl⟩ := r; rfl
 | flt _ => obtain ⟨t, rfl⟩ := r; rfl
 | ref _ => cases r; rfl
 | ty _ => cases r; rfl
theorem RelV.inj {x y : V} {u : Value} (r : RelV x u) (q : RelV y u) : x = y := Option.some.inj (r.abs.symm.trans q.abs)
theorem Vals.inj : ∀ {xs ys : List V} {us : List Value}, Vals xs us -> Vals ys us -> xs = ys
 | _, _, _, .nil, .nil => rfl
 | _, _, _, .cons r t, .cons r' t' => by rw [r.inj r', Vals.inj t t']
section
variable {X : Cx} {pins : List (Addr × Obj)} {σ : St} {H : Hp} {s : Shared} {a : Addr} {xs ys : List V}
theorem SqL.of {K : PySem.W.Frag} (h : H a = some (.lst xs)) : SqL K H a xs := .inl (.inl h)
theorem SqT.of {K : PySem.W.Frag} (h : H a = some (.tup xs)) : SqT K H a xs := .inl (.inl h)
theorem Inv.list (I : Inv X pins σ H s) (h : SqL X.K H a xs) : ∃ its : List Value, Vals xs its /\ PlainL s.heap a its.toArray /\ xs.length <= sizeLine := by
 rcases h with h | ⟨o, its, n, hk, hc, hd, hs, hz, r⟩
 ·obtain ⟨z, its, n, r, e⟩ := h.ok I.hok
  exact ⟨its, r, ⟨_, n, e, rfl, rfl, rfl⟩, z⟩
 ·refine ⟨its.toList, r, ⟨o, n, I.kIn a o hk, hc, hd, by simpa using hs⟩, ?_⟩
  have e := r.length
  simp only [Array.length_toList] at e
  omega
theorem Inv.tuple (I : Inv X pins σ H s) (h : SqT X.K H a xs) : ∃ its : List Value, Vals xs its /\ IsTup s.heap a its.toArray /\ xs.length <= sizeLine := by
 rcases h with h | ⟨o, its, n, hk, hc, hs, hz, r⟩
 ·obtain ⟨z, its, r, p⟩ := h.ok I.hok
  exact ⟨its, r, p, z⟩
 ·refine ⟨its.toList, r, ⟨o, I.kIn a o hk, hc, n, by simpa using hs⟩, ?_⟩
  have e := r.length
  simp only [Array.length_toList] at e
  omega
theorem Inv.list_inj (I : Inv X pins σ H s) (h : SqL X.K H a xs) (h' : SqL X.K H a ys) : xs = ys := by
 obtain ⟨its, r, ⟨o, n, e, _, _, d⟩, _⟩ := I.list h
 obtain ⟨its', r', ⟨o', n', e', _, _, d'⟩, _⟩ := I.list h'
 rw [e] at e'; cases e'
 rw [d] at d'
 injection d' with d1 _
 have : its = its' := by simpa using congrArg Array.toList d1
 subst this
 exact r.inj r'
theorem Inv.tuple_inj (I : Inv X pins σ H s) (h : SqT X.K H a xs) (h' : SqT X.K H a ys) : xs = ys := by
 obtain ⟨its, r, ⟨o, e, _, n, d⟩, _⟩ := I.tuple h
 obtain ⟨its', r', ⟨o', e', _, n', d'⟩, _⟩ := I.tuple h'
 rw [e] at e'; cases e'
 rw [d] at d'
 injection d' with d1 _
 have : its = its' := by simpa using congrArg Array.toList d1
 subst this
 exact r.inj r'
end
section
variable {X : Cx} {pins : List (Addr × Obj)} {σ : St} {H : Hp} {s : Shared} {E : Value -> Shared -> Prop}
end
section
variable {X : Cx} {st : Stmt} {rest : List Stmt} {t u : TS} {e : Expr} {te : TE} {pos : Pos}
def tNext : TS := fun D σ H => D.nx σ H
def tSeq (t u : TS) : TS := fun D σ H => t { D with nx := u D } σ H
theorem pss_nil : PSs X [] tNext := fun _ _ σ H _ I h => wpAny_execs_nil ⟨σ, H, I, h⟩
theorem pss_cons (h1 : PS X st t) (h2 : PSs X rest u) : PSs X (st :: rest) (tSeq t u) := by
 intro pins s σ H D I h
 refine wpAny_execs_cons (thn (h1 pins s σ H { D with nx := u D } I h) fun f s1 q => ?_)
 cases f with
 | next =>
  obtain ⟨σ', H', I', q⟩ := q
  exact h2 pins s1 σ' H' D I' q
 | ret v => exact q
 | brk => exact q
 | cont => exact q
theorem pss_one (h1 : PS X st t) : PSs X [st] t := by
 intro pins s σ H D I h
 refine wpAny_execs_cons (thn (h1 pins s σ H D I h) fun f s1 q => ?_)
 cases f with
 | next => exact wpAny_execs_nil q
 | ret v => exact q
 | brk => exact q
 | cont => exact q
theorem Inv.quiet {pins : List (Addr × Obj)} {σ : St} {H : Hp} {s : Shared} (I : Inv X pins σ H s) : interactive X.env = false := by simp [interactive, I.ok.kind]
def tDrop (te : TE) : TS := fun D σ H => te σ H fun _ H1 => D.nx σ H1
theorem ps_expr (he : PE X e te) (hs : swapsWith e none pos.line X.env = pure false := by rfl) : PS X (.Expr e pos) (tDrop te) := by
 intro pins s σ H D I h
 exact wpAny_Expr_any (thn (he pins s σ H _ I h) fun v s1 ⟨x, H1, I1, r1, q1⟩ => ⟨σ, H1, I1, q1⟩) I.quiet hs
def tRet (te : TE) : TS := fun D σ H => te σ H D.rt
theorem ps_ret (he : PE X e te) : PS X (.Return (some e) pos) (tRet te) := by
 intro pins s σ H D I h
 exact wpAny_Return_some (thn (he pins s σ H _ I h) fun v s1 ⟨x, H1, I1, r1, q1⟩ => ⟨x, σ, H1, I1, r1, q1⟩)
def tIfS (c : TT) (t u : TS) : TS := fun D σ H => c σ H fun b H1 => if b = true then t D σ H1 else u D σ H1
theorem ps_if {c : Expr} {a b : List Stmt} {tc : TT} (hc : PT X c tc) (ha : PSs X a t) (hb : PSs X b u) : PS X (.If c a b pos) (tIfS tc t u) := by
 intro pins s σ H D I h
 refine wpAny_If (thn (hc pins s σ H _ I h) fun d s1 ⟨H1, I1, q1⟩ => ?_)
 cases d with
 | true => exact ha pins s1 σ H1 D I1 q1
 | false => exact hb pins s1 σ H1 D I1 q1
end
abbrev TG := V -> St -> Hp -> (St -> Hp -> Prop) -> Prop
abbrev TGs := List V -> St -> Hp -> (St -> Hp -> Prop) -> Prop
def PG (X : Cx) (target : Expr) (t : TG) : Prop :=
 ∀ (pins : List (Addr × Obj)) (s : Shared) (σ : St) (H : Hp) (v : V) (u : Value) (Q : St -> Hp -> Prop), Inv X pins σ H s -> RelV v u -> t v σ H Q ->
  wpAny (model X.prog X.w) X.A (assign target X.env u) (fun _ s' => ∃ σ' H', Inv X pins σ' H' s' /\ Q σ' H') X.xe s
def PGs (X : Cx) (ts : List Expr) (t : TGs) : Prop :=
 ∀ (pins : List (Addr × Obj)) (s : Shared) (σ : St) (H : Hp) (vs : List V) (us : List Value) (Q : St -> Hp -> Prop), Inv X pins σ H s -> Vals vs us -> t vs σ H Q ->
  wpAny (model X.prog X.w) X.A (assignInOrder ((assignEach ts X.env).map (·.2)) us) (fun _ s' => ∃ σ' H', Inv X pins σ' H' s' /\ Q σ' H') X.xe s
abbrev TSet := V -> V -> V -> Hp -> (Hp -> Prop) -> Prop
def PSet (X : Cx) (t : TSet) : Prop :=
 ∀ (pins : List (Addr × Obj)) (s : Shared) (σ : St) (H : Hp) (o i v : V) (ov iv u : Value) (Q : Hp -> Prop), Inv X pins σ H s -> RelV o ov -> RelV i iv -> RelV v u -> t o i v H Q ->
  wpAny (model X.prog X.w) X.A (setItem ov iv u) (fun _ s' => ∃ H', Inv X pins σ H' s' /\ Q H') X.xe s
section
variable {X : Cx} {pos : Pos}
def gName (i : Nat) : TG := fun v σ H Q => Q (σ.set i (some v)) H
theorem pg_name {i : Nat} {x : Str} (hN : X.N.Nodup) (hi : X.N[i]? = some x) (hx : Loc X.env.scope x) (hf : X.fn x = true \/ X.env.scope.names.lookup x = some .local := by walk_at "2") : PG X (.Name x pos) (gName i) := by
 intro pins s σ H v u Q I r h
 exact wpAny_assign_Name (store_ok I hN hi hx r (fun s' I' => ⟨_, H, I', h⟩) hf)
noncomputable def gNil : TGs := fun vs σ H Q => vs = [] /\ Q σ H
noncomputable def gCons (t : TG) (u : TGs) : TGs := fun vs σ H Q => ∃ v r, vs = v :: r /\ t v σ H fun σ' H' => u r σ' H' Q
def gTup (K : PySem.W.Frag) (n : Nat) (t : TGs) : TG := fun v σ H Q => ∃ a xs, v = .ref a /\ SqT K H a xs /\ xs.length = n /\ t xs σ H Q
def gSub (to ti : TE) (t : TSet) : TG := fun v σ H Q => to σ H fun o H1 => ti σ H1 fun i H2 => t o i v H2 fun H3 => Q σ H3
theorem pg_sub {o i : Expr} {to ti : TE} {t : TSet} (ho : PE X o to) (hi : PE X i ti) (hs : PSet X t)
  (ha : ∀ v, assign (.Subscript o i pos) X.env v = (do
   let ov <- holding [v] (eval o X.env)
   let iv <- holding [v, ov] (eval i X.env)
   standAt pos
   holding [v, ov, iv] (setItem ov iv v)
   release [v, ov, iv] []) := by intro _; rfl) : PG X (.Subscript o i pos) (gSub to ti t) := by
 intro pins s σ H v u Q I r h
 rw [ha]
 refine wpAny_bind (wpAny_holding (thn (ho pins s σ H _ I h) fun ov s1 ⟨x, H1, I1, r1, q1⟩ => ?_))
 refine wpAny_bind (wpAny_holding (thn (hi pins s1 σ H1 _ I1 q1) fun iv s2 ⟨y, H2, I2, r2, q2⟩ => ?_))
 refine wpAny_bind (wpAny_standAt (wpAny_bind (wpAny_holding (thn (hs pins s2 σ H2 x y v ov iv u _ I2 r1 r2 r q2) fun _ s3 ⟨H3, I3, q3⟩ => ?_))))
 exact wpAny_release ⟨σ, H3, I3, q3⟩
def tAsg (te : TE) (g : TG) : TS := fun D σ H => te σ H fun x H1 => g x σ H1 D.nx
theorem ps_asg {tg e : Expr} {te : TE} {g : TG} (he : PE X e te) (hg : PG X tg g) (hs : swapsWithSole [tg] e pos.line X.env = pure false := by rfl) (hw : swappedStores [tg] e X.env = pure none := by rfl)
  (h1 : (assignEach [tg] X.env).map (·.2) = [assign tg X.env] := by rfl) : PS X (.Assign [tg] e pos) (tAsg te g) := by
 intro pins s σ H D I h
 refine wpAny_Assign_stores (thn (he pins s σ H _ I h) fun v s1 ⟨x, H1, I1, r1, q1⟩ => ?_) hs hw
 rw [h1]
 exact thn (hg pins s1 σ H1 x v _ I1 r1 q1) fun _ s2 q => q
theorem ps_set {i : Nat} {x : Str} {e : Expr} {te : TE} {pos' : Pos} (hN : X.N.Nodup) (hi : X.N[i]? = some x) (hx : Loc X.env.scope x) (he : PE X e te) (hs : swapsWith e (some (.Name x pos')) pos.line X.env = pure false := by rfl) (hf : X.fn x = true \/ X.env.scope.names.lookup x = some .local := by walk_at "2") :
  PS X (.Assign [.Name x pos'] e pos) (tAsg te (gName i)) := by
 intro pins s σ H D I h
 refine wpAny_Assign_Name (thn (he pins s σ H _ I h) fun v s1 ⟨y, H1, I1, r1, q1⟩ => ?_) hs
 exact store_ok I1 hN hi hx r1 (fun s2 I2 => ⟨_, H1, I2, q1⟩) hf
end
section
variable {X : Cx} {pos : Pos}
end
structure It where
 go : Nat -> Hp -> Prop
 yld : Nat -> Hp -> V -> Hp -> Prop
 stop : Nat -> Hp -> Prop
def FpOk (X : Cx) (pins : List (Addr × Obj)) (H : Hp) (b : Addr) : Prop :=
 H b = none /\ b ≠ X.env.locals /\ b ∉ X.fs /\ (b ∈ X.ex \/ X.s₀.heap.objs.size <= b) /\ (∀ x c, X.env.cells.lookup x = some c -> c ≠ b) /\ ∀ p ∈ X.pn ++ pins, p.1 ≠ b
theorem Inv.fpOk {X : Cx} {pins : List (Addr × Obj)} {σ : St} {H H' : Hp} {s : Shared} {b : Addr} (I : Inv X pins σ H s) (hb : s.heap.objs.size <= b) (hn : H' b = none) : FpOk X pins H' b := by
 refine ⟨hn, Nat.ne_of_gt (Nat.lt_of_lt_of_le I.lt hb), I.nofs hb, .inr (Nat.le_trans I.sz hb), fun x c e z => ?_, fun p hp z => ?_⟩
 ·obtain ⟨v, q⟩ := I.cell x c e
  exact absurd (Nat.lt_of_lt_of_le q.lt (by rw [z]; exact hb)) (Nat.lt_irrefl _)
 ·exact absurd (Nat.lt_of_lt_of_le (Heap.lt_size (I.pin p hp).1) (by rw [z]; exact hb)) (Nat.lt_irrefl _)
structure Turn (P : Program) (w : World) (K : PySem.W.Frag) (tg : Expr) (J : It) (fp : List Addr) (it : Addr) (tn : Nat -> Heap -> Prop) : Prop where
 mem : it ∈ fp
 obj : ∀ i h, tn i h -> ∀ b ∈ fp, ∃ o, h.get? b = some o /\ ∀ v, o.data ≠ .cell v
 keep : ∀ i h h', tn i h -> (∀ b ∈ fp, ∀ o, h.get? b = some o -> h'.get? b = some o) -> tn i h'
 item : ∀ (X : Cx), X.prog = P -> X.w = w -> X.K = K -> X.calm = true -> ∀ (i : Nat) (pins : List (Addr × Obj)) (s : Shared) (σ : St) (H : Hp) (E : Value -> Shared -> Prop), Inv X pins σ H s -> (∀ b ∈ fp, FpOk X pins H b) -> tn i s.heap -> J.go i H ->
  wpAny (model P w) X.A (pyNext (.ref it)) (fun r s1 => ∃ u, r = some u /\
   wpAny (model P w) X.A (letOwnedTupleGo tg (.ref it) u) (fun _ s2 => ∃ x H', Inv X pins σ H' s2 /\ RelV x u /\ J.yld i H x H' /\ tn (i + 1) s2.heap /\ ∀ b ∈ fp, H' b = none) E s1) E s
 done : ∀ (X : Cx), X.prog = P -> X.w = w -> X.K = K -> X.calm = true -> ∀ (i : Nat) (pins : List (Addr × Obj)) (s : Shared) (σ : St) (H : Hp) (E : Value -> Shared -> Prop), Inv X pins σ H s -> (∀ b ∈ fp, FpOk X pins H b) -> tn i s.heap -> J.stop i H ->
  wpAny (model P w) X.A (pyNext (.ref it)) (fun r s1 => r = none /\ Inv X pins σ H s1) E s
 self : ∀ (A : Around) (i : Nat) (s : Shared) (Q : Value -> Shared -> Prop) (E : Value -> Shared -> Prop), tn i s.heap -> Q (.ref it) s -> wpAny (model P w) A (pyIter (.ref it)) Q E s
abbrev TI := St -> Hp -> (It -> Hp -> Prop) -> Prop
def PIE (X : Cx) (pins : List (Addr × Obj)) (σ : St) (tg : Expr) (R : It -> Hp -> Prop) (itv : Value) (s2 : Shared) : Prop :=
 ∃ (it : Addr) (fp : List Addr) (tn : Nat -> Heap -> Prop) (J : It) (H' : Hp), itv = .ref it /\ Inv X pins σ H' s2 /\ Turn X.prog X.w X.K tg J fp it tn /\ tn 0 s2.heap /\ (∀ b ∈ fp, FpOk X pins H' b) /\ R J H'
def PI (X : Cx) (tg iter : Expr) (wi : TI) : Prop :=
 ∀ (pins : List (Addr × Obj)) (s : Shared) (σ : St) (H : Hp) (R : It -> Hp -> Prop), Inv X pins σ H s -> wi σ H R ->
  wpAny (model X.prog X.w) X.A (eval iter X.env) (fun v s1 => wpAny (model X.prog X.w) X.A (pyIter v) (PIE X pins σ tg R) X.xe s1) X.xe s
theorem go_of {M : Model} {A : Around} {E : Value -> Shared -> Prop} {s : Shared} {tg : Expr} {it : Addr} {u : Value} {o : Obj} {n : String} {vs : Array Value} {Q : Unit -> Shared -> Prop} (ho : s.heap.get? it = some o) (hc : o.cls = .type n) (hd : o.data = .fields vs)
    (hn : ["enumerate", "zip", "dict_itemiterator", "dict_reverseitemiterator", "odict_iterator", "itertools.zip_longest", "itertools.pairwise"].contains n = false) (hQ : Q () s) : wpAny M A (letOwnedTupleGo tg (.ref it) u) Q E s := by
  unfold letOwnedTupleGo
  cases tg <;> first
    | exact wpAny_pure hQ
    | (cases u <;> first
        | exact wpAny_pure hQ
        | (refine wpAny_bind (wpAny_load ho ?_)
           rw [hc, hd]
           show wpAny M A (if (["enumerate", "zip", "dict_itemiterator", "dict_reverseitemiterator", "odict_iterator", "itertools.zip_longest", "itertools.pairwise"].contains n && vs[0]? == some (rawInt _)) = true then _ else _) Q E s
           rw [if_neg (by intro h; rw [hn, Bool.false_and] at h; cases h)]
           exact wpAny_pure hQ))
noncomputable def Itl (K : PySem.W.Frag) (a : Addr) : It :=
 ⟨fun i H => ∃ xs x, SqL K H a xs /\ xs[i]? = some x, fun i H x H' => H' = H /\ ∀ xs, SqL K H a xs -> xs[i]? = some x, fun i H => ∃ xs, SqL K H a xs /\ xs.length <= i⟩
noncomputable def Itt (K : PySem.W.Frag) (a : Addr) : It :=
 ⟨fun i H => ∃ xs x, SqT K H a xs /\ xs[i]? = some x, fun i H x H' => H' = H /\ ∀ xs, SqT K H a xs -> xs[i]? = some x, fun i H => ∃ xs, SqT K H a xs /\ xs.length <= i⟩
noncomputable def Itr (lo : Int) (n : Nat) : It := ⟨fun i _ => i < n, fun i H x H' => H' = H /\ x = .int (lo + i), fun i _ => n <= i⟩
theorem turn_list {P : Program} {w : World} {K : PySem.W.Frag} {tg : Expr} (a it : Addr) : Turn P w K tg (Itl K a) [it] it (fun i h => h.IsListIter it a i) where
 mem := by simp
 obj := fun i h st b hb => by
  have e : b = it := by simpa using hb
  subst e
  obtain ⟨o, e, c, d⟩ := st
  exact ⟨o, e, fun v z => by rw [d] at z; cases z⟩
 keep := fun i h h' st k => st.at fun o e => k it (by simp) o e
 item := by
  intro X hP hw hK hc i pins s σ H E I hf st hg
  subst hP hw hK
  obtain ⟨xs, x, hq, hx⟩ := hg
  obtain ⟨its, rv, p, hz⟩ := I.list hq
  obtain ⟨u, hu, ru⟩ := rv.get hx
  obtain ⟨f0, f1, f2, f3, f4, f5⟩ := hf it (by simp)
  refine wpAny_pyNext_list_item st p.isList (x := u) (by simpa using hu) fun h' st' sb => ?_
  have I1 : Inv X pins σ H { s with heap := h' } := I.turned (t' := s.toks) (fun b o hb e => (sb.2 b hb).trans e) f0 f1 f3 f4 f5
  obtain ⟨o, e, c, d⟩ := id st'
  exact ⟨u, rfl, go_of (s := { s with heap := h' }) e c d (by decide) ⟨x, H, I1, ru, ⟨rfl, fun ys hy => by rw [I.list_inj hy hq]; exact hx⟩, st', fun b hb => (hf b hb).1⟩⟩
 done := by
  intro X hP hw hK hc i pins s σ H E I hf st hg
  subst hP hw hK
  obtain ⟨xs, hq, hx⟩ := hg
  obtain ⟨its, rv, p, hz⟩ := I.list hq
  obtain ⟨f0, f1, f2, f3, f4, f5⟩ := hf it (by simp)
  have hl := rv.length
  exact wpAny_pyNext_list_end (I.ok.hd hc) st p.isList (by simp; omega) fun h' eb => ⟨rfl, I.turned (t' := s.toks) (fun b o hb e => eb b o hb e) f0 f1 f3 f4 f5⟩
 self := fun _ _ _ _ _ st h => wpAny_pyIter_listiter st h
theorem turn_tuple {P : Program} {w : World} {K : PySem.W.Frag} {tg : Expr} (a it : Addr) : Turn P w K tg (Itt K a) [it] it (fun i h => h.IsTupleIter it a i) where
 mem := by simp
 obj := fun i h st b hb => by
  have e : b = it := by simpa using hb
  subst e
  obtain ⟨o, e, c, d⟩ := st
  exact ⟨o, e, fun v z => by rw [d] at z; cases z⟩
 keep := fun i h h' st k => st.at fun o e => k it (by simp) o e
 item := by
  intro X hP hw hK hc i pins s σ H E I hf st hg
  subst hP hw hK
  obtain ⟨xs, x, hq, hx⟩ := hg
  obtain ⟨its, rv, p, hz⟩ := I.tuple hq
  obtain ⟨u, hu, ru⟩ := rv.get hx
  obtain ⟨f0, f1, f2, f3, f4, f5⟩ := hf it (by simp)
  refine wpAny_pyNext_tuple_item st (show s.heap.IsTuple a its.toArray from p) (x := u) (by simpa using hu) fun h' st' sb => ?_
  have I1 : Inv X pins σ H { s with heap := h' } := I.turned (t' := s.toks) (fun b o hb e => (sb.2 b hb).trans e) f0 f1 f3 f4 f5
  obtain ⟨o, e, c, d⟩ := id st'
  exact ⟨u, rfl, go_of (s := { s with heap := h' }) e c d (by decide) ⟨x, H, I1, ru, ⟨rfl, fun ys hy => by rw [I.tuple_inj hy hq]; exact hx⟩, st', fun b hb => (hf b hb).1⟩⟩
 done := by
  intro X hP hw hK hc i pins s σ H E I hf st hg
  subst hP hw hK
  obtain ⟨xs, hq, hx⟩ := hg
  obtain ⟨its, rv, p, hz⟩ := I.tuple hq
  obtain ⟨f0, f1, f2, f3, f4, f5⟩ := hf it (by simp)
  have hl := rv.length
  exact wpAny_pyNext_tuple_end (I.ok.hd hc) st (show s.heap.IsTuple a its.toArray from p) (by simp; omega) fun h' eb => ⟨rfl, I.turned (t' := s.toks) (fun b o hb e => eb b o hb e) f0 f1 f3 f4 f5⟩
 self := fun _ _ _ _ _ st h => wpAny_pyIter_tupleiter st h
theorem turn_range {P : Program} {w : World} {K : PySem.W.Frag} {tg : Expr} (it : Addr) (lo : Int) (n : Nat) : Turn P w K tg (Itr lo n) [it] it (fun i h => IsRangeIter h it (lo + (i : Nat) * 1) ((n : Int) - (i : Nat)) 1) where
 mem := by simp
 obj := fun i h st b hb => by
  have e : b = it := by simpa using hb
  subst e
  exact ⟨_, st, fun v z => by
   have z' : Data.fields _ = Data.cell v := z
   cases z'⟩
 keep := fun i h h' st k => k it (by simp) _ st
 item := by
  intro X hP hw hK hc i pins s σ H E I hf st hg
  subst hP hw hK
  obtain ⟨f0, f1, f2, f3, f4, f5⟩ := hf it (by simp)
  have W := Walks.range (prog := X.prog) (w := X.w) (I.ok.hd hc) it lo 1 n
  refine W.item i s _ _ hg st fun v h' tk hv st' kk => ?_
  obtain ⟨t, rfl⟩ := hv
  have I1 : Inv X pins σ H { s with heap := h', toks := tk } := I.turned (fun b o hb e => kk b o (by simpa using hb) e) f0 f1 f3 f4 f5
  refine ⟨_, rfl, go_of (s := { s with heap := h', toks := tk }) (n := "range_iterator") st' rfl rfl (by decide) ⟨.int (lo + i), H, I1, ⟨t, ?_⟩, ⟨rfl, rfl⟩, st', fun b hb => (hf b hb).1⟩⟩
  rw [Int.mul_one]
 done := by
  intro X hP hw hK hc i pins s σ H E I hf st hg
  subst hP hw hK
  obtain ⟨f0, f1, f2, f3, f4, f5⟩ := hf it (by simp)
  exact wpAny_pyNext_range_end (I.ok.hd hc) st (by have : n <= i := hg; omega) fun h' eb => ⟨rfl, I.turned (t' := s.toks) (fun b o hb e => eb b o hb e) f0 f1 f3 f4 f5⟩
 self := fun _ _ _ _ _ st h => wpAny_pyIter_rangeiter st h
end L2
namespace L2
open PySem PySem.Spec PyProof.Rows
section
variable {X : Cx} {tg : Expr}
theorem range_it {pins : List (Addr × Obj)} {σ : St} {H : Hp} {s : Shared} {R : It -> Hp -> Prop} {E : Value -> Shared -> Prop} {lo hi : Int} {t u v : Tok} {tk : Nat} (I : Inv X pins σ H s) (h1 : -(2 ^ 62) <= lo) (h2 : lo < 2 ^ 62) (h3 : -(2 ^ 62) <= hi) (h4 : hi < 2 ^ 62)
  (q : R (Itr lo (hi - lo).toNat) H) : wpAny (model X.prog X.w) X.A (pyIter (.ref s.heap.objs.size)) (PIE X pins σ tg R) E { s with heap := s.heap.push { cls := .type "range", data := .fields #[.int lo t, .int hi u, .int 1 v] }, toks := tk } := by
 refine wpAny_pyIter_range (IsRange.new ..) (small_one h1 h2 h3 h4) ?_
 have I1 : Inv X pins σ H { s with heap := s.heap.push { cls := .type "range", data := .fields #[.int lo t, .int hi u, .int 1 v] }, toks := tk } := I.kept fun b o e => Heap.get?_push_of_some _ e
 refine ⟨(s.heap.push { cls := .type "range", data := .fields #[.int lo t, .int hi u, .int 1 v] }).objs.size, [(s.heap.push { cls := .type "range", data := .fields #[.int lo t, .int hi u, .int 1 v] }).objs.size], _, _, H, rfl,
  I1.kept (t' := tk) fun b o e => Heap.get?_push_of_some _ e, turn_range _ lo (hi - lo).toNat, ?_, fun b hb => ?_, q⟩
 ·have e1 : lo + ((0 : Nat) : Int) * 1 = lo := by simp
  have e2 : (((hi - lo).toNat : Nat) : Int) - ((0 : Nat) : Int) = Builtin.Range.rangeSize lo hi 1 := by rw [rangeSize_one]; split <;> omega
  show IsRangeIter _ _ (lo + ((0 : Nat) : Int) * 1) ((((hi - lo).toNat : Nat) : Int) - ((0 : Nat) : Int)) 1
  rw [e1, e2]
  exact Heap.get?_push_size _ rfl
 ·have e : b = (s.heap.push { cls := .type "range", data := .fields #[.int lo t, .int hi u, .int 1 v] }).objs.size := by simpa using hb
  subst e
  exact I1.fpOk (Nat.le_refl _) (I1.hok.fresh (Nat.le_refl _))
def iRng1 (ta : TA) : TI := fun σ H R => ta σ H fun vs H1 => ∃ j : Int, vs = [.int j] /\ -(2 ^ 62) <= j /\ j < 2 ^ 62 /\ R (Itr 0 j.toNat) H1
theorem pi_range1 {a : Expr} {ta : TA} {p pos : Pos} (hg : Gl X "range") (hm : X.mg "range" = none) (ha : PA X [a] ta) (hs : starEach [a] X.env = [(false, eval a X.env)] := by rfl) : PI X tg (.Call (.Name "range" p) [a] [] pos) (iRng1 ta) := by
 intro pins s σ H R I h
 refine Call_ (ld_blt I hg hm boot_range (PyProof.Rows.callWith_type1 (thn (ha pos pins s σ H _ I h) fun us s1 ⟨vs, H1, I1, r1, q1⟩ => ?_) hs rfl))
 obtain ⟨j, e, q1, q2, q⟩ := q1
 subst e
 cases r1 with
 | cons r rr =>
  cases rr
  obtain ⟨t, rfl⟩ := r
  exact call_range_1 (range_it I1 (by omega) (by omega) q1 q2 (by simpa using q))
def tFor (wi : TI) (g : TG) (tb : TS) : TS := fun D σ H => wi σ H fun J H1 => ∃ W : Nat -> Nat -> St -> Hp -> Prop, (∃ m, W 0 m σ H1) /\ ∀ i m σ H, W i m σ H ->
 (J.stop i H /\ D.nx σ H) \/ (J.go i H /\ ∃ N : St -> Hp -> Prop, (∀ σ' H', N σ' H' -> ∃ m', m' < m /\ W (i + 1) m' σ' H') /\ ∀ x H', J.yld i H x H' -> g x σ H' fun σ2 H2 => tb { D with nx := N, ct := N, bk := D.nx } σ2 H2)
noncomputable def pinsAt (fp : List Addr) (h : Heap) : List (Addr × Obj) := fp.filterMap fun b => (h.get? b).map fun o => (b, o)
theorem mem_pinsAt {fp : List Addr} {h : Heap} {b : Addr} {o : Obj} (hb : b ∈ fp) (e : h.get? b = some o) : (b, o) ∈ pinsAt fp h := List.mem_filterMap.mpr ⟨b, hb, by rw [e]; rfl⟩
theorem of_pinsAt {fp : List Addr} {h : Heap} {p : Addr × Obj} (hp : p ∈ pinsAt fp h) : p.1 ∈ fp /\ h.get? p.1 = some p.2 := by
 obtain ⟨b, hb, e⟩ := List.mem_filterMap.mp hp
 cases q : h.get? b with
 | none => rw [q] at e; cases e
 | some o =>
  rw [q] at e
  have e' : (b, o) = p := Option.some.inj e
  subst e'
  exact ⟨hb, q⟩
theorem Inv.pinned {pins : List (Addr × Obj)} {σ : St} {H : Hp} {s : Shared} {fp : List Addr} (I : Inv X pins σ H s) (hf : ∀ b ∈ fp, FpOk X pins H b) (ho : ∀ b ∈ fp, ∃ o, s.heap.get? b = some o /\ ∀ v, o.data ≠ .cell v) : Inv X (pins ++ pinsAt fp s.heap) σ H s :=
 I.pins_of fun p hp => (List.mem_append.mp hp).elim (fun z => I.pin p (List.mem_append_right _ z)) fun z => by
  obtain ⟨hb, e⟩ := of_pinsAt z
  obtain ⟨f0, f1, f2, _⟩ := hf p.1 hb
  obtain ⟨o, e', d⟩ := ho p.1 hb
  rw [e] at e'; cases e'
  exact ⟨e, f0, f1, f2, d⟩
theorem Inv.unpinned {pins pl : List (Addr × Obj)} {σ : St} {H : Hp} {s : Shared} (I : Inv X (pins ++ pl) σ H s) : Inv X pins σ H s := I.pins_of fun p hp => I.pin p (List.mem_append_right _ (List.mem_append_left _ hp))
theorem ps_for {iter : Expr} {body : List Stmt} {wi : TI} {g : TG} {tb : TS} {pos : Pos} (hp : PassesOwn (model X.prog X.w) X.A X.env X.xe) (hc : X.calm = true) (hi : PI X tg iter wi) (hg : PG X tg g) (hb : PSs X body tb)
  (hs : ∀ x, foldedSetIterable iter X.env x = pure x := by intro _; rfl) : PS X (.For tg iter body [] pos) (tFor wi g tb) := by
 intro pins s σ H D I h
 refine wpAny_For (thn (hi pins s σ H _ I h) fun v s1 h1 => thn h1 fun itv s2 h2 => ?_) hs
 obtain ⟨it, fp, tn, J, H2, e, I2, T, st2, f2, W, ⟨m0, w0⟩, turn⟩ := h2
 subst e
 have stat : ∀ {H' : Hp}, (∀ b ∈ fp, H' b = none) -> ∀ b ∈ fp, FpOk X pins H' b := fun hn b hb => ⟨hn b hb, (f2 b hb).2⟩
 refine codeAny_forLoop_any (fun n s' => ∃ i σ' H', Inv X pins σ' H' s' /\ tn i s'.heap /\ (∀ b ∈ fp, H' b = none) /\ W i n σ' H') ?_ m0 ⟨0, σ, H2, I2, st2, fun b hb => (f2 b hb).1, w0⟩
 rintro n s3 ⟨i, σ3, H3, I3, st3, fr3, w3⟩
 rcases turn i n σ3 H3 w3 with ⟨stop, qn⟩ | ⟨go, N, hN, step⟩
 ·refine wpAny_passesOwn hp (thn (T.done X rfl rfl rfl hc i pins s3 σ3 H3 X.xe I3 (stat fr3) st3 stop) fun r s4 ⟨hr, I4⟩ => ?_)
  subst hr
  exact wpAny_execs_nil ⟨σ3, H3, I4, qn⟩
 ·refine wpAny_passesOwn hp (thn (T.item X rfl rfl rfl hc i pins s3 σ3 H3 X.xe I3 (stat fr3) st3 go) fun r s4 ⟨u, hr, h4⟩ => ?_)
  subst hr
  refine wpAny_passesOwn hp (thn h4 fun _ s5 ⟨x, H5, I5, r5, y5, st5, fr5⟩ => ?_)
  have I5' := I5.pinned (stat fr5) (T.obj _ _ st5)
  refine wpAny_passesOwn hp (thn (hg _ s5 σ3 H5 x u _ I5' r5 (step x H5 y5)) fun _ s6 ⟨σ6, H6, I6, q6⟩ => ?_)
  refine wpAny_passesOwn hp (thn (hb _ s6 σ6 H6 _ I6 q6) fun f s7 q7 => ?_)
  have again : ∀ {σ7 : St} {H7 : Hp}, Inv X (pins ++ pinsAt fp s5.heap) σ7 H7 s7 -> N σ7 H7 -> ∃ m, m < n /\ ∃ i σ' H', Inv X pins σ' H' s7 /\ tn i s7.heap /\ (∀ b ∈ fp, H' b = none) /\ W i m σ' H' := fun {σ7 H7} I7 n7 => by
   obtain ⟨m', hm, w7⟩ := hN σ7 H7 n7
   refine ⟨m', hm, i + 1, σ7, H7, I7.unpinned, T.keep _ _ _ st5 fun b hb o e => (I7.pin (b, o) (List.mem_append_right _ (List.mem_append_right _ (mem_pinsAt hb e)))).1, fun b hb => ?_, w7⟩
   obtain ⟨o, e, d⟩ := T.obj _ _ st5 b hb
   exact (I7.pin (b, o) (List.mem_append_right _ (List.mem_append_right _ (mem_pinsAt hb e)))).2.1
  cases f with
  | next => obtain ⟨σ7, H7, I7, n7⟩ := q7; exact again I7 n7
  | cont => obtain ⟨σ7, H7, I7, n7⟩ := q7; exact again I7 n7
  | brk => obtain ⟨σ7, H7, I7, q7⟩ := q7; exact ⟨σ7, H7, I7.unpinned, q7⟩
  | ret v => obtain ⟨x7, σ7, H7, I7, r7, q7⟩ := q7; exact ⟨x7, σ7, H7, I7.unpinned, r7, q7⟩
end
theorem for_range {lo : Int} {n : Nat} {g : TG} {tb : TS} {D : Ends} {σ : St} {H : Hp} (Pv : Nat -> St -> Hp -> Prop) (h0 : Pv 0 σ H)
  (hs : ∀ i σ H, i < n -> Pv i σ H -> g (.int (lo + i)) σ H fun σ2 H2 => tb { D with nx := Pv (i + 1), ct := Pv (i + 1), bk := D.nx } σ2 H2) (hd : ∀ σ H, Pv n σ H -> D.nx σ H) :
  ∃ W : Nat -> Nat -> St -> Hp -> Prop, (∃ m, W 0 m σ H) /\ ∀ i m σ H, W i m σ H ->
   ((Itr lo n).stop i H /\ D.nx σ H) \/ ((Itr lo n).go i H /\ ∃ N : St -> Hp -> Prop, (∀ σ' H', N σ' H' -> ∃ m', m' < m /\ W (i + 1) m' σ' H') /\ ∀ x H', (Itr lo n).yld i H x H' -> g x σ H' fun σ2 H2 => tb { D with nx := N, ct := N, bk := D.nx } σ2 H2) := by
 refine ⟨fun i m σ H => m = n - i /\ i <= n /\ Pv i σ H, ⟨n, by simp, Nat.zero_le _, h0⟩, ?_⟩
 rintro i m σ H ⟨rfl, hi, p⟩
 by_cases hlt : i < n
 ·refine .inr ⟨hlt, Pv (i + 1), fun σ' H' p' => ⟨n - (i + 1), by omega, rfl, hlt, p'⟩, fun x H' y => ?_⟩
  obtain ⟨e, y⟩ := y
  subst e y
  exact hs i σ _ hlt p
 ·have e : i = n := by omega
  subst e
  exact .inl ⟨Nat.le_refl _, hd σ H p⟩
end L2
namespace L2
open PySem PySem.Spec PyProof.Rows
abbrev R2 := V -> V -> Hp -> VK -> Prop
def OpR (X : Cx) (f : Value -> Value -> Sem Value) (r : R2) : Prop :=
 ∀ (pins : List (Addr × Obj)) (s : Shared) (σ : St) (H : Hp) (x y : V) (v u : Value) (Q : VK), Inv X pins σ H s -> RelV x v -> RelV y u -> r x y H Q ->
  wpAny (model X.prog X.w) X.A (f v u) (EP X pins σ Q) X.xe s
def UnR (X : Cx) (f : Value -> Sem Value) (r : V -> Hp -> VK -> Prop) : Prop :=
 ∀ (pins : List (Addr × Obj)) (s : Shared) (σ : St) (H : Hp) (x : V) (v : Value) (Q : VK), Inv X pins σ H s -> RelV x v -> r x H Q ->
  wpAny (model X.prog X.w) X.A (f v) (EP X pins σ Q) X.xe s
def CallR (X : Cx) (f : Value) (r : List V -> Hp -> VK -> Prop) : Prop :=
 ∀ (pins : List (Addr × Obj)) (s : Shared) (σ : St) (H : Hp) (xs : List V) (us : List Value) (Q : VK), Inv X pins σ H s -> Vals xs us -> r xs H Q ->
  wpAny (model X.prog X.w) X.A (call f us) (EP X pins σ Q) X.xe s
def TruR (X : Cx) (r : V -> Hp -> (Bool -> Hp -> Prop) -> Prop) : Prop :=
 ∀ (pins : List (Addr × Obj)) (s : Shared) (σ : St) (H : Hp) (x : V) (v : Value) (Q : Bool -> Hp -> Prop), Inv X pins σ H s -> RelV x v -> r x H Q ->
  wpAny (model X.prog X.w) X.A (truthy v) (TP X pins σ Q) X.xe s
def tOp (r : R2) (ta tb : TE) : TE := fun σ H Q => ta σ H fun x H1 => tb σ H1 fun y H2 => r x y H2 Q
def rI (C : Int -> Int -> Prop) (g : Int -> Int -> V) : R2 := fun x y H Q => ∃ i j, x = .int i /\ y = .int j /\ C i j /\ Q (g i j) H
def rI0 (g : Int -> Int -> V) : R2 := fun x y H Q => ∃ i j, x = .int i /\ y = .int j /\ Q (g i j) H
section
variable {X : Cx} {a b c : Expr} {ta tb tc : TE} {pos : Pos}
theorem binT (ha : PE X a ta) (hb : PE X b tb) {pins : List (Addr × Obj)} {s : Shared} {σ : St} {H : Hp} {R : V -> V -> Hp -> Prop} (I : Inv X pins σ H s)
  (h : ta σ H fun x H1 => tb σ H1 fun y H2 => R x y H2) {Q : Value -> Shared -> Prop} {f : Value -> Value -> Sem Value}
  (hf : ∀ v u s2 x y H2, Inv X pins σ H2 s2 -> RelV x v -> RelV y u -> R x y H2 -> wpAny (model X.prog X.w) X.A (f v u) Q X.xe s2) :
  wpAny (model X.prog X.w) X.A (eval a X.env) (fun v s₁ => wpAny (model X.prog X.w) X.A (eval b X.env) (fun u s₂ => wpAny (model X.prog X.w) X.A (f v u) Q X.xe s₂) X.xe s₁) X.xe s := by
 refine thn (ha pins s σ H _ I h) fun v s1 ⟨x, H1, I1, r1, q1⟩ => ?_
 refine thn (hb pins s1 σ H1 _ I1 q1) fun u s2 ⟨y, H2, I2, r2, q2⟩ => ?_
 exact hf v u s2 x y H2 I2 r1 r2 q2
theorem pe_op {op : Operator} {r : R2} (ho : OpR X (binaryOp op) r) (ha : PE X a ta) (hb : PE X b tb) : PE X (.BinOp a op b pos) (tOp r ta tb) := by
 intro pins s σ H Q I h
 exact wpAny_BinOp (binT ha hb I h fun v u s2 x y H2 I2 rx ry q => ho pins s2 σ H2 x y v u Q I2 rx ry q)
theorem opI {f : Value -> Value -> Sem Value} {C : Int -> Int -> Prop} {g : Int -> Int -> Int}
  (rule : ∀ (i j : Int) (t u : Tok) (s : Shared) (Q : Value -> Shared -> Prop) (E : Value -> Shared -> Prop), C i j -> Q (.int (g i j) s.toks) { s with toks := s.toks + 1 } -> wpAny (model X.prog X.w) X.A (f (.int i t) (.int j u)) Q E s) :
  OpR X f (rI C fun i j => .int (g i j)) := by
 intro pins s σ H x y v u Q I rx ry h
 obtain ⟨i, j, rfl, rfl, hc, q⟩ := h
 obtain ⟨t, rfl⟩ := rx
 obtain ⟨t', rfl⟩ := ry
 exact rule i j t t' s _ _ hc ⟨.int (g i j), H, I.tok _, ⟨_, rfl⟩, q⟩
theorem opI0 {f : Value -> Value -> Sem Value} {g : Int -> Int -> Int}
  (rule : ∀ (i j : Int) (t u : Tok) (s : Shared) (Q : Value -> Shared -> Prop) (E : Value -> Shared -> Prop), Q (.int (g i j) s.toks) { s with toks := s.toks + 1 } -> wpAny (model X.prog X.w) X.A (f (.int i t) (.int j u)) Q E s) :
  OpR X f (rI0 fun i j => .int (g i j)) := by
 intro pins s σ H x y v u Q I rx ry h
 obtain ⟨i, j, rfl, rfl, q⟩ := h
 obtain ⟨t, rfl⟩ := rx
 obtain ⟨t', rfl⟩ := ry
 exact rule i j t t' s _ _ ⟨.int (g i j), H, I.tok _, ⟨_, rfl⟩, q⟩
theorem opB0 {f : Value -> Value -> Sem Value} {g : Int -> Int -> Bool}
  (rule : ∀ (i j : Int) (t u : Tok) (s : Shared) (Q : Value -> Shared -> Prop) (E : Value -> Shared -> Prop), Q (.bool (g i j)) s -> wpAny (model X.prog X.w) X.A (f (.int i t) (.int j u)) Q E s) :
  OpR X f (rI0 fun i j => .bl (g i j)) := by
 intro pins s σ H x y v u Q I rx ry h
 obtain ⟨i, j, rfl, rfl, q⟩ := h
 obtain ⟨t, rfl⟩ := rx
 obtain ⟨t', rfl⟩ := ry
 exact rule i j t t' s _ _ ⟨.bl (g i j), H, I, rfl, q⟩
def CDiv (i j : Int) : Prop := 0 < j /\ j < 1073741824
def CMul (i j : Int) : Prop := (-(2 ^ 64) < i /\ i < 2 ^ 64) \/ (-(2 ^ 64) < j /\ j < 2 ^ 64)
theorem CMul.ok {i j : Int} (h : CMul i j) : IntMulOk i j := by
 rcases h with ⟨h1, h2⟩ | ⟨h1, h2⟩
 ·exact .of_left (intBits_le_64 h1 h2)
 ·exact .of_right (intBits_le_64 h1 h2)
theorem op_add : OpR X (binaryOp .Add) (rI0 fun i j => .int (i + j)) := opI0 fun _ _ _ _ _ _ _ q => add_int q
theorem op_sub : OpR X (binaryOp .Sub) (rI0 fun i j => .int (i - j)) := opI0 fun _ _ _ _ _ _ _ q => sub_int q
theorem op_mul : OpR X (binaryOp .Mult) (rI CMul fun i j => .int (i * j)) := opI fun _ _ _ _ _ _ _ hc q => mul_int q hc.ok
theorem op_fdiv : OpR X (binaryOp .FloorDiv) (rI CDiv fun i j => .int (i / j)) := opI fun i j _ _ _ _ _ hc q => by
 have h1 : (0 : Int) < j := hc.1
 have h2 : j < 1073741824 := hc.2
 exact floordiv_int (by omega) (by rw [Int.fdiv_eq_ediv_of_nonneg i (by omega)]; exact q) (.inl (PyProof.noPylong_small (by omega)))
theorem op_mod : OpR X (binaryOp .Mod) (rI (fun _ j => 0 < j) fun i j => .int (i % j)) := opI fun i j _ _ _ _ _ hc q => by
 have h1 : (0 : Int) < j := hc
 exact mod_int' (by omega) (by rw [Int.fmod_eq_emod_of_nonneg i (by omega)]; exact q)
end
section
variable {X : Cx} {a b c : Expr} {ta tb tc : TE} {pos : Pos}
theorem op_lt : OpR X (compareOp .Lt) (rI0 fun i j => .bl (decide (i < j))) := opB0 fun _ _ _ _ _ _ _ q => lt_int q
theorem op_le : OpR X (compareOp .LtE) (rI0 fun i j => .bl (decide (i <= j))) := opB0 fun _ _ _ _ _ _ _ q => le_int q
theorem op_gt : OpR X (compareOp .Gt) (rI0 fun i j => .bl (decide (j < i))) := opB0 fun _ _ _ _ _ _ _ q => gt_int q
theorem OpR.or {f : Value -> Value -> Sem Value} {r r' : R2} (h : OpR X f r) (h' : OpR X f r') : OpR X f (fun x y H Q => r x y H Q \/ r' x y H Q) := by
 intro pins s σ H x y v u Q I rx ry q
 rcases q with q | q
 ·exact h pins s σ H x y v u Q I rx ry q
 ·exact h' pins s σ H x y v u Q I rx ry q
theorem nomark (b : Expr) {op : CmpOp} (h : op ≠ .In := by decide) (h2 : op ≠ .NotIn := by decide) : behindInMarks op b = false := by
 have e1 : (op == CmpOp.In) = false := by cases op <;> first | rfl | exact absurd rfl h
 have e2 : (op == CmpOp.NotIn) = false := by cases op <;> first | rfl | exact absurd rfl h2
 cases b <;> simp [behindInMarks, e1, e2]
theorem pe_cmpR {op : CmpOp} {r : R2} (ho : OpR X (compareOp op) r) (ha : PE X a ta) (hb : PE X b tb) (hm : behindInMarks op b = false) : PE X (.Compare a [op] [b] pos) (tOp r ta tb) := by
 intro pins s σ H Q I h
 exact wpAny_Compare1 (binT ha hb I h fun v u s2 x y H2 I2 rx ry q => ho pins s2 σ H2 x y v u Q I2 rx ry q) hm
def tTest (t : TE) : TT := fun σ H Q => t σ H fun x H' => ∃ k, x = .bl k /\ Q k H'
theorem pt_cmpR {op : CmpOp} {r : R2} (ho : OpR X (compareOp op) r) (ha : PE X a ta) (hb : PE X b tb) (hm : behindInMarks op b = false) : PT X (.Compare a [op] [b] pos) (tTest (tOp r ta tb)) := by
 intro pins s σ H Q I h
 refine wpAny_isTrue_Compare1 (thn (ha pins s σ H _ I h) fun v s1 ⟨x, H1, I1, r1, q1⟩ => thn (hb pins s1 σ H1 _ I1 q1) fun u s2 ⟨y, H2, I2, r2, q2⟩ =>
  thn (ho pins s2 σ H2 x y v u _ I2 r1 r2 q2) fun c s3 ⟨z, H3, I3, r3, k, e, q3⟩ => ?_) hm
 subst e
 cases r3
 exact wpAny_truthy_bool ⟨H3, I3, q3⟩
def TruV (K : PySem.W.Frag) (x : V) (H : Hp) (k : Bool) : Prop :=
 match x with
 | .non => k = false
 | .bl b => k = b
 | .int i => k = (i != 0)
 | .str y => y.length <= sizeLine /\ k = ((y.length : Int) != 0)
 | .byt y => y.size <= sizeLine /\ k = ((y.size : Int) != 0)
 | .ref p => (∃ xs, SqL K H p xs /\ k = !xs.isEmpty) \/ (∃ xs, SqT K H p xs /\ k = !xs.isEmpty) \/ ∃ kvs, H p = some (.dK kvs) /\ k = !kvs.isEmpty
 | _ => False
theorem isEmpty_kv {κ : Type} {kvs : List (κ × V)} {vs : List (κ × Value)} (r : KV kvs vs) : (!vs.isEmpty) = !kvs.isEmpty := by
 cases r <;> rfl
theorem isEmpty_of {xs : List V} {its : List Value} (r : Vals xs its) : (!its.toArray.isEmpty) = !xs.isEmpty := by
 cases r <;> simp
theorem line63 : (sizeLine : Nat) < 2 ^ 63 := by rw [sizeLine_eq]; decide
theorem tru_ok : TruR X (fun x H Q => ∃ k, TruV X.K x H k /\ Q k H) := by
 intro pins s σ H x v Q I rx h
 obtain ⟨k, e, q⟩ := h
 have hl := line63
 have hs : sizeLine = 16777216 := sizeLine_eq
 cases x with
 | non =>
  cases rx
  have e' : k = false := e
  subst e'
  exact truthy_none ⟨H, I, q⟩
 | bl b =>
  cases rx
  have e' : k = b := e
  subst e'
  exact wpAny_truthy_bool ⟨H, I, q⟩
 | int i =>
  obtain ⟨t, rfl⟩ := rx
  have e' : k = (i != 0) := e
  subst e'
  exact PySem.P.truthy_int ⟨H, I, q⟩
 | str y =>
  obtain ⟨t, rfl⟩ := rx
  obtain ⟨hy, e'⟩ : y.length <= sizeLine /\ k = ((y.length : Int) != 0) := e
  subst e'
  exact PySem.P.truthy_str (by omega) ⟨H, I.tok _, q⟩
 | byt y =>
  obtain ⟨t, rfl⟩ := rx
  obtain ⟨hy, e'⟩ : y.size <= sizeLine /\ k = ((y.size : Int) != 0) := e
  subst e'
  exact PySem.W.truthy_bytes (by omega) ⟨H, I.tok _, q⟩
 | ref p =>
  cases rx
  have e' : (∃ xs, SqL X.K H p xs /\ k = !xs.isEmpty) \/ (∃ xs, SqT X.K H p xs /\ k = !xs.isEmpty) \/ ∃ kvs, H p = some (.dK kvs) /\ k = !kvs.isEmpty := e
  rcases e' with ⟨xs, hx, e'⟩ | ⟨xs, hx, e'⟩ | ⟨kvs, hx, e'⟩
  ·subst e'
   obtain ⟨its, r, pl, hz⟩ := I.list hx
   have hlen := r.length
   exact wpAny_truthy_list pl.isList (by simp only [List.size_toArray]; omega) ⟨H, I.tok _, by rw [isEmpty_of r]; exact q⟩
  ·subst e'
   obtain ⟨its, r, pl, hz⟩ := I.tuple hx
   have hlen := r.length
   exact truthy_tuple pl (by simp only [List.size_toArray]; omega) ⟨H, I.tok _, by rw [isEmpty_of r]; exact q⟩
  ·subst e'
   obtain ⟨hz, hS, vs, r, m⟩ : kvs.length <= sizeLine /\ (p == sysModules) = false /\ ∃ vs, KV kvs vs /\ s.heap.DictOf (mixKind X.prog X.w) p vs := I.hok p _ hx
   have hlen : kvs.length = vs.length := Paired.length r
   exact wpAny_truthy_dict hS m (by omega) ⟨H, I.tok _, by rw [isEmpty_kv r]; exact q⟩
 | _ => exact (show False from e).elim
theorem pt_truth (ha : PE X a ta) (he : ∀ whole, isTrue a X.env whole = (do let v <- whole; standAt a.pos; holding [v] (truthy v))) :
  PT X a (fun σ H Q => ta σ H fun x H' => ∃ k, TruV X.K x H' k /\ Q k H') := by
 intro pins s σ H Q I h
 exact isTrue_plain (thn (ha pins s σ H _ I h) fun v s1 ⟨x, H1, I1, r1, q1⟩ => tru_ok pins s1 σ H1 x v Q I1 r1 q1) (he _)
theorem op_add_str : OpR X (binaryOp .Add) (fun x y H Q => ∃ i j, x = .str i /\ y = .str j /\ i.length + j.length <= sizeLine /\ Q (.str (i ++ j)) H) := by
 intro pins s σ H x y v u Q I rx ry h
 obtain ⟨i, j, rfl, rfl, hz, q⟩ := h
 obtain ⟨t, rfl⟩ := rx
 obtain ⟨t', rfl⟩ := ry
 exact add_str (fun t' tk => ⟨.str (i ++ j), H, I.tok _, ⟨_, rfl⟩, q⟩) hz
theorem vals1 {x : V} {us : List Value} (r : Vals [x] us) : ∃ u, us = [u] /\ RelV x u := by
 cases r with
 | cons r1 r2 => cases r2; exact ⟨_, rfl, r1⟩
theorem vals2 {x y : V} {us : List Value} (r : Vals [x, y] us) : ∃ u w', us = [u, w'] /\ RelV x u /\ RelV y w' := by
 cases r with
 | cons r1 r2 =>
  cases r2 with
  | cons r3 r4 => cases r4; exact ⟨_, _, rfl, r1, r3⟩
theorem call_max2 (hc : X.calm = true) : CallR X (.builtin "max") (fun xs H Q => ∃ i j, xs = [.int i, .int j] /\ Q (.int (if j > i then j else i)) H) := by
 intro pins s σ H xs us Q I r h
 obtain ⟨i, j, rfl, q⟩ := h
 obtain ⟨u, w', rfl, ⟨t, rfl⟩, ⟨t', rfl⟩⟩ := vals2 r
 refine max_two_ints (I.ok.hd hc) fun h' tk k => ⟨_, H, I.kept k, ?_, q⟩
 by_cases hj : j > i
 ·rw [if_pos hj, if_pos hj]; exact ⟨_, rfl⟩
 ·rw [if_neg hj, if_neg hj]; exact ⟨_, rfl⟩
theorem call_int1 : CallR X (.type "int") (fun xs H Q => (∃ i, xs = [.int i] /\ Q (.int i) H) \/ ∃ k, xs = [.bl k] /\ Q (.int (if k then 1 else 0)) H) := by
 intro pins s σ H xs us Q I r h
 rcases h with ⟨i, rfl, q⟩ | ⟨k, rfl, q⟩
 ·obtain ⟨u, rfl, t, rfl⟩ := vals1 r
  exact call_int_int ⟨.int i, H, I, ⟨_, rfl⟩, q⟩
 ·obtain ⟨u, rfl, r1⟩ := vals1 r
  cases r1
  exact call_int_bool ⟨.int (if k then 1 else 0), H, I.tok _, ⟨_, rfl⟩, q⟩
def LenV (K : PySem.W.Frag) (x : V) (H : Hp) (n : Nat) : Prop :=
 match x with
 | .str y => y.length <= sizeLine /\ n = y.length
 | .byt y => y.size <= sizeLine /\ n = y.size
 | .ref p => (∃ xs, SqL K H p xs /\ n = xs.length) \/ ∃ xs, SqT K H p xs /\ n = xs.length
 | _ => False
theorem call_len : CallR X (.builtin "len") (fun xs H Q => ∃ x n, xs = [x] /\ LenV X.K x H n /\ Q (.int n) H) := by
 intro pins s σ H xs us Q I r h
 obtain ⟨x, n, rfl, e, q⟩ := h
 obtain ⟨u, rfl, rx⟩ := vals1 r
 have hl := line63
 have hs : sizeLine = 16777216 := sizeLine_eq
 cases x with
 | str y =>
  obtain ⟨t, rfl⟩ := rx
  obtain ⟨hy, e'⟩ : y.length <= sizeLine /\ n = y.length := e
  subst e'
  exact len_str (by omega) ⟨.int _, H, I.tok _, ⟨_, rfl⟩, q⟩
 | byt y =>
  obtain ⟨t, rfl⟩ := rx
  obtain ⟨hy, e'⟩ : y.size <= sizeLine /\ n = y.size := e
  subst e'
  exact PySem.W.len_bytes (by omega) ⟨.int _, H, I.tok _, ⟨_, rfl⟩, q⟩
 | ref p =>
  cases rx
  have e' : (∃ xs, SqL X.K H p xs /\ n = xs.length) \/ ∃ xs, SqT X.K H p xs /\ n = xs.length := e
  rcases e' with ⟨xs, hx, e'⟩ | ⟨xs, hx, e'⟩
  ·subst e'
   obtain ⟨its, r', pl, hz⟩ := I.list hx
   have hlen := r'.length
   exact Calls.call_len_list pl.isList (by simp only [List.size_toArray]; omega) ⟨.int xs.length, H, I.tok _, ⟨_, by simp only [List.size_toArray]; rw [hlen]⟩, q⟩
  ·subst e'
   obtain ⟨its, r', pl, hz⟩ := I.tuple hx
   have hlen := r'.length
   exact len_tuple pl (by simp only [List.size_toArray]; omega) ⟨.int xs.length, H, I.tok _, ⟨_, by simp only [List.size_toArray]; rw [hlen]⟩, q⟩
 | _ => exact (show False from e).elim
end
end L2
namespace L2
open PySem PySem.Spec PyProof.Rows
structure ObjM (h : Heap) (x dx C : Addr) (mA : Str -> Option Value) : Prop where
 obj : h.get? x = some (PySem.W.instObj C dx)
 ns : h.Ns1 dx mA
 ne : dx ≠ x
section
variable {prog : Program} {w : World} {A : Around} {E : Value -> Shared -> Prop} {s : Shared} {K : PySem.W.Frag} {x dx C f : Addr} {mA : Str -> Option Value} {name : Str} {v : Value}
end
section
variable {P : Program} {w : World} {H H' : Hp} {h h' : Heap} {a C dx : Addr} {fs fs' : List (Str × V)}
end
structure Cls (K : PySem.W.Frag) (C : Addr) : Prop where
 pg : PySem.W.plainGet K C Str.empty = true
 hd : PySem.W.hasDictIn K C = true
 po : PySem.W.plainOver K C = true
 sa : PySem.W.findIn K (.ref C) "__setattr__" = some (some (.builtin "object.__setattr__"))
structure Con (K : PySem.W.Frag) (C : Addr) (f : Str) (v : V) (u : Value) : Prop where
 at_ : PySem.W.findIn K (.ref C) f = some (some u)
 rel : RelV v u
 get : PySem.W.specialIn K u "__get__" = some none
 cp : PySem.W.copiedNames.contains f = false
structure Meth (K : PySem.W.Frag) (C : Addr) (m : Str) (f : Addr) : Prop where
 at_ : PySem.W.findIn K (.ref C) m = some (some (.ref f))
 fn : PySem.W.isFn K (.ref f) = true
 kp : PySem.W.keepIn K (.ref f) = true
section
variable {X : Cx} {pins : List (Addr × Obj)} {σ : St} {H : Hp} {s : Shared} {a C dx : Addr} {fs : List (Str × V)} {f : Str} {v : V} {A : Around} {E : Value -> Shared -> Prop}
end
section
variable {X : Cx} {o e value : Expr} {f : Str} {pos pos' tpos : Pos} {ta tv : TE}
end
section
variable {X : Cx} {pins : List (Addr × Obj)} {σ : St} {H : Hp} {s : Shared} {A : Around} {E : Value -> Shared -> Prop} {Q : Value -> Shared -> Prop} {c : Value} {b : Bool}
inductive TyOf (K : PySem.W.Frag) (H : Hp) : V -> Value -> Prop where
 | non : TyOf K H .non (.type "NoneType")
 | bl (x : Bool) : TyOf K H (.bl x) (.type "bool")
 | int (i : Int) : TyOf K H (.int i) (.type "int")
 | str (x : Str) : TyOf K H (.str x) (.type "str")
 | flt (x : UInt64) : TyOf K H (.flt x) (.type "float")
 | lst {a : Addr} {xs : List V} (e : H a = some (.lst xs)) : TyOf K H (.ref a) (.type "list")
 | frz {a : Addr} {o : Obj} {xs : List V} (e : H a = some (.frz o (.lst xs))) : TyOf K H (.ref a) (.type "list")
 | tup {a : Addr} {xs : List V} (e : H a = some (.tup xs)) : TyOf K H (.ref a) (.type "tuple")
 | dK {a : Addr} {kvs : List (Key × V)} (e : H a = some (.dK kvs)) : TyOf K H (.ref a) (.type "dict")
 | dT {a : Addr} {kvs : List (List Key × V)} (e : H a = some (.dT kvs)) : TyOf K H (.ref a) (.type "dict")
 | ins {a C dx : Addr} {fs : List (Str × V)} (e : H a = some (.ins C dx fs)) (cl : Cls K C) (ha : PySem.W.findIn K (.ref C) "__class__" = some (some (.builtin "object.__class__")))
   (hn : PySem.W.specialIn K (.builtin "object.__class__") "__get__" = some (some (.builtin "getset_descriptor.__get__"))) (htk : PySem.W.takesIn K (.builtin "object.__class__") = some true)
   (hm : PySem.W.mroIn K C (.type "object") = some true) : TyOf K H (.ref a) (.ref C)
end
end L2
namespace L2
open PySem PySem.Spec PyProof.Rows
structure Room (k : Nat) (A : Around) : Prop where
 hd : A.handled = none
 dp : A.depth + 3 * k + 5 < recursionLimit
 un : A.units + 16 * k + 200 < cLine
 gd : A.guards = some []
theorem Room.deeper {k : Nat} {A : Around} (r : Room (k + 1) A) (env : Env) : Room k (A.deeper env) :=
 ⟨r.hd, by have := r.dp; show A.depth + 1 + 3 * k + 5 < _; omega, by have := r.un; show A.units + 3 + 16 * k + 200 < _; omega, r.gd⟩
theorem Room.depth {k : Nat} {A : Around} (r : Room k A) : A.depth < recursionLimit := by have := r.dp; omega
def tNil : TA := fun _ H Q => Q [] H
def tCons (ta : TE) (tr : TA) : TA := fun σ H Q => ta σ H fun x H1 => tr σ H1 fun xs H2 => Q (x :: xs) H2
section
variable {X : Cx} {e : Expr} {es : List Expr} {te : TE} {t : TA} {pos : Pos}
theorem pa_nil : PA X [] tNil := fun _ _ _ _ H Q I h => Calls.spliced_nil ⟨[], H, I, .nil, h⟩
theorem pa_cons (ha : PE X e te) (hr : PA X es t) (hs : starEach (e :: es) X.env = (false, eval e X.env) :: starEach es X.env := by rfl) : PA X (e :: es) (tCons te t) := by
 intro pos pins s σ H Q I h
 rw [hs]
 show wpAny _ _ (spliced ((false, eval e X.env) :: backTo pos (starEach es X.env))) _ _ s
 refine Calls.spliced_cons (thn (ha pins s σ H _ I h) fun u s1 ⟨x, H1, I1, r1, q1⟩ => ?_)
 exact thn (hr pos pins s1 σ H1 _ I1 q1) fun us s2 ⟨xs, H2, I2, r2, q2⟩ => ⟨x :: xs, H2, I2, .cons r1 r2, q2⟩
def tTup (t : TA) : TE := fun σ H Q => t σ H fun xs H1 => xs.length <= sizeLine /\ ∀ p, H1 p = none -> Q (.ref p) (upd H1 p (.tup xs))
def tLst (t : TA) : TE := fun σ H Q => t σ H fun xs H1 => xs.length <= sizeLine /\ ∀ p, H1 p = none -> Q (.ref p) (upd H1 p (.lst xs))
theorem pe_tup {x1} (h : PA X es t) : PE X (.Tuple es x1 pos) (tTup t) := by
 intro pins s σ H Q I hq
 refine wpAny_Tuple_spliced (thn (h pos pins s σ H _ I hq) fun us s1 ⟨xs, H1, I1, r, z, q⟩ => ⟨by rw [<- r.length]; exact z, ?_⟩)
 have hf : H1 s1.heap.objs.size = none := I1.hok.fresh (Nat.le_refl _)
 refine ⟨.ref s1.heap.objs.size, upd H1 s1.heap.objs.size (.tup xs), I1.laid (t' := s1.toks) (fun b u e => Heap.get?_push_of_some _ e) (Nat.le_refl _) ?_, rfl, q _ hf⟩
 exact ⟨z, us, r, ⟨_, Heap.get?_push_size _ rfl, rfl, _, rfl⟩⟩
theorem pe_lst (h : PA X es t) : PE X (.List es pos) (tLst t) := by
 intro pins s σ H Q I hq
 refine wpAny_List_spliced (thn (h pos pins s σ H _ I hq) fun us s1 ⟨xs, H1, I1, r, z, q⟩ => ⟨by rw [<- r.length]; exact z, ?_⟩)
 have hf : H1 s1.heap.objs.size = none := I1.hok.fresh (Nat.le_refl _)
 refine ⟨.ref s1.heap.objs.size, upd H1 s1.heap.objs.size (.lst xs), I1.laid (t' := s1.toks) (fun b u e => Heap.get?_push_of_some _ e) (Nat.le_refl _) ?_, rfl, q _ hf⟩
 exact ⟨z, us, 0, r, Heap.get?_push_size _ rfl⟩
end
abbrev Sp := List V -> Hp -> VK -> XK -> Prop
abbrev CXT := List Env -> Hp -> Shared -> XK -> Value -> Shared -> Prop
structure Env0 (P : Program) (w : World) (K : PySem.W.Frag) (mg : Str -> Option Value) (base : Heap) (A : Around) (outer : List Env) (s : Shared) (H : Hp) : Prop where
 frames : A.frames = some outer
 mod : Mod K mg base
 bs : ∀ b o, base.get? b = some o -> s.heap.get? b = some o /\ H b = none
 bsz : base.objs.size <= s.heap.objs.size
 funs : s.heap.FunFrames base outer
 frf : ∀ b ∈ frs outer, H b = none
 hok : HOk P w H s.heap
 bare : AllBare s.gens
def CE (outer : List Env) (P : Program) (w : World) (H : Hp) (s : Shared) (Q : VK) (u : Value) (s' : Shared) : Prop :=
 ∃ v H', s'.os = s.os /\ AllBare s'.gens /\ Un (frs outer) [] H H' s.heap s'.heap /\ HOk P w H' s'.heap /\ RelV v u /\ Q v H'
def CR (CX : CXT) (outer : List Env) (P : Program) (w : World) (H : Hp) (s : Shared) (Q : VK) (E : XK) (r : Result) (s' : Shared) : Prop :=
 match r with
 | .ok (.ret u) => CE outer P w H s Q u s'
 | .ok _ => False
 | .error e => CX outer H s E e s'
structure FnOk (P : Program) (w : World) (K : PySem.W.Frag) (mg : Str -> Option Value) (base : Heap) (CX : CXT) (k : Nat) (f : Addr) (fd : FuncData) (ps : List Str) (sp : Sp) : Prop where
 len : ∀ vs H Q E, sp vs H Q E -> vs.length = ps.length
 run : ∀ (A : Around) (outer : List Env) (s : Shared) (H : Hp) (args : Args) (us : List Value) (vs : List V) (Q : VK) (E : XK), Room k A -> Env0 P w K mg base A outer s H -> BindsTo s fd args (ps.zip us) -> Vals vs us -> sp vs H Q E ->
  codeAny (model P w) A (.call (.ref f) args) (CR CX outer P w H s Q E) s
theorem FnOk.imp {P : Program} {w : World} {K : PySem.W.Frag} {mg : Str -> Option Value} {base : Heap} {CX : CXT} {k : Nat} {f : Addr} {fd : FuncData} {ps : List Str} {sp sp' : Sp} (F : FnOk P w K mg base CX k f fd ps sp)
  (h : ∀ vs H Q E, sp' vs H Q E -> sp vs H Q E) : FnOk P w K mg base CX k f fd ps sp' :=
 ⟨fun vs H Q E q => F.len vs H Q E (h _ _ _ _ q), fun A outer s H args us vs Q E hr he hb hv hs => F.run A outer s H args us vs Q E hr he hb hv (h _ _ _ _ hs)⟩
section
variable {X : Cx} {pins : List (Addr × Obj)} {σ : St} {H : Hp} {s s' : Shared}
theorem Inv.env0 (I : Inv X pins σ H s) : Env0 X.prog X.w X.K X.mg X.base X.A X.stack s H :=
 ⟨I.ok.frames, I.ok.mod, I.bs, Nat.le_trans I.ok.bsz I.sz, I.stack, I.stkFree, I.hok, I.bare⟩
theorem Inv.after {Q : VK} {u : Value} (I : Inv X pins σ H s) (h : CE X.stack X.prog X.w H s Q u s') : EP X pins σ Q u s' := by
 obtain ⟨v, H', os, bare, un, hok, r, q⟩ := h
 obtain ⟨hh, g, d, t, os'⟩ := s'
 obtain rfl : os' = s.os := os
 exact ⟨v, H', I.call (h' := hh) (g' := g) (d' := d) (t' := t) (ch := []) un hok bare (fun b z => absurd z (by simp)), r, q⟩
end
def tCall (sp : Sp) (dvs : List V) (E : XK) (t : TA) : TE := fun σ H Q => t σ H fun vs H1 => sp (vs ++ dvs) H1 Q E
def Binds (K : PySem.W.Frag) (fd : FuncData) (ps : List Str) (ds : List Value) : Prop :=
 ∀ (s : Shared) (us : List Value), K.In s.heap -> (us ++ ds).length = ps.length -> BindsTo s fd ⟨us, []⟩ (ps.zip (us ++ ds))
theorem Binds.all {K : PySem.W.Frag} {fd : FuncData} {ps : List Str} (h : ∀ us : List Value, us.length = ps.length -> bindArgs fd ⟨us, []⟩ = pure (ps.zip us)) : Binds K fd ps [] := fun s us _ hl => by
 rw [List.append_nil] at hl |-
 exact .of_eq (h us hl)
section
variable {X : Cx} {CX : CXT} {k : Nat} {f C : Addr} {fd : FuncData} {ps : List Str} {sp : Sp} {dvs : List V} {ds : List Value} {E : XK} {x m : Str} {p pos apos : Pos} {e o : Expr} {es : List Expr} {ta : TE} {t : TA}
structure Mk (K : PySem.W.Frag) (C f : Addr) : Prop where
 makes : PySem.W.makesIn K C = true
 init : PySem.W.findIn K (.ref C) "__init__" = some (some (.ref f))
 fn : PySem.W.isFn K (.ref f) = true
 kp : PySem.W.keepIn K (.ref C) = true
end
section
variable {X : Cx} {CX : CXT} {k : Nat} {f C : Addr} {fd : FuncData} {ps ks : List Str} {sp : Sp} {E : XK} {x m : Str} {p pos apos kpos : Pos} {e o : Expr} {es : List Expr} {kws : List Keyword} {te ta : TE} {t tk : TA} {nm : Option Str}
structure KBinds (K : PySem.W.Frag) (fd : FuncData) (ps ks : List Str) (g : List Value -> List Value -> List Value) (gV : List V -> List V -> List V) : Prop where
 to : ∀ (s : Shared) (us ws : List Value), K.In s.heap -> (g us ws).length = ps.length -> BindsTo s fd ⟨us, ks.zip ws⟩ (ps.zip (g us ws))
 rel : ∀ {vs : List V} {us : List Value} {zs : List V} {ws : List Value}, Vals vs us -> Vals zs ws -> Vals (gV vs zs) (g us ws)
variable {g : List Value -> List Value -> List Value} {gV : List V -> List V -> List V}
end
structure FnScope (N P : List Str) (sc : Scope) : Prop where
 kind : sc.kind = .function
 co : sc.isCoroutine = false
 gen : sc.isGenerator = false
 nd : N.Nodup
 pre : N.take P.length = P
 par : ∀ x ∈ P, sc.names.lookup x = some .local \/ sc.names.lookup x = some .cell
 nofree : ∀ y ∈ sc.names, y.2 ≠ .free
theorem bindL_out {kindOf : Str -> Option NameKind} {x : Str} : ∀ {binds : List (Str × Value)} {m : Str -> Option Value}, (∀ v, (x, v) ∉ binds) -> bindL kindOf binds m x = m x
 | [], _, _ => rfl
 | (n, v) :: r, m, h => by
  unfold bindL
  rw [bindL_out fun w hw => h w (List.mem_cons_of_mem _ hw)]
  split
  ·have : x ≠ n := by rintro rfl; exact h v List.mem_cons_self
   simp [this]
  ·rfl
theorem bindC_out {kindOf : Str -> Option NameKind} {x : Str} : ∀ {binds : List (Str × Value)} {m : Str -> Option Value}, (∀ v, (x, v) ∉ binds) -> bindC kindOf binds m x = m x
 | [], _, _ => rfl
 | (n, v) :: r, m, h => by
  unfold bindC
  rw [bindC_out fun w hw => h w (List.mem_cons_of_mem _ hw)]
  split
  ·rfl
  ·have : x ≠ n := by rintro rfl; exact h v List.mem_cons_self
   simp [this]
theorem bindL_get {kindOf : Str -> Option NameKind} {x : Str} {v : Value} : ∀ {P : List Str} {vs : List Value} {i : Nat} {m : Str -> Option Value}, P.Nodup -> P[i]? = some x -> vs[i]? = some v -> kindOf x = some .local ->
  bindL kindOf (P.zip vs) m x = some v
 | [], _, _, _, _, h, _, _ => by simp at h
 | _ :: _, [], _, _, _, _, h, _ => by simp at h
 | p :: P, w :: vs, 0, m, nd, h1, h2, hk => by
  simp at h1 h2; subst h1; subst h2
  show bindL kindOf ((p, w) :: P.zip vs) m p = _
  unfold bindL
  rw [bindL_out fun v hv => (List.nodup_cons.mp nd).1 (List.of_mem_zip hv).1, if_pos hk]
  simp
 | p :: P, w :: vs, i + 1, m, nd, h1, h2, hk => by
  show bindL kindOf ((p, w) :: P.zip vs) m x = _
  unfold bindL
  exact bindL_get (i := i) (List.nodup_cons.mp nd).2 (by simpa using h1) (by simpa using h2) hk
theorem bindC_get {kindOf : Str -> Option NameKind} {x : Str} {v : Value} : ∀ {P : List Str} {vs : List Value} {i : Nat} {m : Str -> Option Value}, P.Nodup -> P[i]? = some x -> vs[i]? = some v -> kindOf x ≠ some .local ->
  bindC kindOf (P.zip vs) m x = some v
 | [], _, _, _, _, h, _, _ => by simp at h
 | _ :: _, [], _, _, _, _, h, _ => by simp at h
 | p :: P, w :: vs, 0, m, nd, h1, h2, hk => by
  simp at h1 h2; subst h1; subst h2
  show bindC kindOf ((p, w) :: P.zip vs) m p = _
  unfold bindC
  rw [bindC_out fun v hv => (List.nodup_cons.mp nd).1 (List.of_mem_zip hv).1, if_neg hk]
  simp
 | p :: P, w :: vs, i + 1, m, nd, h1, h2, hk => by
  show bindC kindOf ((p, w) :: P.zip vs) m x = _
  unfold bindC
  exact bindC_get (i := i) (List.nodup_cons.mp nd).2 (by simpa using h1) (by simpa using h2) hk
noncomputable def start (N : List Str) (vs : List V) : St := vs.map some ++ List.replicate (N.length - vs.length) none
noncomputable def cxOf (CX : CXT) (P : Program) (w : World) (K : PySem.W.Frag) (mg : Str -> Option Value) (base : Heap) (N : List Str) (qual : Str) (scope : Scope) (f : Addr) (cd : Value) (A : Around) (outer : List Env) (s : Shared) (H : Hp) (E : XK) : Cx where
 prog := P
 w := w
 K := K
 mg := mg
 base := base
 A := A.deeper (envOfC qual scope s.heap.objs.size f cd)
 N := N
 s₀ := s
 H₀ := H
 env := envOfC qual scope s.heap.objs.size f cd
 outer := outer
 stack := envOfC qual scope s.heap.objs.size f cd :: outer
 ex := []
 calm := true
 fn := fun _ => true
 pn := []
 xe := fun e s' => wpAny (model P w) (A.deeper (envOfC qual scope s.heap.objs.size f cd)) (leaving (envOfC qual scope s.heap.objs.size f cd) e) (fun _ s'' => CX outer H s E e s'') (fun e' s'' => CX outer H s E e' s'') s'
theorem cell_has {sc : Scope} {n : Nat} {x : Str} (h : sc.names.lookup x = some .cell) : ∃ c, (cellsFrom n sc.names []).lookup x = some c := by
 have q := PySem.W.cellsFrom_some sc.names n [] (.inl h)
 exact Option.isSome_iff_exists.mp q
theorem inv_start {CX : CXT} {P : Program} {w : World} {K : PySem.W.Frag} {mg : Str -> Option Value} {base : Heap} {N ps : List Str} {qual : Str} {scope : Scope} {f : Addr} {cd : Value} {A : Around} {outer : List Env} {s s1 : Shared} {H : Hp} {E : XK} {us : List Value} {vs : List V}
  (S : FnScope N ps scope) (hd : A.handled = none) (e0 : Env0 P w K mg base A outer s H) (hl : vs.length = ps.length) (r : Vals vs us)
  (x : InCallC s s.heap.objs.size (bindL (envOfC qual scope s.heap.objs.size f cd).kindOf (ps.zip us) fun _ => none) (cellsFrom (s.heap.objs.size + 1) scope.names []) (bindC (envOfC qual scope s.heap.objs.size f cd).kindOf (ps.zip us) fun _ => none) s1) :
  Inv (cxOf CX P w K mg base N qual scope f cd A outer s H E) [] (start N vs) H s1 := by
 have hpl : ps.length <= N.length := by have := congrArg List.length S.pre; rw [List.length_take] at this; omega
 obtain ⟨h1, tk, rfl, hk⟩ := x.done
 have noA : ∀ b : Addr, b ∉ (cxOf CX P w K mg base N qual scope f cd A outer s H E).ex := fun b z => absurd (show b ∈ ([] : List Addr) from z) (by simp)
 refine ⟨⟨e0.mod, S.kind, rfl, rfl, Nat.le_refl _, fun y z c h1 h2 => ?_, fun y hy => ?_, fun y c _ h => ?_, fun _ => hd, Around.frames_deeper e0.frames, .inr ⟨rfl, rfl⟩, fun b z => absurd z (noA b), e0.bs, e0.bsz, fun b _ _ => noA b, fun b z => absurd z (noA b), e0.funs, e0.frf⟩,
  rfl, e0.bare, Un.kept hk, ⟨_, x.toInCall.ns, fun i y v h1 h2 h3 => ?_⟩, fun y c h => ⟨_, x.cell y c h⟩, e0.hok.fresh (Nat.le_refl _), fun y c h => ?_, fun p hp => absurd (show p ∈ ([] : List (Addr × Obj)) from hp) (by simp), e0.hok.kept hk, ?_⟩
 ·exact name_of_addr x.apart (PySem.mem_of_lookup h1) (PySem.mem_of_lookup h2)
 ·have hy : scope.names.lookup y = some .cell \/ scope.names.lookup y = some .free := hy
  rcases hy with hy | hy
  ·exact cell_has hy
  ·exact absurd rfl (S.nofree _ (PySem.mem_of_lookup hy))
 ·exact Nat.le_of_lt (x.above y c (PySem.mem_of_lookup h))
 ·have hi : i < vs.length := by
   unfold start at h2
   by_cases hi : i < vs.length
   ·exact hi
   ·rw [List.getElem?_append_right (by simpa using hi)] at h2
    rw [List.getElem?_replicate] at h2
    split at h2 <;> cases h2
  have ha : vs[i]? = some v := by
   unfold start at h2
   rw [List.getElem?_append_left (by simpa using hi), List.getElem?_map] at h2
   cases e : vs[i]? with
   | none => rw [e] at h2; cases h2
   | some a => rw [e] at h2; cases h2; rfl
  obtain ⟨u, hu, rv⟩ := r.get ha
  have hp : ps[i]? = some y := by
   rw [<- S.pre, List.getElem?_take_of_lt (by omega)]; exact h1
  have ndP : ps.Nodup := by rw [<- S.pre]; exact S.nd.sublist (List.take_sublist _ _)
  refine ⟨u, rv, ?_⟩
  rcases S.par y (List.mem_of_getElem? hp) with k | k
  ·exact .inl ⟨k, bindL_get ndP hp hu k⟩
  ·obtain ⟨c, e⟩ := cell_has (n := s.heap.objs.size + 1) k
   refine .inr ⟨.inl k, c, e, ?_⟩
   have q := x.cell y c e
   rw [bindC_get ndP hp hu (by show scope.names.lookup y ≠ _; rw [k]; decide)] at q
   exact q
 ·exact e0.hok.fresh (Nat.le_of_lt (x.above y c (PySem.mem_of_lookup h)))
 ·unfold start
  show _ = N.length
  rw [List.length_append, List.length_map, List.length_replicate]
  omega
theorem fn_of {CX : CXT} {P : Program} {w : World} {K : PySem.W.Frag} {mg : Str -> Option Value} {base : Heap} {k : Nat} {f : Addr} {name qual : Str} {params : Arguments} {body : List Stmt} {scope : Scope} {dV kV doc pm cdv ct oc : Value} {an od : Option Addr}
  {osl : Array (Option Value)} {N ps : List Str} {sp : Sp} (lk : K.lookup f = some ⟨oc, od, .func (PySem.W.fnOf name qual params body scope dV kV doc pm an cdv ct), osl⟩) (hcd : PySem.W.codeIn K cdv qual = true) (S : FnScope N ps scope)
  (len : ∀ vs H Q E, sp vs H Q E -> vs.length = ps.length)
  (hbody : ∀ (A : Around) (outer : List Env) (s : Shared) (H : Hp) (vs : List V) (Q : VK) (E : XK), Room k (A.deeper (envOfC qual scope s.heap.objs.size f cdv)) -> sp vs H Q E ->
   ∃ t, PSs (cxOf CX P w K mg base N qual scope f cdv A outer s H E) body t /\ t { nx := fun _ H' => Q .non H', rt := Q } (start N vs) H) :
  FnOk P w K mg base CX (k + 1) f (PySem.W.fnOf name qual params body scope dV kV doc pm an cdv ct) ps sp := by
 refine ⟨len, fun A outer s H args us vs Q E hr e0 hb r hsp => ?_⟩
 have hl := len _ _ _ _ hsp
 have KX : K.In s.heap := e0.mod.kin.keeps fun b o e => (e0.bs b o e).1
 have lim : s.heap.NoLimit := e0.mod.nolimit.keeps fun b o e => (e0.bs b o e).1
 have hkind : ∀ y ∈ ps.zip us, scope.names.lookup y.1 = some .local \/ (scope.names.lookup y.1 = some .cell /\ ((cellsFrom (s.heap.objs.size + 1) scope.names []).lookup y.1).isSome = true) := fun ⟨n, v⟩ hy => by
  rcases S.par n (List.of_mem_zip hy).1 with q | q
  ·exact .inl q
  ·exact .inr ⟨q, PySem.W.cellsFrom_some _ _ _ (.inl q)⟩
 refine codeAny_call_function hr.depth (KX _ _ lk) rfl S.co S.gen rfl (PySem.W.codeRec_of KX hcd) (hb _ _ _ _ ?_)
 refine wpAny_newFunctionEnv_cells S.kind hkind fun env he s1 x => ?_
 subst he
 refine ⟨lim.keeps x.toInCall.keep, codeAny_func ?_⟩
 obtain ⟨t, ht, hq⟩ := hbody A outer s H vs Q E (hr.deeper _) hsp
 have I : Inv (cxOf CX P w K mg base N qual scope f cdv A outer s H E) [] (start N vs) H s1 := inv_start S hr.hd e0 hl r x
 refine wpAny_mono (ht [] s1 (start N vs) H _ I hq) (fun fl s' hs => ?_) fun e s' hs => hs
 have fin : ∀ {σ' : St} {H' : Hp} {v : V} {u : Value}, Inv (cxOf CX P w K mg base N qual scope f cdv A outer s H E) [] σ' H' s' -> RelV v u -> Q v H' -> CE outer P w H s Q u s' :=
  fun {σ' H' v u} J rv q => ⟨v, H', J.os, J.bare, J.base, J.hok, rv, q⟩
 cases fl with
 | ret u =>
  obtain ⟨v, σ', H', J, rv, q⟩ := hs
  exact fin J rv q
 | next =>
  obtain ⟨σ', H', J, q⟩ := hs
  exact fin (v := V.non) (u := Value.none) J rfl q
 | brk =>
  obtain ⟨_, _, _, q⟩ := hs
  exact False.elim q
 | cont =>
  obtain ⟨_, _, _, q⟩ := hs
  exact False.elim q
end L2
namespace L2
open PySem PySem.Spec PyProof.Rows
section
variable {X : Cx} {x : Str} {p pos : Pos} {e : Expr} {es : List Expr} {t : TA} {id T : String} {r : List V -> Hp -> VK -> Prop}
def tCB (r : List V -> Hp -> VK -> Prop) (t : TA) : TE := fun σ H Q => t σ H fun vs H1 => r vs H1 Q
theorem pe_callB (hc : CallR X (.builtin id) r) (hg : Gl X x) (hm : X.mg x = none) (hv : bootBuiltins x = some (.builtin id)) (ha : PA X (e :: es) t) (hn : x ≠ "__name__" := by decide) (hdb : (x == ("__debug__" : Str)) = false := by decide)
  (he : starEach (e :: es) X.env = (false, eval e X.env) :: starEach es X.env := by rfl) (hpl : (backTo pos (starEach es X.env)).any (·.1) = false := by rfl) : PE X (.Call (.Name x p) (e :: es) [] pos) (tCB r t) := by
 intro pins s σ H Q I h
 refine wpAny_Call_Name_kw (ld_blt I hg hm hv ?_ hn hdb)
 exact PyProof.Rows.callWith_builtin1 (thn (ha pos pins s σ H _ I h) fun us s1 ⟨vs, H1, I1, r1, q1⟩ => hc pins s1 σ H1 vs us Q I1 r1 q1) he hpl
theorem pe_callTy (hc : CallR X (.type T) r) (hg : Gl X x) (hm : X.mg x = none) (hv : bootBuiltins x = some (.type T)) (ha : PA X (e :: es) t) (hn : x ≠ "__name__" := by decide) (hdb : (x == ("__debug__" : Str)) = false := by decide)
  (he : starEach (e :: es) X.env = (false, eval e X.env) :: starEach es X.env := by rfl) (hpl : (backTo pos (starEach es X.env)).any (·.1) = false := by rfl) : PE X (.Call (.Name x p) (e :: es) [] pos) (tCB r t) := by
 intro pins s σ H Q I h
 refine wpAny_Call_Name_kw (ld_blt I hg hm hv ?_ hn hdb)
 exact PyProof.Rows.callWith_type1 (thn (ha pos pins s σ H _ I h) fun us s1 ⟨vs, H1, I1, r1, q1⟩ => hc pins s1 σ H1 vs us Q I1 r1 q1) he hpl
end
end L2
namespace HT
open PySem PyProof.Rows
section
open PySem.SeqAt
open PySem.AutoSeq1 (wpAny_loadPart')
open PySem.MeetsSeq PySem.MeetsSeq2 PySem.MeetsSeq3
end
section
variable {prog : Program} {w : World} {A : Around} {E : Value -> Shared -> Prop} {s : Shared}
theorem cat_tup {t b : Addr} {vs ws : List Value} {Q : Value -> Shared -> Prop} (ht : IsTup s.heap t vs.toArray) (hb : IsTup s.heap b ws.toArray) (hv : vs ≠ [])
  (h1 : ws = [] -> Q (.ref t) s) (h2 : ws ≠ [] -> Q (.ref s.heap.objs.size) { s with heap := s.heap.push { cls := .type "tuple", data := .seq (vs ++ ws).toArray } })
  (hsz : vs.length + ws.length <= sizeLine) : wpAny (model prog w) A (binaryOp .Add (.ref t) (.ref b)) Q E s := by
 obtain ⟨⟨cls, dd, data, sl⟩, ho, hc, n, hd⟩ := id ht
 obtain ⟨⟨cls2, dd2, data2, sl2⟩, ho2, hc2, n2, hd2⟩ := id hb
 simp only at hc hd hc2 hd2
 subst hc hd hc2 hd2
 have e : vs.toArray ++ ws.toArray = (vs ++ ws).toArray := by simp
 by_cases hw : ws = []
 ·exact concat_meets ⟨_, ho, rfl⟩ ⟨_, ho2, rfl⟩ noFill_tuple_add seq_tuple_add PySem.F.slot_tuple_add PySem.F.entry_tuple_add (PySem.F.args_tuple_add_2 _ _)
   (tuple_addW1 t b vs.toArray ws.toArray n n2 dd dd2 sl sl2 (by simpa using hv) (by simp [hw])) ⟨ho, ho2, h1 hw⟩
 ·refine concat_meets ⟨_, ho, rfl⟩ ⟨_, ho2, rfl⟩ noFill_tuple_add seq_tuple_add PySem.F.slot_tuple_add PySem.F.entry_tuple_add (PySem.F.args_tuple_add_2 _ _)
   (tuple_addW2 t b vs.toArray ws.toArray n n2 dd dd2 sl sl2 (by simpa using hv) (by simpa using hw) (by rw [List.size_toArray, List.size_toArray]; exact hsz)) ⟨ho, ho2, ?_⟩
  rw [e]
  exact h2 hw
noncomputable def sIx (n d : Nat) : Option Int -> Nat
 | none => d
 | some v => if v < 0 then (v + (n : Int)).toNat else min v.toNat n
theorem sIx_nat (n d k : Nat) : sIx n d (some (k : Int)) = min k n := by
 show (if (k : Int) < 0 then ((k : Int) + (n : Int)).toNat else min (k : Int).toNat n) = min k n
 rw [if_neg (by omega), Int.toNat_natCast]
theorem sIx_le (n d : Nat) (hd : d <= n) (o : Option Int) : sIx n d o <= n := by
 cases o with
 | none => exact hd
 | some v =>
  show (if v < 0 then (v + (n : Int)).toNat else min v.toNat n) <= n
  by_cases hv : v < 0
  ·rw [if_pos hv]; omega
  ·rw [if_neg hv]; exact Nat.min_le_right _ _
theorem clip_eq (v : Int) (n d : Nat) : (if v < 0 then max (v + (n : Int)) 0 else min v (n : Int)) = ((sIx n d (some v) : Nat) : Int) := by
 show (if v < 0 then max (v + (n : Int)) 0 else min v (n : Int)) = (((if v < 0 then (v + (n : Int)).toNat else min v.toNat n) : Nat) : Int)
 by_cases hv : v < 0
 ·simp only [if_pos hv]; omega
 ·simp only [if_neg hv]; omega
theorem adjust_gen (lo hi : Option Int) (n : Nat) : Builtin.Slice.sliceAdjust lo hi 1 (n : Int) = (((sIx n 0 lo : Nat) : Int), ((sIx n n hi : Nat) : Int)) := by
 have h1 : ¬ ((1 : Int) < 0) := by omega
 unfold Builtin.Slice.sliceAdjust
 simp only [h1, if_false]
 refine Prod.ext ?_ ?_
 ·cases lo with
  | none => rfl
  | some v => exact clip_eq v n 0
 ·cases hi with
  | none => rfl
  | some v => exact clip_eq v n n
theorem places_gen (i j : Nat) : Builtin.Slice.slicePlaces (i : Int) (j : Int) 1 = j - i := by
 unfold Builtin.Slice.slicePlaces
 have h1 : (1 : Int) > 0 := by omega
 simp only [h1, if_true, Int.ediv_one]
 split <;> omega
theorem slicePart_ {v : Value} {o : Option Int} {Q : Option Int -> Shared -> Prop} (p : IsPart v o) (h : Q o s) : wpAny (model prog w) A (Builtin.Slice.slicePartIndex v) Q E s := by
 cases p with
 | none => exact slicePart_none h
 | int i t => exact slicePart_int h
theorem sliceApplied_gen {sl : Addr} {vl vu : Value} {lo hi : Option Int} {n : Nat} {Q : Int × Int × Nat -> Shared -> Prop} (hs : s.heap.IsSliceOf sl vl vu .none) (pl : IsPart vl lo) (pu : IsPart vu hi)
  (h : Q (((sIx n 0 lo : Nat) : Int), 1, sIx n n hi - sIx n 0 lo) s) : wpAny (model prog w) A (Builtin.Slice.sliceApplied (.ref sl) (pure (n : Int))) Q E s := by
 obtain ⟨os, hos, hcs, hds⟩ := id hs
 unfold Builtin.Slice.sliceApplied Builtin.Slice.sliceFields
 refine wpAny_bind (wpAny_bind (wpAny_field hos hds (x := vl) rfl (wpAny_bind (wpAny_field hos hds (x := vu) rfl (wpAny_bind (wpAny_field hos hds (x := .none) rfl (wpAny_pure ?_)))))))
 refine wpAny_bind (slicePart_none ?_)
 show wpAny _ _ (if ((1 : Int) == 0) = true then _ else _) _ _ s
 rw [if_neg (by decide)]
 refine wpAny_bind (slicePart_ pl (wpAny_bind (slicePart_ pu (wpAny_bind (wpAny_pure ?_)))))
 show wpAny _ _ (match Builtin.Slice.sliceAdjust lo hi 1 (n : Int) with | (lo, hi) => pure (lo, (1 : Int), Builtin.Slice.slicePlaces lo hi 1)) _ _ s
 rw [adjust_gen lo hi n]
 show wpAny _ _ (pure (((sIx n 0 lo : Nat) : Int), (1 : Int), Builtin.Slice.slicePlaces ((sIx n 0 lo : Nat) : Int) ((sIx n n hi : Nat) : Int) 1)) _ _ s
 rw [places_gen]
 exact wpAny_pure h
theorem pick_gen (xs : Array Value) (i k : Nat) : ((List.range k).filterMap fun (m : Nat) => xs[((i : Int) + (m : Int) * 1).toNat]?).toArray = ((xs.toList.drop i).take k).toArray := by
 have e : (fun (m : Nat) => xs[((i : Int) + (m : Int) * 1).toNat]?) = fun m => xs[i + m]? := by
  funext m
  have : ((i : Int) + (m : Int) * 1).toNat = i + m := by omega
  rw [this]
 rw [e]
 have := pick_run xs i k
 rw [List.filterMap_map] at this
 have e2 : ((fun x => xs[x]?) ∘ fun x => i + x) = fun m => xs[i + m]? := rfl
 rw [e2] at this
 rw [this]
theorem getItem_tuple_cut {t sl : Addr} {items : Array Value} {vl vu : Value} {lo hi : Option Int} {Q : Value -> Shared -> Prop} (ht : IsTup s.heap t items) (hs : s.heap.IsSliceOf sl vl vu .none) (pl : IsPart vl lo) (pu : IsPart vu hi)
  (hw : ¬ (sIx items.size 0 lo = 0 /\ sIx items.size items.size hi = items.size))
  (h : Q (.ref s.heap.objs.size) { s with heap := s.heap.push { cls := .type "tuple", data := .seq ((items.toList.drop (sIx items.size 0 lo)).take (sIx items.size items.size hi - sIx items.size 0 lo)).toArray } })
  (hsz : items.size <= sizeLine) : wpAny (model prog w) A (getItem (.ref t) (.ref sl)) Q E s := by
 have htake : sizeOk (.seq ((items.toList.drop (sIx items.size 0 lo)).take (sIx items.size items.size hi - sIx items.size 0 lo)).toArray) := by
  show ((items.toList.drop (sIx items.size 0 lo)).take (sIx items.size items.size hi - sIx items.size 0 lo)).toArray.size <= sizeLine
  rw [List.size_toArray, List.length_take, List.length_drop, Array.length_toList]
  omega
 have hj : sIx items.size items.size hi <= items.size := sIx_le _ _ (Nat.le_refl _) hi
 obtain ⟨os, hos, hcs, hds⟩ := id hs
 have hTs : s.TypeIs (.ref sl) "slice" := ⟨os, hos, hcs⟩
 unfold getItem
 try with_reducible refine wpAny_holding ?_
 first | refine wpAny_bind (wpAny_pure ?_) | skip
 refine wpAny_bind (wpAny_sequenceKey ht.typeIs (by decide) ?_)
 refine wpAny_bind (wpAny_callSpecial?_slot (name := Str.ofString "__getitem__") ht.typeIs PyProof.Rows.slot_tuple_getitem
  (wpAny_call_entry PyProof.Rows.slot_tuple_getitem ht.typeIs entry_tuple_getitem ?_ (args_tuple_getitem _ _)))
 show wpAny _ _ (Builtin.Tuple.tupleItemsOf (.ref t) >>= _) _ _ s
 refine wpAny_bind (tupleItemsOf_ ht ?_)
 refine wpAny_bind (wpAny_typeOf hTs ?_)
 rw [if_pos (by decide)]
 refine wpAny_bind (sliceApplied_gen hs pl pu ?_)
 have hno : ¬ ((((sIx items.size 0 lo : Nat) : Int) == 0 && (1 : Int) == 1 && (sIx items.size items.size hi - sIx items.size 0 lo) == items.size) = true) := by
  intro q
  rw [Bool.and_eq_true, Bool.and_eq_true] at q
  have q1 : ((sIx items.size 0 lo : Nat) : Int) = 0 := eq_of_beq q.1.1
  have q2 : sIx items.size items.size hi - sIx items.size 0 lo = items.size := eq_of_beq q.2
  exact hw ⟨by omega, by omega⟩
 show wpAny _ _ (if (((sIx items.size 0 lo : Nat) : Int) == 0 && (1 : Int) == 1 && (sIx items.size items.size hi - sIx items.size 0 lo) == items.size) = true then _ else _) _ _ s
 rw [if_neg hno, pick_gen]
 first
  | exact wpAny_bind (m := Builtin.Tuple.tupleExact _) (wpAny_newObj_type (wpAny_pure ⟨_, rfl, wpAny_pure h⟩) htake)
  | exact wpAny_bind (m := Builtin.Tuple.tupleExact _) (wpAny_newObj_type (wpAny_bind (wpAny_pure (wpAny_pure ⟨_, rfl, wpAny_pure h⟩))) htake)
  | exact wpAny_bind (wpAny_bind (m := Builtin.Tuple.tupleExact _) (wpAny_newObj_type (wpAny_pure (wpAny_pure ⟨_, rfl, wpAny_pure h⟩)) htake))
  | exact wpAny_bind (wpAny_bind (m := Builtin.Tuple.tupleExact _) (wpAny_newObj_type (wpAny_pure ⟨_, rfl, wpAny_pure h⟩) htake))
end
end HT
namespace L2
open PySem PySem.Spec PyProof.Rows
abbrev TO := St -> Hp -> (Option Int -> Hp -> Prop) -> Prop
def PO (X : Cx) (e : Option Expr) (t : TO) : Prop :=
 ∀ (pins : List (Addr × Obj)) (s : Shared) (σ : St) (H : Hp) (Q : Option Int -> Hp -> Prop), Inv X pins σ H s -> t σ H Q ->
  wpAny (model X.prog X.w) X.A (evalPart e X.env) (fun u s' => ∃ o H', Inv X pins σ H' s' /\ IsPart u o /\ Q o H') X.xe s
def tNoPart : TO := fun _ H Q => Q none H
def tPart (t : TE) : TO := fun σ H Q => t σ H fun x H1 => ∃ i, x = .int i /\ Q (some i) H1
section
variable {X : Cx} {e : Expr} {te : TE} {lo hi : Option Expr} {tl th : TO} {pos p2 : Pos}
theorem po_none : PO X none tNoPart := by
 intro pins s σ H Q I h
 rw [evalPart_none]
 exact wpAny_pure ⟨none, H, I, .none, h⟩
theorem po_some (h : PE X e te) : PO X (some e) (tPart te) := by
 intro pins s σ H Q I hw
 rw [evalPart_some]
 refine thn (h pins s σ H _ I hw) fun u s1 ⟨x, H1, I1, r1, q1⟩ => ?_
 obtain ⟨i, rfl, q⟩ := q1
 obtain ⟨t, rfl⟩ := r1
 exact ⟨some i, H1, I1, .int i t, q⟩
def SlR (X : Cx) (r : V -> Option Int -> Option Int -> Hp -> VK -> Prop) : Prop :=
 ∀ (pins : List (Addr × Obj)) (s : Shared) (σ : St) (H : Hp) (x : V) (v vl vu : Value) (lo hi : Option Int) (sl : Addr) (Q : VK), Inv X pins σ H s -> RelV x v -> s.heap.IsSliceOf sl vl vu .none -> IsPart vl lo -> IsPart vu hi -> r x lo hi H Q ->
  ∃ T id, typeLookup (.type T) "__getitem__" = pure (some (.builtin id)) /\ s.TypeIs v T /\ wpAny (model X.prog X.w) X.A (getItem v (.ref sl)) (EP X pins σ Q) X.xe s
theorem SlR.or {r r' : V -> Option Int -> Option Int -> Hp -> VK -> Prop} (h : SlR X r) (h' : SlR X r') : SlR X (fun x lo hi H Q => r x lo hi H Q \/ r' x lo hi H Q) := by
 intro pins s σ H x v vl vu lo hi sl Q I rx hs pl pu q
 rcases q with q | q
 ·exact h pins s σ H x v vl vu lo hi sl Q I rx hs pl pu q
 ·exact h' pins s σ H x v vl vu lo hi sl Q I rx hs pl pu q
def tSl (r : V -> Option Int -> Option Int -> Hp -> VK -> Prop) (te : TE) (tl th : TO) : TE := fun σ H Q => te σ H fun x H1 => tl σ H1 fun l H2 => th σ H2 fun u H3 => r x l u H3 Q
theorem pe_slice {r : V -> Option Int -> Option Int -> Hp -> VK -> Prop} (hr : SlR X r) (he : PE X e te) (hl : PO X lo tl) (hu : PO X hi th) : PE X (.Subscript e (.Slice lo hi none p2) pos) (tSl r te tl th) := by
 intro pins s σ H Q I h
 refine Subscript_ (thn (he pins s σ H _ I h) fun v s1 ⟨x, H1, I1, r1, q1⟩ => ?_)
 refine wpAny_Slice (thn (hl pins s1 σ H1 _ I1 q1) fun vl s2 ⟨l, H2, I2, pl, q2⟩ => thn (hu pins s2 σ H2 _ I2 q2) fun vu s3 ⟨u, H3, I3, pu, q3⟩ => ?_)
 rw [evalPart_none]
 refine wpAny_pure ?_
 have I4 : Inv X pins σ H3 { s3 with heap := s3.heap.push { cls := .type "slice", data := .fields #[vl, vu, .none] } } := I3.kept (t' := s3.toks) fun b ob q => Heap.get?_push_of_some _ q
 obtain ⟨T, id, hT, ht, hg⟩ := hr pins { s3 with heap := s3.heap.push { cls := .type "slice", data := .fields #[vl, vu, .none] } } σ H3 x v vl vu l u s3.heap.objs.size Q I4 r1 (Heap.IsSliceOf.new ..) pl pu q3
 show wpAny (model X.prog X.w) X.A (subscriptTail e (.Slice lo hi none p2) v (.ref s3.heap.objs.size)) (EP X pins σ Q) X.xe { s3 with heap := s3.heap.push { cls := .type "slice", data := .fields #[vl, vu, .none] } }
 exact tail_any (ops := [.ref s3.heap.objs.size, v]) ht hT hg (by with_unfolding_all rfl)
noncomputable def cutV (xs : List V) (lo hi : Option Int) : List V := (xs.drop (HT.sIx xs.length 0 lo)).take (HT.sIx xs.length xs.length hi - HT.sIx xs.length 0 lo)
theorem cutV_length (xs : List V) (lo hi : Option Int) : (cutV xs lo hi).length <= xs.length := by
 unfold cutV
 rw [List.length_take, List.length_drop]
 omega
def rSlT (K : PySem.W.Frag) : V -> Option Int -> Option Int -> Hp -> VK -> Prop := fun x lo hi H Q => ∃ a xs, x = .ref a /\ SqT K H a xs /\
 ¬ (HT.sIx xs.length 0 lo = 0 /\ HT.sIx xs.length xs.length hi = xs.length) /\ ∀ p, H p = none -> Q (.ref p) (upd H p (.tup (cutV xs lo hi)))
theorem sl_tup : SlR X (rSlT X.K) := by
 intro pins s σ H x v vl vu lo hi sl Q I rx hs pl pu h
 obtain ⟨a, xs, rfl, hx, hw, q⟩ := h
 cases rx
 obtain ⟨its, r, ht, hz⟩ := I.tuple hx
 have hlen : its.toArray.size = xs.length := by rw [List.size_toArray]; exact r.length.symm
 refine ⟨"tuple", _, PyProof.Rows.slot_tuple_getitem.lookup, ht.typeIs, ?_⟩
 refine HT.getItem_tuple_cut ht hs pl pu (by rw [hlen]; exact hw) ?_ (by rw [hlen]; exact hz)
 rw [hlen]
 refine ⟨.ref s.heap.objs.size, _, I.laid (t' := s.toks) (o := .tup (cutV xs lo hi)) (fun b ob q => Heap.get?_push_of_some _ q) (Nat.le_refl _) ?_, rfl, q _ (I.hok.fresh (Nat.le_refl _))⟩
 exact ⟨Nat.le_trans (cutV_length xs lo hi) hz, _, (r.drop (HT.sIx xs.length 0 lo)).take (HT.sIx xs.length xs.length hi - HT.sIx xs.length 0 lo), IsTup.new _ _⟩
def rCatT (K : PySem.W.Frag) : R2 := fun x y H Q => ∃ a b xs ys, x = .ref a /\ y = .ref b /\ SqT K H a xs /\ SqT K H b ys /\ xs ≠ [] /\ xs.length + ys.length <= sizeLine /\
 (ys = [] -> Q (.ref a) H) /\ (ys ≠ [] -> ∀ p, H p = none -> Q (.ref p) (upd H p (.tup (xs ++ ys))))
theorem Vals.nil_iff {xs : List V} {us : List Value} (r : Vals xs us) : us = [] ↔ xs = [] := by
 cases r with
 | nil => simp
 | cons _ _ => simp
theorem op_catT : OpR X (binaryOp .Add) (rCatT X.K) := by
 intro pins s σ H x y v u Q I rx ry h
 obtain ⟨a, b, xs, ys, rfl, rfl, ha, hb, hx, hz, q1, q2⟩ := h
 cases rx
 cases ry
 obtain ⟨its, r1, p1, _⟩ := I.tuple ha
 obtain ⟨its2, r2, p2, _⟩ := I.tuple hb
 refine HT.cat_tup p1 p2 (fun z => hx (r1.nil_iff.mp z)) (fun z => ⟨.ref a, H, I, rfl, q1 (r2.nil_iff.mp z)⟩) (fun z => ?_) (by rw [<- r1.length, <- r2.length]; exact hz)
 refine ⟨.ref s.heap.objs.size, _, I.laid (t' := s.toks) (o := .tup (xs ++ ys)) (fun b ob q => Heap.get?_push_of_some _ q) (Nat.le_refl _) ?_, rfl, q2 (fun w => z (r2.nil_iff.mpr w)) _ (I.hok.fresh (Nat.le_refl _))⟩
 exact ⟨by rw [List.length_append]; exact hz, _, r1.append r2, IsTup.new _ _⟩
end
end L2
namespace L2
open PySem PySem.Spec PyProof.Rows
noncomputable def ixN (n : Nat) (i : Int) : Option Nat := if 0 <= i then (if i < n then some i.toNat else none) else if -(n : Int) <= i then some (i + n).toNat else none
noncomputable def atI {α : Type} (xs : List α) (i : Int) : Option α := (ixN xs.length i).bind fun j => xs[j]?
theorem ixN_seq {n : Nat} {i : Int} {j : Nat} (h : ixN n i = some j) : seqIndex? i n = some j /\ j < n /\ -(n : Int) <= i /\ i < n := by
 unfold ixN at h
 by_cases h0 : 0 <= i
 ·rw [if_pos h0] at h
  by_cases h1 : i < n
  ·rw [if_pos h1] at h
   have e : i.toNat = j := Option.some.inj h
   exact ⟨by rw [seqIndex_of h0 h1, e], by omega, by omega, h1⟩
  ·rw [if_neg h1] at h; cases h
 ·rw [if_neg h0] at h
  by_cases h1 : -(n : Int) <= i
  ·rw [if_pos h1] at h
   have e : (i + n).toNat = j := Option.some.inj h
   exact ⟨by rw [seqIndex_neg (by omega) h1, e], by omega, h1, by omega⟩
  ·rw [if_neg h1] at h; cases h
theorem atI_get {α : Type} {xs : List α} {i : Int} {v : α} (h : atI xs i = some v) : ∃ j, seqIndex? i xs.length = some j /\ xs[j]? = some v /\ j < xs.length /\ -(xs.length : Int) <= i /\ i < xs.length := by
 unfold atI at h
 cases e : ixN xs.length i with
 | none => rw [e] at h; cases h
 | some j =>
  rw [e] at h
  obtain ⟨h1, h2, h3, h4⟩ := ixN_seq e
  exact ⟨j, h1, h, h2, h3, h4⟩
theorem atI_nat {α : Type} {xs : List α} {j : Nat} {v : α} (h : xs[j]? = some v) : atI xs (j : Int) = some v := by
 have hj : j < xs.length := (List.getElem?_eq_some_iff.mp h).1
 have e : ixN xs.length (j : Int) = some j := by
  unfold ixN
  rw [if_pos (by omega), if_pos (by omega)]; simp
 unfold atI; rw [e]; exact h
def PlainIx (b : Expr) : Prop := ∀ o i, subscripted b false o i = operate [o, i] (getItem o i)
def IxR (X : Cx) (r : R2) : Prop :=
 ∀ (value slice : Expr) (pins : List (Addr × Obj)) (s : Shared) (σ : St) (H : Hp) (x y : V) (v u : Value) (Q : VK), Inv X pins σ H s -> RelV x v -> RelV y u -> r x y H Q ->
  subscripted slice false v u = operate [v, u] (getItem v u) -> wpAny (model X.prog X.w) X.A (subscriptTail value slice v u) (EP X pins σ Q) X.xe s
def MtR (X : Cx) (id : String) (r : V -> List V -> Hp -> VK -> Prop) : Prop :=
 ∀ (pins : List (Addr × Obj)) (s : Shared) (σ : St) (H : Hp) (x : V) (xs : List V) (v : Value) (us : List Value) (Q : VK), Inv X pins σ H s -> RelV x v -> Vals xs us -> r x xs H Q ->
  wpAny (model X.prog X.w) X.A (call (.builtin id) (v :: us)) (EP X pins σ Q) X.xe s
section
variable {X : Cx} {a b : Expr} {ta tb : TE} {pos : Pos}
theorem IxR.or {r r' : R2} (h : IxR X r) (h' : IxR X r') : IxR X (fun x y H Q => r x y H Q \/ r' x y H Q) := by
 intro value slice pins s σ H x y v u Q I rx ry q hs
 rcases q with q | q
 ·exact h value slice pins s σ H x y v u Q I rx ry q hs
 ·exact h' value slice pins s σ H x y v u Q I rx ry q hs
theorem pe_ix {r : R2} (hr : IxR X r) (ha : PE X a ta) (hb : PE X b tb) (hs : PlainIx b) : PE X (.Subscript a b pos) (tOp r ta tb) := by
 intro pins s σ H Q I h
 exact Subscript_ (binT ha hb I h fun v u s2 x y H2 I2 rx ry q => hr a b pins s2 σ H2 x y v u Q I2 rx ry q (hs _ _))
def rIxL (K : PySem.W.Frag) : R2 := fun x y H Q => ∃ p xs i v, x = .ref p /\ y = .int i /\ SqL K H p xs /\ atI xs i = some v /\ Q v H
def rIxT (K : PySem.W.Frag) : R2 := fun x y H Q => ∃ p xs i v, x = .ref p /\ y = .int i /\ SqT K H p xs /\ atI xs i = some v /\ Q v H
def rIxS : R2 := fun x y H Q => ∃ z i c, x = .str z /\ y = .int i /\ z.length <= sizeLine /\ atI z.cps.toList i = some c /\ Q (.str ⟨#[c]⟩) H
theorem ix_list : IxR X (rIxL X.K) := by
 intro value slice pins s σ H x y v u Q I rx ry h hs
 obtain ⟨p, xs, i, z, rfl, rfl, hq, he, q⟩ := h
 cases rx
 obtain ⟨t, rfl⟩ := ry
 obtain ⟨its, r, pl, hz⟩ := I.list hq
 obtain ⟨j, h1, h2, h3, h4, h5⟩ := atI_get he
 obtain ⟨w, ew, rw'⟩ := r.get h2
 have hl := r.length
 have hn := line63
 have fin : EP X pins σ Q w s := ⟨z, H, I, rw', q⟩
 by_cases h0 : 0 <= i
 ·have hj : i.toNat = j := by
   rw [seqIndex_of h0 h5] at h1
   exact Option.some.inj h1
  exact item_listR pl.isList h0 (by omega) (by rw [hj]; simpa using ew) fin hs
 ·have hj : (i + (its.toArray.size : Int)).toNat = j := by
   rw [seqIndex_neg (by omega) h4] at h1
   rw [List.size_toArray, <- hl]
   exact Option.some.inj h1
  exact subscriptTail_builtinR (x := w) pl.isList.typeIs slot_list_getitem.lookup
   (wpAny_getItem_list_neg (Q := fun r s' => r = w /\ EP X pins σ Q r s') pl.isList (by omega) (by rw [List.size_toArray] <;> omega) (by omega) (by rw [hj]; simpa using ew) ⟨rfl, fin⟩) hs
theorem ix_tup : IxR X (rIxT X.K) := by
 intro value slice pins s σ H x y v u Q I rx ry h hs
 obtain ⟨p, xs, i, z, rfl, rfl, hq, he, q⟩ := h
 cases rx
 obtain ⟨t, rfl⟩ := ry
 obtain ⟨its, r, pl, hz⟩ := I.tuple hq
 obtain ⟨j, h1, h2, h3, h4, h5⟩ := atI_get he
 obtain ⟨w, ew, rw'⟩ := r.get h2
 have hl := r.length
 have hn := line63
 have fin : EP X pins σ Q w s := ⟨z, H, I, rw', q⟩
 exact subscriptTail_builtinR (x := w) pl.typeIs slot_tuple_getitem.lookup
  (getItem_tuple (j := j) (Q := fun r s' => r = w /\ EP X pins σ Q r s') pl (by omega) (by omega) (by rw [List.size_toArray, <- hl]; exact h1) (by simpa using ew) ⟨rfl, fin⟩) hs
theorem ix_str : IxR X rIxS := by
 intro value slice pins s σ H x y v u Q I rx ry h hs
 obtain ⟨z, i, c, rfl, rfl, hz, he, q⟩ := h
 obtain ⟨t, rfl⟩ := rx
 obtain ⟨t', rfl⟩ := ry
 obtain ⟨j, h1, h2, h3, h4, h5⟩ := atI_get he
 have hl : z.cps.toList.length = z.length := by simp [Str.length]
 rw [hl] at h1 h4 h5
 have hn := line63
 exact tail_any (typeIs_str s z t) slot_str_getitem.lookup (getItem_str (c := c) (by
  have e1 : decide (i < -(2 ^ 63 : Int)) = false := decide_eq_false (by omega)
  have e2 : decide (i >= 2 ^ 63) = false := decide_eq_false (by omega)
  rw [e1, e2, Bool.or_false]) (by rw [h1]; simpa using h2) ⟨.str ⟨#[c]⟩, H, I.tok _, ⟨_, rfl⟩, q⟩) hs
def rIx (K : PySem.W.Frag) : R2 := fun x y H Q => rIxL K x y H Q \/ rIxT K x y H Q \/ rIxS x y H Q
theorem ix_seq : IxR X (rIx X.K) := ix_list.or (ix_tup.or ix_str)
theorem mapSeq_set (its : List Value) (n j : Nat) (u : Value) : Obj.mapSeq (·.setIfInBounds j u) { cls := .type "list", data := .seq its.toArray n } = { cls := .type "list", data := .seq (its.set j u).toArray n } := by
 simp [Obj.mapSeq]
theorem Inv.lst {pins : List (Addr × Obj)} {σ : St} {H : Hp} {s : Shared} {p : Addr} {xs : List V} (I : Inv X pins σ H s) (h : H p = some (.lst xs)) :
  ∃ (its : List Value) (n : Nat), Vals xs its /\ s.heap.get? p = some { cls := .type "list", data := .seq its.toArray n } /\ xs.length <= sizeLine := by
 obtain ⟨z, its, n, r, e⟩ := I.hok p _ h
 exact ⟨its, n, r, e, z⟩
theorem Inv.lstUpd {pins : List (Addr × Obj)} {σ : St} {H : Hp} {s : Shared} {p : Addr} {xs ys : List V} {its its' : List Value} {n n' : Nat} {f : Obj -> Obj} (I : Inv X pins σ H s) (h : H p = some (.lst xs))
  (ho : s.heap.get? p = some { cls := .type "list", data := .seq its.toArray n }) (hf : f { cls := .type "list", data := .seq its.toArray n } = { cls := .type "list", data := .seq its'.toArray n' }) (r : Vals ys its') (hz : ys.length <= sizeLine) (t : Nat) :
  Inv X pins σ (upd H p (.lst ys)) { s with heap := s.heap.update p f, toks := t } := by
 have e : (s.heap.update p f).get? p = some { cls := .type "list", data := .seq its'.toArray n' } := by
  rw [Heap.get?_update_self f ho (by rw [hf] <;> rfl), hf]
 refine I.write (x := p) (e := p) (by rw [h]; trivial) (.inl rfl) (fun b u hb q => (Heap.get?_update_other _ _ (Ne.symm hb)).trans q) ⟨_, e⟩ ?_
 exact ⟨hz, its', n', r, e⟩
def rSetL : V -> V -> V -> Hp -> (Hp -> Prop) -> Prop := fun o i v H Q => ∃ p xs k j, o = .ref p /\ i = .int k /\ H p = some (.lst xs) /\ ixN xs.length k = some j /\ Q (upd H p (.lst (xs.set j v)))
theorem set_list : PSet X rSetL := by
 intro pins s σ H o i v ov iv u Q I ro ri rv h
 obtain ⟨p, xs, k, j, rfl, rfl, hp, hj, q⟩ := h
 cases ro
 obtain ⟨t, rfl⟩ := ri
 obtain ⟨its, n, r, ho, hz⟩ := I.lst hp
 obtain ⟨h1, h2, h3, h4⟩ := ixN_seq hj
 have hl := r.length
 have hn := line63
 have I' : Inv X pins σ (upd H p (.lst (xs.set j v))) { s with heap := s.heap.update p (Obj.mapSeq (·.setIfInBounds j u)) } :=
  I.lstUpd hp ho (mapSeq_set its n j u) (r.set rv j) (by rw [List.length_set]; exact hz) s.toks
 by_cases h0 : 0 <= k
 ·have hk : k.toNat = j := by
   rw [seqIndex_of h0 h4] at h1
   exact Option.some.inj h1
  exact PySem.W.ki_setAt ho h0 (by omega) (by rw [List.size_toArray, <- hl]; exact h4) (by rw [hk]; exact ⟨_, I', q⟩)
 ·have hk : (k + (its.toArray.size : Int)).toNat = j := by
   rw [seqIndex_neg (by omega) h3] at h1
   rw [List.size_toArray, <- hl]
   exact Option.some.inj h1
  exact PySem.W.ki_setBack ho (by omega) (by rw [List.size_toArray, <- hl]; exact h3) (by omega) (by rw [hk]; exact ⟨_, I', q⟩)
theorem slice_bounds (lo hi : Option Int) (n : Nat) : (sliceBounds lo hi none n).1 = ((HT.sIx n 0 lo : Nat) : Int) /\ (sliceBounds lo hi none n).2.1 = ((HT.sIx n n hi : Nat) : Int) /\ (sliceBounds lo hi none n).2.2 = 1 := by
 refine ⟨?_, ?_, rfl⟩
 ·cases lo with
  | none => simp [sliceBounds, HT.sIx]
  | some i =>
   simp only [sliceBounds, HT.sIx, Option.getD_none, show (1 : Int) > 0 by decide, if_true]
   by_cases h : i < 0
   ·simp only [h, if_true] <;> omega
   ·simp only [h, if_false] <;> omega
 ·cases hi with
  | none => simp [sliceBounds, HT.sIx]
  | some i =>
   simp only [sliceBounds, HT.sIx, Option.getD_none, show (1 : Int) > 0 by decide, if_true]
   by_cases h : i < 0
   ·simp only [h, if_true] <;> omega
   ·simp only [h, if_false] <;> omega
theorem slicePick_cut (its : List Value) (lo hi : Option Int) : slicePick its.toArray lo hi none = ((its.drop (HT.sIx its.length 0 lo)).take (HT.sIx its.length its.length hi - HT.sIx its.length 0 lo)).toArray := by
 obtain ⟨h1, h2, h3⟩ := slice_bounds lo hi its.toArray.size
 unfold slicePick
 rw [h1, h2, h3]
 simp only [sliceRange_one, pick_run, List.size_toArray] <;> rfl
def rSlL (K : PySem.W.Frag) : V -> Option Int -> Option Int -> Hp -> VK -> Prop := fun x lo hi H Q => ∃ a xs, x = .ref a /\ SqL K H a xs /\ ∀ p, H p = none -> Q (.ref p) (upd H p (.lst (cutV xs lo hi)))
theorem sl_list : SlR X (rSlL X.K) := by
 intro pins s σ H x v vl vu lo hi sl Q I rx hs pl pu h
 obtain ⟨a, xs, rfl, hx, q⟩ := h
 cases rx
 obtain ⟨its, r, ht, hz⟩ := I.list hx
 have hlen := r.length
 refine ⟨"list", _, slot_list_getitem.lookup, ht.isList.typeIs, ?_⟩
 refine wpAny_getItem_list_slice ht.isList hs pl pu .none (by simp) ?_ (by rw [List.size_toArray] <;> omega)
 rw [slicePick_cut, <- hlen]
 refine ⟨.ref s.heap.objs.size, _, I.laid (t' := s.toks) (o := .lst (cutV xs lo hi)) (fun b ob q => Heap.get?_push_of_some _ q) (Nat.le_refl _) ?_, rfl, q _ (I.hok.fresh (Nat.le_refl _))⟩
 exact ⟨Nat.le_trans (cutV_length xs lo hi) hz, _, 0, (r.drop (HT.sIx xs.length 0 lo)).take (HT.sIx xs.length xs.length hi - HT.sIx xs.length 0 lo), Heap.get?_push_size _ rfl⟩
noncomputable def flatV : V -> Bool
 | .non => true
 | .bl _ => true
 | .int _ => true
 | .str _ => true
 | _ => false
noncomputable def eqV : V -> V -> Bool
 | .non, .non => true
 | .bl a, .bl b => a == b
 | .bl a, .int b => (if a then 1 else 0) == b
 | .int a, .bl b => a == (if b then 1 else 0)
 | .int a, .int b => a == b
 | .str a, .str b => a == b
 | _, _ => false
theorem eqAt_V {A : Around} {s : Shared} {y x : V} {u v : Value} (ry : RelV y u) (rx : RelV x v) (fy : flatV y = true) (fx : flatV x = true) : SeqAt.EqAt A s u v (eqV y x) := by
 cases y with
 | non =>
  cases ry
  cases x with
  | non => cases rx; exact SeqAt.EqAt.same _
  | bl b => cases rx; exact SeqAt.EqAt.none_bool b
  | int b => obtain ⟨t, rfl⟩ := rx; exact SeqAt.EqAt.none_int b t
  | str b => obtain ⟨t, rfl⟩ := rx; exact SeqAt.EqAt.none_str b t
  | _ => exact absurd (show false = true from fx) Bool.false_ne_true
 | bl a =>
  cases ry
  cases x with
  | non => cases rx; exact SeqAt.EqAt.bool_none a
  | bl b => cases rx; exact SeqAt.EqAt.bool_bool a b
  | int b => obtain ⟨t, rfl⟩ := rx; exact SeqAt.EqAt.bool_int a b t
  | str b => obtain ⟨t, rfl⟩ := rx; exact SeqAt.EqAt.bool_str a b t
  | _ => exact absurd (show false = true from fx) Bool.false_ne_true
 | int a =>
  obtain ⟨t', rfl⟩ := ry
  cases x with
  | non => cases rx; exact SeqAt.EqAt.int_none a t'
  | bl b => cases rx; exact SeqAt.EqAt.int_bool a t' b
  | int b => obtain ⟨t, rfl⟩ := rx; exact SeqAt.EqAt.int_int a t' b t
  | str b => obtain ⟨t, rfl⟩ := rx; exact SeqAt.EqAt.int_str a t' b t
  | _ => exact absurd (show false = true from fx) Bool.false_ne_true
 | str a =>
  obtain ⟨t', rfl⟩ := ry
  cases x with
  | non => cases rx; exact SeqAt.EqAt.str_none a t'
  | bl b => cases rx; exact SeqAt.EqAt.str_bool a t' b
  | int b => obtain ⟨t, rfl⟩ := rx; exact SeqAt.EqAt.str_int a t' b t
  | str b => obtain ⟨t, rfl⟩ := rx; exact SeqAt.EqAt.str_str a t' b t
  | _ => exact absurd (show false = true from fx) Bool.false_ne_true
 | _ => exact absurd (show false = true from fy) Bool.false_ne_true
noncomputable def eqU (x : V) (u : Value) : Bool := match u with
 | .none => eqV .non x
 | .bool b => eqV (.bl b) x
 | .int i _ => eqV (.int i) x
 | .str z _ => eqV (.str z) x
 | _ => false
theorem eqU_of {x y : V} {u : Value} (r : RelV y u) (f : flatV y = true) : eqU x u = eqV y x := by
 cases y with
 | non => cases r; rfl
 | bl b => cases r; rfl
 | int i => obtain ⟨t, rfl⟩ := r; rfl
 | str z => obtain ⟨t, rfl⟩ := r; rfl
 | _ => exact absurd (show false = true from f) Bool.false_ne_true
theorem any_eqU {x : V} : ∀ {xs : List V} {us : List Value}, Vals xs us -> xs.all flatV = true -> us.any (eqU x) = xs.any fun y => eqV y x
 | _, _, .nil, _ => rfl
 | y :: xs, u :: us, .cons r t, f => by
  rw [List.all_cons, Bool.and_eq_true] at f
  rw [List.any_cons, List.any_cons, eqU_of r f.1, any_eqU t f.2]
theorem mem_eqAt {A : Around} {s : Shared} {x : V} {v : Value} (rx : RelV x v) (fx : flatV x = true) : ∀ {xs : List V} {us : List Value}, Vals xs us -> xs.all flatV = true -> ∀ u ∈ us, SeqAt.EqAt A s u v (eqU x u)
 | _, _, .nil, _ => fun u hu => by cases hu
 | y :: xs, u :: us, .cons r t, f => fun u' hu => by
  rw [List.all_cons, Bool.and_eq_true] at f
  rcases List.mem_cons.mp hu with rfl | hu
  ·rw [eqU_of r f.1]; exact eqAt_V r rx f.1 fx
  ·exact mem_eqAt rx fx t f.2 u' hu
noncomputable def inV (x : V) (xs : List V) : Bool := xs.any fun y => eqV y x
def rIn (K : PySem.W.Frag) (neg : Bool) : R2 := fun x y H Q => ∃ p xs, y = .ref p /\ (SqL K H p xs \/ SqT K H p xs) /\ flatV x = true /\ xs.all flatV = true /\ Q (.bl (if neg then !inV x xs else inV x xs)) H
theorem op_in_seq : OpR X (compareOp .In) (rIn X.K false) := by
 intro pins s σ H x y v u Q I rx ry h
 obtain ⟨p, xs, rfl, hq, fx, fs, q⟩ := h
 cases ry
 rcases hq with hq | hq
 ·obtain ⟨its, r, pl, hz⟩ := I.list hq
  refine SeqAt.in_listAt (eqU x) pl.isList (fun w hw => mem_eqAt rx fx r fs w (by simpa using hw)) ⟨.bl _, H, I, rfl, ?_⟩
  rw [show its.toArray.any (eqU x) = its.any (eqU x) by simp, any_eqU r fs]
  exact q
 ·obtain ⟨its, r, pl, hz⟩ := I.tuple hq
  refine SeqAt.in_tupleAt (eqU x) pl (fun w hw => mem_eqAt rx fx r fs w (by simpa using hw)) ⟨.bl _, H, I, rfl, ?_⟩
  rw [show its.toArray.any (eqU x) = its.any (eqU x) by simp, any_eqU r fs]
  exact q
theorem op_notIn_seq : OpR X (compareOp .NotIn) (rIn X.K true) := by
 intro pins s σ H x y v u Q I rx ry h
 obtain ⟨p, xs, rfl, hq, fx, fs, q⟩ := h
 cases ry
 rcases hq with hq | hq
 ·obtain ⟨its, r, pl, hz⟩ := I.list hq
  refine SeqAt.notIn_listAt (eqU x) pl.isList (fun w hw => mem_eqAt rx fx r fs w (by simpa using hw)) ⟨.bl _, H, I, rfl, ?_⟩
  rw [show its.toArray.any (eqU x) = its.any (eqU x) by simp, any_eqU r fs]
  exact q
 ·obtain ⟨its, r, pl, hz⟩ := I.tuple hq
  refine SeqAt.notIn_tupleAt (eqU x) pl (fun w hw => mem_eqAt rx fx r fs w (by simpa using hw)) ⟨.bl _, H, I, rfl, ?_⟩
  rw [show its.toArray.any (eqU x) = its.any (eqU x) by simp, any_eqU r fs]
  exact q
theorem call_list_of : CallR X (.type "list") (fun xs H Q => ∃ p ys, xs = [.ref p] /\ (SqL X.K H p ys \/ SqT X.K H p ys) /\ ∀ l, H l = none -> Q (.ref l) (upd H l (.lst ys))) := by
 intro pins s σ H xs us Q I r h
 obtain ⟨p, ys, rfl, hq, q⟩ := h
 obtain ⟨u, rfl, rx⟩ := vals1 r
 cases rx
 have fin : ∀ (its : List Value), Vals ys its -> ys.length <= sizeLine -> ∀ (h' : Heap) (c' : Nat), (∀ b o', s.heap.get? b = some o' -> h'.get? b = some o') ->
   h'.get? s.heap.objs.size = some { cls := .type "list", dict := none, data := .seq its.toArray c', slots := #[] } -> EP X pins σ Q (.ref s.heap.objs.size) { s with heap := h' } := fun its r' hz h' c' kp e =>
  ⟨.ref s.heap.objs.size, _, I.laid (t' := s.toks) kp (Nat.le_refl _) (show ObjOk X.prog X.w _ h' _ (.lst ys) from ⟨hz, its, c', r', e⟩), rfl, q _ (I.hok.fresh (Nat.le_refl _))⟩
 rcases hq with hq | hq
 ·obtain ⟨its, r', pl, hz⟩ := I.list hq
  have hlen := r'.length
  obtain ⟨o, ho, hc, n, hd⟩ := pl.isList
  exact call_list_seq p (.inl rfl) ho hc hd (fun h' c' kp e => fin its r' hz h' c' kp e) (by simp only [List.size_toArray] <;> omega)
 ·obtain ⟨its, r', pl, hz⟩ := I.tuple hq
  have hlen := r'.length
  obtain ⟨o, ho, hc, n, hd⟩ := pl
  exact call_list_seq p (.inr rfl) ho hc hd (fun h' c' kp e => fin its r' hz h' c' kp e) (by simp only [List.size_toArray] <;> omega)
theorem call_tuple_of : CallR X (.type "tuple") (fun xs H Q => ∃ p ys, xs = [.ref p] /\ ((SqL X.K H p ys /\ ∀ l, H l = none -> Q (.ref l) (upd H l (.tup ys))) \/ (SqT X.K H p ys /\ Q (.ref p) H))) := by
 intro pins s σ H xs us Q I r h
 obtain ⟨p, ys, rfl, h⟩ := h
 obtain ⟨u, rfl, rx⟩ := vals1 r
 cases rx
 rcases h with ⟨hq, q⟩ | ⟨hq, q⟩
 ·obtain ⟨its, r', pl, hz⟩ := I.list hq
  have hlen := r'.length
  refine call_tuple_list pl.isList (fun h' kp => ?_) (by simp only [List.size_toArray] <;> omega)
  have I1 : Inv X pins σ H { s with heap := h' } := I.kept (t' := s.toks) kp
  have I2 : Inv X pins σ (upd H h'.objs.size (.tup ys)) { s with heap := h'.push { cls := .type "tuple", data := .seq its.toArray } } :=
   I1.laid (t' := s.toks) (fun b o e => Heap.get?_push_of_some _ e) (Nat.le_refl _) (show ObjOk X.prog X.w _ _ _ (.tup ys) from ⟨hz, its, r', IsTup.new _ _⟩)
  exact ⟨.ref h'.objs.size, _, I2, rfl, q _ (I1.hok.fresh (Nat.le_refl _))⟩
 ·obtain ⟨its, r', pl, hz⟩ := I.tuple hq
  exact call_tuple_same pl ⟨.ref p, H, I, rfl, q⟩
def tyV (K : PySem.W.Frag) (T : String) (x : V) (H : Hp) : Prop := match x with
 | .str _ => T = "str"
 | .int _ => T = "int"
 | .ref p => (T = "list" /\ ∃ xs, SqL K H p xs) \/ (T = "tuple" /\ ∃ o, K.lookup p = some o /\ o.cls = .type "tuple" /\ o.dict = none) \/
   (T = "dict" /\ ((∃ kvs, H p = some (.dK kvs)) \/ ∃ kvs, H p = some (.dT kvs))) \/ (T = "set" /\ ∃ S n, H p = some (.set S n))
 | _ => False
theorem tyV_is {pins : List (Addr × Obj)} {σ : St} {H : Hp} {s : Shared} {T : String} {x : V} {v : Value} (I : Inv X pins σ H s) (r : RelV x v) (ty : tyV X.K T x H) :
  s.TypeIs v T /\ ∀ a, v = .ref a -> ∃ ob, s.heap.get? a = some ob /\ ob.dict = none := by
 cases x with
 | str z =>
  obtain ⟨t, rfl⟩ := r
  cases (show T = "str" from ty)
  exact ⟨typeIs_str s z t, fun _ e => nomatch e⟩
 | int i =>
  obtain ⟨t, rfl⟩ := r
  cases (show T = "int" from ty)
  exact ⟨typeIs_int s i t, fun _ e => nomatch e⟩
 | ref p =>
  cases r
  rcases ty with ⟨rfl, xs, hq⟩ | ⟨rfl, o, hk, hc, hd⟩ | ⟨rfl, hk⟩ | ⟨rfl, S, n, hk⟩
  ·obtain ⟨its, _, pl, _⟩ := I.list hq
   refine ⟨pl.isList.typeIs, fun a e => ?_⟩
   cases e
   obtain ⟨o, n, e, c, hd, _⟩ := pl
   exact ⟨o, e, hd⟩
  ·refine ⟨⟨o, I.kIn p o hk, hc⟩, fun a e => ?_⟩
   cases e
   exact ⟨o, I.kIn _ o hk, hd⟩
  ·have z : ∃ o, s.heap.get? p = some o /\ o.ExactDict := by
    rcases hk with ⟨kvs, hk⟩ | ⟨kvs, hk⟩
    ·obtain ⟨_, _, _, _, o, _, _, e, ex, _⟩ := I.hok p _ hk
     exact ⟨o, e, ex⟩
    ·obtain ⟨_, _, _, _, o, _, _, e, ex, _⟩ := I.hok p _ hk
     exact ⟨o, e, ex⟩
   obtain ⟨o, e, ex⟩ := z
   refine ⟨⟨o, e, ex.1⟩, fun a e2 => ?_⟩
   cases e2
   exact ⟨o, e, ex.2.1⟩
  ·obtain ⟨o, _, _, _, e, ex, _⟩ := I.hok p _ hk
   refine ⟨⟨o, e, ex.1⟩, fun a e2 => ?_⟩
   cases e2
   exact ⟨o, e, ex.2.1⟩
 | _ => exact False.elim ty
def tBM (K : PySem.W.Frag) (T : String) (r : V -> List V -> Hp -> VK -> Prop) (to : TE) (t : TA) : TE := fun σ H Q => to σ H fun x H1 => tyV K T x H1 /\ t σ H1 fun xs H2 => r x xs H2 Q
variable {o e : Expr} {es : List Expr} {to : TE} {t : TA} {name : Str} {apos cpos : Pos} {T id : String} {r : V -> List V -> Hp -> VK -> Prop}
theorem pe_bm (pa : PlainAttrs T) (slot : Slot T name id) (hty : typeOf (.builtin id) = pure (.type "method_descriptor")) (hm : MtR X id r) (ho : PE X o to) (ha : PA X (e :: es) t)
  (hbase : attributeBase o name X.env (eval o X.env) = eval o X.env := by rfl)
  (hfew : ((backTo cpos (starEach (e :: es) X.env)).all (fun x => !x.1) && (backToKw cpos (keywordEach [] X.env)).all (fun x => x.1.isSome)
   && decide ((e :: es).length + ([] : List Keyword).length + (if ([] : List Keyword).isEmpty then 0 else 1) < 30)) = true := by rfl)
  (hline : (apos.endLine == cpos.line) = true := by rfl) (hs : starEach (e :: es) X.env = (false, eval e X.env) :: starEach es X.env := by rfl) (hplain : (backTo cpos (starEach es X.env)).any (·.1) = false := by rfl) :
  PE X (.Call (.Attribute o name apos) (e :: es) [] cpos) (tBM X.K T r to t) := by
 intro pins s σ H Q I h
 refine wpAny_Call_method_late hbase hfew hline rfl (thn (ho pins s σ H _ I h) fun v s1 ⟨x, H1, I1, r1, ty, q1⟩ => ?_)
 obtain ⟨h1, h2⟩ := tyV_is I1 r1 ty
 refine ⟨T, id, pa, slot, hty, h1, h2, ?_⟩
 have hA := ha cpos pins s1 σ H1 _ I1 q1
 rw [hs] at hA |-
 refine Calls.callWith_builtin (by show (false || (backTo cpos (starEach es X.env)).any (·.1)) = false; rw [hplain] <;> rfl) (Calls.evalArgs_plain ?_)
 exact thn hA fun us s2 ⟨vs, H2, I2, r2, q2⟩ => hm pins s2 σ H2 x vs v us Q I2 r1 r2 q2
/- xs.append(e), list.index on a module's tuple .. are MtR facts of 06m -/
end
end L2
namespace L2
open PySem PySem.Spec PyProof.Rows
def MtM (X : Cx) (id : String) (r : V -> List V -> Hp -> VK -> Prop) : Prop :=
 ∀ (pins : List (Addr × Obj)) (s : Shared) (σ : St) (H : Hp) (x : V) (xs : List V) (v : Value) (us : List Value) (Q : VK), Inv X pins σ H s -> RelV x v -> Vals xs us -> r x xs H Q ->
  wpAny (model X.prog X.w) X.A (call (.builtin id) (v :: us)) (EP X pins σ Q) X.xe s
theorem Vals.one {x : V} {us : List Value} (h : Vals [x] us) : ∃ u, us = [u] /\ RelV x u := vals1 h
theorem Vals.rep {xs : List V} {us : List Value} (h : Vals xs us) : ∀ k : Nat, Vals (List.replicate k xs).flatten (List.replicate k us).flatten
 | 0 => .nil
 | k + 1 => by
  rw [List.replicate_succ, List.replicate_succ, List.flatten_cons, List.flatten_cons]
  exact Vals.append h (Vals.rep h k)
theorem foldl_rep (its : List Value) : ∀ (k : Nat) (acc : List Value),
  List.foldl (fun x1 x2 => x1 ++ x2) acc.toArray (List.replicate k its.toArray) = (acc ++ (List.replicate k its).flatten).toArray
 | 0, acc => by simp
 | k + 1, acc => by
  have e : acc.toArray ++ its.toArray = (acc ++ its).toArray := by simp
  have e2 : (acc ++ its) ++ (List.replicate k its).flatten = acc ++ (List.replicate (k + 1) its).flatten := by
   rw [List.replicate_succ, List.flatten_cons, List.append_assoc]
  rw [<- e2, <- foldl_rep its k (acc ++ its), <- e, List.replicate_succ, List.foldl_cons]
section
variable {X : Cx} {pins : List (Addr × Obj)} {σ : St} {H : Hp} {s : Shared} {l b : Addr} {xs ys zs : List V}
theorem Inv.lset {its its' : List Value} {n : Nat} {f : Array Value -> Array Value} {t' : Nat} (I : Inv X pins σ H s) (hH : H l = some (.lst xs))
  (e : s.heap.get? l = some { cls := .type "list", data := .seq its.toArray n }) (hf : f its.toArray = its'.toArray) (hv : Vals ys its') (hz : ys.length <= sizeLine) :
  Inv X pins σ (upd H l (.lst ys)) { s with heap := s.heap.update l (Obj.mapSeq f), toks := t' } := by
 have q := PySem.IsL.update e f
 rw [hf] at q
 refine I.write (x := l) (e := l) (by rw [hH]; exact trivial) (.inl rfl) (fun b' u hb hu => (Heap.get?_update_other s.heap (Obj.mapSeq f) (Ne.symm hb)).trans hu) ⟨_, q⟩ ?_
 exact ⟨hz, its', _, hv, q⟩
theorem Inv.lnew {its : List Value} {t' : Nat} (I : Inv X pins σ H s) (hv : Vals ys its) (hz : ys.length <= sizeLine) :
  Inv X pins σ (upd H s.heap.objs.size (.lst ys)) { s with heap := s.heap.push { cls := .type "list", data := .seq its.toArray }, toks := t' } :=
 I.laid (fun _ _ q => Heap.get?_push_of_some _ q) (Nat.le_refl _) ⟨hz, its, 0, hv, Heap.get?_push_size _ rfl⟩
theorem Inv.fresh (I : Inv X pins σ H s) : H s.heap.objs.size = none := I.hok.fresh (Nat.le_refl _)
theorem Inv.lstM (I : Inv X pins σ H s) (hH : H l = some (.lst xs)) : xs.length <= sizeLine /\ ∃ (its : List Value) (n : Nat), Vals xs its /\ xs.length = its.length /\ s.heap.get? l = some { cls := .type "list", data := .seq its.toArray n } := by
 obtain ⟨z, its, n, r, e⟩ := I.hok l _ hH
 exact ⟨z, its, n, r, r.length, e⟩
theorem notLongL {n : Nat} (h : n <= sizeLine) : Builtin.List.listTooLong n = false := by
 unfold Builtin.List.listTooLong
 exact decide_eq_false (by omega)
end
section
variable {X : Cx}
def rAppend : V -> List V -> Hp -> VK -> Prop := fun x vs H Q => ∃ l xs y, x = .ref l /\ vs = [y] /\ H l = some (.lst xs) /\ xs.length < sizeLine /\ Q .non (upd H l (.lst (xs ++ [y])))
theorem mt_append : MtM X "list.append" rAppend := by
 intro pins s σ H x vs v us Q I rx rv h
 obtain ⟨l, xs, y, rfl, rfl, hH, hz, q⟩ := h
 cases rx
 obtain ⟨u, rfl, ru⟩ := rv.one
 obtain ⟨z, its, n, r, hl, e⟩ := I.lstM hH
 refine call_meets F.slot_list_append ⟨_, e, rfl⟩ F.entry_list_append (F.args_list_append_2 _ _) (PySem.list_append l its.toArray n u (by rw [List.size_toArray]; omega)) ⟨e, ?_⟩
 refine ⟨.non, _, I.lset (its' := its ++ [u]) hH e (by simp) (r.append (.cons ru .nil)) ?_, rfl, q⟩
 rw [List.length_append, List.length_singleton]
 omega
theorem len_rep {α : Type} (xs : List α) (k : Nat) : (List.replicate k xs).flatten.length = k * xs.length := by
 induction k with
 | zero => simp
 | succ k ih => rw [List.replicate_succ, List.flatten_cons, List.length_append, ih, Nat.succ_mul, Nat.add_comm]
end
section
variable {prog : Program} {w : World} {A : Around} {E : Value -> Shared -> Prop} {s : Shared}
end
section
variable {X : Cx}
end
end L2
namespace Att
open PySem PySem.W PySem.Calls PyProof.Rows
theorem ints_of_wellAll {P : Params} {h : Heap} : ∀ (ns : List Int) (vs : List Value), WellAll P h vs (ns.map WData.int) -> IntsAre vs ns := by
 intro ns
 induction ns with
 | nil =>
  intro vs w
  rw [List.map_nil] at w
  cases w
  exact .nil
 | cons n ns ih =>
  intro vs w
  rw [List.map_cons] at w
  cases w with
  | cons a b =>
   cases a
   exact .cons _ _ (ih _ b)
theorem script_of {l : OpenLaw} {n : Nat} (hn : l.most = some n) {P : Params} {h : Heap} {args : List WData} {vals : List Value}
  (hpre : l.row.toRowW.claim.pre args = true) (hwl : WellAll P h vals args) :
  ∃ a vs ns, vals = [Value.ref a] /\ args = [WData.list (ns.map WData.int)] /\ h.get? a = some { cls := .type "list", data := .seq vs.toArray } /\ IntsAre vs ns /\ ns.length <= n := by
 have hsh : WShape.hasAll [] args [.list .int] = true := (pre_splitW hpre).1
 have hc : l.pre.holds [] { args := args } = true := (pre_splitW hpre).2
 obtain ⟨d, r, rfl, h1, h2⟩ := hasAllW_cons hsh
 obtain rfl := hasAllW_nil h2
 obtain ⟨xs, rfl, h3⟩ := hasW_list h1
 obtain ⟨ns, rfl⟩ := items_int h3
 have hlen : ns.length <= n := by
  unfold OpenLaw.pre at hc
  have h4 : (WTm.not (.lt (.lit (.int (n : Int))) (.len (.arg 0)))).holds [] { args := [.list (ns.map .int)] } = true := by
   have h4 := (holds_andW hc).1
   rw [hn] at h4
   exact h4
  have h5 := condW_of h4 (w_not (w_lt w_lit (w_len_list (w_arg rfl))))
  rw [List.length_map] at h5
  refine Nat.le_of_not_lt fun q => ?_
  have q' : (n : Int) < ((ns.length : Nat) : Int) := by omega
  first
   | (rw [decide_eq_true q'] at h5; exact absurd h5 (by decide))
   | (simp at h5; omega)
 cases hwl with
 | cons w1 w2 =>
  cases w2
  cases w1 with
  | list ho hall => exact ⟨_, _, ns, rfl, rfl, ho, ints_of_wellAll ns _ hall, hlen⟩
theorem post_true (l : OpenLaw) (args : List WData) : l.row.toRowW.claim.post args (.bool true) args = true :=
 postW_of (r := l.row.toRowW) (X := (true == true))
  (show WShape.has [] (.bool true) .bool = true by first | rfl | decide | simp [WShape.has, WShape.arms, WShape.armsAll])
  (show (WTm.eq .res (.lit (.bool true))).value [] { args := args, res := some (.bool true), after := args } = some (.bool (true == true)) from w_eq_bool (w_res rfl) w_lit) rfl
theorem attach_call {l : OpenLaw} {n : Nat} {q : Program} {loose : List Str} {XP : (Str -> Option Value) -> Heap -> Prop} {YP : World -> Heap -> Prop} {d : DefRec}
  (hn : l.most = some n) (hdf : d.params.defaults = [])
  (call : ∀ (w : World) (s₀ s₁ : Shared) (mg mb : Str -> Option Value) (fa : Addr) (o : Obj) (pm cd doc : Value) (a : Addr) (vs : List Value) (ns : List Int),
   Ground q loose [] XP w s₀ mg mb s₁.heap -> YP w s₁.heap ->
   s₁.heap.get? fa = some o -> o.data = .func (docDef d.name d.params d.body d.scope pm cd doc) -> s₁.heap.CodeRec cd d.name -> mg d.name = some (.ref fa) ->
   s₁.heap.get? a = some { cls := .type "list", data := .seq vs.toArray } -> IntsAre vs ns -> ns.length <= n -> s₁.gens = #[] ->
   codeAny (model l.prog w) callerA (.call (.ref fa) ⟨[.ref a], []⟩) (fun r s' => r = .ok (.ret (.bool true)) /\ OldK s₁.heap s'.heap /\ s'.os = s₁.os /\ AllBare s'.gens) s₁) :
  WalkO q loose XP YP l.row.toRowW d [] (fun f vs => PySem.call f vs) := by
 intro w s₀ s₁ mg mb G Y fa o pm cd doc dV kV ho hd hcd hD hmg hg args vals as hpre hlay hrd hwl hlo
 obtain rfl : dV = .none := Dflts.none hD hdf
 obtain rfl : kV = .none := Dflts.noKw hD
 obtain ⟨a, vs, ns, rfl, rfl, hobj, hints, hlen⟩ := script_of hn hpre hwl
 refine enter_call (codeAny_mono (call w s₀ s₁ mg mb fa o pm cd doc a vs ns G Y ho (fd_plain hd) hcd hmg hobj hints hlen hg) fun r s' hq => ?_)
 obtain ⟨rfl, h2, h3, h4⟩ := hq
 exact ⟨.inl ⟨.bool true, .bool true, [], rfl, fun _ => rfl, .bool true, post_true l _, fun _ => ⟨List.Pairwise.nil, fun _ hm => (nomatch hm)⟩⟩, h2, h3, h4⟩
section
variable {prog : Program} {w : World} {A : Around} {E : Value -> Shared -> Prop} {s : Shared} {K : Frag}
noncomputable def ledger (h : Heap) (L d : Addr) : List (Addr × Obj) := (List.range h.objs.size).filterMap fun a => if a = L \/ a = d then none else (h.get? a).map fun o => (a, o)
end
end Att
namespace L2
open PySem PySem.Spec PyProof.Rows
theorem vals_ints : ∀ {vs : List Value} {ns : List Int}, IntsAre vs ns -> Vals (ns.map V.int) vs
 | _, _, .nil => .nil
 | _, _, .cons n t h => .cons ⟨t, rfl⟩ (vals_ints h)
def Only (H : Hp) : Prop := ∀ b, H b = none \/ ∃ o xs, H b = some (.frz o (.lst xs))
theorem law_call {P : Program} {w : World} {K : PySem.W.Frag} {mg mb : Str -> Option Value} {CX : CXT} {k : Nat} {fa a : Addr} {fd : FuncData} {x : Str} {sp : Sp} {s₁ : Shared} {vs : List Value} {ns : List Int}
  (KX : K.In s₁.heap) (hns : s₁.heap.Ns mainGlobals mg) (hb : s₁.heap.Ns builtinsNs mb) (hbb : ∀ x : Str, x ≠ "__name__" -> mb x = bootBuiltins x) (hlim : s₁.heap.NoLimit) (hg : s₁.gens = #[])
  (ha : s₁.heap.get? a = some { cls := .type "list", data := .seq vs.toArray }) (hi : IntsAre vs ns) (hl : ns.length <= sizeLine) (hr : Room k callerA)
  (F : ∀ base : Heap, K.In base -> base.Ns mainGlobals mg -> FnOk P w K mg base CX k fa fd [x] sp) (hbind : ∀ (s : Shared) (u : Value), BindsTo s fd ⟨[u], []⟩ [(x, u)])
  (hsp : ∀ H : Hp, Only H -> SqL K H a (ns.map V.int) -> sp [.ref a] H (fun v _ => v = .bl true) fun _ _ _ => False)
  (hCX : ∀ H e s', CX [] H s₁ (fun _ _ _ => False) e s' -> False) :
  codeAny (model P w) callerA (.call (.ref fa) ⟨[.ref a], []⟩) (fun r s' => r = .ok (.ret (.bool true)) /\ OldK s₁.heap s'.heap /\ s'.os = s₁.os /\ AllBare s'.gens) s₁ := by
 have rv := vals_ints hi
 have lenV := hi.length
 have core : ∀ H : Hp, Only H -> SqL K H a (ns.map V.int) -> HOk P w H s₁.heap -> (∀ b, H b ≠ none -> b = a) -> (H a ≠ none -> K.lookup a = none) ->
   codeAny (model P w) callerA (.call (.ref fa) ⟨[.ref a], []⟩) (fun r s' => r = .ok (.ret (.bool true)) /\ OldK s₁.heap s'.heap /\ s'.os = s₁.os /\ AllBare s'.gens) s₁ := by
  intro H hO hS hok hA hK
  have base_of : ∀ {b : Addr} {o : Obj}, s₁.heap.get? b = some o -> H b = none -> (hidT s₁.heap H).get? b = some o := fun e n => hidT_get e n
  have noA : ∀ {b : Addr} {o : Obj} {es : Array DictEntry} {ep : Nat}, s₁.heap.get? b = some o -> o.data = .dict es ep -> H b = none := fun {b o es ep} e d => by
   cases q : H b with
   | none => rfl
   | some u =>
    have e' : b = a := hA b (by rw [q]; simp)
    subst e'
    rw [ha] at e; cases e
    have d' : Data.seq vs.toArray _ = Data.dict es ep := d
    cases d'
  have nsK : ∀ {b : Addr} {m : Str -> Option Value}, s₁.heap.Ns b m -> (hidT s₁.heap H).Ns b m := fun {b m} ⟨o, es, ep, e, d, r⟩ => ⟨o, es, ep, base_of e (noA e d), d, r⟩
  have hKb : K.In (hidT s₁.heap H) := fun b o e => base_of (KX b o e) (by
   cases q : H b with
   | none => rfl
   | some u =>
    have e' : b = a := hA b (by rw [q]; simp)
    subst e'
    rw [hK (by rw [q]; simp)] at e; cases e)
  have hM : Mod K mg (hidT s₁.heap H) := ⟨hKb, nsK hns, ⟨mb, nsK hb, hbb⟩, let ⟨mc, h1, h2⟩ := hlim; ⟨mc, nsK h1, h2⟩⟩
  have e0 : Env0 P w K mg (hidT s₁.heap H) callerA [] s₁ H := ⟨rfl, hM, fun b o e => of_hidT e, Nat.le_of_eq (hidT_size _ _), trivial, fun b hb => absurd (show b ∈ ([] : List Addr) from hb) (by simp), hok, .of_eq hg⟩
  refine codeAny_mono ((F _ hKb (nsK hns)).run callerA [] s₁ H ⟨[.ref a], []⟩ [.ref a] [.ref a] _ _ hr e0 (hbind s₁ (.ref a)) (.cons rfl .nil) (hsp H hO hS)) fun r s' h => ?_
  cases r with
  | error e => exact (hCX H e s' h).elim
  | ok fl =>
   cases fl with
   | next => exact False.elim h
   | brk => exact False.elim h
   | cont => exact False.elim h
   | ret u =>
    obtain ⟨v, H', os, bare, un, hok', r', q⟩ := h
    have q' : v = .bl true := q
    subst q'
    obtain rfl : u = Value.bool true := r'
    refine ⟨rfl, OldK.of_keep fun b o e => ?_, os, bare⟩
    cases q : H b with
    | none => exact un.keep b o e q (by intro z; exact absurd (show b ∈ ([] : List Addr) from z) (by simp)) (by simp)
    | some u =>
     rcases hO b with z | ⟨ob, xs, z⟩
     ·rw [q] at z; cases z
     ·have z2 := un.frzs b ob _ z
      obtain ⟨e1, _⟩ := hok b _ z
      obtain ⟨e2, _⟩ := hok' b _ z2
      rw [e] at e1; cases e1
      exact e2
 cases hk : K.lookup a with
 | some o =>
  have e := KX a o hk
  rw [ha] at e
  cases e
  refine core (fun _ => none) (fun _ => .inl rfl) (.inr ⟨_, vs.toArray, _, hk, rfl, rfl, rfl, by rw [List.size_toArray, lenV]; exact hl, by simpa using rv⟩) (fun b u z => by have z' : (none : Option HO) = some u := z; cases z') (fun b z => absurd rfl z) fun z => absurd rfl z
 | none =>
  refine core (fun b => if b = a then some (.frz { cls := .type "list", data := .seq vs.toArray } (.lst (ns.map V.int))) else none) (fun b => ?_) (.inl (.inr ⟨{ cls := .type "list", data := .seq vs.toArray }, if_pos rfl⟩)) (fun b u z => ?_) (fun b z => ?_) fun _ => hk
  ·by_cases hb : b = a
   ·exact .inr ⟨_, _, if_pos hb⟩
   ·exact .inl (if_neg hb)
  ·by_cases hb : b = a
   ·have z' := (if_pos hb).symm.trans z
    cases z'
    subst hb
    exact ⟨ha, by rw [List.length_map]; exact hl, vs, _, rv, ha⟩
   ·have z' := (if_neg hb).symm.trans z
    cases z'
  ·by_cases hb : b = a
   ·exact hb
   ·exact absurd (if_neg hb) z
end L2
namespace L2
open PySem PySem.Spec PyProof.Rows
noncomputable abbrev KOf {K : PySem.W.Frag} {h : Heap} (_ : K.In h) : PySem.W.Frag := K
theorem walk_of {l : PySem.W.OpenLaw} {n k : Nat} {q : Program} {loose : List Str} {XP : (Str -> Option Value) -> Heap -> Prop} {YP : World -> Heap -> Prop} {d : DefRec} {K : Params -> PySem.W.Frag} {CX : World -> CXT} {sp : World -> Sp} {x : Str}
  (hn : l.most = some n) (hn2 : n <= sizeLine) (hdf : d.params.defaults = []) (hr : Room k callerA)
  (hY : ∀ (w : World) (h : Heap), YP w h -> (K w.params).In h)
  (F : ∀ (w : World) (mg : Str -> Option Value) (fa : Addr) (h : Heap), (K w.params).In h -> h.Ns mainGlobals mg -> mg d.name = some (.ref fa) ->
   ∃ fd : FuncData, (∀ (s : Shared) (u : Value), BindsTo s fd ⟨[u], []⟩ [(x, u)]) /\
    ∀ base : Heap, (K w.params).In base -> base.Ns mainGlobals mg -> FnOk l.prog w (K w.params) mg base (CX w) k fa fd [x] (sp w))
  (hsp : ∀ (w : World) (H : Hp) (a : Addr) (ns : List Int), ns.length <= n -> Only H -> SqL (K w.params) H a (ns.map V.int) -> sp w [.ref a] H (fun v _ => v = .bl true) fun _ _ _ => False)
  (hCX : ∀ (w : World) (H : Hp) (s : Shared) (e : Value) (s' : Shared), CX w [] H s (fun _ _ _ => False) e s' -> False) :
  PySem.W.WalkO q loose XP YP l.row.toRowW d [] (fun f vs => PySem.call f vs) := by
 refine Att.attach_call hn hdf fun w s₀ s₁ mg mb fa o pm cd doc a vs ns G Y ho hd hcd hmg hobj hints hlen hg => ?_
 have KX := hY w _ Y
 obtain ⟨fd, hb, hF⟩ := F w mg fa _ KX G.T.g hmg
 exact law_call KX G.T.g G.T.b G.T.builtins G.T.nolimit hg hobj hints (Nat.le_trans hlen hn2) hr hF hb (fun H hO hS => hsp w H a ns hlen hO hS) fun H e s' => hCX w H s₁ e s'
end L2
/- THE LAST THEOREM (shape; LID, My.* are yours):
   My.Adr: a structure of the addresses that your layer names (classes, functions); My.Txt K t: a structure (Prop) of the equations over K;
   My.txt_mk : {K} {implicit addresses ..} (e1 : nsIn K mainGlobals "law" = some (some (.ref f))) (e2 : K.lookup f = some ⟨oc, od, .func (fnOf "law" "law" params body scope dV kV doc pm an cdv ct), sl⟩) (e3 : codeIn K cdv "law" = true) .. : ∃ t, My.Txt K t
set_option maxRecDepth 100000 in
set_option maxHeartbeats 0 in
theorem PySem.Challenge.cw_LID_holds : PySem.Challenge.rw_LID.Holds := by
 w_on; o_law; k_head; (case hw => w_witness2)
 k_fill
 refine L2.walk_of (l := PySem.Challenge.rw_LID) (n := 63) (k := 40) (x := "script") (CX := fun w => ..) (sp := fun _ => My.sp_law) rfl (by decide) rfl ⟨rfl, by decide, by decide⟩ (fun w h Y => PySem.W.kIn_of Y) ?F ?S ?C
 case F =>
  intro w mg fa h KX G hmg
  have T : ∃ t, My.Txt (L2.KOf KX) t := by
   dsimp only [L2.KOf]                          -- K must stand as «<heap const> w.params» for k_is
   refine' My.txt_mk ?e1 ?e2 ?e3 ..
   (case e1 => PySem.W.k_is)                    -- in the order: a name -> its address -> its object -> its parts
   (case e2 => PySem.W.k_is)
   ..
  obtain ⟨t, T⟩ := T
  have e0 := hmg.symm.trans (PySem.W.mg_of KX G T.law)
  cases e0                                       -- fa is the law's own address
  exact ⟨_, fun s u => .of_eq rfl, fun base kb nb => My.law_fn T kb nb⟩     -- if «.of_eq rfl» comes too early: refine' ⟨_, ?b, fun base kb nb => My.law_fn T kb nb⟩; exact fun s u => .of_eq rfl
 case S => exact fun w H a ns hl hO hS => ..
 case C => exact ..
(the tactic k_is has no namespace: write k_is) -/
namespace L2
open PySem PySem.Spec PyProof.Rows
noncomputable def defArgs (s : Stmt) : Arguments := match s with
 | .FunctionDef _ a _ _ _ _ _ _ _ _ => a
 | _ => { posonlyargs := [], args := [], vararg := none, kwonlyargs := [], kw_defaults := [], kwarg := none, defaults := [] }
noncomputable def defBody (s : Stmt) : List Stmt := match s with
 | .FunctionDef _ _ b _ _ _ _ _ _ _ => b
 | _ => []
noncomputable def defScope (s : Stmt) : Scope := match s with
 | .FunctionDef _ _ _ _ _ _ sc _ _ _ => sc
 | _ => { kind := .function, names := [], isGenerator := false, isCoroutine := false }
noncomputable abbrev CX0 : CXT := fun _ _ _ _ _ _ => False
noncomputable abbrev E0 : XK := fun _ _ _ => False
structure Fun (K : PySem.W.Frag) (x qual : Str) (st : Stmt) (f : Addr) (fd : FuncData) : Prop where
 ex : ∃ (oc : Value) (od : Option Addr) (kV doc pm : Value) (an : Option Addr) (cdv ct : Value) (osl : Array (Option Value)),
  fd = PySem.W.fnOf x qual (defArgs st) (defBody st) (defScope st) .none kV doc pm an cdv ct /\ K.lookup f = some ⟨oc, od, .func fd, osl⟩ /\ PySem.W.codeIn K cdv qual = true
 kp : PySem.W.keepIn K (.ref f) = true
section
variable {P : Program} {w : World} {K : PySem.W.Frag} {mg : Str -> Option Value} {base : Heap}
theorem Fun.binds {x qual : Str} {st : Stmt} {f : Addr} {fd : FuncData} {ps : List Str} (F : Fun K x qual st f fd)
  (h : ∀ (kV doc pm : Value) (an : Option Addr) (cdv ct : Value) (us : List Value), us.length = ps.length -> bindArgs (PySem.W.fnOf x qual (defArgs st) (defBody st) (defScope st) .none kV doc pm an cdv ct) ⟨us, []⟩ = pure (ps.zip us)) : Binds K fd ps [] := by
 obtain ⟨oc, od, kV, doc, pm, an, cdv, ct, osl, rfl, lk, hcd⟩ := F.ex
 exact .all (h kV doc pm an cdv ct)
theorem fun_mk {x qual : Str} {st : Stmt} {f : Addr} {oc : Value} {od an : Option Addr} {osl : Array (Option Value)} {kV doc pm cdv ct : Value} (l : K.lookup f = some ⟨oc, od, .func (PySem.W.fnOf x qual (defArgs st) (defBody st) (defScope st) .none kV doc pm an cdv ct), osl⟩)
  (c : PySem.W.codeIn K cdv qual = true) (k : PySem.W.keepIn K (.ref f) = true) : Fun K x qual st f (PySem.W.fnOf x qual (defArgs st) (defBody st) (defScope st) .none kV doc pm an cdv ct) := ⟨⟨oc, od, kV, doc, pm, an, cdv, ct, osl, rfl, l, c⟩, k⟩
end
section
variable {X : Cx}
theorem pv (i : Nat) {x : Str} {pos : Pos} (hN : X.N[i]? = some x := by rfl) (hv : Vis X.env.scope x := by walk_at "1") (hd : (x == ("__debug__" : Str)) = false := by decide)
  (hcd : (x == ("__classdict__" : Str)) = false := by decide) : PE X (.Name x pos) (tVar i) := pe_var hN hv hd hcd
end
def Same (H H' : Hp) : Prop := ∀ b o, H b = some o -> H' b = some o
theorem Same.refl (H : Hp) : Same H H := fun _ _ h => h
theorem Same.trans {H H1 H2 : Hp} (a : Same H H1) (b : Same H1 H2) : Same H H2 := fun c o h => b c o (a c o h)
theorem Same.free {H H' : Hp} (e : Same H H') {l : Addr} (h : H' l = Option.none) : H l = Option.none := by
 cases q : H l with
 | none => rfl
 | some o =>
  rw [e l o q] at h
  cases h
theorem Same.seq {K : PySem.W.Frag} {H H' : Hp} {a : Addr} {xs : List V} (e : Same H H') (h : SqL K H a xs) : SqL K H' a xs := by
 rcases h with (h | ⟨o, h⟩) | h
 ·exact .inl (.inl (e _ _ h))
 ·exact .inl (.inr ⟨o, e _ _ h⟩)
 ·exact .inr h
end L2
set_option Elab.async false
set_option linter.all false
set_option maxRecDepth 100000
set_option maxHeartbeats 4000000
namespace L2
open PySem PySem.Spec PyProof.Rows
theorem ObjOk.get {P : Program} {w : World} {H : Hp} {h : Heap} {a : Addr} {o : HO} (x : ObjOk P w H h a o) : ∃ ob, h.get? a = some ob := by
 cases o with
 | lst xs => obtain ⟨_, _, _, _, e⟩ := x; exact ⟨_, e⟩
 | tup xs => obtain ⟨_, _, _, p⟩ := x; obtain ⟨o, e, _⟩ := p; exact ⟨o, e⟩
 | dK kvs => obtain ⟨_, _, _, _, o, _, _, e, _⟩ := x; exact ⟨_, e⟩
 | dT kvs => obtain ⟨_, _, _, _, o, _, _, e, _⟩ := x; exact ⟨_, e⟩
 | set S n => obtain ⟨o, _, _, _, e, _⟩ := x; exact ⟨_, e⟩
 | ins C dx fs => obtain ⟨_, _, _, e, _⟩ := x; exact ⟨_, e⟩
 | own y => obtain ⟨_, e⟩ := x; exact ⟨_, e⟩
 | xd fs => obtain ⟨_, ⟨_, _, _, e, _⟩, _⟩ := x; exact ⟨_, e⟩
 | rng lo hi => obtain ⟨_, _, _, e⟩ := x; exact ⟨_, e⟩
 | frz ob u => obtain ⟨e, _⟩ := x; exact ⟨_, e⟩
 | tbl ps => exact ⟨_, (show h.get? a = some _ from x)⟩
 | met f y => exact ⟨_, (show h.get? a = some _ from x)⟩
 | ext φ => obtain ⟨_, ⟨_, e⟩, _⟩ := x; exact ⟨_, e⟩
structure Fly (outer : List Env) (H H' : Hp) (h h' : Heap) (e : Addr) (cls : Value) (B : Heap) : Prop where
 fl : ∃ a0, Heap.FlyingW B outer e cls a0 h'
 old : ∀ b o, h.get? b = some o -> H b = none -> b ∉ frs outer -> B.get? b = some o
 trk : ∀ b u o, H' b = some u -> h'.get? b = some o -> B.get? b = some o
 all : ∀ b o, h.get? b = some o -> b ∈ frs outer \/ ∃ o', B.get? b = some o'
 new : h.get? e = none
noncomputable def CX1 (P : Program) (w : World) : CXT := fun outer H s E ev s' => ∃ (e : Addr) (cls : Value) (H' : Hp) (B : Heap),
 ev = .ref e /\ s'.os = s.os /\ AllBare s'.gens /\ Un (frs outer) [] H H' s.heap s'.heap /\ HOk P w H' s'.heap /\ Fly outer H H' s.heap s'.heap e cls B /\ E cls none H'
def PassX (CX : CXT) (X : Cx) (EE : St -> XK) : Prop := ∀ (pins : List (Addr × Obj)) (σ : St) (H : Hp) (s : Shared) (e : Value) (s' : Shared), Inv X pins σ H s -> CX X.stack H s (EE σ) e s' -> X.xe e s'
def RaisX (X : Cx) (EE : St -> XK) : Prop := ∀ (pins : List (Addr × Obj)) (σ : St) (H : Hp) (s : Shared) (e : Addr) (cls : Value) (vs : List Value) (h' : Heap), Inv X pins σ H s -> Heap.MadeExcOf s.heap h' e cls vs -> EE σ cls none H -> X.xe (.ref e) { s with heap := h' }
section
variable {CX : CXT} {P : Program} {w : World} {K : PySem.W.Frag} {mg : Str -> Option Value} {base : Heap} {N : List Str} {qual : Str} {scope : Scope} {f : Addr} {cd : Value} {A : Around} {outer : List Env} {s₀ : Shared} {H₀ : Hp} {E : XK}
theorem left_ok {pins : List (Addr × Obj)} {σ : St} {H H' : Hp} {s s' : Shared} {e : Addr} {cls : Value} {B h'' : Heap} {a0 : Value}
  (I : Inv (cxOf CX P w K mg base N qual scope f cd A outer s₀ H₀ E) pins σ H s) (J : Inv (cxOf CX P w K mg base N qual scope f cd A outer s₀ H₀ E) pins σ H' s')
  (old : ∀ b o, s.heap.get? b = some o -> H b = none -> b ∉ frs (envOfC qual scope s₀.heap.objs.size f cd :: outer) -> B.get? b = some o)
  (trk : ∀ b u o, H' b = some u -> s'.heap.get? b = some o -> B.get? b = some o)
  (all : ∀ b o, s.heap.get? b = some o -> b ∈ frs (envOfC qual scope s₀.heap.objs.size f cd :: outer) \/ ∃ o', B.get? b = some o')
  (new : s.heap.get? e = none)
  (fl : Heap.FlyingW B outer e cls a0 h'') (up : s'.heap.UpToSlots h'') (hE : E cls none H') :
  CX1 P w outer H₀ s₀ E (.ref e) { s' with heap := h'' } := by
 have neL : ∀ b o, s₀.heap.get? b = some o -> b ∉ frs outer -> b ∉ frs (envOfC qual scope s₀.heap.objs.size f cd :: outer) := fun b o q nb hb => by
  rcases List.mem_cons.mp (show b ∈ s₀.heap.objs.size :: frs outer from hb) with z | z
  ·exact absurd (Heap.lt_size q) (by rw [z]; exact Nat.lt_irrefl _)
  ·exact nb z
 have ex0 : ∀ b : Addr, b ∉ ([] : List Addr) := fun b z => nomatch z
 have slot : ∀ b o, s₀.heap.get? b = some o -> b ∈ frs outer -> ∃ sl, h''.get? b = some { o with slots := sl } := fun b o q hb => by
  obtain ⟨sl, e1⟩ := J.base.slot b o q (J.ok.frf b hb) hb (ex0 b)
  obtain ⟨_, o2, e2, nd⟩ := J.funs.mem hb
  rw [e1] at e2
  cases e2
  obtain ⟨sl', e3⟩ := up b _ e1 nd
  exact ⟨sl', e3⟩
 refine ⟨e, cls, H', B, rfl, J.os, J.bare, ⟨fun b o q n hb hx => ?_, fun b o q n hb hx => slot b o q hb, fun b o q n hx => J.base.free b o q n hx, fun b o q hx => ?_, J.base.tups, J.base.frzs, J.base.tbls⟩, fun a o q => ?_, ⟨⟨a0, fl⟩, fun b o q n hb => ?_, fun b u o q z => ?_, fun b o q => ?_, ?_⟩, hE⟩
 ·exact fl.1 b o (old b o (I.base.keep b o q n hb hx) (I.base.free b o q n hx) (neL b o q hb))
 ·by_cases hb : b ∈ frs outer
  ·obtain ⟨sl, z⟩ := slot b o q hb
   exact ⟨_, z⟩
  ·obtain ⟨o1, e1⟩ := I.base.there b o q hx
   rcases all b o1 e1 with z | ⟨o', z⟩
   ·exact absurd z (neL b o q hb)
   ·exact ⟨o', fl.1 b o' z⟩
 ·refine (J.hok a o q).stay (fun b u hb z => ?_) (fun _ z => z) fun _ _ z => z
  rcases hb with rfl | hb
  ·exact fl.1 _ _ (trk b o u q z)
  ·exact fl.1 _ _ (trk b _ u hb z)
 ·exact old b o (I.base.keep b o q n hb (ex0 b)) (I.base.free b o q n (ex0 b)) (neL b o q hb)
 ·obtain ⟨o1, e1⟩ := (J.hok b u q).get
  have e2 := trk b u o1 q e1
  have e3 := fl.1 b o1 e2
  rw [e3] at z
  cases z
  exact e2
 ·obtain ⟨o1, e1⟩ := I.base.there b o q (ex0 b)
  rcases all b o1 e1 with z | z
  ·by_cases hb : b ∈ frs outer
   ·exact .inl hb
   ·exact absurd z (neL b o q hb)
  ·exact .inr z
 ·cases q : s₀.heap.get? e with
  | none => rfl
  | some o =>
   obtain ⟨o1, e1⟩ := I.base.there e o q (ex0 e)
   rw [new] at e1
   cases e1
theorem pass1 : PassX (CX1 P w) (cxOf (CX1 P w) P w K mg base N qual scope f cd A outer s₀ H₀ E) (fun _ => E) := by
 intro pins σ H s ev s' I hx
 obtain ⟨e, cls, H', B, rfl, hos, hg, un, hok, fly, hE⟩ := hx
 have J := I.call' (ch := []) hos un hok hg (fun b hb => nomatch hb)
 obtain ⟨a0, fl⟩ := fly.fl
 refine wpAny_leaves_onW (base := B) I.ok.frames rfl fl fun h'' fl2 up => ?_
 exact left_ok I J fly.old fly.trk fly.all fly.new fl2 up hE
theorem rais1 : RaisX (cxOf (CX1 P w) P w K mg base N qual scope f cd A outer s₀ H₀ E) (fun _ => E) := by
 intro pins σ H s e cls vs h' I hx hE
 have J : Inv (cxOf (CX1 P w) P w K mg base N qual scope f cd A outer s₀ H₀ E) pins σ H { s with heap := h' } := I.kept (t' := s.toks) hx.keeps
 have hin : ∀ env ∈ (envOfC qual scope s₀.heap.objs.size f cd :: outer), ∀ b, env.frame = some b -> b ∈ frs (envOfC qual scope s₀.heap.objs.size f cd :: outer) := fun env he b hb => List.mem_filterMap.mpr ⟨env, he, hb⟩
 refine wpAny_leaves_madeW (base := PySem.W.hideAll s.heap (frs (envOfC qual scope s₀.heap.objs.size f cd :: outer))) (h := s.heap) I.ok.frames rfl (fun b o q => PySem.W.of_hideAll _ q) (PySem.W.funFrames_hide I.stack hin) hx fun h'' t fl _ _ up => ?_
 refine left_ok I J (fun b o q _ nb => PySem.W.hideAll_get _ q nb) (fun b u o q z => ?_) (fun b o q => ?_) hx.new fl up hE
 ·obtain ⟨o1, e1⟩ := (I.hok b u q).get
  have e2 := hx.keeps b o1 e1
  have z' : h'.get? b = some o := z
  rw [e2] at z'
  cases z'
  refine PySem.W.hideAll_get _ e1 fun hb => ?_
  rw [I.stkFree b hb] at q
  cases q
 ·by_cases hb : b ∈ frs (envOfC qual scope s₀.heap.objs.size f cd :: outer)
  ·exact .inl hb
  ·exact .inr ⟨o, PySem.W.hideAll_get _ q hb⟩
end
theorem passE {X : Cx} {P : Program} {w : World} : PassX (CX1 P w) X (fun _ => E0) := fun _ _ _ _ _ _ _ h => by
 obtain ⟨_, _, _, _, _, _, _, _, _, _, z⟩ := h
 exact False.elim z
def tCallX (sp : Sp) (dvs : List V) (EE : St -> XK) (t : TA) : TE := fun σ H Q => t σ H fun vs H1 => sp (vs ++ dvs) H1 Q (EE σ)
section
variable {X : Cx} {CX : CXT} {k : Nat} {f C : Addr} {fd : FuncData} {ps : List Str} {sp : Sp} {dvs : List V} {ds : List Value} {EE : St -> XK} {x m : Str} {p pos apos : Pos} {e o : Expr} {es : List Expr} {ta : TE} {t : TA}
theorem run_fnX {pins : List (Addr × Obj)} {σ : St} {H : Hp} {s : Shared} {Q : VK} {us : List Value} {vs : List V} (F : FnOk X.prog X.w X.K X.mg X.base CX k f fd ps sp) (hr : Room k X.A) (hb : Binds X.K fd ps ds) (hd : Vals dvs ds) (hx : PassX CX X EE)
  (I : Inv X pins σ H s) (r : Vals vs us) (h : sp (vs ++ dvs) H Q (EE σ)) : wpAny (model X.prog X.w) X.A (call (.ref f) us) (EP X pins σ Q) X.xe s := by
 have r2 : Vals (vs ++ dvs) (us ++ ds) := r.append hd
 have hl : (us ++ ds).length = ps.length := by rw [<- r2.length]; exact F.len _ _ _ _ h
 refine wpAny_call (codeAny_mono (F.run X.A X.stack s H ⟨us, []⟩ (us ++ ds) (vs ++ dvs) Q (EE σ) hr I.env0 (hb s us I.kIn hl) r2 h) fun r s' hq => ?_)
 cases r with
 | error e => exact hx pins σ H s e s' I hq
 | ok fl =>
  cases fl with
  | ret u => exact I.after hq
  | next => exact False.elim hq
  | brk => exact False.elim hq
  | cont => exact False.elim hq
theorem pe_callX (F : FnOk X.prog X.w X.K X.mg X.base CX k f fd ps sp) (hr : Room k X.A) (hg : Gl X x) (hm : X.mg x = some (.ref f)) (hk : PySem.W.keepIn X.K (.ref f) = true) (hb : Binds X.K fd ps ds) (hd : Vals dvs ds) (hx : PassX CX X EE)
  (ha : PA X (e :: es) t) (hdb : (x == ("__debug__" : Str)) = false := by decide) (he : starEach (e :: es) X.env = (false, eval e X.env) :: starEach es X.env := by rfl) (hpl : (backTo pos (starEach es X.env)).any (·.1) = false := by rfl) :
  PE X (.Call (.Name x p) (e :: es) [] pos) (tCallX sp dvs EE t) := by
 intro pins s σ H Q I h
 refine wpAny_Call_Name_kw (ld_glob I hg hm ?_ hdb)
 refine PySem.W.callWith_K (h₀ := X.base) I.ok.mod.kin hk (thn (ha pos pins s σ H _ I h) fun us s1 ⟨vs, H1, I1, r, q⟩ => ⟨I1.kIn, ?_⟩) he hpl
 exact run_fnX F hr hb hd hx I1 r q
end
section
variable {P : Program} {w : World} {K : PySem.W.Frag} {mg : Str -> Option Value} {base : Heap}
theorem Fun.okX {x qual : Str} {st : Stmt} {f : Addr} {fd : FuncData} {N ps : List Str} {k : Nat} {sp : Sp} (F : Fun K x qual st f fd) (S : FnScope N ps (defScope st)) (len : ∀ vs H Q E, sp vs H Q E -> vs.length = ps.length)
  (hbody : ∀ (cdv : Value) (A : Around) (outer : List Env) (s : Shared) (H : Hp) (vs : List V) (Q : VK) (E : XK), Room k (A.deeper (envOfC qual (defScope st) s.heap.objs.size f cdv)) -> sp vs H Q E ->
   ∃ t, PSs (cxOf (CX1 P w) P w K mg base N qual (defScope st) f cdv A outer s H E) (defBody st) t /\ t { nx := fun _ H' => Q .non H', rt := Q } (start N vs) H) : FnOk P w K mg base (CX1 P w) (k + 1) f fd ps sp := by
 obtain ⟨oc, od, kV, doc, pm, an, cdv, ct, osl, rfl, lk, hcd⟩ := F.ex
 exact fn_of lk hcd S len fun A outer s H vs Q E hr hsp => hbody cdv A outer s H vs Q E hr hsp
end
noncomputable def strKeysIn (K : PySem.W.Frag) (a : Addr) : Bool := match K.lookup a with
 | some ⟨_, _, .dict es _, _⟩ => es.toList.all fun e => match e.key with | .str _ _ => true | _ => false
 | _ => false
noncomputable def noInitIn (K : PySem.W.Frag) (a : Addr) : Bool := strKeysIn K a && PySem.W.nsIn K a "__init__" == some none
noncomputable abbrev veMro : List Value := [.type "ValueError", .type "Exception", .type "BaseException", .type "object"]
noncomputable def excIn (K : PySem.W.Frag) (C A : Addr) : Bool := match K.lookup C, K.lookup A with
 | some ⟨.type "type", _, .cls cd, sl⟩, some ⟨_, _, .cls ca, _⟩ => (match sl.toList with
   | [_, _, _, _, some (.builtin n), _] => n == "ValueError.__new__" && cd.mro == (.ref C :: .ref A :: veMro) && !cd.hasDel && noInitIn K cd.ns && noInitIn K ca.ns
   | _ => false)
 | _, _ => false
theorem noInit_of {K : PySem.W.Frag} {h : Heap} {a : Addr} (X : K.In h) (q : noInitIn K a = true) : ∃ m, h.Ns a m /\ m "__init__" = none := by
 unfold noInitIn at q
 rw [Bool.and_eq_true] at q
 obtain ⟨q1, q2⟩ := q
 unfold strKeysIn at q1
 split at q1
 ·rename_i c d es n sl hl
  have hs : StrKeys es := fun e he => by
   have := List.all_eq_true.mp q1 e (by simpa using he)
   split at this
   ·rename_i k t hk; exact ⟨_, _, hk⟩
   ·cases this
  refine ⟨nsFind es, ⟨_, es, n, X _ _ hl, rfl, hs, fun _ => rfl⟩, ?_⟩
  have q2 := beq_iff_eq.mp q2
  unfold PySem.W.nsIn at q2
  rw [hl] at q2
  dsimp only at q2
  unfold nsFind findBy
  rw [<- Array.find?_toList]
  split at q2
  ·cases q2
  ·rename_i he
   rw [he]
   rfl
 ·cases q1
theorem exc_of {K : PySem.W.Frag} {h : Heap} {C A : Addr} (X : K.In h) (q : excIn K C A = true) :
  ∃ nm qn N bs hdct sn sub ab col dd k0 k1 k2 k3 k5 mN, h.get? C = some (excClassObj nm qn C N bs (.ref A :: veMro) hdct sn sub ab col dd k0 k1 k2 k3 k5 "ValueError.__new__") /\ h.Ns N mN /\ mN "__init__" = none /\ OwnTail h veMro (.ref A :: veMro) := by
 unfold excIn at q
 split at q
 ·rename_i dd cd sl ca0 cad ca csl hC hA
  split at q
  ·rename_i k0 k1 k2 k3 n k5 hs
   simp only [Bool.and_eq_true, beq_iff_eq, Bool.not_eq_true'] at q
   obtain ⟨⟨⟨⟨rfl, hm⟩, hdel⟩, hn⟩, hna⟩ := q
   obtain ⟨nm, bs, mro, ns, qn, hd, sn, sub, ab, col, del⟩ := cd
   dsimp only at hm hdel hn
   subst hm hdel
   have hsl : sl = #[k0, k1, k2, k3, some (.builtin "ValueError.__new__"), k5] := by
    obtain ⟨l⟩ := sl
    simp only at hs
    rw [hs]
   subst hsl
   obtain ⟨mN, hN, hi⟩ := noInit_of X hn
   obtain ⟨mA, hNA, hiA⟩ := noInit_of X hna
   exact ⟨nm, qn, ns, bs, hd, sn, sub, ab, col, dd, k0, k1, k2, k3, k5, mN, X _ _ hC, hN, hi, .own (X _ _ hA) hNA hiA .base⟩
  ·cases q
 ·cases q
def tRaise (C : Addr) (EE : St -> XK) (t : TA) : TS := fun _ σ H => t σ H fun vs H1 => vs.length <= sizeLine /\ EE σ (.ref C) none H1
section
variable {X : Cx} {C Ac : Addr} {EE : St -> XK} {x : Str} {np cpos pos : Pos} {e : Expr} {es : List Expr} {t : TA}
theorem ps_raise (hx : RaisX X EE) (hc : X.calm = true) (hg : Gl X x) (hm : X.mg x = some (.ref C)) (hC : excIn X.K C Ac = true) (ha : PA X (e :: es) t)
  (hdb : (x == ("__debug__" : Str)) = false := by decide) (he : starEach (e :: es) X.env = (false, eval e X.env) :: starEach es X.env := by rfl) (hpl : (backTo cpos (starEach es X.env)).any (·.1) = false := by rfl) :
  PS X (.Raise (some (.Call (.Name x np) (e :: es) [] cpos)) none pos) (tRaise C EE t) := by
 intro pins s σ H D I h
 obtain ⟨nm, qn, N, bs, hdct, sn, sub, ab, col, dd, k0, k1, k2, k3, k5, mN, hC1, hN, hi, T⟩ := exc_of I.kIn hC
 have hpl2 : (backTo cpos (starEach (e :: es) X.env)).any (·.1) = false := by
  rw [he]; show (false || (backTo cpos (starEach es X.env)).any (·.1)) = false; rw [hpl]; rfl
 refine wpAny_Raise_call_subT (C := C) (nm := nm) (q := qn) (N := N) (bs := bs) (bm := .ref Ac :: veMro) (hdct := hdct) (sn := sn) (sub := sub) (ab := ab) (col := col) (dd := dd) (k0 := k0) (k1 := k1) (k2 := k2) (k3 := k3) (k5 := k5)
  PySem.F.excBase_ValueError (mN := mN) (by rfl) (I.ok.hd hc) hpl2 hi (ld_glob I hg hm ⟨rfl, ?_⟩ hdb)
 have key := ha cpos pins s σ H _ I h
 rw [he] at key |-
 refine Calls.evalArgs_plain (wpAny_mono key (fun us s1 ⟨vs, H1, I1, r, hz, q⟩ => ?_) fun _ _ y => y)
 obtain ⟨nm', qn', N', bs', hdct', sn', sub', ab', col', dd', k0', k1', k2', k3', k5', mN', hC1', hN', hi', T'⟩ := exc_of I1.kIn hC
 have kk : ∀ b o, X.base.get? b = some o -> s1.heap.get? b = some o := I1.bk
 have hCb : X.base.get? C = s1.heap.get? C := by
  obtain ⟨_, _, _, _, _, _, _, _, _, _, _, _, _, _, _, _, z, _⟩ := exc_of I.ok.mod.kin hC
  rw [z]; exact (kk _ _ z).symm
 have hCs : s.heap.get? C = s1.heap.get? C := by
  obtain ⟨_, _, _, _, _, _, _, _, _, _, _, _, _, _, _, _, z, _⟩ := exc_of I.ok.mod.kin hC
  rw [I.bk _ _ z]; exact (kk _ _ z).symm
 have hC2 : s1.heap.get? C = some (excClassObj nm qn C N bs (.ref Ac :: veMro) hdct sn sub ab col dd k0 k1 k2 k3 k5 "ValueError.__new__") := hCs ▸ hC1
 rw [hC2] at hC1'
 cases hC1'
 have em : mN' "__init__" = none := hi'
 have hN2 : s1.heap.Ns N mN := by
  obtain ⟨o1, es1, ep1, a1, a2, a3, a4⟩ := hN
  obtain ⟨_, _, N3, _, _, _, _, _, _, _, _, _, _, _, _, m3, z3, n3, _, _⟩ := exc_of I.ok.mod.kin hC
  have z4 := I.bk _ _ z3
  rw [hC1] at z4
  cases z4
  obtain ⟨o5, es5, ep5, b1, b2, b3, b4⟩ := n3
  have c1 := I.bk _ _ b1
  rw [a1] at c1
  cases c1
  exact ⟨_, es1, ep1, I1.bk _ _ b1, a2, a3, a4⟩
 exact ⟨rfl, by rw [<- r.length]; exact hz, hC2, hN2, T', fun h' ea hme => hx pins σ H1 s1 ea (.ref C) us h' I1 hme q⟩
end
end L2
set_option Elab.async false
set_option linter.all false
set_option maxRecDepth 100000
set_option maxHeartbeats 4000000
namespace L2
open PySem PySem.Spec PyProof.Rows
noncomputable def excO (e : Addr) (cls : Value) : HO := .ext fun h => ∃ o vs, h.get? e = some o /\ o.cls = cls /\ o.data = .fields vs
theorem excO_ok {P : Program} {w : World} {H : Hp} {h : Heap} {e : Addr} {cls : Value} (x : ∃ o vs, h.get? e = some o /\ o.cls = cls /\ o.data = .fields vs) : ObjOk P w H h e (excO e cls) := by
 obtain ⟨o, vs, h1, h2, h3⟩ := x
 refine ⟨⟨o, vs, h1, h2, h3⟩, ⟨o, h1⟩, fun g1 g2 ⟨o', vs', q1, q2, q3⟩ k => ⟨o', vs', k o' q1, q2, q3⟩⟩
noncomputable abbrev Cx.tr (X : Cx) (pn : List (Addr × Obj)) (xe : Value -> Shared -> Prop) : Cx := { X with pn := pn, xe := xe }
noncomputable abbrev Cx.hn (X : Cx) (e : Addr) : Cx := { X with A := X.A.mark (some (.ref e)), calm := false, xe := fun _ _ => False }
section
variable {X : Cx} {pins pins' : List (Addr × Obj)} {σ : St} {H H' : Hp} {s : Shared} {xe : Value -> Shared -> Prop} {e : Addr}
theorem Cx.Ok.tr (ok : X.Ok) (pn : List (Addr × Obj)) (xe : Value -> Shared -> Prop) : (X.tr pn xe).Ok :=
 ⟨ok.mod, ok.kind, ok.glob, ok.blt, ok.above, ok.inj, ok.has, ok.cab, ok.hd, ok.frames, ok.stk, ok.exf, ok.bs, ok.bsz, ok.noex, ok.exfs, ok.funs, ok.frf⟩
theorem Cx.Ok.untr {pn : List (Addr × Obj)} (ok : (X.tr pn xe).Ok) : X.Ok :=
 ⟨ok.mod, ok.kind, ok.glob, ok.blt, ok.above, ok.inj, ok.has, ok.cab, ok.hd, ok.frames, ok.stk, ok.exf, ok.bs, ok.bsz, ok.noex, ok.exfs, ok.funs, ok.frf⟩
theorem Cx.Ok.hn (ok : X.Ok) (e : Addr) : (X.hn e).Ok :=
 ⟨ok.mod, ok.kind, ok.glob, ok.blt, ok.above, ok.inj, ok.has, ok.cab, (fun z => nomatch z), ok.frames, ok.stk, ok.exf, ok.bs, ok.bsz, ok.noex, ok.exfs, ok.funs, ok.frf⟩
theorem Inv.tr (I : Inv X pins σ H s) (xe : Value -> Shared -> Prop) : Inv (X.tr (X.pn ++ pins) xe) [] σ H s :=
 ⟨I.ok.tr _ xe, I.os, I.bare, I.base, I.loc, I.cell, I.free, I.freeC, fun p hp => I.pin p (by simpa using hp), I.hok, I.len⟩
theorem Inv.untr (I : Inv (X.tr (X.pn ++ pins) xe) pins' σ H s) : Inv X pins σ H s :=
 ⟨I.ok.untr, I.os, I.bare, I.base, I.loc, I.cell, I.free, I.freeC, fun p hp => I.pin p (List.mem_append_left _ hp), I.hok, I.len⟩
theorem Inv.hn (I : Inv X pins σ H s) (e : Addr) : Inv (X.hn e) pins σ H s :=
 ⟨I.ok.hn e, I.os, I.bare, I.base, I.loc, I.cell, I.free, I.freeC, I.pin, I.hok, I.len⟩
theorem Inv.unhn (ok : X.Ok) (I : Inv (X.hn e) pins σ H s) : Inv X pins σ H s :=
 ⟨ok, I.os, I.bare, I.base, I.loc, I.cell, I.free, I.freeC, I.pin, I.hok, I.len⟩
theorem Inv.forget {h' : Heap} {m' : Str -> Option Value} {t : Nat} (I : Inv X pins σ H s) (hs : Heap.SameBut X.env.locals s.heap h') (hn' : h'.Ns X.env.locals m') : Inv X pins (List.replicate X.N.length none) H { s with heap := h', toks := t } := by
 obtain ⟨m, hn, hl⟩ := id I.loc
 obtain ⟨oL, _, _, hoL, _⟩ := id hn
 have tracked : HOk X.prog X.w H h' := fun b ob e => by
  refine (I.hok b ob e).stay (fun c w' hc q => (hs.2 c ?_).trans q) (fun _ q => q) fun _ _ q => q
  rintro rfl
  rcases hc with rfl | hc
  ·rw [I.free] at e; cases e
  ·rw [I.free] at hc; cases hc
 refine ⟨I.ok, I.os, I.bare, ⟨fun b o e n hb hx => ?_, fun b o e n hb hx => ?_, I.base.free, fun b o e hx => ?_, I.base.tups, I.base.frzs, I.base.tbls⟩, ⟨m', hn', fun j y v' e1 e2 e3 => ?_⟩, fun y c e => ?_, I.free, I.freeC, fun p hp => ?_, tracked, by simp⟩
 ·exact (hs.2 b (Nat.ne_of_lt (Nat.lt_of_lt_of_le (Heap.lt_size e) I.ok.above))).trans (I.base.keep b o e n hb hx)
 ·obtain ⟨sl, e1⟩ := I.base.slot b o e n hb hx
  exact ⟨sl, (hs.2 b (Nat.ne_of_lt (Nat.lt_of_lt_of_le (Heap.lt_size e) I.ok.above))).trans e1⟩
 ·obtain ⟨o', e1⟩ := I.base.there b o e hx
  exact ⟨o', (hs.2 b (Nat.ne_of_lt (Nat.lt_of_lt_of_le (Heap.lt_size e) I.ok.above))).trans e1⟩
 ·rw [List.getElem?_replicate] at e2
  split at e2 <;> cases e2
 ·obtain ⟨w', z⟩ := I.cell y c e
  exact ⟨w', z.sameBut hs (I.cne y c e)⟩
 ·obtain ⟨e, n, ne, nf, d⟩ := I.pin p hp
  exact ⟨(hs.2 p.1 ne).trans e, n, ne, nf, d⟩
theorem Fly.un {l : List Env} {h1 h2 h3 : Heap} {cls : Value} {B : Heap} {a0 : Value} (un : Un (frs l) [] H H' h1 h2) (fly : Fly l H H' h1 h2 e cls B) (fl : Heap.FlyingW B l e cls a0 h3) (up : h2.UpToSlots h3) : Un (frs l) [] H H' h1 h3 := by
 obtain ⟨a1, fl1⟩ := fly.fl
 have ex0 : ∀ b : Addr, b ∉ ([] : List Addr) := fun b z => nomatch z
 have slot : ∀ b o, h1.get? b = some o -> H b = none -> b ∈ frs l -> ∃ sl, h3.get? b = some { o with slots := sl } := fun b o q n hb => by
  obtain ⟨sl, e1⟩ := un.slot b o q n hb (ex0 b)
  obtain ⟨_, o2, e2, nd⟩ := fl1.2.2.1.mem hb
  rw [e1] at e2
  cases e2
  obtain ⟨sl', e3⟩ := up b _ e1 nd
  exact ⟨sl', e3⟩
 refine ⟨fun b o q n hb hx => fl.1 b o (fly.old b o q n hb), fun b o q n hb hx => slot b o q n hb, un.free, fun b o q hx => ?_, un.tups, un.frzs, un.tbls⟩
 rcases fly.all b o q with hb | ⟨o', z⟩
 ·obtain ⟨_, o2, e2, nd⟩ := fl.2.2.1.mem hb
  exact ⟨o2, e2⟩
 ·exact ⟨o', fl.1 b o' z⟩
theorem Fly.hok {P : Program} {w : World} {l : List Env} {h1 h2 h3 : Heap} {cls : Value} {B : Heap} {a0 : Value} (hok : HOk P w H' h2) (fly : Fly l H H' h1 h2 e cls B) (fl : Heap.FlyingW B l e cls a0 h3) : HOk P w H' h3 := fun a o q => by
 refine (hok a o q).stay (fun b u hb z => ?_) (fun _ z => z) fun _ _ z => z
 rcases hb with rfl | hb
 ·exact fl.1 _ _ (fly.trk b o u q z)
 ·exact fl.1 _ _ (fly.trk b _ u hb z)
theorem Fly.free {P : Program} {w : World} {l : List Env} {h1 h2 : Heap} {cls : Value} {B : Heap} (hok : HOk P w H' h2) (fly : Fly l H H' h1 h2 e cls B) : H' e = none := by
 obtain ⟨a0, fl⟩ := fly.fl
 cases q : H' e with
 | none => rfl
 | some u =>
  obtain ⟨o, z⟩ := (hok e u q).get
  have := fly.trk e u o q z
  rw [fl.2.1] at this
  cases this
theorem Un.taken {fs : List Addr} {h1 h3 : Heap} {o : HO} (un : Un fs [] H H' h1 h3) (new : h1.get? e = none) (fr : H' e = none) : Un fs [] H (upd H' e o) h1 h3 := by
 refine ⟨un.keep, un.slot, fun b ob q n hx => ?_, un.there, fun b xs q => ?_, fun b ob u q => ?_, fun b ps q => ?_⟩
 ·have : b ≠ e := fun z => by rw [z, new] at q; cases q
  rw [upd_ne this]; exact un.free b ob q n hx
 ·have z := un.tups b xs q
  rw [upd_ne (ne_of_none z fr)]; exact z
 ·have z := un.frzs b ob u q
  rw [upd_ne (ne_of_none z fr)]; exact z
 ·obtain ⟨more, z⟩ := un.tbls b ps q
  exact ⟨more, by rw [upd_ne (ne_of_none z fr)]; exact z⟩
theorem HOk.taken {P : Program} {w : World} {h : Heap} {o : HO} (hok : HOk P w H' h) (fr : H' e = none) (new : ObjOk P w (upd H' e o) h e o) : HOk P w (upd H' e o) h := fun b u q => by
 by_cases hb : b = e
 ·subst hb; rw [upd_same] at q; cases q; exact new
 ·rw [upd_ne hb] at q
  exact (hok b u q).stay (fun _ _ _ z => z) (fun c z => by rw [upd_ne (ne_of_none z fr)]; exact z) fun c xs z => by rw [upd_ne (ne_of_none z fr)]; exact z
end
def tTry (K : PySem.W.Frag) (c : Addr) (i n : Nat) (tb : (St -> XK) -> TS) (th : TS) : TS := fun D σ H =>
 tb (fun σ' cls _ H' => PySem.W.exmOne K cls (.ref c) = some true /\ ∀ e, H' e = none ->
  th { nx := fun _ H'' => D.nx (List.replicate n none) H'', rt := D.rt, bk := fun _ H'' => D.bk (List.replicate n none) H'', ct := fun _ H'' => D.ct (List.replicate n none) H'' } (σ'.set i (some (.ref e))) (upd H' e (excO e cls))) D σ H
theorem ps_try {X : Cx} {body suite : List Stmt} {b₀ : Stmt} {c n : Str} {i : Nat} {Cc : Addr} {np hpos pos : Pos} {tb : (St -> XK) -> TS} {th : TS}
  (hg : Gl X c) (hm : X.mg c = some (.ref Cc)) (hN : X.N.Nodup) (hi : X.N[i]? = some n) (hx : X.env.scope.names.lookup n = some .local)
  (hb : ∀ (EE : St -> XK) (pn : List (Addr × Obj)) (xe : Value -> Shared -> Prop), PassX (CX1 X.prog X.w) (X.tr pn xe) EE -> PSs (X.tr pn xe) body (tb EE))
  (hh : ∀ e : Addr, PSs (X.hn e) (b₀ :: suite) th)
  (hs : X.stack = X.env :: X.outer := by rfl) (hf : X.env.frame = some X.env.locals := by rfl) (hdb : (c == ("__debug__" : Str)) = false := by decide) :
  PS X (.Try body [.ExceptHandler (some (.Name c np)) (some n) (b₀ :: suite) hpos] [] [] pos) (tTry X.K Cc i X.N.length tb th) := by
 intro pins s σ H D I h
 refine wpAny_Try_except (wpAny_mono (hb _ (X.pn ++ pins) _ ?pass [] s σ H D (I.tr _) h) (fun f s1 q => ?_) fun _ _ z => z)
 case pass =>
  intro pins' σ' H1 s1 ev s2 I1 hx1
  obtain ⟨e, cls, H2, B, rfl, hos, hgn, un, hok, fly, hmt, hE⟩ := hx1
  have I0 : Inv X pins σ' H1 s1 := I1.untr
  have un : Un (frs X.stack) [] H1 H2 s1.heap s2.heap := un
  have fly : Fly X.stack H1 H2 s1.heap s2.heap e cls B := fly
  have hfr := fly.free hok
  obtain ⟨a0, fl⟩ := fly.fl
  have fl' : Heap.FlyingW B (X.env :: X.outer) e cls a0 s2.heap := hs ▸ fl
  have fr' : X.A.frames = some (X.env :: X.outer) := hs ▸ I0.ok.frames
  have noch : ∀ b ∈ ([] : List Addr), (b ∈ X.ex \/ X.s₀.heap.objs.size <= b) /\ b ≠ X.env.locals /\ (∀ x c, X.env.cells.lookup x = some c -> c ≠ b) /\ ∀ p ∈ X.pn ++ pins, p.1 ≠ b := fun b z => nomatch z
  have land : ∀ h5 tk, Heap.FlyingW B (X.env :: X.outer) e cls a0 h5 -> s2.heap.UpToSlots h5 -> Inv X pins σ' H2 { s2 with heap := h5, toks := tk } := fun h5 tk fl5 up5 => by
   have fl5' : Heap.FlyingW B X.stack e cls a0 h5 := hs.symm ▸ fl5
   exact I0.call' (s' := { s2 with heap := h5, toks := tk }) (ch := []) hos (fly.un un fl5' up5) (fly.hok hok fl5') hgn noch
  refine wpAny_looks_onW (base := B) fr' hf fl' fun h₄ held up₄ => ?_
  refine wpAny_landsW held fun h₅ fl₅ up₅' => ?_
  have up₅ : s2.heap.UpToSlots h₅ := up₄.trans up₅'
  have I5 := land h₅ s2.toks fl₅ up₅
  refine wpAny_handleBy_cons (codeAny_handlers_test ?_) (by intro q; cases q)
  refine ld_glob (X := X.hn e) (I5.hn e) hg hm ?_ hdb
  obtain ⟨ob, hob, hoc⟩ := fl₅.there
  have LT : PySem.W.Looks (model X.prog X.w) h₅ (typeOf (.ref e)) cls := hoc ▸ (PySem.W.Looks.ld hob).andThen .now
  refine (PySem.W.exm_one (M := model X.prog X.w) I5.kIn LT hmt).at ?_
  show codeAny _ _ _ _ _
  refine codeAny_handlers_suite_as ?_
  refine lands_againW fl₅ fun h₆ fl₆ up₆' => ?_
  have up₆ : s2.heap.UpToSlots h₆ := up₅.trans up₆'
  obtain ⟨oe, ws, hoe, hoec, hoed, _⟩ := fl₆.first
  have fl6' : Heap.FlyingW B X.stack e cls a0 h₆ := hs.symm ▸ fl₆
  have I7 : Inv X pins σ' (upd H2 e (excO e cls)) { s2 with heap := h₆ } :=
   I0.call' (s' := { s2 with heap := h₆ }) (ch := []) hos ((fly.un un fl6' up₆).taken fly.new hfr) ((fly.hok hok fl6').taken hfr (excO_ok ⟨oe, ws, hoe, hoec, hoed⟩)) hgn noch
  refine store_ok (X := X.hn e) (I7.hn e) hN hi (.inl hx) (v := .ref e) rfl (fun s8 I8 => ?_) (.inr hx)
  refine wpAny_mono (hh e pins s8 _ _ _ I8 (hE e hfr)) (fun f s9 q => ?_) fun _ _ z => z.elim
  show wpAny _ _ _ _ _ _
  have go : ∀ {σ9 : St} {H9 : Hp}, Inv (X.hn e) pins σ9 H9 s9 -> ∀ R : Unit -> Shared -> Prop, (∀ s', Inv X pins (List.replicate X.N.length none) H9 s' -> R () s') -> wpAny (model X.prog X.w) X.A (do bindName X.env n .none; unbindBehindTheSuite X.env n hpos) R X.xe s9 := fun {σ9 H9} I9 R hR => by
   obtain ⟨m9, hn9, _⟩ := I9.loc
   refine wpAny_nameGoes (env := X.env) hx hn9 (by rw [I0.ok.kind]; rfl) fun h' m' hn' hsb => hR _ ?_
   exact (I9.unhn I0.ok).forget hsb hn'
  cases f with
  | next => obtain ⟨σ9, H9, I9, q⟩ := q; exact go I9 _ fun s' I' => ⟨_, H9, I', q⟩
  | brk => obtain ⟨σ9, H9, I9, q⟩ := q; exact go I9 _ fun s' I' => ⟨_, H9, I', q⟩
  | cont => obtain ⟨σ9, H9, I9, q⟩ := q; exact go I9 _ fun s' I' => ⟨_, H9, I', q⟩
  | ret u => obtain ⟨v, σ9, H9, I9, r, q⟩ := q; exact go I9 _ fun s' I' => ⟨v, _, H9, I', r, q⟩
 ·cases f with
  | next => obtain ⟨σ', H', I', q⟩ := q; exact wpAny_execs_nil ⟨σ', H', I'.untr, q⟩
  | brk => obtain ⟨σ', H', I', q⟩ := q; exact ⟨σ', H', I'.untr, q⟩
  | cont => obtain ⟨σ', H', I', q⟩ := q; exact ⟨σ', H', I'.untr, q⟩
  | ret u => obtain ⟨v, σ', H', I', r, q⟩ := q; exact ⟨v, σ', H', I'.untr, r, q⟩
structure RoomH (k : Nat) (A : Around) : Prop where
 dp : A.depth + 3 * k + 5 < recursionLimit
 un : A.units + 16 * k + 200 < cLine
 gd : A.guards = some []
theorem Room.hm {k : Nat} {A : Around} (r : Room k A) (v : Option Value) : RoomH k (A.mark v) := ⟨r.dp, r.un, r.gd⟩
theorem RoomH.un0 {k : Nat} {A : Around} (r : RoomH k A) : Room k { A with handled := none } := ⟨rfl, r.dp, r.un, r.gd⟩
theorem RoomH.deeper {k : Nat} {A : Around} (r : RoomH (k + 1) A) (env : Env) : RoomH k (A.deeper env) := by
 have z := r.un0.deeper env
 exact ⟨z.dp, z.un, z.gd⟩
structure FnOkH (P : Program) (w : World) (K : PySem.W.Frag) (mg : Str -> Option Value) (base : Heap) (k : Nat) (f : Addr) (fd : FuncData) (ps : List Str) (sp : Sp) : Prop where
 len : ∀ vs H Q E, sp vs H Q E -> vs.length = ps.length
 run : ∀ (A : Around) (outer : List Env) (s : Shared) (H : Hp) (args : Args) (us : List Value) (vs : List V) (Q : VK), RoomH k A -> Env0 P w K mg base A outer s H -> BindsTo s fd args (ps.zip us) -> Vals vs us -> sp vs H Q E0 ->
  codeAny (model P w) A (.call (.ref f) args) (CR CX0 outer P w H s Q E0) s
noncomputable abbrev cxH (P : Program) (w : World) (K : PySem.W.Frag) (mg : Str -> Option Value) (base : Heap) (N : List Str) (qual : Str) (scope : Scope) (f : Addr) (cd : Value) (A : Around) (outer : List Env) (s : Shared) (H : Hp) : Cx :=
 { cxOf CX0 P w K mg base N qual scope f cd A outer s H E0 with calm := false, xe := fun _ _ => False }
theorem Fun.okH {P : Program} {w : World} {K : PySem.W.Frag} {mg : Str -> Option Value} {base : Heap} {x qual : Str} {st : Stmt} {f : Addr} {fd : FuncData} {N ps : List Str} {k : Nat} {sp : Sp} (F : Fun K x qual st f fd) (S : FnScope N ps (defScope st)) (len : ∀ vs H Q E, sp vs H Q E -> vs.length = ps.length)
  (hbody : ∀ (cdv : Value) (A : Around) (outer : List Env) (s : Shared) (H : Hp) (vs : List V) (Q : VK), RoomH k (A.deeper (envOfC qual (defScope st) s.heap.objs.size f cdv)) -> sp vs H Q E0 ->
   ∃ t, PSs (cxH P w K mg base N qual (defScope st) f cdv A outer s H) (defBody st) t /\ t { nx := fun _ H' => Q .non H', rt := Q } (start N vs) H) : FnOkH P w K mg base (k + 1) f fd ps sp := by
 obtain ⟨oc, od, kV, doc, pm, an, cdv, ct, osl, rfl, lk, hcd⟩ := F.ex
 refine ⟨len, fun A outer s H args us vs Q hr e0 hb r hsp => ?_⟩
 have hl := len _ _ _ _ hsp
 have KX : K.In s.heap := e0.mod.kin.keeps fun b o e => (e0.bs b o e).1
 have lim : s.heap.NoLimit := e0.mod.nolimit.keeps fun b o e => (e0.bs b o e).1
 have hkind : ∀ y ∈ ps.zip us, (defScope st).names.lookup y.1 = some .local \/ ((defScope st).names.lookup y.1 = some .cell /\ ((cellsFrom (s.heap.objs.size + 1) (defScope st).names []).lookup y.1).isSome = true) := fun ⟨n, v⟩ hy => by
  rcases S.par n (List.of_mem_zip hy).1 with q | q
  ·exact .inl q
  ·exact .inr ⟨q, PySem.W.cellsFrom_some _ _ _ (.inl q)⟩
 refine codeAny_call_function (by have := hr.dp; omega) (KX _ _ lk) rfl S.co S.gen rfl (PySem.W.codeRec_of KX hcd) (hb _ _ _ _ ?_)
 refine wpAny_newFunctionEnv_cells S.kind hkind fun env he s1 x => ?_
 subst he
 refine ⟨lim.keeps x.toInCall.keep, codeAny_func ?_⟩
 obtain ⟨t, ht, hq⟩ := hbody cdv A outer s H vs Q (hr.deeper (envOfC qual (defScope st) s.heap.objs.size f cdv)) hsp
 have e0' : Env0 P w K mg base { A with handled := none } outer s H := ⟨e0.frames, e0.mod, e0.bs, e0.bsz, e0.funs, e0.frf, e0.hok, e0.bare⟩
 have I0 : Inv (cxOf CX0 P w K mg base N qual (defScope st) f cdv { A with handled := none } outer s H E0) [] (start N vs) H s1 := inv_start S rfl e0' hl r x
 have ok0 := I0.ok
 have I : Inv (cxH P w K mg base N qual (defScope st) f cdv A outer s H) [] (start N vs) H s1 :=
  ⟨⟨ok0.mod, ok0.kind, ok0.glob, ok0.blt, ok0.above, ok0.inj, ok0.has, ok0.cab, (fun z => nomatch z), Around.frames_deeper e0.frames, ok0.stk, ok0.exf, ok0.bs, ok0.bsz, ok0.noex, ok0.exfs, ok0.funs, ok0.frf⟩,
   I0.os, I0.bare, I0.base, I0.loc, I0.cell, I0.free, I0.freeC, I0.pin, I0.hok, I0.len⟩
 refine wpAny_mono (ht [] s1 (start N vs) H _ I hq) (fun fl s' hs => ?_) fun e s' hs => hs.elim
 have fin : ∀ {σ' : St} {H' : Hp} {v : V} {u : Value}, Inv (cxH P w K mg base N qual (defScope st) f cdv A outer s H) [] σ' H' s' -> RelV v u -> Q v H' -> CE outer P w H s Q u s' :=
  fun {σ' H' v u} J rv q => ⟨v, H', J.os, J.bare, J.base, J.hok, rv, q⟩
 cases fl with
 | ret u =>
  obtain ⟨v, σ', H', J, rv, q⟩ := hs
  exact fin J rv q
 | next =>
  obtain ⟨σ', H', J, q⟩ := hs
  exact fin (v := V.non) (u := Value.none) J rfl q
 | brk =>
  obtain ⟨_, _, _, q⟩ := hs
  exact False.elim q
 | cont =>
  obtain ⟨_, _, _, q⟩ := hs
  exact False.elim q
section
variable {X : Cx} {k : Nat} {f : Addr} {fd : FuncData} {ps : List Str} {sp : Sp} {x : Str} {p pos : Pos} {e : Expr} {es : List Expr} {t : TA}
theorem pe_callH (F : FnOkH X.prog X.w X.K X.mg X.base k f fd ps sp) (hr : RoomH k X.A) (hg : Gl X x) (hm : X.mg x = some (.ref f)) (hk : PySem.W.keepIn X.K (.ref f) = true) (hb : Binds X.K fd ps [])
  (ha : PA X (e :: es) t) (hdb : (x == ("__debug__" : Str)) = false := by decide) (he : starEach (e :: es) X.env = (false, eval e X.env) :: starEach es X.env := by rfl) (hpl : (backTo pos (starEach es X.env)).any (·.1) = false := by rfl) :
  PE X (.Call (.Name x p) (e :: es) [] pos) (tCall sp [] E0 t) := by
 intro pins s σ H Q I h
 refine wpAny_Call_Name_kw (ld_glob I hg hm ?_ hdb)
 refine PySem.W.callWith_K (h₀ := X.base) I.ok.mod.kin hk (thn (ha pos pins s σ H _ I h) fun us s1 ⟨vs, H1, I1, r, q⟩ => ⟨I1.kIn, ?_⟩) he hpl
 have q' : sp (vs ++ []) H1 Q E0 := q
 have r2 : Vals (vs ++ []) (us ++ []) := r.append .nil
 have hl : (us ++ []).length = ps.length := by rw [<- r2.length]; exact F.len _ _ _ _ q'
 refine wpAny_call (codeAny_mono (F.run X.A X.stack s1 H1 ⟨us, []⟩ (us ++ []) (vs ++ []) Q hr I1.env0 (hb s1 us I1.kIn hl) r2 q') fun r s' hq => ?_)
 cases r with
 | error e => exact False.elim hq
 | ok fl =>
  cases fl with
  | ret u => exact I1.after hq
  | next => exact False.elim hq
  | brk => exact False.elim hq
  | cont => exact False.elim hq
end
end L2
set_option Elab.async false
set_option linter.all false
set_option maxRecDepth 100000
set_option maxHeartbeats 4000000
namespace L2
open PySem PySem.Spec PyProof.Rows
noncomputable abbrev Cx.cp (X : Cx) (Nc : List Str) (scope : Scope) (cl : List (Str × Addr)) (C : Addr) (s₀ : Shared) (H₀ : Hp) (ex : List Addr) : Cx :=
 { X with N := Nc, s₀ := s₀, H₀ := H₀, env := compEnvC scope cl C X.env, outer := X.stack, ex := ex, fn := fun _ => false, pn := [], xe := fun _ _ => False }
theorem closure_list {env : Env} : ∀ (names : List (Str × NameKind)) (acc : List (Str × Addr)), (∀ x ∈ names, x.2 = .free -> ∃ c, env.cells.lookup x.1 = some c) ->
  ∃ cl, (forIn names acc fun (x : Str × NameKind) (r : List (Str × Addr)) => (if (x.2 == NameKind.free) = true then (cellOf env x.1 >>= fun a => pure (ForInStep.yield ((x.1, a) :: r))) else pure (ForInStep.yield r) : Sem (ForInStep (List (Str × Addr))))) = pure cl /\
   (∀ x c, cl.lookup x = some c -> acc.lookup x = some c \/ env.cells.lookup x = some c) /\ (∀ x, ((x, NameKind.free) ∈ names \/ (acc.lookup x).isSome = true) -> (cl.lookup x).isSome = true)
 | [], acc, _ => ⟨acc, rfl, fun x c h => .inl h, fun x h => h.elim (fun z => nomatch z) id⟩
 | (n, k) :: r, acc, h => by
  by_cases hk : k = .free
  ·subst hk
   obtain ⟨c, hc⟩ := h (n, .free) List.mem_cons_self rfl
   obtain ⟨cl, e1, e2, e3⟩ := closure_list r ((n, c) :: acc) fun x hx => h x (List.mem_cons_of_mem _ hx)
   refine ⟨cl, ?_, fun x d hd => ?_, fun x hx => ?_⟩
   ·rw [List.forIn_cons]
    have : cellOf env n = pure c := by unfold cellOf; rw [hc]
    simp only [beq_self_eq_true, if_true, this, pure_bind]
    exact e1
   ·rcases e2 x d hd with z | z
    ·rw [List.lookup_cons] at z
     by_cases hx : (x == n) = true
     ·rw [hx] at z
      have : x = n := by simpa using hx
      subst this
      cases z
      exact .inr hc
     ·rw [Bool.eq_false_iff.mpr hx] at z
      exact .inl z
    ·exact .inr z
   ·refine e3 x ?_
    rcases hx with z | z
    ·rcases List.mem_cons.mp z with y | y
     ·cases y
      exact .inr (by rw [List.lookup_cons]; simp)
     ·exact .inl y
    ·refine .inr ?_
     rw [List.lookup_cons]
     by_cases hx : (x == n) = true
     ·rw [hx]; rfl
     ·rw [Bool.eq_false_iff.mpr hx]; exact z
  ·obtain ⟨cl, e1, e2, e3⟩ := closure_list r acc fun x hx => h x (List.mem_cons_of_mem _ hx)
   refine ⟨cl, ?_, e2, fun x hx => e3 x ?_⟩
   ·rw [List.forIn_cons]
    have : (k == NameKind.free) = false := by simpa using hk
    simp only [this, Bool.false_eq_true, if_false, pure_bind]
    exact e1
   ·rcases hx with z | z
    ·rcases List.mem_cons.mp z with y | y
     ·cases y; exact absurd rfl hk
     ·exact .inl y
    ·exact .inr z
theorem closure_ok {scope : Scope} {env : Env} (h : ∀ x ∈ scope.names, x.2 = .free -> ∃ c, env.cells.lookup x.1 = some c) :
  ∃ cl, closureFor scope env = pure cl /\ (∀ x c, cl.lookup x = some c -> env.cells.lookup x = some c) /\ ∀ x, (x, NameKind.free) ∈ scope.names -> ∃ c, cl.lookup x = some c := by
 obtain ⟨cl, e1, e2, e3⟩ := closure_list scope.names [] h
 refine ⟨cl, ?_, fun x c hc => (e2 x c hc).resolve_left (fun z => nomatch z), fun x hx => Option.isSome_iff_exists.mp (e3 x (.inl hx))⟩
 unfold closureFor
 first
  | exact e1
  | (rw [e1]; rfl)
  | (simp only [e1]; rfl)
theorem relabel_free {env : Env} : ∀ {names : List (Str × NameKind)} {x : Str}, (∀ y ∈ names, y.2 ≠ .cell) ->
    ((names.map fun (n, k) => if (k == NameKind.free && env.scope.kind == .function && env.kindOf n == some .cell) then (n, NameKind.cell) else (n, k)).lookup x = some .cell \/
     (names.map fun (n, k) => if (k == NameKind.free && env.scope.kind == .function && env.kindOf n == some .cell) then (n, NameKind.cell) else (n, k)).lookup x = some .free) -> (x, NameKind.free) ∈ names
  | [], x, _, h => by rcases h with h | h <;> cases h
  | (n, k) :: r, x, hc, h => by
    have ih := @relabel_free env r x fun y hy => hc y (List.mem_cons_of_mem _ hy)
    rw [List.map_cons] at h
    dsimp only at h
    by_cases hx : (x == n) = true
    . have e : x = n := by simpa using hx
      subst e
      by_cases hk : k = .free
      . subst hk; exact List.mem_cons_self
      . exfalso
        have hb : (k == NameKind.free) = false := by simpa using hk
        simp only [hb, Bool.false_and, Bool.false_eq_true, if_false, List.lookup_cons, hx] at h
        rcases h with h | h
        . exact hc (x, k) List.mem_cons_self (Option.some.inj h)
        . exact hk (Option.some.inj h)
    . refine List.mem_cons_of_mem _ (ih ?_)
      have hb : (x == n) = false := Bool.eq_false_iff.mpr hx
      by_cases hq : (k == NameKind.free && env.scope.kind == .function && env.kindOf n == some .cell) = true
      . rw [if_pos hq] at h
        simpa only [List.lookup_cons, hb] using h
      . rw [if_neg hq] at h
        simpa only [List.lookup_cons, hb] using h
theorem comp_loop {prog : Program} {w : World} {A : Around} {R : Result -> Shared -> Prop} {s : Shared} {elt target iter : Expr} {ifs : List Expr} {scope : Scope} {pos : Pos} {it acc : Value} {env : Env} (I : Nat -> Shared -> Prop)
  (turn : ∀ n s, I n s -> wpAny (model prog w) A (pyNext it) (fun r s1 => match r with
   | none => R (.ok .next) s1
   | some v => wpAny (model prog w) A (letOwnedTupleGo target it v) (fun _ s2 => wpAny (model prog w) A (assign target env v) (fun _ s3 =>
     wpAny (model prog w) A (forIn ifs true fun c r => if r = true then do let ok <- isTrue c env (eval c env); pure (ForInStep.yield ok) else pure (ForInStep.yield r)) (fun ok s4 =>
      if ok = true then wpAny (model prog w) A (eval elt env) (fun x s5 => wpAny (model prog w) A (call (.builtin "list.append") [acc, x]) (fun _ s6 => ∃ m, m < n /\ I m s6) (fun _ _ => False) s5) (fun _ _ => False) s4
      else ∃ m, m < n /\ I m s4) (fun _ _ => False) s3) (fun _ _ => False) s2) (fun _ _ => False) s1) (fun _ _ => False) s)
  (n : Nat) (h : I n s) : codeAny (model prog w) A (.compLoop (.ListComp elt [⟨target, iter, ifs, 0⟩] scope pos) 0 it acc env) R s := by
 refine codeAny_loop rfl I (fun n s hI => ?_) n h
 show wpAny _ A ((compTurn (.ListComp elt [⟨target, iter, ifs, 0⟩] scope pos) 0 it acc env).onRaise (fun x => do noteFrame x env; theTreesLotGoes x)) _ _ s
 refine wpAny_noted ?_
 rw [compTurn_list]
 refine wpAny_bind (wpAny_standAt (wpAny_bind (wpAny_mono (turn n s hI) (fun r s1 h1 => ?_) fun _ _ z => z.elim)))
 cases r with
 | none => exact wpAny_pure h1
 | some v =>
  refine wpAny_bind (wpAny_mono h1 (fun _ s2 h2 => ?_) fun _ _ z => z.elim)
  refine wpAny_bind (wpAny_mono h2 (fun _ s3 h3 => ?_) fun _ _ z => z.elim)
  refine wpAny_bind (wpAny_mono h3 (fun ok s4 h4 => ?_) fun _ _ z => z.elim)
  cases ok with
  | false => exact wpAny_pure ⟨rfl, h4⟩
  | true => exact wpAny_bind (wpAny_bind (wpAny_mono h4 (fun x s5 h5 => wpAny_bind (wpAny_mono h5 (fun _ s6 h6 => wpAny_pure (wpAny_pure ⟨rfl, h6⟩)) fun _ _ z => z.elim)) fun _ _ z => z.elim))
noncomputable def pj (js : List Nat) (σ : St) : St := js.map fun j => (σ[j]?).getD none
theorem pj_get {js : List Nat} {σ : St} {i : Nat} {v : V} (h : (pj js σ)[i]? = some (some v)) : ∃ j, js[i]? = some j /\ σ[j]? = some (some v) := by
 unfold pj at h
 rw [List.getElem?_map] at h
 cases e : js[i]? with
 | none => rw [e] at h; cases h
 | some j =>
  rw [e] at h
  have h : (σ[j]?).getD none = some v := Option.some.inj h
  refine ⟨j, rfl, ?_⟩
  cases e2 : σ[j]? with
  | none => rw [e2] at h; cases h
  | some z => rw [e2] at h; rw [show z = some v from h]
def PTs (X : Cx) (ifs : List Expr) (t : TT) : Prop :=
 ∀ (pins : List (Addr × Obj)) (s : Shared) (σ : St) (H : Hp) (Q : Bool -> Hp -> Prop), Inv X pins σ H s -> t σ H Q ->
  wpAny (model X.prog X.w) X.A (forIn ifs true fun c r => if r = true then do let ok <- isTrue c X.env (eval c X.env); pure (ForInStep.yield ok) else pure (ForInStep.yield r)) (TP X pins σ Q) X.xe s
def tYes : TT := fun _ H Q => Q true H
theorem pts_nil {X : Cx} : PTs X [] tYes := fun pins s σ H Q I h => wpAny_tests_nil ⟨H, I, h⟩
theorem pts_one {X : Cx} {c : Expr} {t : TT} (h : PT X c t) : PTs X [c] t := fun pins s σ H Q I hq => wpAny_tests_one (h pins s σ H Q I hq)
def Kp (σ σ' : St) : Prop := ∀ (i : Nat) v, σ[i]? = some (some v) -> σ'[i]? = some (some v)
theorem Kp.one {σ : St} {v : V} : Kp (List.replicate 1 none ++ σ) (some v :: σ) := fun i u h => by
 cases i with
 | zero => cases h
 | succ i => exact h
def tComp (wi : TI) (nl : Nat) (js : List Nat) (g : TG) (tc : TT) (te : TE) : TE := fun σ H Q => wi σ H fun J H1 => ∀ D, H1 D = none -> ∃ W : Nat -> Nat -> Hp -> Prop, (∃ m, W 0 m (upd H1 D (.lst []))) /\ ∀ i m H2, W i m H2 ->
 (J.stop i H2 /\ Q (.ref D) H2) \/ (J.go i H2 /\ ∀ x H3, J.yld i H2 x H3 -> g x (List.replicate nl none ++ pj js σ) H3 fun σ4 H4 => Kp (List.replicate nl none ++ pj js σ) σ4 /\ tc σ4 H4 fun b H5 =>
  if b = true then te σ4 H5 fun y H6 => ∃ ys, H6 D = some (.lst ys) /\ ys.length < sizeLine /\ ∃ m', m' < m /\ W (i + 1) m' (upd H6 D (.lst (ys ++ [y]))) else ∃ m', m' < m /\ W (i + 1) m' H5)
section
variable {X : Cx} {elt target iter : Expr} {ifs : List Expr} {scope : Scope} {pos : Pos} {wi : TI} {g : TG} {tc : TT} {te : TE}
theorem cp_start {pins : List (Addr × Obj)} {σ : St} {H : Hp} {s : Shared} {Nl Nf : List Str} {js : List Nat} {fp : List Addr} {cl : List (Str × Addr)} {h1 : Heap} {tk : Nat} {mC : Str -> Option Value}
  (I : Inv X pins σ H s) (hfp : ∀ b ∈ fp, FpOk X pins H b) (hob : ∀ b ∈ fp, ∃ o, s.heap.get? b = some o /\ ∀ v, o.data ≠ .cell v)
  (hk : scope.kind = .function) (hcell : ∀ y ∈ scope.names, y.2 ≠ .cell) (hcl : ∀ x c, cl.lookup x = some c -> X.env.cells.lookup x = some c) (hcf : ∀ x, (x, NameKind.free) ∈ scope.names -> ∃ c, cl.lookup x = some c)
  (hj : ∀ (i j : Nat) y, Nf[i]? = some y -> js[i]? = some j -> X.N[j]? = some y) (hlen : js.length = Nf.length)
  (hNf : ∀ y ∈ Nf, (y, NameKind.free) ∈ scope.names /\ Vis X.env.scope y /\ X.env.kindOf y ≠ some .local)
  (hvis : ∀ y ∈ Nf, (relabel scope X.env).names.lookup y = some .cell \/ (relabel scope X.env).names.lookup y = some .free)
  (hn : h1.Ns (s.heap.objs.size + 1) mC) (hs : Heap.SameBut (s.heap.objs.size + 1) ((s.heap.push { cls := .type "list", dict := none, data := .seq ([] : List Value).toArray }).push { cls := .type "dict", data := .dict #[] }) h1) :
  Inv (X.cp (Nl ++ Nf) scope cl (s.heap.objs.size + 1) { s with heap := s.heap.push { cls := .type "list", dict := none, data := .seq ([] : List Value).toArray } } (upd H s.heap.objs.size (.lst [])) fp) [] (List.replicate Nl.length none ++ pj js σ) (upd H s.heap.objs.size (.lst [])) { s with heap := h1, toks := tk } := by
 have fD : H s.heap.objs.size = none := I.hok.fresh (Nat.le_refl _)
 have up1 : ∀ b u, s.heap.get? b = some u -> (s.heap.push { cls := .type "list", dict := none, data := .seq ([] : List Value).toArray }).get? b = some u := fun b u q => Heap.get?_push_of_some _ q
 have szp : (s.heap.push { cls := .type "list", dict := none, data := .seq ([] : List Value).toArray }).objs.size = s.heap.objs.size + 1 := Heap.size_push ..
 have up2 : ∀ b u, (s.heap.push { cls := .type "list", dict := none, data := .seq ([] : List Value).toArray }).get? b = some u -> h1.get? b = some u := fun b u q => by
  have hlt := Heap.lt_size q
  rw [szp] at hlt
  exact (hs.2 b (Nat.ne_of_lt hlt)).trans (Heap.get?_push_of_some _ q)
 have up : ∀ b u, s.heap.get? b = some u -> h1.get? b = some u := fun b u q => up2 b u (up1 b u q)
 have ltOf : ∀ b o, s.heap.get? b = some o -> b ≠ s.heap.objs.size := fun b o q => Nat.ne_of_lt (Heap.lt_size q)
 have fr0 : ∀ b o, s.heap.get? b = some o -> H b = none -> upd H s.heap.objs.size (.lst []) b = none := fun b o q n => by rw [upd_ne (ltOf b o q)]; exact n
 have hasC : ∀ x, ((relabel scope X.env).names.lookup x = some .cell \/ (relabel scope X.env).names.lookup x = some .free) -> ∃ c, cl.lookup x = some c := fun x hx => hcf x (relabel_free hcell hx)
 have hokD : HOk X.prog X.w (upd H s.heap.objs.size (.lst [])) (s.heap.push { cls := .type "list", dict := none, data := .seq ([] : List Value).toArray }) :=
  I.hok.laid up1 (Nat.le_refl _) ⟨Nat.zero_le _, [], _, .nil, Heap.get?_push_size _ rfl⟩
 have cellK : ∀ x c, cl.lookup x = some c -> ∃ v, s.heap.IsCell c v := fun x c e => I.cell x c (hcl x c e)
 have cellUp : ∀ c v, s.heap.IsCell c v -> h1.IsCell c v := fun c v ⟨o, q, r⟩ => ⟨o, up _ _ q, r⟩
 refine ⟨⟨I.ok.mod, hk, I.ok.glob, I.ok.blt, (by show (s.heap.push _).objs.size <= _; rw [szp]; exact Nat.le_refl _), fun x y c e1 e2 => I.ok.inj x y c (hcl x c e1) (hcl y c e2), fun x hx => hasC x hx, (fun x c z => nomatch z), I.ok.hd, I.ok.frames, .inl rfl, fun b hb => ⟨?_, fun x c e => ?_⟩, fun b o q => ?_, ?_, fun b o q hb => ?_, fun b hb hb2 => ?_, ?_, fun b hb => ?_⟩,
  rfl, I.bare, Un.kept up2, ⟨mC, hn, fun i y v e1 e2 e3 => ?_⟩, fun x c e => ?_, ?_, fun x c e => ?_, fun p hp => (by cases hp), hokD.kept up2, ?_⟩
 ·obtain ⟨o, q, _⟩ := hob b hb
  exact Nat.ne_of_lt (Nat.lt_succ_of_lt (Heap.lt_size q))
 ·exact (hfp b hb).2.2.2.2.1 x c (hcl x c e)
 ·obtain ⟨q1, q2⟩ := I.bs b o q
  exact ⟨up1 _ _ q1, fr0 b o q1 q2⟩
 ·show X.base.objs.size <= (s.heap.push _).objs.size
  rw [szp]
  exact Nat.le_succ_of_le (Nat.le_trans I.ok.bsz I.sz)
 ·rcases (hfp b hb).2.2.2.1 with z | z
  ·exact I.ok.noex b o q z
  ·obtain ⟨q1, _⟩ := I.ok.bs b o q
   exact absurd (Heap.lt_size q1) (Nat.not_lt.mpr z)
 ·rcases List.mem_cons.mp (I.stkSub b hb2) with z | z
  ·exact (hfp b hb).2.1 z
  ·exact (hfp b hb).2.2.1 z
 ·exact I.stack.of_keeps fun b o q _ => ⟨o, up1 _ _ q, rfl⟩
 ·obtain ⟨_, o, q, _⟩ := I.stack.mem hb
  exact fr0 b o q (I.stkFree b hb)
 ·-- the names
  have e2' : (List.replicate Nl.length none ++ pj js σ)[i]? = some (some v) := e2
  have e1' : (Nl ++ Nf)[i]? = some y := e1
  by_cases hi : i < Nl.length
  ·rw [List.getElem?_append_left (by simpa using hi), List.getElem?_replicate] at e2'
   split at e2' <;> cases e2'
  ·have hi' : Nl.length <= i := Nat.not_lt.mp hi
   rw [List.getElem?_append_right (by simpa using hi')] at e2'
   rw [List.getElem?_append_right hi'] at e1'
   rw [List.length_replicate] at e2'
   obtain ⟨j, ej, eσ⟩ := pj_get e2'
   have hNy := hj _ _ _ e1' ej
   obtain ⟨hfr, hv, hnl⟩ := hNf y (List.mem_of_getElem? e1')
   obtain ⟨m, hm, hl⟩ := I.loc
   obtain ⟨u, r, l⟩ := hl j y v hNy eσ hv
   refine ⟨u, r, ?_⟩
   rcases l with ⟨k, _⟩ | ⟨k, c, ec, z⟩
   ·exact absurd k hnl
   ·obtain ⟨c', ec'⟩ := hcf y hfr
    have := hcl y c' ec'
    rw [ec] at this
    cases this
    exact .inr ⟨hvis y (List.mem_of_getElem? e1'), c, ec', cellUp _ _ z⟩
 ·obtain ⟨v, z⟩ := cellK x c e
  exact ⟨v, cellUp _ _ z⟩
 ·show upd H s.heap.objs.size (.lst []) (s.heap.objs.size + 1) = none
  rw [upd_ne (Nat.succ_ne_self _)]
  exact I.hok.fresh (Nat.le_succ _)
 ·obtain ⟨v, o, q, _⟩ := cellK x c e
  exact fr0 c o q (I.freeC x c (hcl x c e))
 ·show (List.replicate Nl.length none ++ pj js σ).length = (Nl ++ Nf).length
  rw [List.length_append, List.length_append, List.length_replicate]
  unfold pj
  rw [List.length_map, hlen]
theorem cp_end {pins : List (Addr × Obj)} {σ σ' : St} {H H' : Hp} {s s' : Shared} {Nc : List Str} {fp : List Addr} {cl : List (Str × Addr)} {h' : Heap}
  (I : Inv X pins σ H s) (hfp : ∀ b ∈ fp, FpOk X pins H b)
  (J : Inv (X.cp Nc scope cl (s.heap.objs.size + 1) { s with heap := s.heap.push { cls := .type "list", dict := none, data := .seq ([] : List Value).toArray } } (upd H s.heap.objs.size (.lst [])) fp) [] σ' H' s')
  (hs : Heap.SameBut (s.heap.objs.size + 1) s'.heap h') : Inv X pins σ H' { s' with heap := h' } := by
 have fD : H s.heap.objs.size = none := I.hok.fresh (Nat.le_refl _)
 have up1 : ∀ b u, s.heap.get? b = some u -> (s.heap.push { cls := .type "list", dict := none, data := .seq ([] : List Value).toArray }).get? b = some u := fun b u q => Heap.get?_push_of_some _ q
 have neC : ∀ b o, s.heap.get? b = some o -> b ≠ s.heap.objs.size + 1 := fun b o q => Nat.ne_of_lt (Nat.lt_succ_of_lt (Heap.lt_size q))
 have fr0 : ∀ b o, s.heap.get? b = some o -> H b = none -> upd H s.heap.objs.size (.lst []) b = none := fun b o q n => by rw [upd_ne (Nat.ne_of_lt (Heap.lt_size q))]; exact n
 have old : ∀ b u, H b = some u -> upd H s.heap.objs.size (.lst []) b = some u := fun b u q => by rw [upd_ne (ne_of_none q fD)]; exact q
 have B : Un (frs X.stack) fp (upd H s.heap.objs.size (.lst [])) H' (s.heap.push { cls := .type "list", dict := none, data := .seq ([] : List Value).toArray }) s'.heap := J.base
 have hC : H' (s.heap.objs.size + 1) = none := J.free
 refine I.call' (s' := { s' with heap := h' }) (ch := fp) (J.os.trans rfl) ⟨fun b o q n hb hx => ?_, fun b o q n hb hx => ?_, fun b o q n hx => B.free b o (up1 _ _ q) (fr0 b o q n) hx, fun b o q hx => ?_, fun b xs q => B.tups b xs (old _ _ q), fun b o u q => B.frzs b o u (old _ _ q), fun b ps q => B.tbls b ps (old _ _ q)⟩ (fun a o q => ?_) J.bare fun b hb => ?_
 ·exact (hs.2 b (neC b o q)).trans (B.keep b o (up1 _ _ q) (fr0 b o q n) hb hx)
 ·obtain ⟨sl, z⟩ := B.slot b o (up1 _ _ q) (fr0 b o q n) hb hx
  exact ⟨sl, (hs.2 b (neC b o q)).trans z⟩
 ·obtain ⟨o', z⟩ := B.there b o (up1 _ _ q) hx
  exact ⟨o', (hs.2 b (neC b o q)).trans z⟩
 ·refine (J.hok a o q).stay (fun c v hc z => (hs.2 c ?_).trans z) (fun _ z => z) fun _ _ z => z
  rintro rfl
  rcases hc with rfl | hc
  ·rw [hC] at q; cases q
  ·rw [hC] at hc; cases hc
 ·obtain ⟨_, f1, f2, f3, f4, f5⟩ := hfp b hb
  exact ⟨f3, f1, f4, f5⟩
theorem pe_comp {Nl Nf : List Str} {js : List Nat} (hc : X.calm = true) (hi : PI X target iter wi)
  (hk : scope.kind = .function) (hcell : ∀ y ∈ scope.names, y.2 ≠ .cell) (hnames : ∀ x ∈ scope.names, x.2 = .local -> scope.names.lookup x.1 = some .local)
  (hfree : ∀ x ∈ scope.names, x.2 = .free -> X.env.kindOf x.1 = some .cell \/ X.env.kindOf x.1 = some .free)
  (hj : ∀ (i j : Nat) y, Nf[i]? = some y -> js[i]? = some j -> X.N[j]? = some y) (hlen : js.length = Nf.length)
  (hNf : ∀ y ∈ Nf, (y, NameKind.free) ∈ scope.names /\ Vis X.env.scope y /\ X.env.kindOf y ≠ some .local)
  (hvis : ∀ y ∈ Nf, (relabel scope X.env).names.lookup y = some .cell \/ (relabel scope X.env).names.lookup y = some .free)
  (hg : ∀ cl C s₀ H₀ ex, PG (X.cp (Nl ++ Nf) scope cl C s₀ H₀ ex) target g) (ht : ∀ cl C s₀ H₀ ex, PTs (X.cp (Nl ++ Nf) scope cl C s₀ H₀ ex) ifs tc) (he : ∀ cl C s₀ H₀ ex, PE (X.cp (Nl ++ Nf) scope cl C s₀ H₀ ex) elt te)
  (hs : ∀ x, foldedSetIterable iter X.env x = pure x := by intro _; rfl) :
  PE X (.ListComp elt [⟨target, iter, ifs, 0⟩] scope pos) (tComp wi Nl.length js g tc te) := by
 intro pins s σ H Q I h
 obtain ⟨cl, hclos, hcl, hcf⟩ := closure_ok (scope := scope) (env := X.env) fun x hx hf => I.ok.has x.1 (hfree x hx hf)
 rw [eval_ListComp]
 refine wpAny_comprehension_free (use := none) rfl hs hclos hk hnames (thn (hi pins s σ H _ I h) fun v s1 h1 => thn h1 fun itv s2 h2 => ?_)
 obtain ⟨it, fp, tn, J, H2, e, I2, T, st2, f2, rd⟩ := h2
 subst e
 refine wpAny_newObj_type (wpAny_newFunctionEnv hcell (by intro y hy; simp at hy) (fun h₁ hns₁ hsb₁ => ?_) hk)
 dsimp only at hns₁ hsb₁ |-
 have szp : (s2.heap.push { cls := .type "list", dict := none, data := .seq ([] : List Value).toArray }).objs.size = s2.heap.objs.size + 1 := Heap.size_push ..
 rw [szp] at hns₁ hsb₁ |-
 have fD : H2 s2.heap.objs.size = none := I2.hok.fresh (Nat.le_refl _)
 obtain ⟨W, ⟨m0, w0⟩, turn⟩ := rd s2.heap.objs.size fD
 have obj2 := T.obj 0 s2.heap st2
 have IS := cp_start (Nl := Nl) (Nf := Nf) (js := js) (cl := cl) (tk := s2.toks + ([] : List (Str × Value)).length) I2 f2 obj2 hk hcell hcl hcf hj hlen hNf hvis hns₁ hsb₁
 have upS : ∀ b u, s2.heap.get? b = some u -> h₁.get? b = some u := fun b u q => by
  have hlt := Heap.lt_size q
  exact (hsb₁.2 b (Nat.ne_of_lt (Nat.lt_succ_of_lt hlt))).trans (Heap.get?_push_of_some _ (Heap.get?_push_of_some _ q))
 have stS : tn 0 h₁ := T.keep 0 s2.heap h₁ st2 fun b hb o q => upS b o q
 have noD : ∀ b ∈ fp, upd H2 s2.heap.objs.size (.lst []) b = none := fun b hb => by
  obtain ⟨o, q, _⟩ := obj2 b hb
  rw [upd_ne (Nat.ne_of_lt (Heap.lt_size q))]
  exact (f2 b hb).1
 have stat : ∀ {H' : Hp}, (∀ b ∈ fp, H' b = none) -> ∀ b ∈ fp, FpOk (X.cp (Nl ++ Nf) scope cl (s2.heap.objs.size + 1) { s2 with heap := s2.heap.push { cls := .type "list", dict := none, data := .seq ([] : List Value).toArray } } (upd H2 s2.heap.objs.size (.lst [])) fp) [] H' b := fun hn b hb => by
  refine ⟨hn b hb, (IS.ok.exf b hb).1, IS.ok.exfs b hb, .inl hb, (IS.ok.exf b hb).2, fun p hp => (by cases hp)⟩
 have loop : ∀ s4 : Shared, s4 = { s2 with heap := h₁, toks := s2.toks + ([] : List (Str × Value)).length } ->
   codeAny (model X.prog X.w) X.A (.compLoop (.ListComp elt [⟨target, iter, ifs, 0⟩] scope pos) 0 (.ref it) (.ref s2.heap.objs.size) (compEnvC scope cl (s2.heap.objs.size + 1) X.env))
    (compPost (model X.prog X.w) X.A X.xe none (EP X pins σ Q) (.ref s2.heap.objs.size) (s2.heap.objs.size + 1)) s4 := by
  rintro s4 rfl
  refine comp_loop (fun n s' => ∃ i H', Inv (X.cp (Nl ++ Nf) scope cl (s2.heap.objs.size + 1) { s2 with heap := s2.heap.push { cls := .type "list", dict := none, data := .seq ([] : List Value).toArray } } (upd H2 s2.heap.objs.size (.lst [])) fp) [] (List.replicate Nl.length none ++ pj js σ) H' s' /\ tn i s'.heap /\ (∀ b ∈ fp, H' b = none) /\ W i n H') ?_ m0 ⟨0, _, IS, stS, noD, w0⟩
  rintro n s3 ⟨i, H3, I3, st3, fr3, w3⟩
  rcases turn i n H3 w3 with ⟨stop, qn⟩ | ⟨go, step⟩
  ·refine thn (T.done (X.cp (Nl ++ Nf) scope cl (s2.heap.objs.size + 1) { s2 with heap := s2.heap.push { cls := .type "list", dict := none, data := .seq ([] : List Value).toArray } } (upd H2 s2.heap.objs.size (.lst [])) fp) rfl rfl rfl hc i [] s3 _ H3 _ I3 (stat fr3) st3 stop) fun r s5 ⟨hr, I5⟩ => ?_
   subst hr
   obtain ⟨m5, hn5, _⟩ := I5.loc
   refine ⟨m5, hn5, fun h' hs' => ⟨.ref s2.heap.objs.size, H3, cp_end I2 f2 I5 hs', rfl, qn⟩⟩
  ·refine thn (T.item (X.cp (Nl ++ Nf) scope cl (s2.heap.objs.size + 1) { s2 with heap := s2.heap.push { cls := .type "list", dict := none, data := .seq ([] : List Value).toArray } } (upd H2 s2.heap.objs.size (.lst [])) fp) rfl rfl rfl hc i [] s3 _ H3 _ I3 (stat fr3) st3 go) fun r s5 ⟨u, hr, h5⟩ => ?_
   subst hr
   refine thn h5 fun _ s6 ⟨x, H6, I6, r6, y6, st6, fr6⟩ => ?_
   have I6' := I6.pinned (stat fr6) (T.obj _ _ st6)
   refine thn (hg _ _ _ _ _ _ s6 _ H6 x u _ I6' r6 (step x H6 y6)) fun _ s7 ⟨σ7, H7, I7, kp, q7⟩ => ?_
   refine thn (ht _ _ _ _ _ _ s7 σ7 H7 _ I7 q7) fun ok s8 ⟨H8, I8, q8⟩ => ?_
   have again : ∀ {σ9 : St} {H9 : Hp} {s9 : Shared}, Inv (X.cp (Nl ++ Nf) scope cl (s2.heap.objs.size + 1) { s2 with heap := s2.heap.push { cls := .type "list", dict := none, data := .seq ([] : List Value).toArray } } (upd H2 s2.heap.objs.size (.lst [])) fp) ([] ++ pinsAt fp s6.heap) σ9 H9 s9 ->
     Kp (List.replicate Nl.length none ++ pj js σ) σ9 -> (∃ m', m' < n /\ W (i + 1) m' H9) -> ∃ m, m < n /\ ∃ i H', Inv (X.cp (Nl ++ Nf) scope cl (s2.heap.objs.size + 1) { s2 with heap := s2.heap.push { cls := .type "list", dict := none, data := .seq ([] : List Value).toArray } } (upd H2 s2.heap.objs.size (.lst [])) fp) [] (List.replicate Nl.length none ++ pj js σ) H' s9 /\ tn i s9.heap /\ (∀ b ∈ fp, H' b = none) /\ W i m H' := fun {σ9 H9 s9} I9 hw ⟨m', hm, w9⟩ => by
    refine ⟨m', hm, i + 1, H9, I9.unpinned.weak (by rw [I9.len, <- IS.len]) hw, T.keep _ _ _ st6 fun b hb o q => (I9.pin (b, o) (List.mem_append_right _ (List.mem_append_right _ (mem_pinsAt hb q)))).1, fun b hb => ?_, w9⟩
    obtain ⟨o, q, d⟩ := T.obj _ _ st6 b hb
    exact (I9.pin (b, o) (List.mem_append_right _ (List.mem_append_right _ (mem_pinsAt hb q)))).2.1
   cases ok with
   | false => exact again I8 kp (by simpa using q8)
   | true =>
    have q8' := by simpa only [if_true] using q8
    refine thn (he _ _ _ _ _ _ s8 σ7 H8 _ I8 q8') fun y s9 ⟨yv, H9, I9, r9, ys, hD, hz, q9⟩ => ?_
    refine thn (mt_append _ s9 σ7 H9 (.ref s2.heap.objs.size) [yv] (.ref s2.heap.objs.size) [y] (fun v H' => v = .non /\ H' = upd H9 s2.heap.objs.size (.lst (ys ++ [yv]))) I9 rfl (.cons r9 .nil) ⟨_, ys, yv, rfl, rfl, hD, hz, rfl, rfl⟩) fun _ s10 ⟨_, H10, I10, _, _, e10⟩ => ?_
    subst e10
    exact again I10 kp q9
 exact codeAny_compStart_list (loop _ rfl) (T.self X.A 0 _ _ _ stS (loop _ rfl))
end
theorem relabel_look {env : Env} : ∀ {names : List (Str × NameKind)} {x : Str}, names.lookup x = some .free ->
  (names.map fun (n, k) => if (k == NameKind.free && env.scope.kind == .function && env.kindOf n == some .cell) then (n, NameKind.cell) else (n, k)).lookup x = some .cell \/
  (names.map fun (n, k) => if (k == NameKind.free && env.scope.kind == .function && env.kindOf n == some .cell) then (n, NameKind.cell) else (n, k)).lookup x = some .free
 | [], x, h => by cases h
 | (n, k) :: r, x, h => by
  have ih := @relabel_look env r x
  rw [List.map_cons]
  dsimp only
  by_cases hx : (x == n) = true
  ·simp only [List.lookup_cons, hx] at h
   cases h
   by_cases hq : (NameKind.free == NameKind.free && env.scope.kind == .function && env.kindOf n == some .cell) = true
   ·rw [if_pos hq]; left; simp [List.lookup_cons, hx]
   ·rw [if_neg hq]; right; simp [List.lookup_cons, hx]
  ·have hb : (x == n) = false := Bool.eq_false_iff.mpr hx
   simp only [List.lookup_cons, hb] at h
   have z := ih h
   by_cases hq : (k == NameKind.free && env.scope.kind == .function && env.kindOf n == some .cell) = true
   ·rw [if_pos hq]; simpa only [List.lookup_cons, hb] using z
   ·rw [if_neg hq]; simpa only [List.lookup_cons, hb] using z
noncomputable def compOk (sc scope : Scope) (N Nf : List Str) (js : List Nat) : Bool :=
 scope.kind == .function && scope.names.all (fun y => y.2 != .cell) && scope.names.all (fun y => y.2 != .local || scope.names.lookup y.1 == some .local) &&
 scope.names.all (fun y => y.2 != .free || sc.names.lookup y.1 == some .cell || sc.names.lookup y.1 == some .free) && js.length == Nf.length &&
 (List.range js.length).all (fun i => match js[i]?, Nf[i]? with | some j, some y => N[j]? == some y | _, _ => true) &&
 Nf.all (fun y => scope.names.lookup y == some .free && (sc.names.lookup y == some .cell || sc.names.lookup y == some .free))
theorem pe_compK {X : Cx} {elt target iter : Expr} {ifs : List Expr} {scope sc : Scope} {pos : Pos} {wi : TI} {g : TG} {tc : TT} {te : TE} {Nl Nf N : List Str} {js : List Nat} (hc : X.calm = true) (hi : PI X target iter wi)
  (ok : compOk sc scope N Nf js = true)
  (hg : ∀ cl C s₀ H₀ ex, PG (X.cp (Nl ++ Nf) scope cl C s₀ H₀ ex) target g) (ht : ∀ cl C s₀ H₀ ex, PTs (X.cp (Nl ++ Nf) scope cl C s₀ H₀ ex) ifs tc) (he : ∀ cl C s₀ H₀ ex, PE (X.cp (Nl ++ Nf) scope cl C s₀ H₀ ex) elt te)
  (hsc : X.env.scope = sc := by rfl) (hN : X.N = N := by rfl) (hs : ∀ x, foldedSetIterable iter X.env x = pure x := by intro _; rfl) :
  PE X (.ListComp elt [⟨target, iter, ifs, 0⟩] scope pos) (tComp wi Nl.length js g tc te) := by
 unfold compOk at ok
 simp only [Bool.and_eq_true, List.all_eq_true, beq_iff_eq, bne_iff_ne, Bool.or_eq_true, List.mem_range] at ok
 obtain ⟨⟨⟨⟨⟨⟨k1, k2⟩, k3⟩, k4⟩, k5⟩, k6⟩, k7⟩ := ok
 have kind : ∀ x, X.env.kindOf x = sc.names.lookup x := fun x => by rw [<- hsc]; rfl
 refine pe_comp hc hi k1 k2 (fun x hx hl => (k3 x hx).resolve_left fun z => z hl) (fun x hx hf => ?_) (fun i j y e1 e2 => ?_) k5 (fun y hy => ?_) (fun y hy => ?_) hg ht he hs
 ·rw [kind]
  rcases k4 x hx with (z | z) | z
  ·exact absurd hf z
  ·exact .inl z
  ·exact .inr z
 ·have hlt : i < js.length := (List.getElem?_eq_some_iff.mp e2).1
  have z := k6 i hlt
  rw [e1, e2] at z
  rw [hN]
  simpa using z
 ·obtain ⟨z1, z2⟩ := k7 y hy
  refine ⟨PySem.mem_of_lookup z1, ?_, ?_⟩
  ·rw [hsc]
   rcases z2 with z | z
   ·exact .inr (.inl z)
   ·exact .inr (.inr z)
  ·rw [kind]
   rcases z2 with z | z <;> (rw [z]; decide)
 ·exact relabel_look (k7 y hy).1
end L2
set_option Elab.async false
set_option linter.all false
set_option maxRecDepth 100000
set_option maxHeartbeats 4000000
namespace L2
open PySem PySem.Spec PyProof.Rows
abbrev TF := Str -> St -> Hp -> (Str -> Hp -> Prop) -> Prop
def PF (X : Cx) (es : List Expr) (t : TF) : Prop := ∀ (acc : Str) (pins : List (Addr × Obj)) (s : Shared) (σ : St) (H : Hp) (Q : Str -> Hp -> Prop), Inv X pins σ H s -> t acc σ H Q ->
 Joins (model X.prog X.w) X.A X.xe (evalEach es X.env) acc (fun out s' => out.length <= sizeLine /\ ∃ H', Inv X pins σ H' s' /\ Q out H') s
section
variable {X : Cx} {e : Expr} {es : List Expr} {te : TE} {t : TF} {pos : Pos}
end
theorem call_all {X : Cx} (hc : X.calm = true) : CallR X (.builtin "all") (fun xs H Q => ∃ p ys, xs = [.ref p] /\ SqL X.K H p ys /\ (∀ y ∈ ys, ∃ b, y = .bl b) /\ Q (.bl (ys.all fun y => decide (y = .bl true))) H) := by
 intro pins s σ H xs us Q I r h
 obtain ⟨p, ys, rfl, hq, hb, q⟩ := h
 obtain ⟨u, rfl, rx⟩ := vals1 r
 cases rx
 obtain ⟨its, r', pl, hz⟩ := I.list hq
 have hl := pl.isList
 have hlt : p < s.heap.objs.size := by obtain ⟨_, e, _⟩ := hl; exact Heap.lt_size e
 have hh : X.A.in1.handled = none := I.ok.hd hc
 refine call_all_walk (wpAny_pyIter_list hl ⟨s.heap.objs.size, [s.heap.objs.size, p], [s.heap.objs.size], _, _, _, fun i => decide (ys[i]? = some (.bl true)), rfl, Walks.list hh s.heap.objs.size p (Nat.ne_of_lt hlt) its.toArray, ⟨⟨_, Heap.get?_push_size _ rfl, rfl, rfl⟩, hl.push _⟩, ?_, fun h' tk kp => ?_⟩)
 ·intro i v s1 Q1 E1 hv hQ
  have hv' : its[i]? = some v := by simpa using hv
  have hi : i < ys.length := by rw [r'.length]; exact (List.getElem?_eq_some_iff.mp hv').1
  obtain ⟨u, hu, ru⟩ := r'.get (List.getElem?_eq_getElem hi)
  rw [hv'] at hu
  cases hu
  obtain ⟨b, eb⟩ := hb ys[i] (List.getElem_mem hi)
  rw [eb] at ru
  cases ru
  refine wpAny_truthy_bool ?_
  have e : decide (ys[i]? = some (V.bl true)) = b := by
   rw [List.getElem?_eq_getElem hi, eb]
   cases b <;> simp
  rw [<- e]
  exact hQ
 ·have e : (List.range its.toArray.size).all (fun i => decide (ys[i]? = some (V.bl true))) = ys.all fun y => decide (y = .bl true) := by
   rw [Bool.eq_iff_iff, List.all_eq_true, List.all_eq_true]
   constructor
   ·intro hA y hy
    obtain ⟨i, hi, rfl⟩ := List.getElem_of_mem hy
    have z := hA i (by rw [List.mem_range, List.size_toArray, <- r'.length]; exact hi)
    rw [List.getElem?_eq_getElem hi] at z
    simpa using z
   ·intro hA i hi
    rw [List.mem_range, List.size_toArray, <- r'.length] at hi
    have z := hA ys[i] (List.getElem_mem hi)
    rw [List.getElem?_eq_getElem hi]
    simpa using z
  refine ⟨.bl _, H, I.kept (t' := tk) fun b o hbo => kp b o (fun z => ?_) (Heap.get?_push_of_some _ hbo), rfl, e ▸ q⟩
  rw [List.mem_singleton] at z
  exact absurd (Heap.lt_size hbo) (by rw [z]; exact Nat.lt_irrefl _)
namespace RevT
section
variable {prog : Program} {w : World} {A : Around} {E : Value -> Shared -> Prop} {s : Shared} {I : Addr} {fp wr : List Addr} {G : Array GenState -> Array GenState -> Prop} {n : Nat} {P : Nat -> Value -> Prop} {St : Nat -> Shared -> Prop}
end
open AutoSeq1 (wpAny_loadPart')
end RevT
end L2
set_option Elab.async false
set_option linter.all false
set_option maxRecDepth 100000
set_option maxHeartbeats 4000000
namespace L2
open PySem PySem.Spec PyProof.Rows
structure ExcCls (K : PySem.W.Frag) (D : Addr) : Prop where
 ga : PySem.W.findIn K (.ref D) "__getattribute__" = some (some (.builtin "BaseException.__getattribute__"))
 gt : PySem.W.findIn K (.ref D) "__getattr__" = some none
 cl : PySem.W.findIn K (.ref D) "__class__" = some (some (.builtin "object.__class__"))
 gs : PySem.W.specialIn K (.builtin "object.__class__") "__get__" = some (some (.builtin "getset_descriptor.__get__"))
 tk : PySem.W.takesIn K (.builtin "object.__class__") = some true
 mo : PySem.W.mroIn K D (.type "object") = some true
 mb : PySem.W.mroIn K D (.type "BaseException") = some true
 cd : (PySem.W.clsIn K D).isSome = true
noncomputable def excClsIn (K : PySem.W.Frag) (D : Addr) : Bool :=
 PySem.W.findIn K (.ref D) "__getattribute__" == some (some (.builtin "BaseException.__getattribute__")) && PySem.W.findIn K (.ref D) "__getattr__" == some none &&
 PySem.W.findIn K (.ref D) "__class__" == some (some (.builtin "object.__class__")) && PySem.W.specialIn K (.builtin "object.__class__") "__get__" == some (some (.builtin "getset_descriptor.__get__")) &&
 PySem.W.takesIn K (.builtin "object.__class__") == some true && PySem.W.mroIn K D (.type "object") == some true && PySem.W.mroIn K D (.type "BaseException") == some true && (PySem.W.clsIn K D).isSome
theorem ExcCls.of {K : PySem.W.Frag} {D : Addr} (h : excClsIn K D = true) : ExcCls K D := by
 unfold excClsIn at h
 simp only [Bool.and_eq_true, beq_iff_eq] at h
 obtain ⟨⟨⟨⟨⟨⟨⟨h1, h2⟩, h3⟩, h4⟩, h5⟩, h6⟩, h7⟩, h8⟩ := h
 exact ⟨h1, h2, h3, h4, h5, h6, h7, h8⟩
def ExcAt (e D : Addr) (h : Heap) : Prop := ∃ o vs, h.get? e = some o /\ o.cls = .ref D /\ o.data = .fields vs
section
variable {prog : Program} {w : World} {A : Around} {E : Value -> Shared -> Prop} {s : Shared} {K : PySem.W.Frag} {e D : Addr}
open PySem.W Builtin Builtin.ObjectAttr Builtin.Getset_descriptor
theorem exc_ty {M : Model} {h : Heap} (p : ExcAt e D h) : Looks M h (typeOf (.ref e)) (.ref D) := by
 obtain ⟨o, vs, h1, h2, h3⟩ := p
 exact h2 ▸ (Looks.ld h1).andThen .now
theorem exc_find {M : Model} {h : Heap} (X : K.In h) (C : ExcCls K D) : Looks M h (find (.ref e) (.ref D) "__class__") (.bind (.builtin "getset_descriptor.__get__") (.builtin "object.__class__")) := by
 have L1 := looks_findIn (M := M) X C.cl
 have L2 : Looks M h (getOf (some (.builtin "object.__class__"))) (some (.builtin "getset_descriptor.__get__")) := looks_specialIn X C.gs
 have L3 := looks_takesIn (M := M) X C.tk
 refine L1.andThen (L2.andThen ?_)
 exact (show Looks M h (dataDescriptor? (some (.builtin "object.__class__")) (some (.builtin "getset_descriptor.__get__"))) (some (.builtin "getset_descriptor.__get__", .builtin "object.__class__")) from L3.andThen .now).andThen (Looks.tag .now)
theorem exc_get {tp : Value} {R : Result -> Shared -> Prop} (X : K.In s.heap) (p : ExcAt e D s.heap) (hm : mroIn K D (.type "object") = some true)
  (h : R (.ok (.ret (.ref D))) s) : codeAny (model prog w) A (.call (.builtin "getset_descriptor.__get__") ⟨[.builtin "object.__class__", .ref e, tp], []⟩) R s := by
 obtain ⟨hh, g, dr, t, os⟩ := s
 have L0 := exc_ty (M := model prog w) p
 have L1 := looks_mroIn (M := model prog w) X hm
 refine codeAny_call_builtin KF.slot_gs.plain KF.entry_gs (KF.slot_gs.check _ _ _ _ _ _ _ _ KF.type_class (KF.args_gs _ _ _) ?_)
 unfold Builtin.«getset_descriptor.__get__» descrGet
 rw [dga_obj]
 refine wpAny_bind (wpAny_pure ?_)
 unfold descrGetter descrCheckInstance descrNameAndClass isInstance
 simp only [KF.owner_class]
 repeat lk
 refine ⟨Code.quiet_builtin _ (by decide +kernel), codeAny_builtin KF.entry_class ?_⟩
 unfold Builtin.«object.__class__» shownTypeOf
 repeat lk
 exact h
theorem exc_check {M : Model} {nameV : Value} {Q : Unit -> Shared -> Prop} {h : Heap} {g : Array GenState} {d : Drawn} {t : Nat} {os : OsState} (X : K.In h) (p : ExcAt e D h) (hm : mroIn K D (.type "BaseException") = some true) (hq : Q () ⟨h, g, d, t, os⟩) :
  wpAny M A (checkBuiltinCall "BaseException.__getattribute__" ⟨[.ref e, nameV], []⟩) Q E ⟨h, g, d, t, os⟩ := by
 have hk : builtinKind "BaseException.__getattribute__" = some .slot := by decide +kernel
 have hsplit : splitId "BaseException.__getattribute__" = some ("BaseException", "__getattribute__") := by decide +kernel
 have L0 := exc_ty (M := M) p
 have L1 := looks_mroIn (M := M) X hm
 have LI : Looks M h (isInstance (.ref e) (.type "BaseException")) true := L0.andThen L1
 have ha := PySem.F.args_bexc_ga (.ref e) nameV
 simp only [checkBuiltinCall, hk, hsplit]
 refine wpAny_bind (LI.at ?_)
 rw [if_neg (by decide)]
 unfold argsOk at ha
 split
 ·rename_i sig hs
  rw [hs] at ha
  exact wpAny_of_eq ha hq
 ·exact wpAny_pure hq
theorem exc_class {Q : Option Value -> Shared -> Prop} (X : K.In s.heap) (p : ExcAt e D s.heap) (C : ExcCls K D) (h : Q (some (.ref D)) { s with toks := s.toks + 1 }) : wpAny (model prog w) A (getAttr? (.ref e) "__class__") Q E s := by
 obtain ⟨hh, g, d, t, os⟩ := s
 have L0 := exc_ty (M := model prog w) p
 have L1 := looks_findIn (M := model prog w) X C.ga
 have L2 := looks_findIn (M := model prog w) X C.gt
 have L3 := exc_find (M := model prog w) (e := e) X C
 unfold getAttr? getAttrBy? getAttrBy
 refine wpAny_bind (wpAny_mkText (wpAny_bind (wpAny_attempt (wpAny_holding (wpAny_bind (L0.at (wpAny_bind (L1.at ?_))))))))
 have hx2 : (Value.builtin "BaseException.__getattribute__" == Value.builtin "object.__getattribute__") = false := by decide +kernel
 have hx1 : (onTheHeap (Value.ref D) && Value.builtin "BaseException.__getattribute__" == Value.builtin "object.__getattribute__") = false := by rw [hx2]; rfl
 dsimp only
 rw [if_neg (by rw [hx1]; decide)]
 unfold getAttrByItsOwn hookBefore
 rw [if_pos (by rfl)]
 refine wpAny_bind (L2.at ?_)
 refine wpAny_bind (wpAny_attempt (wpAny_holding ?_))
 unfold callGetattribute
 rw [if_neg (by decide)]
 unfold boundAndCalled
 have f3 := PySem.F.excAttr_ValueError.ga.bind (.ref e)
 refine wpAny_bind (wpAny_of_eq f3 ?_)
 refine wpAny_call (codeAny_call_builtin PySem.F.excAttr_ValueError.ga.plain F.entry_bexc_ga (exc_check (K := K) (D := D) X p C.mb ?_))
 unfold Builtin.«object.__getattribute__»
 refine wpAny_bind (wpAny_of_eq (a := (Value.ref e, [Value.str (Str.ofString "__class__") t])) (by rfl) ?_)
 dsimp only
 refine wpAny_bind (wpAny_of_eq (a := Str.ofString "__class__") (by rfl) ?_)
 refine wpAny_bind (L0.at (wpAny_bind (L3.at ?_)))
 dsimp only
 unfold bindTo
 refine wpAny_bind (wpAny_holding (wpAny_call (exc_get (K := K) (D := D) X p C.mo ?_)))
 dsimp only
 refine wpAny_pure ?_
 dsimp only
 refine wpAny_of_eq (a := Value.ref D) (by rfl) ?_
 exact wpAny_pure h
theorem kitx_exc (C : ExcCls K D) : KitX K (.ref e) (.ref D) (ExcAt e D) where
 ty := fun _ _ _ p => exc_ty p
 it := fun M h X p => by
  have hcD := C.cd
  unfold clsIn at hcD
  split at hcD
  ·rename_i c' d' cd' sl' ho
   intro A' Q' E' s' k q
   unfold isType loadHead
   exact wpAny_bind (wpAny_loadPart (k _ _ (X _ _ ho)) (wpAny_pure q))
  ·cases hcD
 ne := fun h tp dd its n sl X htp => by
  refine Bool.eq_false_iff.mpr fun q => ?_
  have e1 : D = tp := Value.ref.inj (beq_iff_eq.mp q)
  subst e1
  have hcD := C.cd
  unfold clsIn at hcD
  split at hcD
  ·rename_i c' d' cd' sl' ho
   have z := (X _ _ ho).symm.trans htp
   cases z
  ·cases hcD
 ca := fun X p k => exc_class X p C k
end
def ClsV : V -> Value -> Prop
 | .ty n, c => c = .type n
 | .ref a, c => c = .ref a
 | _, _ => False
end L2
set_option Elab.async false
set_option linter.all false
set_option maxRecDepth 100000
set_option maxHeartbeats 4000000
namespace L2
open PySem PySem.Spec PyProof.Rows
structure Cal (P : Program) (w : World) (K : PySem.W.Frag) (mg : Str -> Option Value) (base : Heap) (k : Nat) (x : Str) (ps : List Str) (sp : Sp) : Prop where
 ex : ∃ f fd, FnOk P w K mg base (CX1 P w) k f fd ps sp /\ mg x = some (.ref f) /\ PySem.W.keepIn K (.ref f) = true /\ Binds K fd ps []
structure CalH (P : Program) (w : World) (K : PySem.W.Frag) (mg : Str -> Option Value) (base : Heap) (k : Nat) (x : Str) (ps : List Str) (sp : Sp) : Prop where
 ex : ∃ f fd, FnOkH P w K mg base k f fd ps sp /\ mg x = some (.ref f) /\ PySem.W.keepIn K (.ref f) = true /\ Binds K fd ps []
structure At (K : PySem.W.Frag) (mg : Str -> Option Value) (x : Str) (st : Stmt) (ps : List Str) : Prop where
 ex : ∃ f fd, Fun K x x st f fd /\ mg x = some (.ref f) /\ Binds K fd ps []
section
variable {P : Program} {w : World} {K : PySem.W.Frag} {mg : Str -> Option Value} {base : Heap}
theorem At.cal {x : Str} {st : Stmt} {N ps : List Str} {k : Nat} {sp : Sp} (F : At K mg x st ps) (S : FnScope N ps (defScope st)) (len : ∀ vs H Q E, sp vs H Q E -> vs.length = ps.length)
  (hbody : ∀ (f : Addr) (cdv : Value) (A : Around) (outer : List Env) (s : Shared) (H : Hp) (vs : List V) (Q : VK) (E : XK), Room k (A.deeper (envOfC x (defScope st) s.heap.objs.size f cdv)) -> sp vs H Q E ->
   ∃ t, PSs (cxOf (CX1 P w) P w K mg base N x (defScope st) f cdv A outer s H E) (defBody st) t /\ t { nx := fun _ H' => Q .non H', rt := Q } (start N vs) H) : Cal P w K mg base (k + 1) x ps sp := by
 obtain ⟨f, fd, F, m, b⟩ := F.ex
 exact ⟨f, fd, F.okX S len (hbody f), m, F.kp, b⟩
theorem At.calH {x : Str} {st : Stmt} {N ps : List Str} {k : Nat} {sp : Sp} (F : At K mg x st ps) (S : FnScope N ps (defScope st)) (len : ∀ vs H Q E, sp vs H Q E -> vs.length = ps.length)
  (hbody : ∀ (f : Addr) (cdv : Value) (A : Around) (outer : List Env) (s : Shared) (H : Hp) (vs : List V) (Q : VK), RoomH k (A.deeper (envOfC x (defScope st) s.heap.objs.size f cdv)) -> sp vs H Q E0 ->
   ∃ t, PSs (cxH P w K mg base N x (defScope st) f cdv A outer s H) (defBody st) t /\ t { nx := fun _ H' => Q .non H', rt := Q } (start N vs) H) : CalH P w K mg base (k + 1) x ps sp := by
 obtain ⟨f, fd, F, m, b⟩ := F.ex
 exact ⟨f, fd, F.okH S len (hbody f), m, F.kp, b⟩
end
section
variable {X : Cx} {k : Nat} {ps : List Str} {sp : Sp} {EE : St -> XK} {x : Str} {p pos : Pos} {e : Expr} {es : List Expr} {t : TA}
theorem pe_cal (C : Cal X.prog X.w X.K X.mg X.base k x ps sp) (hr : Room k X.A) (hx : PassX (CX1 X.prog X.w) X EE) (ha : PA X (e :: es) t) (hg : Gl X x := by rfl)
  (hdb : (x == ("__debug__" : Str)) = false := by decide) (he : starEach (e :: es) X.env = (false, eval e X.env) :: starEach es X.env := by rfl) (hpl : (backTo pos (starEach es X.env)).any (·.1) = false := by rfl) :
  PE X (.Call (.Name x p) (e :: es) [] pos) (tCallX sp [] EE t) := by
 obtain ⟨f, fd, F, m, kp, b⟩ := C.ex
 exact pe_callX F hr hg m kp b .nil hx ha hdb he hpl
theorem pe_calH (C : CalH X.prog X.w X.K X.mg X.base k x ps sp) (hr : RoomH k X.A) (ha : PA X (e :: es) t) (hg : Gl X x := by rfl)
  (hdb : (x == ("__debug__" : Str)) = false := by decide) (he : starEach (e :: es) X.env = (false, eval e X.env) :: starEach es X.env := by rfl) (hpl : (backTo pos (starEach es X.env)).any (·.1) = false := by rfl) :
  PE X (.Call (.Name x p) (e :: es) [] pos) (tCall sp [] E0 t) := by
 obtain ⟨f, fd, F, m, kp, b⟩ := C.ex
 exact pe_callH F hr hg m kp b ha hdb he hpl
end
section
variable {X : Cx} {e : Expr} {es : List Expr} {te : TE} {t : TA} {pos pos' p : Pos} {x : Str}
theorem ps_st (i : Nat) (hN : X.N.Nodup) (he : PE X e te) (hi : X.N[i]? = some x := by rfl) (hx : Loc X.env.scope x := by walk_at "3") (hs : swapsWith e (some (.Name x pos')) pos.line X.env = pure false := by rfl) (hf : X.fn x = true \/ X.env.scope.names.lookup x = some .local := by walk_at "2") :
  PS X (.Assign [.Name x pos'] e pos) (tAsg te (gName i)) := ps_set hN hi hx he hs hf
theorem pg_nm (i : Nat) (hN : X.N.Nodup) (hi : X.N[i]? = some x := by rfl) (hx : Loc X.env.scope x := by walk_at "3") (hf : X.fn x = true \/ X.env.scope.names.lookup x = some .local := by walk_at "2") : PG X (.Name x pos) (gName i) := pg_name hN hi hx hf
theorem pe_app {o : Expr} {to : TE} {apos : Pos} (ho : PE X o to) (ha : PA X (e :: es) t) (hbase : attributeBase o "append" X.env (eval o X.env) = eval o X.env := by rfl)
  (hfew : ((backTo pos (starEach (e :: es) X.env)).all (fun x => !x.1) && (backToKw pos (keywordEach [] X.env)).all (fun x => x.1.isSome) && decide ((e :: es).length + ([] : List Keyword).length + (if ([] : List Keyword).isEmpty then 0 else 1) < 30)) = true := by rfl)
  (hline : (apos.endLine == pos.line) = true := by rfl) (hs : starEach (e :: es) X.env = (false, eval e X.env) :: starEach es X.env := by rfl) (hplain : (backTo pos (starEach es X.env)).any (·.1) = false := by rfl) :
  PE X (.Call (.Attribute o "append" apos) (e :: es) [] pos) (tBM X.K "list" rAppend to t) := pe_bm PySem.F.plainAttrs_list PySem.F.slot_list_append PySem.F.type_list_append mt_append ho ha hbase hfew hline hs hplain
end
theorem same_upd {H : Hp} {p : Addr} (h : H p = none) (o : HO) : Same H (upd H p o) := fun b u q => by rw [upd_ne (ne_of_none q h)]; exact q
theorem Same.tup {K : PySem.W.Frag} {H H' : Hp} {a : Addr} {xs : List V} (e : Same H H') (h : SqT K H a xs) : SqT K H' a xs := by
 rcases h with (h | ⟨o, h⟩) | h
 ·exact .inl (.inl (e _ _ h))
 ·exact .inl (.inr ⟨o, e _ _ h⟩)
 ·exact .inr h
end L2
set_option Elab.async false
set_option linter.all false
set_option maxRecDepth 100000
set_option maxHeartbeats 4000000
namespace L2
open PySem PySem.Spec PyProof.Rows
section
variable {X : Cx} {elt target iter : Expr} {ifs : List Expr} {scope : Scope} {pos : Pos} {wi : TI} {g : TG} {tc : TT} {te : TE}
theorem ps_compA {Nl Nf : List Str} {js : List Nat} {y : Str} {py spos : Pos} {gy : TG} (hc : X.calm = true) (hi : PI X target iter wi)
  (hk : scope.kind = .function) (hcell : ∀ y ∈ scope.names, y.2 ≠ .cell) (hnames : ∀ x ∈ scope.names, x.2 = .local -> scope.names.lookup x.1 = some .local)
  (hfree : ∀ x ∈ scope.names, x.2 = .free -> X.env.kindOf x.1 = some .cell \/ X.env.kindOf x.1 = some .free)
  (hj : ∀ (i j : Nat) y, Nf[i]? = some y -> js[i]? = some j -> X.N[j]? = some y) (hlen : js.length = Nf.length)
  (hNf : ∀ y ∈ Nf, (y, NameKind.free) ∈ scope.names /\ Vis X.env.scope y /\ X.env.kindOf y ≠ some .local)
  (hvis : ∀ y ∈ Nf, (relabel scope X.env).names.lookup y = some .cell \/ (relabel scope X.env).names.lookup y = some .free)
  (hg : ∀ cl C s₀ H₀ ex, PG (X.cp (Nl ++ Nf) scope cl C s₀ H₀ ex) target g) (ht : ∀ cl C s₀ H₀ ex, PTs (X.cp (Nl ++ Nf) scope cl C s₀ H₀ ex) ifs tc) (he : ∀ cl C s₀ H₀ ex, PE (X.cp (Nl ++ Nf) scope cl C s₀ H₀ ex) elt te)
  (hgy : PG X (.Name y py) gy) (hsw : swapsWith (.ListComp elt [⟨target, iter, ifs, 0⟩] scope pos) (some (.Name y py)) spos.line X.env = pure true)
  (hs : ∀ x, foldedSetIterable iter X.env x = pure x := by intro _; rfl) :
  PS X (.Assign [.Name y py] (.ListComp elt [⟨target, iter, ifs, 0⟩] scope pos) spos) (tAsg (tComp wi Nl.length js g tc te) gy) := by
 intro pins s σ H D I h
 obtain ⟨cl, hclos, hcl, hcf⟩ := closure_ok (scope := scope) (env := X.env) fun x hx hf => I.ok.has x.1 (hfree x hx hf)
 rw [exec_Assign_Name_used _ _ _ _ hsw]
 refine wpAny_bind (wpAny_standAt (wpAny_bind ?_))
 show wpAny _ _ (do let _ <- comprehension _ _ _ _ _ _ _ _) _ _ _
 refine wpAny_bind (wpAny_comprehension_free (Q := fun _ s'' => wpAny (model X.prog X.w) X.A (pure ()) (fun _ s3 => wpAny (model X.prog X.w) X.A (pure Flow.next) (SP X pins D) X.xe s3) X.xe s'') (use := some (assign (.Name y py) X.env)) rfl hs hclos hk hnames (thn (hi pins s σ H _ I h) fun v s1 h1 => thn h1 fun itv s2 h2 => ?_))
 obtain ⟨it, fp, tn, J, H2, e, I2, T, st2, f2, rd⟩ := h2
 subst e
 refine wpAny_newObj_type (wpAny_newFunctionEnv hcell (by intro y hy; simp at hy) (fun h₁ hns₁ hsb₁ => ?_) hk)
 dsimp only at hns₁ hsb₁ |-
 have szp : (s2.heap.push { cls := .type "list", dict := none, data := .seq ([] : List Value).toArray }).objs.size = s2.heap.objs.size + 1 := Heap.size_push ..
 rw [szp] at hns₁ hsb₁ |-
 have fD : H2 s2.heap.objs.size = none := I2.hok.fresh (Nat.le_refl _)
 obtain ⟨W, ⟨m0, w0⟩, turn⟩ := rd s2.heap.objs.size fD
 have obj2 := T.obj 0 s2.heap st2
 have IS := cp_start (Nl := Nl) (Nf := Nf) (js := js) (cl := cl) (tk := s2.toks + ([] : List (Str × Value)).length) I2 f2 obj2 hk hcell hcl hcf hj hlen hNf hvis hns₁ hsb₁
 have upS : ∀ b u, s2.heap.get? b = some u -> h₁.get? b = some u := fun b u q => by
  have hlt := Heap.lt_size q
  exact (hsb₁.2 b (Nat.ne_of_lt (Nat.lt_succ_of_lt hlt))).trans (Heap.get?_push_of_some _ (Heap.get?_push_of_some _ q))
 have stS : tn 0 h₁ := T.keep 0 s2.heap h₁ st2 fun b hb o q => upS b o q
 have noD : ∀ b ∈ fp, upd H2 s2.heap.objs.size (.lst []) b = none := fun b hb => by
  obtain ⟨o, q, _⟩ := obj2 b hb
  rw [upd_ne (Nat.ne_of_lt (Heap.lt_size q))]
  exact (f2 b hb).1
 have stat : ∀ {H' : Hp}, (∀ b ∈ fp, H' b = none) -> ∀ b ∈ fp, FpOk (X.cp (Nl ++ Nf) scope cl (s2.heap.objs.size + 1) { s2 with heap := s2.heap.push { cls := .type "list", dict := none, data := .seq ([] : List Value).toArray } } (upd H2 s2.heap.objs.size (.lst [])) fp) [] H' b := fun hn b hb => by
  refine ⟨hn b hb, (IS.ok.exf b hb).1, IS.ok.exfs b hb, .inl hb, (IS.ok.exf b hb).2, fun p hp => (by cases hp)⟩
 have loop : ∀ s4 : Shared, s4 = { s2 with heap := h₁, toks := s2.toks + ([] : List (Str × Value)).length } ->
   codeAny (model X.prog X.w) X.A (.compLoop (.ListComp elt [⟨target, iter, ifs, 0⟩] scope pos) 0 (.ref it) (.ref s2.heap.objs.size) (compEnvC scope cl (s2.heap.objs.size + 1) X.env))
    (compPost (model X.prog X.w) X.A X.xe (some (assign (.Name y py) X.env)) (fun _ s'' => wpAny (model X.prog X.w) X.A (pure ()) (fun _ s3 => wpAny (model X.prog X.w) X.A (pure Flow.next) (SP X pins D) X.xe s3) X.xe s'') (.ref s2.heap.objs.size) (s2.heap.objs.size + 1)) s4 := by
  rintro s4 rfl
  refine comp_loop (fun n s' => ∃ i H', Inv (X.cp (Nl ++ Nf) scope cl (s2.heap.objs.size + 1) { s2 with heap := s2.heap.push { cls := .type "list", dict := none, data := .seq ([] : List Value).toArray } } (upd H2 s2.heap.objs.size (.lst [])) fp) [] (List.replicate Nl.length none ++ pj js σ) H' s' /\ tn i s'.heap /\ (∀ b ∈ fp, H' b = none) /\ W i n H') ?_ m0 ⟨0, _, IS, stS, noD, w0⟩
  rintro n s3 ⟨i, H3, I3, st3, fr3, w3⟩
  rcases turn i n H3 w3 with ⟨stop, qn⟩ | ⟨go, step⟩
  ·refine thn (T.done (X.cp (Nl ++ Nf) scope cl (s2.heap.objs.size + 1) { s2 with heap := s2.heap.push { cls := .type "list", dict := none, data := .seq ([] : List Value).toArray } } (upd H2 s2.heap.objs.size (.lst [])) fp) rfl rfl rfl hc i [] s3 _ H3 _ I3 (stat fr3) st3 stop) fun r s5 ⟨hr, I5⟩ => ?_
   subst hr
   obtain ⟨m5, hn5, _⟩ := I5.loc
   obtain ⟨o5, es5, ep5, ho5, hd5, hk5, hf5⟩ := id hn5
   have J5 : Inv X pins σ H3 s5 := cp_end I2 f2 I5 (h' := s5.heap) ⟨rfl, fun _ _ => rfl⟩
   have fC : FpOk X pins H3 (s2.heap.objs.size + 1) := I2.fpOk (Nat.le_succ _) I5.free
   have f1 : ∀ b ∈ [s2.heap.objs.size + 1], FpOk X pins H3 b := fun b hb => by rw [List.mem_singleton.mp hb]; exact fC
   have J6 := J5.pinned f1 (fun b hb => by rw [List.mem_singleton.mp hb]; exact ⟨o5, ho5, fun v z => by rw [hd5] at z; cases z⟩)
   refine thn (hgy _ s5 σ H3 (.ref s2.heap.objs.size) _ _ J6 rfl qn) fun _ s6 ⟨σ6, H6, I6, q6⟩ => ?_
   have pC := I6.pin (s2.heap.objs.size + 1, o5) (List.mem_append_right _ (List.mem_append_right _ (mem_pinsAt (List.mem_singleton.mpr rfl) ho5)))
   refine ⟨m5, ⟨o5, es5, ep5, pC.1, hd5, hk5, hf5⟩, fun h' hs' => wpAny_pure (wpAny_pure ⟨σ6, H6, ?_, q6⟩)⟩
   obtain ⟨g0, g1, g2, g3, g4, g5⟩ := fC
   exact I6.unpinned.turned (t' := s6.toks) (fun b o hb e => (hs'.2 b hb).trans e) pC.2.1 g1 g3 g4 g5
  ·refine thn (T.item (X.cp (Nl ++ Nf) scope cl (s2.heap.objs.size + 1) { s2 with heap := s2.heap.push { cls := .type "list", dict := none, data := .seq ([] : List Value).toArray } } (upd H2 s2.heap.objs.size (.lst [])) fp) rfl rfl rfl hc i [] s3 _ H3 _ I3 (stat fr3) st3 go) fun r s5 ⟨u, hr, h5⟩ => ?_
   subst hr
   refine thn h5 fun _ s6 ⟨x, H6, I6, r6, y6, st6, fr6⟩ => ?_
   have I6' := I6.pinned (stat fr6) (T.obj _ _ st6)
   refine thn (hg _ _ _ _ _ _ s6 _ H6 x u _ I6' r6 (step x H6 y6)) fun _ s7 ⟨σ7, H7, I7, kp, q7⟩ => ?_
   refine thn (ht _ _ _ _ _ _ s7 σ7 H7 _ I7 q7) fun ok s8 ⟨H8, I8, q8⟩ => ?_
   have again : ∀ {σ9 : St} {H9 : Hp} {s9 : Shared}, Inv (X.cp (Nl ++ Nf) scope cl (s2.heap.objs.size + 1) { s2 with heap := s2.heap.push { cls := .type "list", dict := none, data := .seq ([] : List Value).toArray } } (upd H2 s2.heap.objs.size (.lst [])) fp) ([] ++ pinsAt fp s6.heap) σ9 H9 s9 ->
     Kp (List.replicate Nl.length none ++ pj js σ) σ9 -> (∃ m', m' < n /\ W (i + 1) m' H9) -> ∃ m, m < n /\ ∃ i H', Inv (X.cp (Nl ++ Nf) scope cl (s2.heap.objs.size + 1) { s2 with heap := s2.heap.push { cls := .type "list", dict := none, data := .seq ([] : List Value).toArray } } (upd H2 s2.heap.objs.size (.lst [])) fp) [] (List.replicate Nl.length none ++ pj js σ) H' s9 /\ tn i s9.heap /\ (∀ b ∈ fp, H' b = none) /\ W i m H' := fun {σ9 H9 s9} I9 hw ⟨m', hm, w9⟩ => by
    refine ⟨m', hm, i + 1, H9, I9.unpinned.weak (by rw [I9.len, <- IS.len]) hw, T.keep _ _ _ st6 fun b hb o q => (I9.pin (b, o) (List.mem_append_right _ (List.mem_append_right _ (mem_pinsAt hb q)))).1, fun b hb => ?_, w9⟩
    obtain ⟨o, q, d⟩ := T.obj _ _ st6 b hb
    exact (I9.pin (b, o) (List.mem_append_right _ (List.mem_append_right _ (mem_pinsAt hb q)))).2.1
   cases ok with
   | false => exact again I8 kp (by simpa using q8)
   | true =>
    have q8' := by simpa only [if_true] using q8
    refine thn (he _ _ _ _ _ _ s8 σ7 H8 _ I8 q8') fun y s9 ⟨yv, H9, I9, r9, ys, hD, hz, q9⟩ => ?_
    refine thn (mt_append _ s9 σ7 H9 (.ref s2.heap.objs.size) [yv] (.ref s2.heap.objs.size) [y] (fun v H' => v = .non /\ H' = upd H9 s2.heap.objs.size (.lst (ys ++ [yv]))) I9 rfl (.cons r9 .nil) ⟨_, ys, yv, rfl, rfl, hD, hz, rfl, rfl⟩) fun _ s10 ⟨_, H10, I10, _, _, e10⟩ => ?_
    subst e10
    exact again I10 kp q9
 exact codeAny_compStart_list (loop _ rfl) (T.self X.A 0 _ _ _ stS (loop _ rfl))
end
theorem ps_compAK {X : Cx} {y : Str} {py spos : Pos} {gy : TG} {elt target iter : Expr} {ifs : List Expr} {scope sc : Scope} {pos : Pos} {wi : TI} {g : TG} {tc : TT} {te : TE} {Nl Nf N : List Str} {js : List Nat} (hc : X.calm = true) (hi : PI X target iter wi)
  (ok : compOk sc scope N Nf js = true)
  (hg : ∀ cl C s₀ H₀ ex, PG (X.cp (Nl ++ Nf) scope cl C s₀ H₀ ex) target g) (ht : ∀ cl C s₀ H₀ ex, PTs (X.cp (Nl ++ Nf) scope cl C s₀ H₀ ex) ifs tc) (he : ∀ cl C s₀ H₀ ex, PE (X.cp (Nl ++ Nf) scope cl C s₀ H₀ ex) elt te)
  (hgy : PG X (.Name y py) gy) (hsw : swapsWith (.ListComp elt [⟨target, iter, ifs, 0⟩] scope pos) (some (.Name y py)) spos.line X.env = pure true)
  (hsc : X.env.scope = sc := by rfl) (hN : X.N = N := by rfl) (hs : ∀ x, foldedSetIterable iter X.env x = pure x := by intro _; rfl) :
  PS X (.Assign [.Name y py] (.ListComp elt [⟨target, iter, ifs, 0⟩] scope pos) spos) (tAsg (tComp wi Nl.length js g tc te) gy) := by
 unfold compOk at ok
 simp only [Bool.and_eq_true, List.all_eq_true, beq_iff_eq, bne_iff_ne, Bool.or_eq_true, List.mem_range] at ok
 obtain ⟨⟨⟨⟨⟨⟨k1, k2⟩, k3⟩, k4⟩, k5⟩, k6⟩, k7⟩ := ok
 have kind : ∀ x, X.env.kindOf x = sc.names.lookup x := fun x => by rw [<- hsc]; rfl
 refine ps_compA hc hi k1 k2 (fun x hx hl => (k3 x hx).resolve_left fun z => z hl) (fun x hx hf => ?_) (fun i j y e1 e2 => ?_) k5 (fun y hy => ?_) (fun y hy => ?_) hg ht he hgy hsw hs
 ·rw [kind]
  rcases k4 x hx with (z | z) | z
  ·exact absurd hf z
  ·exact .inl z
  ·exact .inr z
 ·have hlt : i < js.length := (List.getElem?_eq_some_iff.mp e2).1
  have z := k6 i hlt
  rw [e1, e2] at z
  rw [hN]
  simpa using z
 ·obtain ⟨z1, z2⟩ := k7 y hy
  refine ⟨PySem.mem_of_lookup z1, ?_, ?_⟩
  ·rw [hsc]
   rcases z2 with z | z
   ·exact .inr (.inl z)
   ·exact .inr (.inr z)
  ·rw [kind]
   rcases z2 with z | z <;> (rw [z]; decide)
 ·exact relabel_look (k7 y hy).1
def rCatS (K : PySem.W.Frag) : R2 := fun x y H Q => ∃ l b xs zs, x = .ref l /\ y = .ref b /\ SqL K H l xs /\ SqL K H b zs /\ xs.length + zs.length <= sizeLine /\ ∀ p, H p = none -> Q (.ref p) (upd H p (.lst (xs ++ zs)))
theorem op_catS {X : Cx} : OpR X (binaryOp .Add) (rCatS X.K) := by
 intro pins s σ H x y v u Q I rx ry h
 obtain ⟨l, b, xs, zs, rfl, rfl, h1, h2, hz, q⟩ := h
 cases rx
 cases ry
 obtain ⟨its, r1, p1, _⟩ := I.list h1
 obtain ⟨its2, r2, p2, _⟩ := I.list h2
 obtain ⟨⟨cls, dd, data, sl⟩, ho, hc, n, hd⟩ := id p1.isList
 obtain ⟨⟨cls2, dd2, data2, sl2⟩, ho2, hc2, n2, hd2⟩ := id p2.isList
 simp only at hc hd hc2 hd2
 subst hc hd hc2 hd2
 have l1 := r1.length
 have l2 := r2.length
 refine concat_meets ⟨_, ho, rfl⟩ ⟨_, ho2, rfl⟩ noFill_list_add seq_list_add PySem.F.slot_list_add PySem.F.entry_list_add (PySem.F.args_list_add_2 _ _) (list_addW l b its.toArray its2.toArray n n2 dd dd2 sl sl2 (by simp only [List.size_toArray]; omega)) ⟨ho, ho2, ?_⟩
 have ea : its.toArray ++ its2.toArray = (its ++ its2).toArray := by simp
 rw [ea]
 exact ⟨.ref _, _, I.lnew (t' := s.toks) (r1.append r2) (by rw [List.length_append]; omega), rfl, q _ I.fresh⟩
end L2
set_option Elab.async false
set_option linter.all false
set_option maxRecDepth 100000
set_option maxHeartbeats 1000000
namespace D
open PySem L2
noncomputable abbrev Sv := Int ⊕ Bool
set_option genInjectivity true in
inductive W where
 | non | bl (b : Bool) | int (i : Int) | str (x : Str) | tup (xs : List W) | lst (xs : List W) | exc (c : Value) | dic (kvs : List (Key × Sv))
inductive S where
 | no | fr (w : W) | own (io : Bool) (ws : List W) | dic (kvs : List (Key × Sv))
noncomputable def sV : Sv -> V
 | .inl i => .int i
 | .inr b => .bl b
noncomputable def kvV (kvs : List (Key × Sv)) : List (Key × V) := kvs.map fun p => (p.1, sV p.2)
mutual
def Rep (K : PySem.W.Frag) (G : Hp) : W -> V -> Prop
 | .non, v => v = .non
 | .bl b, v => v = .bl b
 | .int i, v => v = .int i
 | .str x, v => v = .str x
 | .tup ws, v => ∃ a xs, v = .ref a /\ SqT K G a xs /\ Reps K G ws xs
 | .lst ws, v => ∃ a xs, v = .ref a /\ SqL K G a xs /\ Reps K G ws xs
 | .exc c, v => ∃ e, v = .ref e /\ G e = some (excO e c)
 | .dic kvs, v => ∃ e, v = .ref e /\ G e = some (.dK (kvV kvs))
def Reps (K : PySem.W.Frag) (G : Hp) : List W -> List V -> Prop
 | [], xs => xs = []
 | w :: ws, xs => ∃ x r, xs = x :: r /\ Rep K G w x /\ Reps K G ws r
end
mutual
theorem Rep.mono {K : PySem.W.Frag} {G G' : Hp} (e : Same G G') : ∀ (w : W) {v : V}, Rep K G w v -> Rep K G' w v
 | .non, v, h => h
 | .bl b, v, h => h
 | .int i, v, h => h
 | .str x, v, h => h
 | .tup ws, v, h => by
  obtain ⟨a, xs, rfl, q, r⟩ := h
  exact ⟨a, xs, rfl, e.tup q, Reps.mono e ws r⟩
 | .lst ws, v, h => by
  obtain ⟨a, xs, rfl, q, r⟩ := h
  exact ⟨a, xs, rfl, e.seq q, Reps.mono e ws r⟩
 | .exc c, v, h => by
  obtain ⟨a, rfl, q⟩ := h
  exact ⟨a, rfl, e _ _ q⟩
 | .dic kvs, v, h => by
  obtain ⟨a, rfl, q⟩ := h
  exact ⟨a, rfl, e _ _ q⟩
theorem Reps.mono {K : PySem.W.Frag} {G G' : Hp} (e : Same G G') : ∀ (ws : List W) {xs : List V}, Reps K G ws xs -> Reps K G' ws xs
 | [], xs, h => h
 | w :: ws, xs, h => by
  obtain ⟨x, r, rfl, h1, h2⟩ := h
  exact ⟨x, r, rfl, Rep.mono e w h1, Reps.mono e ws h2⟩
end
section
variable {K : PySem.W.Frag} {G : Hp}
theorem Reps.length : ∀ {ws : List W} {xs : List V}, Reps K G ws xs -> xs.length = ws.length
 | [], xs, h => by cases h; rfl
 | w :: ws, xs, h => by
  obtain ⟨x, r, rfl, _, h2⟩ := h
  simp [Reps.length h2]
theorem Reps.get : ∀ {ws : List W} {xs : List V} {i : Nat} {w : W}, Reps K G ws xs -> ws[i]? = some w -> ∃ x, xs[i]? = some x /\ Rep K G w x
 | [], xs, i, w, h, e => by simp at e
 | w' :: ws, xs, 0, w, h, e => by
  obtain ⟨x, r, rfl, h1, h2⟩ := h
  simp at e; subst e
  exact ⟨x, rfl, h1⟩
 | w' :: ws, xs, i + 1, w, h, e => by
  obtain ⟨x, r, rfl, h1, h2⟩ := h
  obtain ⟨y, e1, e2⟩ := Reps.get (i := i) h2 (by simpa using e)
  exact ⟨y, by simpa using e1, e2⟩
theorem Reps.getV : ∀ {ws : List W} {xs : List V} {i : Nat} {x : V}, Reps K G ws xs -> xs[i]? = some x -> ∃ w, ws[i]? = some w /\ Rep K G w x := fun {ws xs i x} h e => by
 have hl := h.length
 have hi : i < xs.length := (List.getElem?_eq_some_iff.mp e).1
 have e2 : ws[i]? = some ws[i] := List.getElem?_eq_getElem (by omega)
 obtain ⟨y, e3, r⟩ := h.get e2
 rw [e] at e3; cases e3
 exact ⟨_, e2, r⟩
theorem Reps.append : ∀ {ws ws' : List W} {xs xs' : List V}, Reps K G ws xs -> Reps K G ws' xs' -> Reps K G (ws ++ ws') (xs ++ xs')
 | [], ws', xs, xs', h, h' => by cases h; exact h'
 | w :: ws, ws', xs, xs', h, h' => by
  obtain ⟨x, r, rfl, h1, h2⟩ := h
  exact ⟨x, r ++ xs', rfl, h1, Reps.append h2 h'⟩
theorem Reps.one {w : W} {x : V} (h : Rep K G w x) : Reps K G [w] [x] := ⟨x, [], rfl, h, rfl⟩
theorem Reps.take : ∀ (n : Nat) {ws : List W} {xs : List V}, Reps K G ws xs -> Reps K G (ws.take n) (xs.take n)
 | 0, _, _, _ => rfl
 | n + 1, [], _, h => by cases h; rfl
 | n + 1, w :: ws, _, h => by
  obtain ⟨x, r, rfl, h1, h2⟩ := h
  exact ⟨x, r.take n, rfl, h1, Reps.take n h2⟩
theorem Reps.drop : ∀ (n : Nat) {ws : List W} {xs : List V}, Reps K G ws xs -> Reps K G (ws.drop n) (xs.drop n)
 | 0, _, _, h => h
 | n + 1, [], _, h => by cases h; rfl
 | n + 1, w :: ws, _, h => by
  obtain ⟨x, r, rfl, h1, h2⟩ := h
  exact Reps.drop n h2
theorem Reps.set : ∀ (i : Nat) {ws : List W} {xs : List V} {w : W} {x : V}, Reps K G ws xs -> Rep K G w x -> Reps K G (ws.set i w) (xs.set i x)
 | _, [], _, _, _, h, _ => by cases h; rfl
 | 0, w' :: ws, _, w, x, h, q => by
  obtain ⟨y, r, rfl, h1, h2⟩ := h
  exact ⟨x, r, rfl, q, h2⟩
 | i + 1, w' :: ws, _, w, x, h, q => by
  obtain ⟨y, r, rfl, h1, h2⟩ := h
  exact ⟨y, r.set i x, rfl, h1, Reps.set i h2 q⟩
end
structure Zt where
 H : Hp
 G : Hp
 io : List Addr
def SlotOk (K : PySem.W.Frag) (Z : Zt) (G H : Hp) : S -> Option V -> Prop
 | .no, _ => True
 | .fr w, v => ∃ u, v = some u /\ Rep K G w u
 | .own b ws, v => ∃ a xs, v = some (.ref a) /\ H a = some (.lst xs) /\ G a = none /\ (if b = true then a ∈ Z.io else Z.H a = none) /\ Reps K G ws xs
 | .dic kvs, v => ∃ a, v = some (.ref a) /\ H a = some (.dK (kvV kvs)) /\ G a = none /\ Z.H a = none
structure Rel (K : PySem.W.Frag) (Z : Zt) (G : Hp) (σ : St) (H : Hp) (e : List S) : Prop where
 sub : Same G H
 slot : ∀ (i : Nat) (s : S), e[i]? = some s -> SlotOk K Z G H s (σ[i]?.getD none)
 len : e.length = σ.length
 dis : ∀ (i j : Nat) (b b' : Bool) (ws ws' : List W) (a : Addr), e[i]? = some (.own b ws) -> e[j]? = some (.own b' ws') -> σ[i]? = some (some (.ref a)) -> σ[j]? = some (some (.ref a)) -> i = j
 ent : ∀ a o, Z.H a = some o -> a ∉ Z.io -> H a = some o
 ion : ∀ a ∈ Z.io, H a ≠ none
 gen : ∀ a, Z.H a ≠ none -> G a = Z.G a
structure Grow (G H G' H' : Hp) : Prop where
 hh : Same H H'
 gg : Same G G'
 sub : Same G' H'
 new : ∀ a, H a ≠ none -> G' a = G a
theorem Grow.refl {G H : Hp} (s : Same G H) : Grow G H G H := ⟨.refl _, .refl _, s, fun _ _ => rfl⟩
theorem same_some {H H' : Hp} (e : Same H H') {a : Addr} (h : H a ≠ none) : H' a ≠ none := by
 cases q : H a with
 | none => exact absurd q h
 | some o => rw [e a o q]; simp
theorem Grow.laid {G H : Hp} (s : Same G H) {D : Addr} (h : H D = none) (o : HO) : Grow G H (upd G D o) (upd H D o) where
 hh := same_upd h o
 gg := same_upd (s.free h) o
 sub := fun b u e => by
  by_cases hb : b = D
  ·subst hb; rw [upd_same] at e |-; exact e
  ·rw [upd_ne hb] at e |-; exact s b u e
 new := fun a ha => by rw [upd_ne (fun z => ha (by rw [z]; exact h))]
theorem Grow.hid {G H : Hp} (s : Same G H) {D : Addr} (h : H D = none) (o : HO) : Grow G H G (upd H D o) where
 hh := same_upd h o
 gg := .refl _
 sub := fun b u e => by
  have := s b u e
  rw [upd_ne (ne_of_none this h)]; exact this
 new := fun a ha => rfl
section
variable {K : PySem.W.Frag} {Z : Zt} {G G' H H' : Hp} {σ : St} {e : List S}
theorem Rel.grow (r : Rel K Z G σ H e) (g : Grow G H G' H') : Rel K Z G' σ H' e where
 sub := g.sub
 slot := fun i s h => by
  have q := r.slot i s h
  cases s with
  | no => trivial
  | fr w =>
   obtain ⟨u, h1, h2⟩ := q
   exact ⟨u, h1, Rep.mono g.gg w h2⟩
  | own b ws =>
   obtain ⟨a, xs, h1, h2, h3, h4, h5⟩ := q
   exact ⟨a, xs, h1, g.hh _ _ h2, by rw [g.new a (by rw [h2]; simp)]; exact h3, h4, Reps.mono g.gg ws h5⟩
  | dic kvs =>
   obtain ⟨a, h1, h2, h3, h4⟩ := q
   exact ⟨a, h1, g.hh _ _ h2, by rw [g.new a (by rw [h2]; simp)]; exact h3, h4⟩
 len := r.len
 dis := r.dis
 ent := fun a o h n => g.hh _ _ (r.ent a o h n)
 ion := fun a h => same_some g.hh (r.ion a h)
 gen := fun a h => by
  have : H a ≠ none := by
   cases q : Z.H a with
   | none => exact absurd q h
   | some o =>
    by_cases hi : a ∈ Z.io
    ·exact r.ion a hi
    ·rw [r.ent a o q hi]; simp
  rw [g.new a this]; exact r.gen a h
theorem Rel.own (r : Rel K Z G σ H e) {i : Nat} {b : Bool} {ws : List W} (h : e[i]? = some (.own b ws)) : ∃ a xs, σ[i]? = some (some (.ref a)) /\ H a = some (.lst xs) /\ G a = none /\ (if b = true then a ∈ Z.io else Z.H a = none) /\ Reps K G ws xs := by
 obtain ⟨a, xs, h1, h2⟩ := r.slot i _ h
 refine ⟨a, xs, ?_, h2⟩
 cases q : σ[i]? with
 | none => rw [q] at h1; cases h1
 | some z => rw [q] at h1; rw [show z = some (V.ref a) from h1]
theorem Rel.fr (r : Rel K Z G σ H e) {i : Nat} {w : W} (h : e[i]? = some (.fr w)) : ∃ v, σ[i]? = some (some v) /\ Rep K G w v := by
 obtain ⟨v, h1, h2⟩ := r.slot i _ h
 refine ⟨v, ?_, h2⟩
 cases q : σ[i]? with
 | none => rw [q] at h1; cases h1
 | some z => rw [q] at h1; rw [show z = some v from h1]
theorem Rel.mut (r : Rel K Z G σ H e) {i : Nat} {b : Bool} {ws ws' : List W} {a : Addr} {xs' : List V} (h : e[i]? = some (.own b ws)) (ha : σ[i]? = some (some (.ref a))) (q : Reps K G ws' xs') : Rel K Z G σ (upd H a (.lst xs')) (e.set i (.own b ws')) := by
 obtain ⟨a', xs, h1, h2, h3, h4, h5⟩ := r.own h
 rw [ha] at h1
 cases h1
 have hi : i < e.length := (List.getElem?_eq_some_iff.mp h).1
 refine ⟨fun c o z => ?_, fun j s z => ?_, by simpa using r.len, fun j k b1 b2 w1 w2 c z1 z2 z3 z4 => ?_, fun c o z n => ?_, fun c z => ?_, r.gen⟩
 ·rw [upd_ne (ne_of_none z h3)]; exact r.sub c o z
 ·by_cases hj : j = i
  ·subst hj
   rw [List.getElem?_set_self hi] at z
   cases z
   exact ⟨a, xs', by rw [ha]; rfl, upd_same, h3, h4, q⟩
  ·rw [List.getElem?_set_ne (fun z => hj z.symm)] at z
   have y := r.slot j s z
   cases s with
   | no => trivial
   | fr w => exact y
   | own b2 w2 =>
    obtain ⟨c, ys, y1, y2, y3⟩ := y
    refine ⟨c, ys, y1, ?_, y3⟩
    rw [upd_ne]; exact y2
    rintro rfl
    obtain ⟨c', _, z1, _⟩ := r.own z
    rw [z1] at y1
    cases y1
    exact hj (r.dis j i _ _ _ _ _ z h z1 ha)
   | dic kvs =>
    obtain ⟨c, y1, y2, y3⟩ := y
    refine ⟨c, y1, ?_, y3⟩
    rw [upd_ne (ne_of y2 h2 (fun z => nomatch z))]; exact y2
 ·have old : ∀ (k : Nat) (bb : Bool) (ww : List W), (e.set i (S.own b ws'))[k]? = some (.own bb ww) -> ∃ b' w', e[k]? = some (.own b' w') := fun k bb ww z => by
   by_cases hk : k = i
   ·subst hk; exact ⟨_, _, h⟩
   ·rw [List.getElem?_set_ne (fun z => hk z.symm)] at z; exact ⟨_, _, z⟩
  obtain ⟨_, _, q1⟩ := old _ _ _ z1
  obtain ⟨_, _, q2⟩ := old _ _ _ z2
  exact r.dis _ _ _ _ _ _ _ q1 q2 z3 z4
 ·by_cases hc : c = a
  ·subst hc
   exfalso
   split at h4
   ·exact n h4
   ·rw [h4] at z; cases z
  ·rw [upd_ne hc]; exact r.ent c o z n
 ·by_cases hc : c = a
  ·subst hc; rw [upd_same]; simp
  ·rw [upd_ne hc]; exact r.ion c z
theorem Rel.freeze (r : Rel K Z G σ H e) {i : Nat} {ws : List W} (h : e[i]? = some (.own false ws)) : ∃ v G', σ[i]? = some (some v) /\ Same G G' /\ Rep K G' (.lst ws) v /\ Rel K Z G' σ H (e.set i (.fr (.lst ws))) := by
 obtain ⟨a, xs, h1, h2, h3, h4, h5⟩ := r.own h
 have h4 : Z.H a = none := h4
 have sg : Same G (upd G a (.lst xs)) := same_upd h3 _
 have hi : i < e.length := (List.getElem?_eq_some_iff.mp h).1
 have rp : Rep K (upd G a (.lst xs)) (.lst ws) (.ref a) := ⟨a, xs, rfl, SqL.of upd_same, Reps.mono sg ws h5⟩
 refine ⟨.ref a, upd G a (.lst xs), h1, sg, rp, ⟨fun c o z => ?_, fun j s z => ?_, by simpa using r.len, fun j k b1 b2 w1 w2 c z1 z2 z3 z4 => ?_, r.ent, r.ion, fun c z => ?_⟩⟩
 ·by_cases hc : c = a
  ·subst hc; rw [upd_same] at z; cases z; exact h2
  ·rw [upd_ne hc] at z; exact r.sub c o z
 ·by_cases hj : j = i
  ·subst hj
   rw [List.getElem?_set_self hi] at z
   cases z
   exact ⟨.ref a, by rw [h1]; rfl, rp⟩
  ·rw [List.getElem?_set_ne (fun z => hj z.symm)] at z
   have y := r.slot j s z
   cases s with
   | no => trivial
   | fr w =>
    obtain ⟨u, y1, y2⟩ := y
    exact ⟨u, y1, Rep.mono sg w y2⟩
   | own b2 w2 =>
    obtain ⟨c, ys, y1, y2, y3, y4, y5⟩ := y
    refine ⟨c, ys, y1, y2, ?_, y4, Reps.mono sg w2 y5⟩
    rw [upd_ne]; exact y3
    rintro rfl
    obtain ⟨c', _, z1, _⟩ := r.own z
    rw [z1] at y1
    cases y1
    exact hj (r.dis j i _ _ _ _ _ z h z1 h1)
   | dic kvs =>
    obtain ⟨c, y1, y2, y3, y4⟩ := y
    refine ⟨c, y1, y2, ?_, y4⟩
    rw [upd_ne (ne_of y2 h2 (fun z => nomatch z))]; exact y3
 ·have old : ∀ (k : Nat) (bb : Bool) (ww : List W), (e.set i (S.fr (W.lst ws)))[k]? = some (.own bb ww) -> e[k]? = some (.own bb ww) := fun k bb ww z => by
   by_cases hk : k = i
   ·subst hk; rw [List.getElem?_set_self hi] at z; cases z
   ·rw [List.getElem?_set_ne (fun z => hk z.symm)] at z; exact z
  exact r.dis _ _ _ _ _ _ _ (old _ _ _ z1) (old _ _ _ z2) z3 z4
 ·by_cases hc : c = a
  ·subst hc; exact absurd h4 z
  ·rw [upd_ne hc]; exact r.gen c z
def Free (σ : St) (e : List S) (a : Addr) : Prop := ∀ (j : Nat) (b : Bool) (ws : List W), e[j]? = some (.own b ws) -> σ[j]? ≠ some (some (.ref a))
theorem Rel.set (r : Rel K Z G σ H e) {i : Nat} {w : W} {v : V} (q : Rep K G w v) : Rel K Z G (σ.set i (some v)) H (e.set i (.fr w)) := by
 refine ⟨r.sub, fun j s z => ?_, by simpa using r.len, fun j k b1 b2 w1 w2 c z1 z2 z3 z4 => ?_, r.ent, r.ion, r.gen⟩
 ·by_cases hj : j = i
  ·subst hj
   have hi : j < e.length := by
    have := (List.getElem?_eq_some_iff.mp z).1; simpa using this
   rw [List.getElem?_set_self hi] at z
   cases z
   rw [List.getElem?_set_self (by rw [<- r.len]; exact hi)]
   exact ⟨v, rfl, q⟩
  ·rw [List.getElem?_set_ne (fun z => hj z.symm)] at z |-
   exact r.slot j s z
 ·have old : ∀ (k : Nat) (bb : Bool) (ww : List W), (e.set i (S.fr w))[k]? = some (.own bb ww) -> k ≠ i /\ e[k]? = some (.own bb ww) := fun k bb ww z => by
   by_cases hk : k = i
   ·subst hk
    have hi : k < e.length := by
     have := (List.getElem?_eq_some_iff.mp z).1; simpa using this
    rw [List.getElem?_set_self hi] at z; cases z
   ·rw [List.getElem?_set_ne (fun z => hk z.symm)] at z; exact ⟨hk, z⟩
  obtain ⟨n1, q1⟩ := old _ _ _ z1
  obtain ⟨n2, q2⟩ := old _ _ _ z2
  rw [List.getElem?_set_ne (fun z => n1 z.symm)] at z3
  rw [List.getElem?_set_ne (fun z => n2 z.symm)] at z4
  exact r.dis _ _ _ _ _ _ _ q1 q2 z3 z4
theorem Rel.setOwn (r : Rel K Z G σ H e) {i : Nat} {ws : List W} {a : Addr} {xs : List V} (h2 : H a = some (.lst xs)) (h3 : G a = none) (h4 : Z.H a = none) (hf : Free σ e a) (q : Reps K G ws xs) : Rel K Z G (σ.set i (some (.ref a))) H (e.set i (.own false ws)) := by
 refine ⟨r.sub, fun j s z => ?_, by simpa using r.len, fun j k b1 b2 w1 w2 c z1 z2 z3 z4 => ?_, r.ent, r.ion, r.gen⟩
 ·by_cases hj : j = i
  ·subst hj
   have hi : j < e.length := by
    have := (List.getElem?_eq_some_iff.mp z).1; simpa using this
   rw [List.getElem?_set_self hi] at z
   cases z
   rw [List.getElem?_set_self (by rw [<- r.len]; exact hi)]
   exact ⟨a, xs, rfl, h2, h3, h4, q⟩
  ·rw [List.getElem?_set_ne (fun z => hj z.symm)] at z |-
   exact r.slot j s z
 ·have both : ∀ (k : Nat) (bb : Bool) (ww : List W), (e.set i (S.own false ws))[k]? = some (.own bb ww) -> (σ.set i (some (.ref a)))[k]? = some (some (.ref c)) -> (k = i /\ c = a) \/ (k ≠ i /\ e[k]? = some (.own bb ww) /\ σ[k]? = some (some (.ref c)) /\ c ≠ a) := fun k bb ww z y => by
   by_cases hk : k = i
   ·subst hk
    have hi : k < e.length := by
     have := (List.getElem?_eq_some_iff.mp z).1; simpa using this
    rw [List.getElem?_set_self (by rw [<- r.len]; exact hi)] at y
    cases y
    exact .inl ⟨rfl, rfl⟩
   ·rw [List.getElem?_set_ne (fun z => hk z.symm)] at z y
    exact .inr ⟨hk, z, y, fun e => hf k bb ww z (by rw [y, e])⟩
  rcases both _ _ _ z1 z3 with ⟨e1, c1⟩ | ⟨n1, q1, p1, c1⟩ <;> rcases both _ _ _ z2 z4 with ⟨e2, c2⟩ | ⟨n2, q2, p2, c2⟩
  ·rw [e1, e2]
  ·exact absurd c1 c2
  ·exact absurd c2 c1
  ·exact r.dis _ _ _ _ _ _ _ q1 q2 p1 p2
end
inductive R (α : Type) where
 | ok (a : α) (e : List S) | ex (c : Value) (e : List S) | no
noncomputable abbrev Den (α : Type) := List S -> R α
noncomputable def R.bind {α β : Type} : R α -> (α -> List S -> R β) -> R β
 | .ok a e, k => k a e
 | .ex c e, _ => .ex c e
 | .no, _ => .no
def R.holds {α : Type} (r : R α) (P : α -> List S -> Prop) (E : Value -> List S -> Prop) : Prop := match r with
 | .ok a e => P a e
 | .ex c e => E c e
 | .no => False
theorem R.holds_bind {α β : Type} {r : R α} {k : α -> List S -> R β} {P : β -> List S -> Prop} {E : Value -> List S -> Prop} : (r.bind k).holds P E ↔ r.holds (fun a e => (k a e).holds P E) E := by
 cases r <;> rfl
theorem R.holds.imp {α : Type} {r : R α} {P P' : α -> List S -> Prop} {E E' : Value -> List S -> Prop} (h : r.holds P E) (p : ∀ a e, P a e -> P' a e) (x : ∀ c e, E c e -> E' c e) : r.holds P' E' := by
 cases r with
 | ok a e => exact p a e h
 | ex c e => exact x c e h
 | no => exact h
noncomputable def ofOpt {α : Type} (o : Option α) (e : List S) : R α := match o with
 | some a => .ok a e
 | none => .no
theorem ofOpt_holds {α : Type} {o : Option α} {e : List S} {P : α -> List S -> Prop} {E : Value -> List S -> Prop} : (ofOpt o e).holds P E ↔ ∃ a, o = some a /\ P a e := by
 cases o with
 | none => exact ⟨fun h => h.elim, fun ⟨_, h, _⟩ => nomatch h⟩
 | some a => exact ⟨fun h => ⟨a, rfl, h⟩, fun ⟨_, h, q⟩ => by cases h; exact q⟩
inductive SR where
 | nx (e : List S) | rt (s : S) (e : List S) | bk (e : List S) | ct (e : List S) | ex (c : Value) (e : List S) | no
section
variable (K : PySem.W.Frag) (Z : Zt) (EE : St -> XK)
abbrev XH (σ : St) (G : Hp) : Value -> List S -> Prop := fun c e' => ∀ G' H', Rel K Z G' σ H' e' -> Same G G' -> EE σ c none H'
def liftE (d : Den W) : TE := fun σ H Q => ∃ G e, Rel K Z G σ H e /\ (d e).holds (fun w e' => ∀ G' v H', Rel K Z G' σ H' e' -> Same G G' -> Rep K G' w v -> Q v H') (XH K Z EE σ G)
def liftA (d : Den (List W)) : TA := fun σ H Q => ∃ G e, Rel K Z G σ H e /\ (d e).holds (fun ws e' => ∀ G' vs H', Rel K Z G' σ H' e' -> Same G G' -> Reps K G' ws vs -> Q vs H') (XH K Z EE σ G)
def liftT (d : Den Bool) : TT := fun σ H Q => ∃ G e, Rel K Z G σ H e /\ (d e).holds (fun b e' => ∀ G' H', Rel K Z G' σ H' e' -> Same G G' -> Q b H') (XH K Z EE σ G)
def liftF (d : Den (List W)) : TE := fun σ H Q => ∃ G e, Rel K Z G σ H e /\ (d e).holds (fun ws e' => ∀ G' a xs H', Rel K Z G' σ H' e' -> Same G G' -> H' a = some (.lst xs) -> G' a = none -> Z.H a = none -> Free σ e' a -> Reps K G' ws xs -> Q (.ref a) H') (XH K Z EE σ G)
def PostS (D : Ends) (G : Hp) : SR -> Prop
 | .nx e' => ∀ G' σ' H', Rel K Z G' σ' H' e' -> Same G G' -> D.nx σ' H'
 | .bk e' => ∀ G' σ' H', Rel K Z G' σ' H' e' -> Same G G' -> D.bk σ' H'
 | .ct e' => ∀ G' σ' H', Rel K Z G' σ' H' e' -> Same G G' -> D.ct σ' H'
 | .rt s e' => ∀ G' σ' v H', Rel K Z G' σ' H' e' -> Same G G' -> SlotOk K Z G' H' s (some v) -> D.rt v H'
 | .ex c e' => ∀ G' σ' H', Rel K Z G' σ' H' e' -> Same G G' -> EE σ' c none H'
 | .no => False
def liftS (d : List S -> SR) : TS := fun D σ H => ∃ G e, Rel K Z G σ H e /\ PostS K Z EE D G (d e)
end
section
variable (Z : Zt) (X : Cx) (EE : St -> XK)
def DE (e : Expr) (d : Den W) : Prop := PE X e (liftE X.K Z EE d)
def DF (e : Expr) (d : Den (List W)) : Prop := PE X e (liftF X.K Z EE d)
def DT (e : Expr) (d : Den Bool) : Prop := PT X e (liftT X.K Z EE d)
def DW (e : Expr) (d : Den Bool) : Prop := PW X e (liftT X.K Z EE d)
def DA (es : List Expr) (d : Den (List W)) : Prop := PA X es (liftA X.K Z EE d)
def DS (st : Stmt) (d : List S -> SR) : Prop := PS X st (liftS X.K Z EE d)
def DSs (sts : List Stmt) (d : List S -> SR) : Prop := PSs X sts (liftS X.K Z EE d)
end
theorem PE.mono {X : Cx} {e : Expr} {t t' : TE} (h : PE X e t) (i : ∀ σ H Q, t' σ H Q -> t σ H Q) : PE X e t' := fun pins s σ H Q I q => h pins s σ H Q I (i σ H Q q)
theorem PT.mono {X : Cx} {e : Expr} {t t' : TT} (h : PT X e t) (i : ∀ σ H Q, t' σ H Q -> t σ H Q) : PT X e t' := fun pins s σ H Q I q => h pins s σ H Q I (i σ H Q q)
theorem PW.mono {X : Cx} {e : Expr} {t t' : TT} (h : PW X e t) (i : ∀ σ H Q, t' σ H Q -> t σ H Q) : PW X e t' := fun wh pins s σ H Q I q => h wh pins s σ H Q I (i σ H Q q)
theorem PA.mono {X : Cx} {es : List Expr} {t t' : TA} (h : PA X es t) (i : ∀ σ H Q, t' σ H Q -> t σ H Q) : PA X es t' := fun p pins s σ H Q I q => h p pins s σ H Q I (i σ H Q q)
theorem PS.mono {X : Cx} {st : Stmt} {t t' : TS} (h : PS X st t) (i : ∀ D σ H, t' D σ H -> t D σ H) : PS X st t' := fun pins s σ H D I q => h pins s σ H D I (i D σ H q)
theorem PSs.mono {X : Cx} {st : List Stmt} {t t' : TS} (h : PSs X st t) (i : ∀ D σ H, t' D σ H -> t D σ H) : PSs X st t' := fun pins s σ H D I q => h pins s σ H D I (i D σ H q)
end D
set_option Elab.async false
set_option linter.all false
set_option maxRecDepth 100000
set_option maxHeartbeats 1000000
namespace D
open PySem L2
section
variable (K : PySem.W.Frag)
def Op2 (r : R2) (f : W -> W -> Option W) : Prop := ∀ (G H : Hp) (x y : V) (wx wy w : W) (Q : VK), Same G H -> Rep K G wx x -> Rep K G wy y -> f wx wy = some w -> (∀ G' v H', Grow G H G' H' -> Rep K G' w v -> Q v H') -> r x y H Q
def OpN (r : List V -> Hp -> VK -> Prop) (f : List W -> Option W) : Prop := ∀ (G H : Hp) (xs : List V) (ws : List W) (w : W) (Q : VK), Same G H -> Reps K G ws xs -> f ws = some w -> (∀ G' v H', Grow G H G' H' -> Rep K G' w v -> Q v H') -> r xs H Q
end
noncomputable def dC (w : W) : Den W := fun e => .ok w e
noncomputable def dVar (i : Nat) : Den W := fun e => match e[i]? with
 | some (.fr w) => .ok w e
 | some (.own false ws) => .ok (.lst ws) (e.set i (.fr (.lst ws)))
 | _ => .no
noncomputable def dOp (f : W -> W -> Option W) (da db : Den W) : Den W := fun e => (da e).bind fun x e1 => (db e1).bind fun y e2 => ofOpt (f x y) e2
noncomputable def dTest (da : Den W) : Den Bool := fun e => (da e).bind fun x e1 => match x with
 | .bl k => .ok k e1
 | _ => .no
noncomputable def truW : W -> Option Bool
 | .non => some false
 | .bl b => some b
 | .int i => some (i != 0)
 | .str x => if x.length <= 16777216 then some ((x.length : Int) != 0) else none
 | .tup xs => some (!xs.isEmpty)
 | .lst xs => some (!xs.isEmpty)
 | .exc _ => none
 | .dic _ => none
noncomputable def dTru (da : Den W) : Den Bool := fun e => (da e).bind fun x e1 => ofOpt (truW x) e1
noncomputable def dAnd (a b : Den Bool) : Den Bool := fun e => (a e).bind fun x e1 => if x = true then b e1 else .ok false e1
noncomputable def dOr (a b : Den Bool) : Den Bool := fun e => (a e).bind fun x e1 => if x = true then .ok true e1 else b e1
noncomputable def dNot (a : Den Bool) : Den Bool := fun e => (a e).bind fun x e1 => .ok (!x) e1
noncomputable def dAndV (a b : Den W) : Den W := fun e => (a e).bind fun x e1 => match x with
 | .bl true => b e1
 | .bl false => .ok (.bl false) e1
 | _ => .no
noncomputable def dNotV (a : Den W) : Den W := fun e => (a e).bind fun x e1 => match x with
 | .bl k => .ok (.bl (!k)) e1
 | _ => .no
noncomputable def dIf (c : Den Bool) (a b : Den W) : Den W := fun e => (c e).bind fun x e1 => if x = true then a e1 else b e1
noncomputable def dNil : Den (List W) := fun e => .ok [] e
noncomputable def dCons (a : Den W) (r : Den (List W)) : Den (List W) := fun e => (a e).bind fun x e1 => (r e1).bind fun xs e2 => .ok (x :: xs) e2
noncomputable def dTup (a : Den (List W)) : Den W := fun e => (a e).bind fun xs e1 => if xs.length <= 16777216 then .ok (.tup xs) e1 else .no
noncomputable def dLst (a : Den (List W)) : Den (List W) := fun e => (a e).bind fun xs e1 => if xs.length <= 16777216 then .ok xs e1 else .no
noncomputable def dFz (a : Den (List W)) : Den W := fun e => (a e).bind fun xs e1 => .ok (.lst xs) e1
noncomputable def dFn (f : List W -> Option W) (a : Den (List W)) : Den W := fun e => (a e).bind fun xs e1 => ofOpt (f xs) e1
section
variable {X : Cx} {Z : Zt} {EE : St -> XK} {a b c e : Expr} {es : List Expr} {da db : Den W} {dc ta tb : Den Bool} {dA : Den (List W)} {pos : Pos}
theorem XH.trans {K : PySem.W.Frag} {σ : St} {G G1 : Hp} (s : Same G G1) {c : Value} {e : List S} (h : XH K Z EE σ G c e) : XH K Z EE σ G1 c e := fun G' H' r q => h G' H' r (s.trans q)
theorem de_int {i : Int} {j pos} : DE Z X EE (.Constant (.int i) j pos) (dC (.int i)) := PE.mono pe_int fun σ H Q ⟨G, e, r, h⟩ => h G (.int i) H r (.refl _) rfl
theorem de_bl {i : Bool} {j pos} : DE Z X EE (.Constant (.bool i) j pos) (dC (.bl i)) := PE.mono pe_bl fun σ H Q ⟨G, e, r, h⟩ => h G (.bl i) H r (.refl _) rfl
theorem de_str {i : Str} {j pos} : DE Z X EE (.Constant (.str i) j pos) (dC (.str i)) := PE.mono pe_str fun σ H Q ⟨G, e, r, h⟩ => h G (.str i) H r (.refl _) rfl
theorem lift_var {K : PySem.W.Frag} {i : Nat} : ∀ σ H Q, liftE K Z EE (dVar i) σ H Q -> tVar i σ H Q := by
 rintro σ H Q ⟨G, e, r, h⟩
 unfold dVar at h
 split at h
 ·rename_i w hw
  obtain ⟨v, h1, h2⟩ := r.fr hw
  exact ⟨v, h1, h G v H r (.refl _) h2⟩
 ·rename_i ws hw
  obtain ⟨v, G', h1, h2, h3, h4⟩ := r.freeze hw
  exact ⟨v, h1, h G' v H h4 h2 h3⟩
 ·exact h.elim
theorem dv (i : Nat) {x : Str} {pos : Pos} (hN : X.N[i]? = some x := by rfl) (hv : Vis X.env.scope x := by walk_at "1") (hd : (x == ("__debug__" : Str)) = false := by decide)
  (hcd : (x == ("__classdict__" : Str)) = false := by decide) : DE Z X EE (.Name x pos) (dVar i) := PE.mono (pv i hN hv hd hcd) lift_var
theorem lift_op {K : PySem.W.Frag} {r : R2} {f : W -> W -> Option W} (hf : Op2 K r f) : ∀ σ H Q, liftE K Z EE (dOp f da db) σ H Q -> tOp r (liftE K Z EE da) (liftE K Z EE db) σ H Q := by
 rintro σ H Q ⟨G, e, rel, h⟩
 simp only [dOp, R.holds_bind, ofOpt_holds] at h
 refine ⟨G, e, rel, h.imp (fun x e1 h G1 v1 H1 r1 s1 p1 => ?_) fun _ _ h => h⟩
 refine ⟨G1, e1, r1, h.imp (fun y e2 h G2 v2 H2 r2 s2 p2 => ?_) fun _ _ h => XH.trans s1 h⟩
 obtain ⟨w, hw, h⟩ := h
 exact hf G2 H2 v1 v2 x y w Q r2.sub (Rep.mono s2 x p1) p2 hw fun G' v H' g p => h G' v H' (r2.grow g) ((s1.trans s2).trans g.gg) p
theorem de_op {op : Operator} {r : R2} {f : W -> W -> Option W} (ho : OpR X (binaryOp op) r) (hf : Op2 X.K r f) (ha : DE Z X EE a da) (hb : DE Z X EE b db) : DE Z X EE (.BinOp a op b pos) (dOp f da db) := PE.mono (pe_op ho ha hb) (lift_op hf)
theorem de_cmp {op : CmpOp} {r : R2} {f : W -> W -> Option W} (ho : OpR X (compareOp op) r) (hf : Op2 X.K r f) (ha : DE Z X EE a da) (hb : DE Z X EE b db) (hm : behindInMarks op b = false) : DE Z X EE (.Compare a [op] [b] pos) (dOp f da db) := PE.mono (pe_cmpR ho ha hb hm) (lift_op hf)
theorem lift_test {K : PySem.W.Frag} {σ : St} {H : Hp} {Q : Bool -> Hp -> Prop} (h : liftT K Z EE (dTest da) σ H Q) : liftE K Z EE da σ H (fun x H' => ∃ k, x = .bl k /\ Q k H') := by
 obtain ⟨G, e, rel, h⟩ := h
 simp only [dTest, R.holds_bind] at h
 refine ⟨G, e, rel, h.imp (fun x e1 h G1 v1 H1 r1 s1 p1 => ?_) fun _ _ h => h⟩
 cases x with
 | bl k =>
  cases (show v1 = V.bl k from p1)
  exact ⟨k, rfl, h G1 H1 r1 s1⟩
 | _ => exact h.elim
theorem dt_cmp {op : CmpOp} {r : R2} {f : W -> W -> Option W} (ho : OpR X (compareOp op) r) (hf : Op2 X.K r f) (ha : DE Z X EE a da) (hb : DE Z X EE b db) (hm : behindInMarks op b = false) : DT Z X EE (.Compare a [op] [b] pos) (dTest (dOp f da db)) :=
 PT.mono (pt_cmpR ho ha hb hm) fun σ H Q h => lift_op hf σ H _ (lift_test h)
theorem tru_of {K : PySem.W.Frag} {G H : Hp} (s : Same G H) {w : W} {v : V} {k : Bool} (h : Rep K G w v) (e : truW w = some k) : TruV K v H k := by
 cases w with
 | non => cases (show v = .non from h); cases e; rfl
 | bl b => cases (show v = .bl b from h); cases e; rfl
 | int i => cases (show v = .int i from h); cases e; rfl
 | str x =>
  cases (show v = .str x from h)
  simp only [truW] at e
  split at e
  ·cases e; exact ⟨by rw [sizeLine_eq]; assumption, rfl⟩
  ·cases e
 | tup ws =>
  obtain ⟨p, xs, rfl, q, r⟩ := h
  cases e
  refine .inr (.inl ⟨xs, s.tup q, ?_⟩)
  have := r.length
  cases ws <;> cases xs <;> simp_all
 | lst ws =>
  obtain ⟨p, xs, rfl, q, r⟩ := h
  cases e
  refine .inl ⟨xs, s.seq q, ?_⟩
  have := r.length
  cases ws <;> cases xs <;> simp_all
 | exc _ => cases e
 | dic _ => cases e
theorem dt_val (ha : DE Z X EE a da) (he : ∀ whole, isTrue a X.env whole = (do let v <- whole; standAt a.pos; holding [v] (truthy v)) := by intro _; rfl) : DT Z X EE a (dTru da) := by
 refine PT.mono (pt_truth ha he) ?_
 rintro σ H Q ⟨G, e, rel, h⟩
 simp only [dTru, R.holds_bind, ofOpt_holds] at h
 refine ⟨G, e, rel, h.imp (fun x e1 h G1 v1 H1 r1 s1 p1 => ?_) fun _ _ h => h⟩
 obtain ⟨k, hk, h⟩ := h
 exact ⟨k, tru_of r1.sub p1 hk, h G1 H1 r1 s1⟩
theorem lift_and {K : PySem.W.Frag} : ∀ σ H Q, liftT K Z EE (dAnd ta tb) σ H Q -> tAnd (liftT K Z EE ta) (liftT K Z EE tb) σ H Q := by
 rintro σ H Q ⟨G, e, rel, h⟩
 simp only [dAnd, R.holds_bind] at h
 refine ⟨G, e, rel, h.imp (fun x e1 h G1 H1 r1 s1 => ?_) fun _ _ h => h⟩
 cases x with
 | true => exact ⟨G1, e1, r1, R.holds.imp (show (tb e1).holds _ _ from h) (fun y e2 h G2 H2 r2 s2 => h G2 H2 r2 (s1.trans s2)) fun _ _ h => XH.trans s1 h⟩
 | false => exact (show ∀ G' H', _ -> _ -> Q false H' from h) G1 H1 r1 s1
theorem lift_or {K : PySem.W.Frag} : ∀ σ H Q, liftT K Z EE (dOr ta tb) σ H Q -> tOr (liftT K Z EE ta) (liftT K Z EE tb) σ H Q := by
 rintro σ H Q ⟨G, e, rel, h⟩
 simp only [dOr, R.holds_bind] at h
 refine ⟨G, e, rel, h.imp (fun x e1 h G1 H1 r1 s1 => ?_) fun _ _ h => h⟩
 cases x with
 | false => exact ⟨G1, e1, r1, R.holds.imp (show (tb e1).holds _ _ from h) (fun y e2 h G2 H2 r2 s2 => h G2 H2 r2 (s1.trans s2)) fun _ _ h => XH.trans s1 h⟩
 | true => exact (show ∀ G' H', _ -> _ -> Q true H' from h) G1 H1 r1 s1
theorem dw_and1 (ha : DT Z X EE a ta) : DW Z X EE (.BoolOp .And [a] pos) ta := pw_and1 ha
theorem dw_or1 (ha : DT Z X EE a ta) : DW Z X EE (.BoolOp .Or [a] pos) ta := pw_or1 ha
theorem dw_and {rest : List Expr} (ha : DT Z X EE a ta) (hb : DW Z X EE (.BoolOp .And (b :: rest) pos) tb) : DW Z X EE (.BoolOp .And (a :: b :: rest) pos) (dAnd ta tb) := PW.mono (pw_and ha hb) lift_and
theorem dw_or {rest : List Expr} (ha : DT Z X EE a ta) (hb : DW Z X EE (.BoolOp .Or (b :: rest) pos) tb) : DW Z X EE (.BoolOp .Or (a :: b :: rest) pos) (dOr ta tb) := PW.mono (pw_or ha hb) lift_or
theorem dt_w (h : DW Z X EE a ta) : DT Z X EE a ta := PW.pt h
theorem dt_not (ha : DT Z X EE a ta) : DT Z X EE (.UnaryOp .Not a pos) (dNot ta) := by
 refine PT.mono (pt_not ha) ?_
 rintro σ H Q ⟨G, e, rel, h⟩
 simp only [dNot, R.holds_bind] at h
 exact ⟨G, e, rel, h.imp (fun x e1 h G1 H1 r1 s1 => h G1 H1 r1 s1) fun _ _ h => h⟩
theorem de_one {op} (h : DE Z X EE a da) : DE Z X EE (.BoolOp op [a] pos) da := pe_one h
theorem de_and {rest : List Expr} (ha : DE Z X EE a da) (hb : DE Z X EE (.BoolOp .And (b :: rest) pos) db) : DE Z X EE (.BoolOp .And (a :: b :: rest) pos) (dAndV da db) := by
 refine PE.mono (pe_and ha hb) ?_
 rintro σ H Q ⟨G, e, rel, h⟩
 simp only [dAndV, R.holds_bind] at h
 refine ⟨G, e, rel, h.imp (fun x e1 h G1 v1 H1 r1 s1 p1 => ?_) fun _ _ h => h⟩
 cases x with
 | bl k =>
  cases (show v1 = V.bl k from p1)
  cases k with
  | true => exact ⟨true, rfl, ⟨G1, e1, r1, R.holds.imp (show (db e1).holds _ _ from h) (fun y e2 h G2 v2 H2 r2 s2 p2 => h G2 v2 H2 r2 (s1.trans s2) p2) fun _ _ h => XH.trans s1 h⟩⟩
  | false => exact ⟨false, rfl, (show ∀ G' v H', _ -> _ -> v = V.bl false -> Q v H' from h) G1 _ H1 r1 s1 rfl⟩
 | _ => exact h.elim
theorem de_not (ha : DE Z X EE a da) : DE Z X EE (.UnaryOp .Not a pos) (dNotV da) := by
 refine PE.mono (pe_not ha) ?_
 rintro σ H Q ⟨G, e, rel, h⟩
 simp only [dNotV, R.holds_bind] at h
 refine ⟨G, e, rel, h.imp (fun x e1 h G1 v1 H1 r1 s1 p1 => ?_) fun _ _ h => h⟩
 cases x with
 | bl k =>
  cases (show v1 = V.bl k from p1)
  exact ⟨k, rfl, (show ∀ G' v H', _ -> _ -> v = V.bl (!k) -> Q v H' from h) G1 _ H1 r1 s1 rfl⟩
 | _ => exact h.elim
theorem de_if (hc : DT Z X EE c dc) (ha : DE Z X EE a da) (hb : DE Z X EE b db) : DE Z X EE (.IfExp c a b pos) (dIf dc da db) := by
 refine PE.mono (pe_ifExp hc ha hb) ?_
 rintro σ H Q ⟨G, e, rel, h⟩
 simp only [dIf, R.holds_bind] at h
 refine ⟨G, e, rel, h.imp (fun x e1 h G1 H1 r1 s1 => ?_) fun _ _ h => h⟩
 cases x with
 | true => exact ⟨G1, e1, r1, R.holds.imp (show (da e1).holds _ _ from h) (fun y e2 h G2 v2 H2 r2 s2 p2 => h G2 v2 H2 r2 (s1.trans s2) p2) fun _ _ h => XH.trans s1 h⟩
 | false => exact ⟨G1, e1, r1, R.holds.imp (show (db e1).holds _ _ from h) (fun y e2 h G2 v2 H2 r2 s2 p2 => h G2 v2 H2 r2 (s1.trans s2) p2) fun _ _ h => XH.trans s1 h⟩
theorem da_nil : DA Z X EE [] dNil := PA.mono pa_nil fun σ H Q ⟨G, e, r, h⟩ => h G [] H r (.refl _) rfl
theorem da_cons (ha : DE Z X EE e da) (hr : DA Z X EE es dA) (hs : starEach (e :: es) X.env = (false, eval e X.env) :: starEach es X.env := by rfl) : DA Z X EE (e :: es) (dCons da dA) := by
 refine PA.mono (pa_cons ha hr hs) ?_
 rintro σ H Q ⟨G, e, rel, h⟩
 simp only [dCons, R.holds_bind] at h
 refine ⟨G, e, rel, h.imp (fun x e1 h G1 v1 H1 r1 s1 p1 => ?_) fun _ _ h => h⟩
 refine ⟨G1, e1, r1, h.imp (fun xs e2 h G2 vs H2 r2 s2 p2 => ?_) fun _ _ h => XH.trans s1 h⟩
 exact h G2 (v1 :: vs) H2 r2 (s1.trans s2) ⟨v1, vs, rfl, Rep.mono s2 x p1, p2⟩
theorem de_tup {x1} (h : DA Z X EE es dA) : DE Z X EE (.Tuple es x1 pos) (dTup dA) := by
 refine PE.mono (pe_tup h) ?_
 rintro σ H Q ⟨G, e, rel, h⟩
 simp only [dTup, R.holds_bind] at h
 refine ⟨G, e, rel, h.imp (fun ws e1 h G1 vs H1 r1 s1 p1 => ?_) fun _ _ h => h⟩
 split at h
 ·rename_i hl
  refine ⟨by rw [p1.length, sizeLine_eq]; exact hl, fun p hp => ?_⟩
  have g := Grow.laid r1.sub hp (.tup vs)
  exact (show ∀ G' v H', _ -> _ -> Rep X.K G' (.tup ws) v -> Q v H' from h) _ (.ref p) _ (r1.grow g) (s1.trans g.gg) ⟨p, vs, rfl, SqT.of upd_same, Reps.mono g.gg ws p1⟩
 ·exact h.elim
theorem free_new {K : PySem.W.Frag} {G H : Hp} {σ : St} {e : List S} (r : Rel K Z G σ H e) {p : Addr} (hp : H p = none) : Free σ e p := fun j b ws h q => by
 obtain ⟨a, xs, h1, h2, _⟩ := r.own h
 rw [q] at h1
 cases h1
 rw [hp] at h2
 cases h2
theorem zh_new {K : PySem.W.Frag} {G H : Hp} {σ : St} {e : List S} (r : Rel K Z G σ H e) {p : Addr} (hp : H p = none) : Z.H p = none := by
 cases q : Z.H p with
 | none => rfl
 | some o =>
  by_cases hi : p ∈ Z.io
  ·exact absurd hp (r.ion p hi)
  ·rw [r.ent p o q hi] at hp; cases hp
theorem new_list {K : PySem.W.Frag} {G H : Hp} {σ : St} {e : List S} {ws : List W} {vs : List V} {Q : VK} {G0 : Hp} (r : Rel K Z G σ H e) (s : Same G0 G) (p1 : Reps K G ws vs)
  (h : ∀ G' a xs H', Rel K Z G' σ H' e -> Same G0 G' -> H' a = some (.lst xs) -> G' a = none -> Z.H a = none -> Free σ e a -> Reps K G' ws xs -> Q (.ref a) H') : ∀ p, H p = none -> Q (.ref p) (upd H p (.lst vs)) := fun p hp => by
 have g := Grow.hid r.sub hp (.lst vs)
 exact h G p vs _ (r.grow g) s upd_same (r.sub.free hp) (zh_new r hp) (free_new r hp) p1
theorem df_lst (h : DA Z X EE es dA) : DF Z X EE (.List es pos) (dLst dA) := by
 refine PE.mono (pe_lst h) ?_
 rintro σ H Q ⟨G, e, rel, h⟩
 simp only [dLst, R.holds_bind] at h
 refine ⟨G, e, rel, h.imp (fun ws e1 h G1 vs H1 r1 s1 p1 => ?_) fun _ _ h => h⟩
 split at h
 ·rename_i hl
  exact ⟨by rw [p1.length, sizeLine_eq]; exact hl, new_list r1 s1 p1 h⟩
 ·exact h.elim
theorem Rel.seen {K : PySem.W.Frag} {G H : Hp} {σ : St} {e : List S} (r : Rel K Z G σ H e) {a : Addr} {xs : List V} (h : H a = some (.lst xs)) (hg : G a = none) (hz : Z.H a = none) (hf : Free σ e a) : Same G (upd G a (.lst xs)) /\ Rel K Z (upd G a (.lst xs)) σ H e := by
 have sg : Same G (upd G a (.lst xs)) := same_upd hg _
 refine ⟨sg, ⟨fun c o z => ?_, fun j s z => ?_, r.len, r.dis, r.ent, r.ion, fun c z => ?_⟩⟩
 ·by_cases hc : c = a
  ·subst hc; rw [upd_same] at z; cases z; exact h
  ·rw [upd_ne hc] at z; exact r.sub c o z
 ·have y := r.slot j s z
  cases s with
  | no => trivial
  | fr w =>
   obtain ⟨u, y1, y2⟩ := y
   exact ⟨u, y1, Rep.mono sg w y2⟩
  | own b2 w2 =>
   obtain ⟨c, ys, y1, y2, y3, y4, y5⟩ := y
   refine ⟨c, ys, y1, y2, ?_, y4, Reps.mono sg w2 y5⟩
   rw [upd_ne]; exact y3
   rintro rfl
   obtain ⟨c', _, z1, _⟩ := r.own z
   rw [z1] at y1
   cases y1
   exact hf j b2 w2 z z1
  | dic kvs =>
   obtain ⟨c, y1, y2, y3, y4⟩ := y
   refine ⟨c, y1, y2, ?_, y4⟩
   rw [upd_ne (ne_of y2 h (fun z => nomatch z))]; exact y3
 ·by_cases hc : c = a
  ·subst hc; exact absurd hz z
  ·rw [upd_ne hc]; exact r.gen c z
theorem de_fz (h : DF Z X EE e dA) : DE Z X EE e (dFz dA) := by
 refine PE.mono h ?_
 rintro σ H Q ⟨G, e, rel, h⟩
 simp only [dFz, R.holds_bind] at h
 refine ⟨G, e, rel, h.imp (fun ws e1 h G1 a xs H1 r1 s1 q1 q2 q3 q4 p1 => ?_) fun _ _ h => h⟩
 obtain ⟨sg, rg⟩ := r1.seen q1 q2 q3 q4
 exact (show ∀ G' v H', _ -> _ -> Rep X.K G' (.lst ws) v -> Q v H' from h) _ (.ref a) _ rg (s1.trans sg) ⟨a, xs, rfl, SqL.of upd_same, Reps.mono sg ws p1⟩
theorem lift_fn {K : PySem.W.Frag} {r : List V -> Hp -> VK -> Prop} {f : List W -> Option W} (hf : OpN K r f) : ∀ σ H Q, liftE K Z EE (dFn f dA) σ H Q -> tCB r (liftA K Z EE dA) σ H Q := by
 rintro σ H Q ⟨G, e, rel, h⟩
 simp only [dFn, R.holds_bind, ofOpt_holds] at h
 refine ⟨G, e, rel, h.imp (fun ws e1 h G1 vs H1 r1 s1 p1 => ?_) fun _ _ h => h⟩
 obtain ⟨w, hw, h⟩ := h
 exact hf G1 H1 vs ws w Q r1.sub p1 hw fun G' v H' g p => h G' v H' (r1.grow g) (s1.trans g.gg) p
theorem de_blt {x : Str} {id : String} {p : Pos} {r : List V -> Hp -> VK -> Prop} {f : List W -> Option W} (hc : CallR X (.builtin id) r) (hf : OpN X.K r f) (hv : bootBuiltins x = some (.builtin id)) (hm : X.mg x = none) (ha : DA Z X EE (e :: es) dA) (hg : Gl X x := by rfl) (hn : x ≠ "__name__" := by decide) (hdb : (x == ("__debug__" : Str)) = false := by decide)
  (he : starEach (e :: es) X.env = (false, eval e X.env) :: starEach es X.env := by rfl) (hpl : (backTo pos (starEach es X.env)).any (·.1) = false := by rfl) : DE Z X EE (.Call (.Name x p) (e :: es) [] pos) (dFn f dA) :=
 PE.mono (pe_callB hc hg hm hv ha hn hdb he hpl) (lift_fn hf)
theorem de_bty {x : Str} {T : String} {p : Pos} {r : List V -> Hp -> VK -> Prop} {f : List W -> Option W} (hc : CallR X (.type T) r) (hf : OpN X.K r f) (hv : bootBuiltins x = some (.type T)) (hm : X.mg x = none) (ha : DA Z X EE (e :: es) dA) (hg : Gl X x := by rfl) (hn : x ≠ "__name__" := by decide) (hdb : (x == ("__debug__" : Str)) = false := by decide)
  (he : starEach (e :: es) X.env = (false, eval e X.env) :: starEach es X.env := by rfl) (hpl : (backTo pos (starEach es X.env)).any (·.1) = false := by rfl) : DE Z X EE (.Call (.Name x p) (e :: es) [] pos) (dFn f dA) :=
 PE.mono (pe_callTy hc hg hm hv ha hn hdb he hpl) (lift_fn hf)
end
end D
set_option Elab.async false
set_option linter.all false
set_option maxRecDepth 100000
set_option maxHeartbeats 1000000
namespace D
open PySem L2
noncomputable def dNx : List S -> SR := fun e => .nx e
noncomputable def dSeq (a b : List S -> SR) : List S -> SR := fun e => match a e with
 | .nx e' => b e'
 | r => r
noncomputable def R.stm {α : Type} (r : R α) (k : α -> List S -> SR) : SR := match r with
 | .ok a e => k a e
 | .ex c e => .ex c e
 | .no => .no
noncomputable def dDrop (d : Den W) : List S -> SR := fun e => (d e).stm fun _ e' => .nx e'
noncomputable def dRet (d : Den W) : List S -> SR := fun e => (d e).stm fun w e' => .rt (.fr w) e'
noncomputable def dRetF (d : Den (List W)) : List S -> SR := fun e => (d e).stm fun ws e' => .rt (.own false ws) e'
noncomputable def dRetO (i : Nat) : List S -> SR := fun e => match e[i]? with
 | some (.own false ws) => .rt (.own false ws) e
 | some (.fr w) => .rt (.fr w) e
 | _ => .no
noncomputable def dIfS (c : Den Bool) (a b : List S -> SR) : List S -> SR := fun e => (c e).stm fun x e1 => if x = true then a e1 else b e1
noncomputable def dSet (i : Nat) (d : Den W) : List S -> SR := fun e => (d e).stm fun w e' => .nx (e'.set i (.fr w))
noncomputable def dSetO (i : Nat) (d : Den (List W)) : List S -> SR := fun e => (d e).stm fun ws e' => .nx (e'.set i (.own false ws))
noncomputable def forD (i : Nat) (b : List S -> SR) : List W -> List S -> SR
 | [], e => .nx e
 | w :: ws, e => match b (e.set i (.fr w)) with
  | .nx e' => forD i b ws e'
  | .ct e' => forD i b ws e'
  | .bk e' => .nx e'
  | .rt s e' => .rt s e'
  | .ex c e' => .ex c e'
  | .no => .no
noncomputable def seqW : W -> Option (List W)
 | .tup ws => some ws
 | .lst ws => some ws
 | _ => none
noncomputable def dFor (i : Nat) (d : Den W) (b : List S -> SR) : List S -> SR := fun e => (d e).stm fun w e1 => match seqW w with
 | some ws => forD i b ws e1
 | none => .no
noncomputable def rangeW (lo hi : Int) : List W := (List.range (hi - lo).toNat).map fun k => .int (lo + (k : Nat))
noncomputable def okI (j : Int) : Bool := Nat.ble j.natAbs 4611686018427387903
theorem okI_to {j : Int} (h : okI j = true) : -(2 ^ 62) <= j /\ j < 2 ^ 62 := by
 have z : j.natAbs <= 4611686018427387903 := Nat.le_of_ble_eq_true h
 have e : (2 : Int) ^ 62 = 4611686018427387904 := by decide
 rw [e]
 omega
theorem okI_of {j : Int} (h1 : -1000000000 <= j) (h2 : j <= 1000000000) : okI j = true := Nat.ble_eq_true_of_le (by omega)
noncomputable def rng1 : List W -> Option (List W)
 | [.int j] => if okI j = true then some (rangeW 0 j) else none
 | _ => none
noncomputable def rng2 : List W -> Option (List W)
 | [.int i, .int j] => if okI i = true /\ okI j = true then some (rangeW i j) else none
 | _ => none
noncomputable def dForR (i : Nat) (g : List W -> Option (List W)) (d : Den (List W)) (b : List S -> SR) : List S -> SR := fun e => (d e).stm fun w e1 => match g w with
 | some ws => forD i b ws e1
 | none => .no
section
variable {X : Cx} {Z : Zt} {EE : St -> XK} {a c e tg : Expr} {es : List Expr} {st : Stmt} {rest body : List Stmt} {d : Den W} {dc : Den Bool} {dA : Den (List W)} {s1 s2 : List S -> SR} {pos : Pos}
theorem PostS.trans {K : PySem.W.Frag} {D : Ends} {G G1 : Hp} (s : Same G G1) : ∀ {r : SR}, PostS K Z EE D G r -> PostS K Z EE D G1 r
 | .nx e', h => fun G' σ' H' r q => h G' σ' H' r (s.trans q)
 | .bk e', h => fun G' σ' H' r q => h G' σ' H' r (s.trans q)
 | .ct e', h => fun G' σ' H' r q => h G' σ' H' r (s.trans q)
 | .rt w e', h => fun G' σ' v H' r q => h G' σ' v H' r (s.trans q)
 | .ex c e', h => fun G' σ' H' r q => h G' σ' H' r (s.trans q)
 | .no, h => h
theorem post_stm {K : PySem.W.Frag} {D : Ends} {G : Hp} {α : Type} {r : R α} {k : α -> List S -> SR} {σ : St} (h : PostS K Z EE D G (r.stm k)) : r.holds (fun a e' => PostS K Z EE D G (k a e')) (XH K Z EE σ G) := by
 cases r with
 | ok a e => exact h
 | ex c e => exact fun G' H' r q => h G' σ H' r q
 | no => exact h
theorem dss_nil : DSs Z X EE [] dNx := PSs.mono pss_nil fun D σ H ⟨G, e, r, h⟩ => h G σ H r (.refl _)
theorem lift_seq {K : PySem.W.Frag} : ∀ D σ H, liftS K Z EE (dSeq s1 s2) D σ H -> tSeq (liftS K Z EE s1) (liftS K Z EE s2) D σ H := by
 rintro D σ H ⟨G, e, rel, h⟩
 refine ⟨G, e, rel, ?_⟩
 unfold dSeq at h
 cases q : s1 e with
 | nx e' => rw [q] at h; exact fun G' σ' H' r s => ⟨G', e', r, PostS.trans s h⟩
 | bk e' => rw [q] at h; exact h
 | ct e' => rw [q] at h; exact h
 | rt w e' => rw [q] at h; exact h
 | ex c e' => rw [q] at h; exact h
 | no => rw [q] at h; exact h
theorem dss_cons (h1 : DS Z X EE st s1) (h2 : DSs Z X EE rest s2) : DSs Z X EE (st :: rest) (dSeq s1 s2) := PSs.mono (pss_cons h1 h2) lift_seq
theorem dss_one (h1 : DS Z X EE st s1) : DSs Z X EE [st] s1 := pss_one h1
theorem ds_expr (he : DE Z X EE e d) (hs : swapsWith e none pos.line X.env = pure false := by rfl) : DS Z X EE (.Expr e pos) (dDrop d) := by
 refine PS.mono (ps_expr he hs) ?_
 rintro D σ H ⟨G, e, rel, h⟩
 exact ⟨G, e, rel, (post_stm h).imp (fun w e1 h G1 v1 H1 r1 s1 p1 => h G1 σ H1 r1 s1) fun _ _ h => h⟩
theorem ds_ret (he : DE Z X EE e d) : DS Z X EE (.Return (some e) pos) (dRet d) := by
 refine PS.mono (ps_ret he) ?_
 rintro D σ H ⟨G, e, rel, h⟩
 exact ⟨G, e, rel, (post_stm h).imp (fun w e1 h G1 v1 H1 r1 s1 p1 => h G1 σ v1 H1 r1 s1 ⟨v1, rfl, p1⟩) fun _ _ h => h⟩
theorem ds_retF (he : DF Z X EE e dA) : DS Z X EE (.Return (some e) pos) (dRetF dA) := by
 refine PS.mono (ps_ret he) ?_
 rintro D σ H ⟨G, e, rel, h⟩
 exact ⟨G, e, rel, (post_stm h).imp (fun w e1 h G1 a xs H1 r1 s1 q1 q2 q3 q4 p1 => h G1 σ (.ref a) H1 r1 s1 ⟨a, xs, rfl, q1, q2, q3, p1⟩) fun _ _ h => h⟩
theorem ds_retO (i : Nat) {x : Str} {p : Pos} (hN : X.N[i]? = some x := by rfl) (hv : Vis X.env.scope x := by walk_at "1") (hd : (x == ("__debug__" : Str)) = false := by decide)
  (hcd : (x == ("__classdict__" : Str)) = false := by decide) : DS Z X EE (.Return (some (.Name x p)) pos) (dRetO i) := by
 refine PS.mono (ps_ret (pv i hN hv hd hcd)) ?_
 rintro D σ H ⟨G, e, rel, h⟩
 unfold dRetO at h
 split at h
 ·rename_i ws hw
  obtain ⟨a, xs, h1, h2, h3, h4, h5⟩ := rel.own hw
  exact ⟨.ref a, h1, h G σ _ H rel (.refl _) ⟨a, xs, rfl, h2, h3, h4, h5⟩⟩
 ·rename_i w hw
  obtain ⟨v, h1, h2⟩ := rel.fr hw
  exact ⟨v, h1, h G σ _ H rel (.refl _) ⟨v, rfl, h2⟩⟩
 ·exact h.elim
theorem lift_ifS {K : PySem.W.Frag} : ∀ D σ H, liftS K Z EE (dIfS dc s1 s2) D σ H -> tIfS (liftT K Z EE dc) (liftS K Z EE s1) (liftS K Z EE s2) D σ H := by
 rintro D σ H ⟨G, e, rel, h⟩
 refine ⟨G, e, rel, (post_stm h).imp (fun x e1 h G1 H1 r1 q1 => ?_) fun _ _ h => h⟩
 cases x with
 | true => exact ⟨G1, e1, r1, PostS.trans q1 h⟩
 | false => exact ⟨G1, e1, r1, PostS.trans q1 h⟩
theorem ds_if {p q : List Stmt} (hc : DT Z X EE c dc) (ha : DSs Z X EE p s1) (hb : DSs Z X EE q s2) : DS Z X EE (.If c p q pos) (dIfS dc s1 s2) := PS.mono (ps_if hc ha hb) lift_ifS
theorem ds_set (i : Nat) {x : Str} {pos' : Pos} (hN : X.N.Nodup) (he : DE Z X EE e d) (hi : X.N[i]? = some x := by rfl) (hx : Loc X.env.scope x := by walk_at "3") (hs : swapsWith e (some (.Name x pos')) pos.line X.env = pure false := by rfl) (hf : X.fn x = true \/ X.env.scope.names.lookup x = some .local := by walk_at "2") :
  DS Z X EE (.Assign [.Name x pos'] e pos) (dSet i d) := by
 refine PS.mono (ps_st i hN he hi hx hs hf) ?_
 rintro D σ H ⟨G, e, rel, h⟩
 exact ⟨G, e, rel, (post_stm h).imp (fun w e1 h G1 v1 H1 r1 q1 p1 => h G1 _ H1 (r1.set p1) q1) fun _ _ h => h⟩
theorem ds_own (i : Nat) {x : Str} {pos' : Pos} (hN : X.N.Nodup) (he : DF Z X EE e dA) (hi : X.N[i]? = some x := by rfl) (hx : Loc X.env.scope x := by walk_at "3") (hs : swapsWith e (some (.Name x pos')) pos.line X.env = pure false := by rfl) (hf : X.fn x = true \/ X.env.scope.names.lookup x = some .local := by walk_at "2") :
  DS Z X EE (.Assign [.Name x pos'] e pos) (dSetO i dA) := by
 refine PS.mono (ps_st i hN he hi hx hs hf) ?_
 rintro D σ H ⟨G, e, rel, h⟩
 exact ⟨G, e, rel, (post_stm h).imp (fun w e1 h G1 a xs H1 r1 s1 q1 q2 q3 q4 p1 => h G1 _ H1 (r1.setOwn q1 q2 q3 q4 p1) s1) fun _ _ h => h⟩
theorem for_turn {K : PySem.W.Frag} {i : Nat} {D : Ends} {G G1 : Hp} {σ : St} {H : Hp} {e1 : List S} {w : W} {ws : List W} {x : V} {N : St -> Hp -> Prop} (r1 : Rel K Z G1 σ H e1) (q1 : Same G G1) (p : Rep K G1 w x) (h : PostS K Z EE D G (forD i s1 (w :: ws) e1))
  (hN : ∀ G' σ' H' e', Rel K Z G' σ' H' e' -> Same G G' -> PostS K Z EE D G (forD i s1 ws e') -> N σ' H') : gName i x σ H fun σ2 H2 => liftS K Z EE s1 { D with nx := N, ct := N, bk := D.nx } σ2 H2 := by
 refine ⟨G1, e1.set i (.fr w), r1.set p, ?_⟩
 unfold forD at h
 cases q : s1 (e1.set i (.fr w)) with
 | nx e' => rw [q] at h; exact fun G' σ' H' r s => hN G' σ' H' e' r (q1.trans s) h
 | ct e' => rw [q] at h; exact fun G' σ' H' r s => hN G' σ' H' e' r (q1.trans s) h
 | bk e' => rw [q] at h; exact fun G' σ' H' r s => h G' σ' H' r (q1.trans s)
 | rt w e' => rw [q] at h; exact fun G' σ' v H' r s => h G' σ' v H' r (q1.trans s)
 | ex c e' => rw [q] at h; exact fun G' σ' H' r s => h G' σ' H' r (q1.trans s)
 | no => rw [q] at h; exact h
def iSeq (K : PySem.W.Frag) (tl : TE) : TI := fun σ H R => tl σ H fun x H1 => ∃ a, x = .ref a /\ (((∃ xs, SqL K H1 a xs) /\ R (Itl K a) H1) \/ ((∃ xs, SqT K H1 a xs) /\ R (Itt K a) H1))
theorem pi_seq {l : Expr} {tl : TE} (hl : PE X l tl) : PI X tg l (iSeq X.K tl) := by
 intro pins s σ H R I h
 refine thn (hl pins s σ H _ I h) fun v s1 ⟨x, H1, I1, r1, q1⟩ => ?_
 obtain ⟨a, e, q⟩ := q1
 subst e
 cases r1
 rcases q with ⟨⟨xs, hq⟩, q⟩ | ⟨⟨xs, hq⟩, q⟩
 ·obtain ⟨its, rv, p, hz⟩ := I1.list hq
  refine wpAny_pyIter_list p.isList ?_
  refine ⟨s1.heap.objs.size, [s1.heap.objs.size], _, _, H1, rfl, I1.kept (t' := s1.toks) fun b o e => Heap.get?_push_of_some _ e, turn_list a _, ⟨_, Heap.get?_push_size _ rfl, rfl, rfl⟩, fun b hb => ?_, q⟩
  have e : b = s1.heap.objs.size := by simpa using hb
  subst e
  exact I1.fpOk (Nat.le_refl _) (I1.hok.fresh (Nat.le_refl _))
 ·obtain ⟨its, rv, p, hz⟩ := I1.tuple hq
  refine wpAny_pyIter_tuple (show s1.heap.IsTuple a its.toArray from p) ?_
  refine ⟨s1.heap.objs.size, [s1.heap.objs.size], _, _, H1, rfl, I1.kept (t' := s1.toks) fun b o e => Heap.get?_push_of_some _ e, turn_tuple a _, ⟨_, Heap.get?_push_size _ rfl, rfl, rfl⟩, fun b hb => ?_, q⟩
  have e : b = s1.heap.objs.size := by simpa using hb
  subst e
  exact I1.fpOk (Nat.le_refl _) (I1.hok.fresh (Nat.le_refl _))
theorem drop_cons {α : Type} {ws : List α} {k : Nat} {w : α} (h : ws[k]? = some w) : ws.drop k = w :: ws.drop (k + 1) := by
 obtain ⟨hk, rfl⟩ := List.getElem?_eq_some_iff.mp h
 exact List.drop_eq_getElem_cons hk
theorem for_seq {K : PySem.W.Frag} {i : Nat} {D : Ends} {G1 : Hp} {σ : St} {H1 : Hp} {e1 : List S} {ws : List W} {xs : List V} (r1 : Rel K Z G1 σ H1 e1) (rp : Reps K G1 ws xs) (h : PostS K Z EE D G1 (forD i s1 ws e1)) (SQ : Hp -> Prop) (hSQ : ∀ G' H', Same G1 G' -> Same G' H' -> SQ H') :
  ∃ Pv : Nat -> St -> Hp -> Prop, Pv 0 σ H1 /\ (∀ j σ H, j <= xs.length -> Pv j σ H -> SQ H) /\ (∀ (j : Nat) x σ H, xs[j]? = some x -> Pv j σ H -> gName i x σ H fun σ2 H2 => liftS K Z EE s1 { D with nx := Pv (j + 1), ct := Pv (j + 1), bk := D.nx } σ2 H2) /\ ∀ σ H, Pv xs.length σ H -> D.nx σ H := by
 refine ⟨fun j σ' H' => ∃ G' e', Rel K Z G' σ' H' e' /\ Same G1 G' /\ PostS K Z EE D G1 (forD i s1 (ws.drop j) e'), ⟨G1, e1, r1, .refl _, h⟩, ?_, ?_, ?_⟩
 ·rintro j σ' H' _ ⟨G', e', r', s', _⟩
  exact hSQ G' H' s' r'.sub
 ·rintro j x σ' H' hx ⟨G', e', r', s', h⟩
  obtain ⟨w, hw, pw⟩ := rp.getV hx
  rw [drop_cons hw] at h
  exact for_turn r' s' (Rep.mono s' w pw) h fun G'' σ'' H'' e'' r'' s'' h'' => ⟨G'', e'', r'', s'', h''⟩
 ·rintro σ' H' ⟨G', e', r', s', h⟩
  rw [rp.length, List.drop_length] at h
  exact h G' σ' H' r' s'
theorem reps_range {K : PySem.W.Frag} {G : Hp} {lo hi : Int} : Reps K G (rangeW lo hi) ((List.range (hi - lo).toNat).map fun k => V.int (lo + (k : Nat))) := by
 unfold rangeW
 generalize List.range (hi - lo).toNat = l
 induction l with
 | nil => rfl
 | cons k l ih => exact ⟨_, _, rfl, rfl, ih⟩
theorem for_rng {K : PySem.W.Frag} {i : Nat} {D : Ends} {G1 : Hp} {σ : St} {H1 : Hp} {e1 : List S} {lo hi : Int} (r1 : Rel K Z G1 σ H1 e1) (h : PostS K Z EE D G1 (forD i s1 (rangeW lo hi) e1)) :
  ∃ W : Nat -> Nat -> St -> Hp -> Prop, (∃ m, W 0 m σ H1) /\ ∀ j m σ H, W j m σ H ->
   ((Itr lo (hi - lo).toNat).stop j H /\ D.nx σ H) \/ ((Itr lo (hi - lo).toNat).go j H /\ ∃ N : St -> Hp -> Prop, (∀ σ' H', N σ' H' -> ∃ m', m' < m /\ W (j + 1) m' σ' H') /\ ∀ x H', (Itr lo (hi - lo).toNat).yld j H x H' -> gName i x σ H' fun σ2 H2 => liftS K Z EE s1 { D with nx := N, ct := N, bk := D.nx } σ2 H2) := by
 obtain ⟨Pv, h0, h1, h2, h3⟩ := for_seq (i := i) (D := D) r1 (reps_range (lo := lo) (hi := hi)) h (fun _ => True) (fun _ _ _ _ => trivial)
 refine for_range Pv h0 (fun j σ' H' hj p => h2 j _ σ' H' ?_ p) (fun σ' H' p => h3 σ' H' (by simpa using p))
 simp [hj]
theorem ds_for1 (i : Nat) {x : Str} {p p1 p2 : Pos} (hN : X.N.Nodup) (hp : PassesOwn (model X.prog X.w) X.A X.env X.xe) (hc : X.calm = true) (hm : X.mg "range" = none) (ha : DA Z X EE [a] dA) (hb : DSs Z X EE body s1)
  (hi : X.N[i]? = some x := by rfl) (hx : Loc X.env.scope x := by walk_at "3") (hf : X.fn x = true \/ X.env.scope.names.lookup x = some .local := by walk_at "2") (hg : Gl X "range" := by rfl) (hs1 : starEach [a] X.env = [(false, eval a X.env)] := by rfl) (hs : ∀ x, foldedSetIterable (.Call (.Name "range" p1) [a] [] p2) X.env x = pure x := by intro _; rfl) :
  DS Z X EE (.For (.Name x p) (.Call (.Name "range" p1) [a] [] p2) body [] pos) (dForR i rng1 dA s1) := by
 refine PS.mono (ps_for hp hc (pi_range1 hg hm ha hs1) (pg_nm i hN hi hx hf) hb hs) ?_
 rintro D σ H ⟨G, e, rel, h⟩
 refine ⟨G, e, rel, (post_stm h).imp (fun ws e1 h G1 vs H1 r1 q1 p1 => ?_) fun _ _ h => h⟩
 unfold rng1 at h
 split at h
 ·rename_i hh
  split at hh
  ·rename_i j
   split at hh
   ·rename_i hj
    cases hh
    obtain ⟨y, r, rfl, e1, e2⟩ := p1
    cases (show y = V.int j from e1)
    cases (show r = [] from e2)
    refine ⟨j, rfl, (okI_to hj).1, (okI_to hj).2, ?_⟩
    have z := for_rng (i := i) (D := D) r1 (PostS.trans q1 h)
    rwa [Int.sub_zero] at z
   ·cases hh
  ·cases hh
 ·exact h.elim
end
end D
set_option Elab.async false
set_option linter.all false
set_option maxRecDepth 100000
set_option maxHeartbeats 1000000
namespace D
open PySem L2
open PyProof.Rows (envOfC)
inductive FR where
 | ok (s : S) | ex (c : Value) | no
noncomputable def spF (K : PySem.W.Frag) (F : List W -> FR) : Sp := fun vs H Q E => ∃ G ws, Same G H /\ Reps K G ws vs /\ match F ws with
 | .ok s => ∀ G' H' v, Grow G H G' H' -> SlotOk K ⟨H, G, []⟩ G' H' s (some v) -> Q v H'
 | .ex c => ∀ H', Same H H' -> E c none H'
 | .no => False
noncomputable def SR.fn : SR -> FR
 | .nx _ => .ok (.fr .non)
 | .rt s _ => .ok s
 | .ex c _ => .ex c
 | _ => .no
noncomputable def init (n : Nat) (ws : List W) : List S := ws.map .fr ++ List.replicate (n - ws.length) .no
theorem rel_init {K : PySem.W.Frag} {G H : Hp} {N : List Str} {ws : List W} {vs : List V} (s : Same G H) (r : Reps K G ws vs) : Rel K ⟨H, G, []⟩ G (L2.start N vs) H (init N.length ws) := by
 have hl := r.length
 have hfr : ∀ (i : Nat) (s : S), (init N.length ws)[i]? = some s -> (s = .no) \/ ∃ w, s = .fr w /\ ws[i]? = some w := fun i s h => by
  unfold init at h
  rw [List.getElem?_append] at h
  split at h
  ·rw [List.getElem?_map] at h
   obtain ⟨w, h1, rfl⟩ := Option.map_eq_some_iff.mp h
   exact .inr ⟨w, rfl, h1⟩
  ·rw [List.getElem?_replicate] at h
   split at h
   ·cases h; exact .inl rfl
   ·cases h
 refine ⟨s, fun i t h => ?_, ?_, fun i j b b' w1 w2 a h1 h2 _ _ => ?_, fun a o h _ => h, (fun a h => nomatch h), fun a _ => rfl⟩
 ·rcases hfr i t h with rfl | ⟨w, rfl, h1⟩
  ·trivial
  ·obtain ⟨v, h2, h3⟩ := r.get h1
   refine ⟨v, ?_, h3⟩
   have hi : i < vs.length := (List.getElem?_eq_some_iff.mp h2).1
   unfold L2.start
   rw [List.getElem?_append_left (by simpa using hi), List.getElem?_map, h2]
   rfl
 ·unfold init L2.start
  simp [hl]
 ·rcases hfr i _ h1 with z | ⟨w, z, _⟩ <;> cases z
theorem Rel.toGrow {K : PySem.W.Frag} {G G' H H' : Hp} {σ : St} {e : List S} (r : Rel K ⟨H, G, []⟩ G' σ H' e) (s : Same G G') : Grow G H G' H' :=
 ⟨fun a o h => r.ent a o h (by simp), s, r.sub, fun a h => r.gen a h⟩
section
variable {P : Program} {w : World} {K : PySem.W.Frag} {mg : Str -> Option Value} {base : Heap}
theorem spF_ne {F : List W -> FR} {vs : List V} {H : Hp} {Q : VK} {E : XK} (h : spF K F vs H Q E) : ∃ G ws, F ws ≠ .no /\ Reps K G ws vs := by
 obtain ⟨G, ws, _, r, h⟩ := h
 refine ⟨G, ws, fun z => ?_, r⟩
 rw [z] at h
 exact h
theorem post_fn {F : List W -> FR} {G H : Hp} {ws : List W} {Q : VK} {E : XK} {r : SR} (he : r.fn = F ws) (h : match F ws with
  | .ok s => ∀ G' H' v, Grow G H G' H' -> SlotOk K ⟨H, G, []⟩ G' H' s (some v) -> Q v H'
  | .ex c => ∀ H', Same H H' -> E c none H'
  | .no => False) : PostS K ⟨H, G, []⟩ (fun _ => E) { nx := fun _ H' => Q .non H', rt := Q } G r := by
 rw [<- he] at h
 cases r with
 | nx e => exact fun G' σ' H' r s => h G' H' .non (r.toGrow s) ⟨.non, rfl, rfl⟩
 | rt s e => exact fun G' σ' v H' r q p => h G' H' v (r.toGrow q) p
 | ex c e => exact fun G' σ' H' r s => h H' (r.toGrow s).hh
 | bk e => exact h.elim
 | ct e => exact h.elim
 | no => exact h.elim
theorem con {x : Str} {st : Stmt} {N ps : List Str} {k : Nat} {F : List W -> FR} (A : At K mg x st ps) (sc : FnScope N ps (defScope st)) (len : ∀ ws, F ws ≠ .no -> ws.length = ps.length)
  (hb : ∀ ws, F ws ≠ .no -> ∀ (f : Addr) (cdv : Value) (A : Around) (outer : List Env) (s : Shared) (H : Hp) (E : XK) (Z : Zt), Room k (A.deeper (envOfC x (defScope st) s.heap.objs.size f cdv)) ->
   ∃ d, DSs Z (cxOf (CX1 P w) P w K mg base N x (defScope st) f cdv A outer s H E) (fun _ => E) (defBody st) d /\ (d (init N.length ws)).fn = F ws) : Cal P w K mg base (k + 1) x ps (spF K F) := by
 refine A.cal sc (fun vs H Q E h => ?_) (fun f cdv A outer s H vs Q E hr h => ?_)
 ·obtain ⟨G, ws, hn, r⟩ := spF_ne h
  rw [r.length]; exact len ws hn
 ·have hn0 := h
  obtain ⟨G, ws, sg, rp, h⟩ := h
  have hn : F ws ≠ .no := fun z => by rw [z] at h; exact h
  obtain ⟨d, hd, he⟩ := hb ws hn f cdv A outer s H E ⟨H, G, []⟩ hr
  exact ⟨_, hd, G, init N.length ws, rel_init sg rp, post_fn he h⟩
theorem conH {x : Str} {st : Stmt} {N ps : List Str} {k : Nat} {F : List W -> FR} (A : At K mg x st ps) (sc : FnScope N ps (defScope st)) (len : ∀ ws, F ws ≠ .no -> ws.length = ps.length)
  (hb : ∀ ws, F ws ≠ .no -> ∀ (f : Addr) (cdv : Value) (A : Around) (outer : List Env) (s : Shared) (H : Hp) (Z : Zt), RoomH k (A.deeper (envOfC x (defScope st) s.heap.objs.size f cdv)) ->
   ∃ d, DSs Z (cxH P w K mg base N x (defScope st) f cdv A outer s H) (fun _ => E0) (defBody st) d /\ (d (init N.length ws)).fn = F ws) : CalH P w K mg base (k + 1) x ps (spF K F) := by
 refine A.calH sc (fun vs H Q E h => ?_) (fun f cdv A outer s H vs Q hr h => ?_)
 ·obtain ⟨G, ws, hn, r⟩ := spF_ne h
  rw [r.length]; exact len ws hn
 ·obtain ⟨G, ws, sg, rp, h⟩ := h
  have hn : F ws ≠ .no := fun z => by rw [z] at h; exact h
  obtain ⟨d, hd, he⟩ := hb ws hn f cdv A outer s H ⟨H, G, []⟩ hr
  exact ⟨_, hd, G, init N.length ws, rel_init sg rp, post_fn he h⟩
end
noncomputable def dCall (F : List W -> FR) (dA : Den (List W)) : Den W := fun e => (dA e).bind fun ws e1 => match F ws with
 | .ok (.fr w) => .ok w e1
 | .ok (.own false ws') => .ok (.lst ws') e1
 | .ok (.dic kvs) => .ok (.dic kvs) e1
 | .ex c => .ex c e1
 | _ => .no
noncomputable def dCallF (F : List W -> FR) (dA : Den (List W)) : Den (List W) := fun e => (dA e).bind fun ws e1 => match F ws with
 | .ok (.own false ws') => .ok ws' e1
 | .ex c => .ex c e1
 | _ => .no
noncomputable def dCallH (F : List W -> FR) (dA : Den (List W)) : Den W := fun e => (dA e).bind fun ws e1 => match F ws with
 | .ok (.fr w) => .ok w e1
 | .ok (.own false ws') => .ok (.lst ws') e1
 | _ => .no
section
variable {X : Cx} {Z : Zt} {EE : St -> XK} {e : Expr} {es : List Expr} {dA : Den (List W)} {pos p : Pos} {k : Nat} {ps : List Str} {F : List W -> FR} {x : Str}
theorem after_fr {K : PySem.W.Frag} {G1 H1 G' H' : Hp} {σ : St} {e1 : List S} {s : S} {v : V} {w : W} (r1 : Rel K Z G1 σ H1 e1) (g : Grow G1 H1 G' H') (q : SlotOk K ⟨H1, G1, []⟩ G' H' s (some v)) (hs : s = .fr w \/ ∃ ws, s = .own false ws /\ w = .lst ws) :
  ∃ G'', Rel K Z G'' σ H' e1 /\ Same G1 G'' /\ Rep K G'' w v := by
 rcases hs with rfl | ⟨ws, rfl, rfl⟩
 ·obtain ⟨u, h1, h2⟩ := q
  cases h1
  exact ⟨G', r1.grow g, g.gg, h2⟩
 ·obtain ⟨a, xs, h1, h2, h3, h4, h5⟩ := q
  cases h1
  have hn : H1 a = none := h4
  obtain ⟨sg, rg⟩ := (r1.grow g).seen h2 h3 (zh_new r1 hn) (free_new r1 hn)
  exact ⟨_, rg, g.gg.trans sg, ⟨a, xs, rfl, SqL.of upd_same, Reps.mono sg ws h5⟩⟩
theorem after_dic {K : PySem.W.Frag} {G1 H1 G' H' : Hp} {σ : St} {e1 : List S} {kvs : List (Key × Sv)} {v : V} (r1 : Rel K Z G1 σ H1 e1) (g : Grow G1 H1 G' H') (q : SlotOk K ⟨H1, G1, []⟩ G' H' (.dic kvs) (some v)) :
  ∃ G'', Rel K Z G'' σ H' e1 /\ Same G1 G'' /\ Rep K G'' (.dic kvs) v := by
 obtain ⟨a, h1, h2, h3, h4⟩ := q
 cases h1
 have hn : H1 a = none := h4
 have r := r1.grow g
 have sg : Same G' (upd G' a (.dK (kvV kvs))) := same_upd h3 _
 refine ⟨upd G' a (.dK (kvV kvs)), ⟨fun c o z => ?_, fun j s z => ?_, r.len, r.dis, r.ent, r.ion, fun c z => ?_⟩, g.gg.trans sg, ⟨a, rfl, upd_same⟩⟩
 ·by_cases hc : c = a
  ·subst hc; rw [upd_same] at z; cases z; exact h2
  ·rw [upd_ne hc] at z; exact r.sub c o z
 ·have y := r.slot j s z
  have y1 := r1.slot j s z
  cases s with
  | no => trivial
  | fr w =>
   obtain ⟨u, y1, y2⟩ := y
   exact ⟨u, y1, Rep.mono sg w y2⟩
  | own b2 w2 =>
   obtain ⟨c, ys, x1, x2, x3, x4, x5⟩ := y
   refine ⟨c, ys, x1, x2, ?_, x4, Reps.mono sg w2 x5⟩
   rw [upd_ne (ne_of x2 h2 (fun z => nomatch z))]; exact x3
  | dic kv =>
   obtain ⟨c, x1, x2, x3, x4⟩ := y
   obtain ⟨c', w1, w2, _⟩ := y1
   rw [x1] at w1
   cases w1
   refine ⟨c, x1, x2, ?_, x4⟩
   rw [upd_ne (ne_of_none w2 hn)]; exact x3
 ·by_cases hc : c = a
  ·subst hc; exact absurd (zh_new r1 hn) z
  ·rw [upd_ne hc]; exact r.gen c z
theorem ex_of {K : PySem.W.Frag} {G G1 H1 : Hp} {σ : St} {e1 : List S} {c : Value} (r1 : Rel K Z G1 σ H1 e1) (s1 : Same G G1) (h : XH K Z EE σ G c e1) : ∀ H', Same H1 H' -> EE σ c none H' := fun H' sh =>
 h G1 H' (r1.grow ⟨sh, .refl _, r1.sub.trans sh, fun _ _ => rfl⟩) s1
theorem de_cal (C : Cal X.prog X.w X.K X.mg X.base k x ps (spF X.K F)) (hr : Room k X.A) (hx : PassX (CX1 X.prog X.w) X EE) (ha : DA Z X EE (e :: es) dA) (hg : Gl X x := by rfl)
  (hdb : (x == ("__debug__" : Str)) = false := by decide) (he : starEach (e :: es) X.env = (false, eval e X.env) :: starEach es X.env := by rfl) (hpl : (backTo pos (starEach es X.env)).any (·.1) = false := by rfl) :
  DE Z X EE (.Call (.Name x p) (e :: es) [] pos) (dCall F dA) := by
 refine PE.mono (pe_cal C hr hx ha hg hdb he hpl) ?_
 rintro σ H Q ⟨G, e, rel, h⟩
 simp only [dCall, R.holds_bind] at h
 refine ⟨G, e, rel, h.imp (fun ws e1 h G1 vs H1 r1 s1 p1 => ?_) fun _ _ h => h⟩
 refine ⟨G1, ws, r1.sub, by rw [List.append_nil]; exact p1, ?_⟩
 cases q : F ws with
 | ok s =>
  rw [q] at h
  intro G' H' v g sl
  cases s with
  | no => exact h.elim
  | fr w =>
   obtain ⟨G'', r2, s2, p2⟩ := after_fr r1 g sl (.inl rfl)
   exact (show ∀ G' v H', _ -> _ -> Rep X.K G' w v -> Q v H' from h) G'' v H' r2 (s1.trans s2) p2
  | own b ws' =>
   cases b with
   | true => exact h.elim
   | false =>
    obtain ⟨G'', r2, s2, p2⟩ := after_fr r1 g sl (.inr ⟨ws', rfl, rfl⟩)
    exact (show ∀ G' v H', _ -> _ -> Rep X.K G' (.lst ws') v -> Q v H' from h) G'' v H' r2 (s1.trans s2) p2
  | dic kvs =>
   obtain ⟨G'', r2, s2, p2⟩ := after_dic r1 g sl
   exact (show ∀ G' v H', _ -> _ -> Rep X.K G' (.dic kvs) v -> Q v H' from h) G'' v H' r2 (s1.trans s2) p2
 | ex c =>
  rw [q] at h
  exact ex_of r1 s1 h
 | no => rw [q] at h; exact h.elim
theorem de_calH (C : CalH X.prog X.w X.K X.mg X.base k x ps (spF X.K F)) (hr : RoomH k X.A) (ha : DA Z X EE (e :: es) dA) (hg : Gl X x := by rfl)
  (hdb : (x == ("__debug__" : Str)) = false := by decide) (he : starEach (e :: es) X.env = (false, eval e X.env) :: starEach es X.env := by rfl) (hpl : (backTo pos (starEach es X.env)).any (·.1) = false := by rfl) :
  DE Z X EE (.Call (.Name x p) (e :: es) [] pos) (dCallH F dA) := by
 refine PE.mono (pe_calH C hr ha hg hdb he hpl) ?_
 rintro σ H Q ⟨G, e, rel, h⟩
 simp only [dCallH, R.holds_bind] at h
 refine ⟨G, e, rel, h.imp (fun ws e1 h G1 vs H1 r1 s1 p1 => ?_) fun _ _ h => h⟩
 refine ⟨G1, ws, r1.sub, by rw [List.append_nil]; exact p1, ?_⟩
 cases q : F ws with
 | ok s =>
  rw [q] at h
  intro G' H' v g sl
  cases s with
  | no => exact h.elim
  | fr w =>
   obtain ⟨G'', r2, s2, p2⟩ := after_fr r1 g sl (.inl rfl)
   exact (show ∀ G' v H', _ -> _ -> Rep X.K G' w v -> Q v H' from h) G'' v H' r2 (s1.trans s2) p2
  | own b ws' =>
   cases b with
   | true => exact h.elim
   | false =>
    obtain ⟨G'', r2, s2, p2⟩ := after_fr r1 g sl (.inr ⟨ws', rfl, rfl⟩)
    exact (show ∀ G' v H', _ -> _ -> Rep X.K G' (.lst ws') v -> Q v H' from h) G'' v H' r2 (s1.trans s2) p2
  | dic kvs => exact h.elim
 | ex c => rw [q] at h; exact h.elim
 | no => rw [q] at h; exact h.elim
noncomputable def dRaise (C : Addr) (d : Den (List W)) : List S -> SR := fun e => (d e).stm fun ws e1 => if ws.length <= 16777216 then .ex (.ref C) e1 else .no
theorem ds_raise {C Ac : Addr} {np cpos : Pos} (hx : RaisX X EE) (hC : excIn X.K C Ac = true) (hm : X.mg x = some (.ref C)) (hc : X.calm = true) (ha : DA Z X EE (e :: es) dA) (hg : Gl X x := by rfl)
  (hdb : (x == ("__debug__" : Str)) = false := by decide) (he : starEach (e :: es) X.env = (false, eval e X.env) :: starEach es X.env := by rfl) (hpl : (backTo cpos (starEach es X.env)).any (·.1) = false := by rfl) :
  DS Z X EE (.Raise (some (.Call (.Name x np) (e :: es) [] cpos)) none pos) (dRaise C dA) := by
 refine PS.mono (ps_raise hx hc hg hm hC ha hdb he hpl) ?_
 rintro D σ H ⟨G, e, rel, h⟩
 refine ⟨G, e, rel, (post_stm h).imp (fun ws e1 h G1 vs H1 r1 s1 p1 => ?_) fun _ _ h => h⟩
 split at h
 ·rename_i hl
  exact ⟨by rw [p1.length, sizeLine_eq]; exact hl, h G1 σ H1 r1 s1⟩
 ·exact h.elim
noncomputable def dTry (K : PySem.W.Frag) (c : Addr) (i n : Nat) (b h : List S -> SR) : List S -> SR := fun e => match b e with
 | .ex cls e' => if PySem.W.exmOne K cls (.ref c) = some true then (match h (e'.set i (.fr (.exc cls))) with
  | .nx _ => .nx (List.replicate n .no)
  | .bk _ => .bk (List.replicate n .no)
  | .ct _ => .ct (List.replicate n .no)
  | .rt s e'' => .rt s e''
  | _ => .no) else .no
 | r => r
theorem Rel.blank {K : PySem.W.Frag} {G H : Hp} {σ : St} {e : List S} (r : Rel K Z G σ H e) (n : Nat) : Rel K Z G (List.replicate n none) H (List.replicate n .no) := by
 have hno : ∀ (i : Nat) (s : S), (List.replicate n S.no)[i]? = some s -> s = .no := fun i s h => by
  rw [List.getElem?_replicate] at h
  split at h
  ·cases h; rfl
  ·cases h
 refine ⟨r.sub, fun i s h => ?_, by simp, fun i j b b' w1 w2 a h1 h2 _ _ => ?_, r.ent, r.ion, r.gen⟩
 ·rw [hno i s h]; trivial
 ·cases hno _ _ h1
theorem ds_try {body suite : List Stmt} {b₀ : Stmt} {c n : Str} {i : Nat} {Cc : Addr} {np hpos : Pos} {dB dH : List S -> SR}
  (hm : X.mg c = some (.ref Cc)) (hN : X.N.Nodup) (hi : X.N[i]? = some n) (hx : X.env.scope.names.lookup n = some .local)
  (hb : ∀ (EE : St -> XK) (pn : List (Addr × Obj)) (xe : Value -> Shared -> Prop), PassX (CX1 X.prog X.w) (X.tr pn xe) EE -> DSs Z (X.tr pn xe) EE body dB)
  (hh : ∀ e : Addr, DSs Z (X.hn e) (fun _ => E0) (b₀ :: suite) dH) (hg : Gl X c := by rfl)
  (hs : X.stack = X.env :: X.outer := by rfl) (hf : X.env.frame = some X.env.locals := by rfl) (hdb : (c == ("__debug__" : Str)) = false := by decide) :
  DS Z X EE (.Try body [.ExceptHandler (some (.Name c np)) (some n) (b₀ :: suite) hpos] [] [] pos) (dTry X.K Cc i X.N.length dB dH) := by
 refine PS.mono (ps_try (tb := fun EE => liftS X.K Z EE dB) (th := liftS X.K Z (fun _ => E0) dH) hg hm hN hi hx hb hh hs hf hdb) ?_
 rintro D σ H ⟨G, e, rel, h⟩
 refine ⟨G, e, rel, ?_⟩
 unfold dTry at h
 cases q : dB e with
 | nx e' => rw [q] at h; exact h
 | bk e' => rw [q] at h; exact h
 | ct e' => rw [q] at h; exact h
 | rt w e' => rw [q] at h; exact h
 | no => rw [q] at h; exact h
 | ex cls e' =>
  rw [q] at h
  intro G1 σ1 H1 r1 s1
  dsimp only at h
  split at h
  ·rename_i hq
   refine ⟨hq, fun ex hex => ?_⟩
   have g := Grow.laid r1.sub hex (excO ex cls)
   refine ⟨_, e'.set i (.fr (.exc cls)), (r1.grow g).set (v := .ref ex) ⟨ex, rfl, upd_same⟩, ?_⟩
   have sg := s1.trans g.gg
   cases q2 : dH (e'.set i (.fr (.exc cls))) with
   | nx e2 => rw [q2] at h; exact fun G2 σ2 H2 r2 s2 => h G2 _ H2 (r2.blank _) (sg.trans s2)
   | bk e2 => rw [q2] at h; exact fun G2 σ2 H2 r2 s2 => h G2 _ H2 (r2.blank _) (sg.trans s2)
   | ct e2 => rw [q2] at h; exact fun G2 σ2 H2 r2 s2 => h G2 _ H2 (r2.blank _) (sg.trans s2)
   | rt w e2 => rw [q2] at h; exact fun G2 σ2 v H2 r2 s2 p2 => h G2 σ2 v H2 r2 (sg.trans s2) p2
   | ex c2 e2 => rw [q2] at h; exact h.elim
   | no => rw [q2] at h; exact h.elim
  ·exact h.elim
end
end D
set_option Elab.async false
set_option linter.all false
set_option maxRecDepth 100000
set_option maxHeartbeats 1000000
namespace D
open PySem L2
noncomputable def addW : W -> W -> Option W
 | .int i, .int j => some (.int (i + j))
 | .str x, .str y => if x.length + y.length <= 16777216 then some (.str (x ++ y)) else none
 | .tup xs, .tup ys => if xs ≠ [] /\ xs.length + ys.length <= 16777216 then some (.tup (xs ++ ys)) else none
 | .lst xs, .lst ys => if xs.length + ys.length <= 16777216 then some (.lst (xs ++ ys)) else none
 | _, _ => none
noncomputable def subW : W -> W -> Option W
 | .int i, .int j => some (.int (i - j))
 | _, _ => none
noncomputable def mulW : W -> W -> Option W
 | .int i, .int j => if (-(2 ^ 64) < i /\ i < 2 ^ 64) \/ (-(2 ^ 64) < j /\ j < 2 ^ 64) then some (.int (i * j)) else none
 | _, _ => none
noncomputable def fdivW : W -> W -> Option W
 | .int i, .int j => if 0 < j /\ j < 1073741824 then some (.int (i / j)) else none
 | _, _ => none
noncomputable def modW : W -> W -> Option W
 | .int i, .int j => if 0 < j then some (.int (i % j)) else none
 | _, _ => none
noncomputable def ltW : W -> W -> Option W
 | .int i, .int j => some (.bl (decide (i < j)))
 | _, _ => none
noncomputable def leW : W -> W -> Option W
 | .int i, .int j => some (.bl (decide (i <= j)))
 | _, _ => none
noncomputable def gtW : W -> W -> Option W
 | .int i, .int j => some (.bl (decide (j < i)))
 | _, _ => none
noncomputable def negW : W -> Option W
 | .int i => some (.int (-i))
 | _ => none
section
variable {K : PySem.W.Frag}
theorem o2_add : Op2 K (fun x y H Q => rI0 (fun i j => .int (i + j)) x y H Q \/ ((∃ i j, x = .str i /\ y = .str j /\ i.length + j.length <= sizeLine /\ Q (.str (i ++ j)) H) \/ (rCatT K x y H Q \/ rCatS K x y H Q))) addW := by
 intro G H x y wx wy w Q s px py hf h
 unfold addW at hf
 split at hf
 ·cases hf; cases px; cases py
  exact .inl ⟨_, _, rfl, rfl, h G _ H (.refl s) rfl⟩
 ·split at hf
  ·rename_i hl
   cases hf; cases px; cases py
   exact .inr (.inl ⟨_, _, rfl, rfl, by rw [sizeLine_eq]; exact hl, h G _ H (.refl s) rfl⟩)
  ·cases hf
 ·rename_i us ws
  split at hf
  ·rename_i hl
   cases hf
   obtain ⟨a, xs, rfl, ha, ra⟩ := px
   obtain ⟨b, ys, rfl, hb, rb⟩ := py
   have l1 := ra.length
   have l2 := rb.length
   refine .inr (.inr (.inl ⟨a, b, xs, ys, rfl, rfl, s.tup ha, s.tup hb, fun z => hl.1 ?_, by rw [l1, l2, sizeLine_eq]; exact hl.2, fun z => ?_, fun z p hp => ?_⟩))
   ·subst z; cases us with
    | nil => rfl
    | cons _ _ => simp at l1
   ·subst z
    have : ws = [] := by cases ws with
     | nil => rfl
     | cons _ _ => simp at l2
    subst this
    exact h G _ H (.refl s) ⟨a, xs, rfl, ha, by simpa using ra⟩
   ·have g := Grow.laid s hp (.tup (xs ++ ys))
    exact h _ _ _ g ⟨p, _, rfl, SqT.of upd_same, Reps.append (Reps.mono g.gg _ ra) (Reps.mono g.gg _ rb)⟩
  ·cases hf
 ·split at hf
  ·rename_i hl
   cases hf
   obtain ⟨a, xs, rfl, ha, ra⟩ := px
   obtain ⟨b, ys, rfl, hb, rb⟩ := py
   have l1 := ra.length
   have l2 := rb.length
   refine .inr (.inr (.inr ⟨a, b, xs, ys, rfl, rfl, s.seq ha, s.seq hb, by rw [l1, l2, sizeLine_eq]; exact hl, fun p hp => ?_⟩))
   have g := Grow.laid s hp (.lst (xs ++ ys))
   exact h _ _ _ g ⟨p, _, rfl, SqL.of upd_same, Reps.append (Reps.mono g.gg _ ra) (Reps.mono g.gg _ rb)⟩
  ·cases hf
 ·cases hf
theorem o2_sub : Op2 K (rI0 fun i j => .int (i - j)) subW := by
 intro G H x y wx wy w Q s px py hf h
 unfold subW at hf
 split at hf
 ·cases hf; cases px; cases py
  exact ⟨_, _, rfl, rfl, h G _ H (.refl s) rfl⟩
 ·cases hf
theorem o2_mul : Op2 K (rI CMul fun i j => .int (i * j)) mulW := by
 intro G H x y wx wy w Q s px py hf h
 unfold mulW at hf
 split at hf
 ·split at hf
  ·rename_i hc
   cases hf; cases px; cases py
   exact ⟨_, _, rfl, rfl, hc, h G _ H (.refl s) rfl⟩
  ·cases hf
 ·cases hf
theorem o2_fdiv : Op2 K (rI CDiv fun i j => .int (i / j)) fdivW := by
 intro G H x y wx wy w Q s px py hf h
 unfold fdivW at hf
 split at hf
 ·split at hf
  ·rename_i hc
   cases hf; cases px; cases py
   exact ⟨_, _, rfl, rfl, hc, h G _ H (.refl s) rfl⟩
  ·cases hf
 ·cases hf
theorem o2_mod : Op2 K (rI (fun _ j => 0 < j) fun i j => .int (i % j)) modW := by
 intro G H x y wx wy w Q s px py hf h
 unfold modW at hf
 split at hf
 ·split at hf
  ·rename_i hc
   cases hf; cases px; cases py
   exact ⟨_, _, rfl, rfl, hc, h G _ H (.refl s) rfl⟩
  ·cases hf
 ·cases hf
theorem o2_lt : Op2 K (rI0 fun i j => .bl (decide (i < j))) ltW := by
 intro G H x y wx wy w Q s px py hf h
 unfold ltW at hf
 split at hf
 ·cases hf; cases px; cases py
  exact ⟨_, _, rfl, rfl, h G _ H (.refl s) rfl⟩
 ·cases hf
theorem o2_le : Op2 K (rI0 fun i j => .bl (decide (i <= j))) leW := by
 intro G H x y wx wy w Q s px py hf h
 unfold leW at hf
 split at hf
 ·cases hf; cases px; cases py
  exact ⟨_, _, rfl, rfl, h G _ H (.refl s) rfl⟩
 ·cases hf
theorem o2_gt : Op2 K (rI0 fun i j => .bl (decide (j < i))) gtW := by
 intro G H x y wx wy w Q s px py hf h
 unfold gtW at hf
 split at hf
 ·cases hf; cases px; cases py
  exact ⟨_, _, rfl, rfl, h G _ H (.refl s) rfl⟩
 ·cases hf
end
mutual
noncomputable def eqW : W -> W -> Option Bool
 | .non, .non => some true
 | .non, .bl _ => some false | .non, .int _ => some false | .non, .str _ => some false | .non, .tup _ => some false | .non, .lst _ => some false
 | .bl a, .bl b => some (a == b)
 | .bl a, .int b => some ((if a then 1 else 0) == b)
 | .bl _, .non => some false | .bl _, .str _ => some false | .bl _, .tup _ => some false | .bl _, .lst _ => some false
 | .int a, .int b => some (a == b)
 | .int a, .bl b => some (a == (if b then 1 else 0))
 | .int _, .non => some false | .int _, .str _ => some false | .int _, .tup _ => some false | .int _, .lst _ => some false
 | .str a, .str b => some (a == b)
 | .str _, .non => some false | .str _, .bl _ => some false | .str _, .int _ => some false | .str _, .tup _ => some false | .str _, .lst _ => some false
 | .tup _, .non => some false | .tup _, .bl _ => some false | .tup _, .int _ => some false | .tup _, .str _ => some false | .tup _, .lst _ => some false
 | .lst _, .non => some false | .lst _, .bl _ => some false | .lst _, .int _ => some false | .lst _, .str _ => some false | .lst _, .tup _ => some false
 | .tup xs, .tup ys => eqWs xs ys
 | .lst xs, .lst ys => eqWs xs ys
 | .exc _, _ => none
 | _, .exc _ => none
 | .dic _, _ => none
 | _, .dic _ => none
noncomputable def eqWs : List W -> List W -> Option Bool
 | [], [] => some true
 | [], _ :: _ => some false
 | _ :: _, [] => some false
 | x :: xs, y :: ys => match eqW x y, eqWs xs ys with
  | some a, some b => some (a && b)
  | _, _ => none
end
noncomputable def ixW : W -> W -> Option W
 | .tup ws, .int i => atI ws i
 | .lst ws, .int i => atI ws i
 | .str z, .int i => if z.length <= 16777216 then (atI z.cps.toList i).map fun c => .str ⟨#[c]⟩ else none
 | _, _ => none
theorem Reps.atI {K : PySem.W.Frag} {G : Hp} {ws : List W} {xs : List V} {i : Int} {w : W} (r : Reps K G ws xs) (h : L2.atI ws i = some w) : ∃ x, L2.atI xs i = some x /\ Rep K G w x := by
 unfold L2.atI at h |-
 rw [r.length]
 cases q : ixN ws.length i with
 | none => rw [q] at h; cases h
 | some j =>
  rw [q] at h
  exact r.get h
theorem o2_ix {K : PySem.W.Frag} : Op2 K (rIx K) ixW := by
 intro G H x y wx wy w Q s px py hf h
 unfold ixW at hf
 split at hf
 ·obtain ⟨a, xs, rfl, ha, ra⟩ := px
  cases py
  obtain ⟨v, hv, rv⟩ := ra.atI hf
  exact .inr (.inl ⟨a, xs, _, v, rfl, rfl, s.tup ha, hv, h G v H (.refl s) rv⟩)
 ·obtain ⟨a, xs, rfl, ha, ra⟩ := px
  cases py
  obtain ⟨v, hv, rv⟩ := ra.atI hf
  exact .inl ⟨a, xs, _, v, rfl, rfl, s.seq ha, hv, h G v H (.refl s) rv⟩
 ·cases px; cases py
  split at hf
  ·rename_i hl
   obtain ⟨c, hc, rfl⟩ := Option.map_eq_some_iff.mp hf
   exact .inr (.inr ⟨_, _, c, rfl, rfl, by rw [sizeLine_eq]; exact hl, hc, h G _ H (.refl s) rfl⟩)
  ·cases hf
 ·cases hf
noncomputable def S.look : S -> Option W
 | .fr w => some w
 | .own _ ws => some (.lst ws)
 | .no => none
 | .dic _ => none
noncomputable def dIxV (i : Nat) (d : Den W) : Den W := fun e => match e[i]?.bind S.look with
 | none => .no
 | some _ => (d e).bind fun k e1 => match e1[i]?.bind S.look with
  | none => .no
  | some w => ofOpt (ixW w k) e1
noncomputable def lenW : W -> Option W
 | .str z => if z.length <= 16777216 then some (.int z.length) else none
 | .tup ws => some (.int ws.length)
 | .lst ws => some (.int ws.length)
 | _ => none
noncomputable def len1 : List W -> Option W
 | [w] => lenW w
 | _ => none
section
variable {K : PySem.W.Frag}
theorem oN_len : OpN K (fun xs H Q => ∃ x n, xs = [x] /\ LenV K x H n /\ Q (.int n) H) len1 := by
 intro G H xs ws w Q s pr hf h
 unfold len1 at hf
 split at hf
 ·obtain ⟨x, r, rfl, px, pr⟩ := pr
  cases (show r = [] from pr)
  unfold lenW at hf
  split at hf
  ·split at hf
   ·rename_i hl
    cases hf; cases px
    exact ⟨_, _, rfl, ⟨by rw [sizeLine_eq]; exact hl, rfl⟩, h G _ H (.refl s) rfl⟩
   ·cases hf
  ·cases hf
   obtain ⟨a, xs, rfl, ha, ra⟩ := px
   exact ⟨_, _, rfl, .inr ⟨xs, s.tup ha, rfl⟩, h G _ H (.refl s) (by rw [ra.length]; rfl)⟩
  ·cases hf
   obtain ⟨a, xs, rfl, ha, ra⟩ := px
   exact ⟨_, _, rfl, .inl ⟨xs, s.seq ha, rfl⟩, h G _ H (.refl s) (by rw [ra.length]; rfl)⟩
  ·cases hf
 ·cases hf
end
noncomputable def scalW : W -> Bool
 | .non => true | .bl _ => true | .int _ => true | .str _ => true | _ => false
theorem scal_rep {K : PySem.W.Frag} {G G' : Hp} {w : W} {v : V} (h : scalW w = true) (p : Rep K G w v) : Rep K G' w v := by
 cases w with
 | non => exact p
 | bl b => exact p
 | int i => exact p
 | str x => exact p
 | _ => cases h
noncomputable def dFnV (i : Nat) (f : List W -> Option W) : Den W := fun e => match e[i]?.bind S.look with
 | none => .no
 | some w => match f [w] with
  | none => .no
  | some v => match e[i]? with
   | some (.fr _) => .ok v e
   | _ => if scalW v = true then .ok v e else .no
section
variable {X : Cx} {Z : Zt} {EE : St -> XK} {a b e : Expr} {es : List Expr} {d : Den W} {dA : Den (List W)} {pos p : Pos} {x : Str}
theorem de_ix (ha : DE Z X EE a d) {db : Den W} (hb : DE Z X EE b db) (hs : PlainIx b := by intro _ _; rfl) : DE Z X EE (.Subscript a b pos) (dOp ixW d db) := PE.mono (pe_ix ix_seq ha hb hs) (lift_op o2_ix)
theorem Rel.look {K : PySem.W.Frag} {G H : Hp} {σ : St} {e : List S} (r : Rel K Z G σ H e) {i : Nat} {w : W} (h : e[i]?.bind S.look = some w) : ∃ v, σ[i]? = some (some v) /\
  ((e[i]? = some (.fr w) /\ Rep K G w v) \/ ∃ b ws a xs, e[i]? = some (.own b ws) /\ w = .lst ws /\ v = .ref a /\ H a = some (.lst xs) /\ G a = none /\ Reps K G ws xs) := by
 obtain ⟨s, h1, h2⟩ := Option.bind_eq_some_iff.mp h
 cases s with
 | no => cases h2
 | dic _ => cases h2
 | fr w' =>
  cases h2
  obtain ⟨v, h3, h4⟩ := r.fr h1
  exact ⟨v, h3, .inl ⟨h1, h4⟩⟩
 | own b ws =>
  cases h2
  obtain ⟨a, xs, h3, h4, h5, h6, h7⟩ := r.own h1
  exact ⟨.ref a, h3, .inr ⟨b, ws, a, xs, h1, rfl, rfl, h4, h5, h7⟩⟩
theorem look_grow {K : PySem.W.Frag} {G H : Hp} {a : Addr} {xs : List V} (s : Same G H) (h : H a = some (.lst xs)) (hg : G a = none) : Same G (upd G a (.lst xs)) /\ Same (upd G a (.lst xs)) H :=
 ⟨same_upd hg _, fun c o z => by
  by_cases hc : c = a
  ·subst hc; rw [upd_same] at z; cases z; exact h
  ·rw [upd_ne hc] at z; exact s c o z⟩
theorem de_ixV (i : Nat) (hb : DE Z X EE b d) (hN : X.N[i]? = some x := by rfl) (hv : Vis X.env.scope x := by walk_at "1") (hd : (x == ("__debug__" : Str)) = false := by decide)
  (hcd : (x == ("__classdict__" : Str)) = false := by decide) (hs : PlainIx b := by intro _ _; rfl) : DE Z X EE (.Subscript (.Name x p) b pos) (dIxV i d) := by
 refine PE.mono (pe_ix ix_seq (pv i hN hv hd hcd) hb hs) ?_
 rintro σ H Q ⟨G, e, rel, h⟩
 unfold dIxV at h
 split at h
 ·exact h.elim
 ·rename_i w0 hw0
  obtain ⟨v, hv, _⟩ := rel.look hw0
  refine ⟨v, hv, G, e, rel, (R.holds_bind.mp h).imp (fun k e1 h G1 u H1 r1 s1 p1 => ?_) fun _ _ h => h⟩
  split at h
  ·exact h.elim
  ·rename_i w hw
   obtain ⟨w', hf, h2⟩ := ofOpt_holds.mp h
   obtain ⟨v', hv', q⟩ := r1.look hw
   rw [hv] at hv'; cases hv'
   rcases q with ⟨_, q⟩ | ⟨bb, ws, a, xs, he, rfl, rfl, q1, q2, q3⟩
   ·exact o2_ix G1 H1 v u w k w' Q r1.sub q p1 hf fun G' v H' g p => h2 G' v H' (r1.grow g) (s1.trans g.gg) p
   ·-- an item of one's own list
    unfold ixW at hf
    split at hf
    ·rename_i heq; cases heq
    ·rename_i heq
     cases heq
     cases p1
     obtain ⟨y, hy, ry⟩ := q3.atI hf
     exact .inl ⟨a, xs, _, y, rfl, rfl, SqL.of q1, hy, h2 G1 y H1 r1 s1 ry⟩
    ·rename_i heq; cases heq
    ·cases hf
theorem de_fnV {r : List V -> Hp -> VK -> Prop} {f : List W -> Option W} (i : Nat) {id : String} {pn : Pos} {fn : Str} (hc : CallR X (.builtin id) r) (hf : OpN X.K r f) (hv : bootBuiltins fn = some (.builtin id)) (hm : X.mg fn = none)
  (hN : X.N[i]? = some x := by rfl) (hvis : Vis X.env.scope x := by walk_at "1") (hd : (x == ("__debug__" : Str)) = false := by decide) (hcd : (x == ("__classdict__" : Str)) = false := by decide)
  (hg : Gl X fn := by rfl) (hn : fn ≠ "__name__" := by decide) (hdb : (fn == ("__debug__" : Str)) = false := by decide) (hs : starEach [.Name x p] X.env = (false, eval (.Name x p) X.env) :: starEach [] X.env := by rfl) (hpl : (backTo pos (starEach [] X.env)).any (·.1) = false := by rfl) :
  DE Z X EE (.Call (.Name fn pn) [.Name x p] [] pos) (dFnV i f) := by
 refine PE.mono (pe_callB hc hg hm hv (pa_cons (pv i hN hvis hd hcd) pa_nil hs) hn hdb hs hpl) ?_
 rintro σ H Q ⟨G, e, rel, h⟩
 unfold dFnV at h
 split at h
 ·exact h.elim
 ·rename_i w hw
  split at h
  ·exact h.elim
  ·rename_i y hy
   obtain ⟨v, hv, q⟩ := rel.look hw
   refine ⟨v, hv, ?_⟩
   rcases q with ⟨he, q⟩ | ⟨bb, ws, a, xs, he, rfl, rfl, q1, q2, q3⟩
   ·rw [he] at h
    exact hf G H [v] [w] y Q rel.sub (.one q) hy fun G' v H' g p => h G' v H' (rel.grow g) g.gg p
   ·rw [he] at h
    dsimp only at h
    split at h
    ·rename_i hsc
     obtain ⟨s1, s2⟩ := look_grow (K := X.K) rel.sub q1 q2
     refine hf (upd G a (.lst xs)) H [.ref a] [.lst ws] y Q s2 (.one ⟨a, xs, rfl, SqL.of upd_same, Reps.mono s1 ws q3⟩) hy fun G' v H' g p => ?_
     have g' : Grow G H G H' := ⟨g.hh, .refl _, rel.sub.trans g.hh, fun _ _ => rfl⟩
     exact (show ∀ G' v H', _ -> _ -> Rep X.K G' y v -> Q v H' from h) G v H' (rel.grow g') (.refl _) (scal_rep hsc p)
    ·exact h.elim
noncomputable def dApp (i : Nat) (d : Den (List W)) : List S -> SR := fun e => match e[i]? with
 | some (.own _ _) => (d e).stm fun ws e1 => match ws, e1[i]? with
  | [w], some (.own b xs) => if xs.length < 16777216 then .nx (e1.set i (.own b (xs ++ [w]))) else .no
  | _, _ => .no
 | _ => .no
theorem ds_app (i : Nat) {apos cpos : Pos} (ha : DA Z X EE (e :: es) dA) (hN : X.N[i]? = some x := by rfl) (hv : Vis X.env.scope x := by walk_at "1") (hd : (x == ("__debug__" : Str)) = false := by decide) (hcd : (x == ("__classdict__" : Str)) = false := by decide)
  (hbase : attributeBase (.Name x p) "append" X.env (eval (.Name x p) X.env) = eval (.Name x p) X.env := by rfl)
  (hfew : ((backTo cpos (starEach (e :: es) X.env)).all (fun x => !x.1) && (backToKw cpos (keywordEach [] X.env)).all (fun x => x.1.isSome) && decide ((e :: es).length + ([] : List Keyword).length + (if ([] : List Keyword).isEmpty then 0 else 1) < 30)) = true := by rfl)
  (hline : (apos.endLine == cpos.line) = true := by rfl) (hs : starEach (e :: es) X.env = (false, eval e X.env) :: starEach es X.env := by rfl) (hplain : (backTo cpos (starEach es X.env)).any (·.1) = false := by rfl)
  (hsw : swapsWith (.Call (.Attribute (.Name x p) "append" apos) (e :: es) [] cpos) none pos.line X.env = pure false := by rfl) :
  DS Z X EE (.Expr (.Call (.Attribute (.Name x p) "append" apos) (e :: es) [] cpos) pos) (dApp i dA) := by
 refine PS.mono (ps_expr (pe_app (pv i hN hv hd hcd) ha hbase hfew hline hs hplain) hsw) ?_
 rintro D σ H ⟨G, e, rel, h⟩
 unfold dApp at h
 split at h
 ·rename_i b0 ws0 he0
  obtain ⟨a, xs, h1, h2, h3, h4, h5⟩ := rel.own he0
  refine ⟨.ref a, h1, .inl ⟨rfl, xs, SqL.of h2⟩, G, e, rel, (post_stm h).imp (fun ws e1 h G1 vs H1 r1 s1 p1 => ?_) fun _ _ h => h⟩
  split at h
  ·rename_i w b ys he1
   obtain ⟨a', zs, g1, g2, g3, g4, g5⟩ := r1.own he1
   rw [h1] at g1; cases g1
   obtain ⟨y, r, rfl, py, pr⟩ := p1
   cases (show r = [] from pr)
   split at h
   ·rename_i hl
    refine ⟨a, zs, y, rfl, rfl, g2, by rw [g5.length, sizeLine_eq]; exact hl, ?_⟩
    exact h G1 σ _ (r1.mut he1 h1 (g5.append (.one py))) s1
   ·exact h.elim
  ·exact h.elim
 ·exact h.elim
end
end D
set_option Elab.async false
set_option linter.all false
set_option maxRecDepth 100000
set_option maxHeartbeats 1000000
namespace D
open PySem L2
noncomputable def compD (c : Den Bool) (d : Den W) (pe : List S) : List W -> Option (List W)
 | [] => some []
 | w :: ws => match c (.fr w :: pe) with
  | .ok true e1 => match d e1 with
   | .ok y _ => (compD c d pe ws).map (y :: ·)
   | _ => none
  | .ok false _ => compD c d pe ws
  | _ => none
noncomputable def frz1 (e : List S) (j : Nat) : List S := match e[j]? with
 | some (.own false ws) => e.set j (.fr (.lst ws))
 | _ => e
noncomputable def frzs (js : List Nat) (e : List S) : List S := js.foldl frz1 e
noncomputable def pj1 (e : List S) (j : Nat) : S := match e[j]? with
 | some (.fr w) => .fr w
 | _ => .no
noncomputable def pjS (js : List Nat) (e : List S) : List S := js.map (pj1 e)
noncomputable def compK (js : List Nat) (c : Den Bool) (d : Den W) (ws : List W) (e1 : List S) : R (List W) :=
 if ws.length <= 16777216 then (match compD c d (pjS js (frzs js e1)) ws with
  | some out => .ok out (frzs js e1)
  | none => .no) else .no
noncomputable def dComp (js : List Nat) (di : Den W) (c : Den Bool) (d : Den W) : Den (List W) := fun e => (di e).bind fun w e1 => match seqW w with
 | some ws => compK js c d ws e1
 | none => .no
noncomputable def dCompR (g : List W -> Option (List W)) (js : List Nat) (di : Den (List W)) (c : Den Bool) (d : Den W) : Den (List W) := fun e => (di e).bind fun w e1 => match g w with
 | some ws => compK js c d ws e1
 | none => .no
noncomputable def dYes : Den Bool := fun e => .ok true e
section
variable {K : PySem.W.Frag} {Z : Zt} {G G1 H H1 : Hp} {σ : St} {e e1 : List S}
theorem Rel.frzs (r : Rel K Z G σ H e) : ∀ (js : List Nat), ∃ G', Same G G' /\ Rel K Z G' σ H (frzs js e) := by
 intro js
 induction js generalizing G e with
 | nil => exact ⟨G, .refl _, r⟩
 | cons j js ih =>
  have one : ∃ G', Same G G' /\ Rel K Z G' σ H (frz1 e j) := by
   unfold frz1
   split
   ·rename_i ws hw
    obtain ⟨v, G', _, s, _, r'⟩ := r.freeze hw
    exact ⟨G', s, r'⟩
   ·exact ⟨G, .refl _, r⟩
  obtain ⟨G1, s1, r1⟩ := one
  obtain ⟨G2, s2, r2⟩ := ih r1
  exact ⟨G2, s1.trans s2, r2⟩
theorem Rel.block (r : Rel K Z G σ H e) (js : List Nat) {w : W} {x : V} (p : Rep K G w x) : Rel K ⟨H, G, []⟩ G (some x :: pj js σ) H (.fr w :: pjS js e) := by
 have hfr : ∀ (i : Nat) (s : S), (S.fr w :: pjS js e)[i]? = some s -> s = .no \/ ∃ u, s = .fr u /\ ((i = 0 /\ u = w) \/ ∃ k j, i = k + 1 /\ js[k]? = some j /\ e[j]? = some (.fr u)) := fun i s h => by
  cases i with
  | zero => cases h; exact .inr ⟨w, rfl, .inl ⟨rfl, rfl⟩⟩
  | succ k =>
   rw [List.getElem?_cons_succ] at h
   unfold pjS at h
   rw [List.getElem?_map] at h
   obtain ⟨j, h1, h2⟩ := Option.map_eq_some_iff.mp h
   unfold pj1 at h2
   split at h2
   ·rename_i u hu
    subst h2
    exact .inr ⟨u, rfl, .inr ⟨k, j, rfl, h1, hu⟩⟩
   ·subst h2; exact .inl rfl
 refine ⟨r.sub, fun i s h => ?_, ?_, fun i j b b' w1 w2 a h1 h2 _ _ => ?_, fun a o h _ => h, (fun a h => nomatch h), fun a _ => rfl⟩
 ·rcases hfr i s h with rfl | ⟨u, rfl, ⟨rfl, rfl⟩ | ⟨k, j, rfl, h1, h2⟩⟩
  ·trivial
  ·exact ⟨x, rfl, p⟩
  ·obtain ⟨v, h3, h4⟩ := r.fr h2
   refine ⟨v, ?_, h4⟩
   rw [List.getElem?_cons_succ]
   unfold pj
   rw [List.getElem?_map, h1]
   simp [h3]
 ·simp [pjS, pj]
 ·rcases hfr i _ h1 with z | ⟨u, z, _⟩ <;> cases z
theorem Rel.mutFree (r : Rel K Z G σ H e) {a : Addr} {o : HO} (hg : G a = none) (hz : Z.H a = none) (hi : a ∉ Z.io) (hf : Free σ e a) {ls : List V} (hls : H a = some (.lst ls)) : Rel K Z G σ (upd H a o) e := by
 refine ⟨fun c u z => ?_, fun j s z => ?_, r.len, r.dis, fun c u z n => ?_, fun c z => ?_, r.gen⟩
 ·rw [upd_ne (ne_of_none z hg)]; exact r.sub c u z
 ·have y := r.slot j s z
  cases s with
  | no => trivial
  | fr w => exact y
  | own b2 w2 =>
   obtain ⟨c, ys, y1, y2, y3⟩ := y
   refine ⟨c, ys, y1, ?_, y3⟩
   rw [upd_ne]; exact y2
   rintro rfl
   obtain ⟨c', _, z1, _⟩ := r.own z
   rw [z1] at y1
   cases y1
   exact hf j b2 w2 z z1
  | dic kvs =>
   obtain ⟨c, y1, y2, y3⟩ := y
   refine ⟨c, y1, ?_, y3⟩
   rw [upd_ne (ne_of y2 hls (fun z => nomatch z))]; exact y2
 ·rw [upd_ne (ne_of_none z hz)]; exact r.ent c u z n
 ·by_cases hc : c = a
  ·subst hc; exact absurd z hi
  ·rw [upd_ne hc]; exact r.ion c z
structure Walk (J : It) (xs : List V) (SQ : Hp -> Prop) : Prop where
 go : ∀ i H, SQ H -> i < xs.length -> J.go i H
 yld : ∀ i H x H', SQ H -> J.yld i H x H' -> i < xs.length -> H' = H /\ xs[i]? = some x
 stop : ∀ i H, SQ H -> xs.length <= i -> J.stop i H
theorem walk_l {a : Addr} {xs : List V} : Walk (Itl K a) xs (fun H => SqL K H a xs) :=
 ⟨fun i H q h => ⟨xs, xs[i], q, by simp [h]⟩, fun i H x H' q ⟨e, y⟩ h => ⟨e, y xs q⟩, fun i H q h => ⟨xs, q, h⟩⟩
theorem walk_t {a : Addr} {xs : List V} : Walk (Itt K a) xs (fun H => SqT K H a xs) :=
 ⟨fun i H q h => ⟨xs, xs[i], q, by simp [h]⟩, fun i H x H' q ⟨e, y⟩ h => ⟨e, y xs q⟩, fun i H q h => ⟨xs, q, h⟩⟩
theorem walk_r {lo : Int} {n : Nat} : Walk (Itr lo n) ((List.range n).map fun k => V.int (lo + (k : Nat))) (fun _ => True) :=
 ⟨fun i H q h => show i < n by simpa using h, fun i H x H' q ⟨e, y⟩ h => ⟨e, by simp at h; simp [h, y]⟩, fun i H q h => show n <= i by simpa using h⟩
theorem comp_of {J : It} {xs : List V} {SQ : Hp -> Prop} {ws out : List W} {js : List Nat} {c : Den Bool} {d : Den W} {Q : VK} {G0 : Hp} (W0 : Walk J xs SQ) (r1 : Rel K Z G1 σ H1 e1) (s1 : Same G0 G1) (rp : Reps K G1 ws xs) (hSQ : ∀ G' H', Same G1 G' -> Same G' H' -> SQ H') (hl : ws.length <= 16777216)
  (hz : ∀ p, H1 p = none -> p ∉ Z.io) (hc : compD c d (pjS js e1) ws = some out)
  (h : ∀ G' a xs H', Rel K Z G' σ H' e1 -> Same G0 G' -> H' a = some (.lst xs) -> G' a = none -> Z.H a = none -> Free σ e1 a -> Reps K G' out xs -> Q (.ref a) H') :
  ∀ D, H1 D = none -> ∃ W : Nat -> Nat -> Hp -> Prop, (∃ m, W 0 m (upd H1 D (.lst []))) /\ ∀ i m H2, W i m H2 ->
   (J.stop i H2 /\ Q (.ref D) H2) \/ (J.go i H2 /\ ∀ x H3, J.yld i H2 x H3 -> gName 0 x (List.replicate 1 none ++ pj js σ) H3 fun σ4 H4 => Kp (List.replicate 1 none ++ pj js σ) σ4 /\ (fun σ H Q => ∃ Z', liftT K Z' (fun _ => E0) c σ H Q) σ4 H4 fun b H5 =>
    if b = true then (fun σ H Q => ∃ Z' G e, Rel K Z' G σ H e /\ (d e).holds (fun w e' => ∀ G' v H', Rel K Z' G' σ H' e' -> Same G G' -> Rep K G' w v -> Q v H') (XH K Z' (fun _ => E0) σ G)) σ4 H5 fun y H6 => ∃ ys, H6 D = some (.lst ys) /\ ys.length < sizeLine /\ ∃ m', m' < m /\ W (i + 1) m' (upd H6 D (.lst (ys ++ [y]))) else ∃ m', m' < m /\ W (i + 1) m' H5) := by
 intro D hD
 have hlen := rp.length
 refine ⟨fun i m H2 => m = ws.length - i /\ i <= ws.length /\ ∃ G2 ys done rest, Rel K Z G2 σ H2 e1 /\ Same G1 G2 /\ H2 D = some (.lst ys) /\ G2 D = none /\ Reps K G2 done ys /\ done.length <= i /\ compD c d (pjS js e1) (ws.drop i) = some rest /\ done ++ rest = out,
  ⟨ws.length, by omega, Nat.zero_le _, G1, [], [], out, r1.grow (Grow.hid r1.sub hD _), .refl _, upd_same, r1.sub.free hD, rfl, Nat.le_refl _, hc, rfl⟩, ?_⟩
 rintro i m H2 ⟨rfl, hi, G2, ys, done, rest, r2, s2, hd2, hg2, rp2, hdl, hc2, ho⟩
 have hfree : Free σ e1 D := free_new r1 hD
 have hzh : Z.H D = none := zh_new r1 hD
 by_cases hlt : i < ws.length
 ·refine .inr ⟨W0.go i H2 (hSQ G2 H2 s2 r2.sub) (by omega), fun x H3 hy => ?_⟩
  obtain ⟨rfl, hx⟩ := W0.yld i H2 x H3 (hSQ G2 H2 s2 r2.sub) hy (by omega)
  obtain ⟨w, hw, pw⟩ := rp.getV hx
  rw [drop_cons hw] at hc2
  refine ⟨Kp.one, ⟨H3, G2, []⟩, G2, .fr w :: pjS js e1, r2.block js (Rep.mono s2 w pw), ?_⟩
  unfold compD at hc2
  cases qc : c (.fr w :: pjS js e1) with
  | no => rw [qc] at hc2; cases hc2
  | ex _ _ => rw [qc] at hc2; cases hc2
  | ok k e2 =>
   rw [qc] at hc2
   intro G3 H5 r3 s3
   have g3 := r3.toGrow s3
   cases k with
   | false =>
    exact ⟨ws.length - (i + 1), by omega, rfl, hlt, G3, ys, done, rest, r2.grow g3, s2.trans s3, g3.hh _ _ hd2, by rw [g3.new D (by rw [hd2]; simp)]; exact hg2, Reps.mono s3 _ rp2, by omega, hc2, ho⟩
   | true =>
    refine ⟨⟨H3, G2, []⟩, G3, e2, r3, ?_⟩
    dsimp only at hc2
    cases qd : d e2 with
    | no => rw [qd] at hc2; cases hc2
    | ex _ _ => rw [qd] at hc2; cases hc2
    | ok y e3 =>
     rw [qd] at hc2
     intro G4 v H6 r4 s4 p4
     have g4 := r4.toGrow (s3.trans s4)
     obtain ⟨rest', hr, rfl⟩ := Option.map_eq_some_iff.mp hc2
     have hd6 : H6 D = some (.lst ys) := g4.hh _ _ hd2
     have hg6 : G4 D = none := by rw [g4.new D (by rw [hd2]; simp)]; exact hg2
     refine ⟨ys, hd6, ?_, ws.length - (i + 1), by omega, rfl, hlt, G4, ys ++ [v], done ++ [y], rest', (r2.grow g4).mutFree hg6 hzh (hz D hD) hfree hd6, s2.trans (s3.trans s4), upd_same, hg6, (Reps.mono (s3.trans s4) _ rp2).append (.one p4), by simp; omega, hr, by rw [List.append_assoc]; exact ho⟩
     rw [rp2.length, sizeLine_eq]; omega
 ·have : i = ws.length := by omega
  subst this
  rw [List.drop_length] at hc2
  cases hc2
  rw [List.append_nil] at ho
  subst ho
  exact .inl ⟨W0.stop _ H2 (hSQ G2 H2 s2 r2.sub) (by omega), h G2 D ys H2 r2 (s1.trans s2) hd2 hg2 hzh hfree rp2⟩
end
section
variable {X : Cx} {Z : Zt} {EE : St -> XK} {elt iter a b : Expr} {ifs : List Expr} {scope sc : Scope} {pos pt : Pos} {x : Str} {Nf N : List Str} {js : List Nat} {di : Den W} {dA : Den (List W)} {c : Den Bool} {d : Den W}
def DTs (Z : Zt) (X : Cx) (EE : St -> XK) (ifs : List Expr) (c : Den Bool) : Prop := PTs X ifs (liftT X.K Z EE c)
theorem dts_nil : DTs Z X EE [] dYes := fun pins s σ H Q I ⟨G, e, r, h⟩ => pts_nil pins s σ H Q I (h G H r (.refl _))
theorem dts_one (h : DT Z X EE a c) : DTs Z X EE [a] c := pts_one h
def cT (K : PySem.W.Frag) (c : Den Bool) : TT := fun σ H Q => ∃ Z', liftT K Z' (fun _ => E0) c σ H Q
def cE (K : PySem.W.Frag) (d : Den W) : TE := fun σ H Q => ∃ Z' G e, Rel K Z' G σ H e /\ (d e).holds (fun w e' => ∀ G' v H', Rel K Z' G' σ H' e' -> Same G G' -> Rep K G' w v -> Q v H') (XH K Z' (fun _ => E0) σ G)
theorem post_bind {K : PySem.W.Frag} {D : Ends} {G : Hp} {r : R (List W)} {k : W -> List S -> SR} {σ : St} (h : PostS K Z EE D G ((r.bind fun ws e' => .ok (.lst ws) e').stm k)) : r.holds (fun ws e' => PostS K Z EE D G (k (.lst ws) e')) (XH K Z EE σ G) := by
 cases r with
 | ok a e => exact h
 | ex c e => exact fun G' H' r q => h G' σ H' r q
 | no => exact h
theorem cT_ok {Y : List Str} (ht : ∀ Z' cl C s₀ H₀ ex, DTs Z' (X.cp Y scope cl C s₀ H₀ ex) (fun _ => E0) ifs c) : ∀ cl C s₀ H₀ ex, PTs (X.cp Y scope cl C s₀ H₀ ex) ifs (cT X.K c) := fun cl C s₀ H₀ ex pins s σ H Q I ⟨Z', h⟩ => ht Z' cl C s₀ H₀ ex pins s σ H Q I h
theorem cE_ok {Y : List Str} (he : ∀ Z' cl C s₀ H₀ ex, DE Z' (X.cp Y scope cl C s₀ H₀ ex) (fun _ => E0) elt d) : ∀ cl C s₀ H₀ ex, PE (X.cp Y scope cl C s₀ H₀ ex) elt (cE X.K d) := fun cl C s₀ H₀ ex pins s σ H Q I ⟨Z', h⟩ => he Z' cl C s₀ H₀ ex pins s σ H Q I h
theorem ionone {K : PySem.W.Frag} {G H : Hp} {σ : St} {e : List S} (r : Rel K Z G σ H e) : ∀ p, H p = none -> p ∉ Z.io := fun p hp hi => r.ion p hi hp
theorem lift_comp {K : PySem.W.Frag} : ∀ σ H Q, liftF K Z EE (dComp js di c d) σ H Q -> tComp (iSeq K (liftE K Z EE di)) 1 js (gName 0) (cT K c) (cE K d) σ H Q := by
 rintro σ H Q ⟨G, e, rel, h⟩
 simp only [dComp, R.holds_bind] at h
 refine ⟨G, e, rel, h.imp (fun w e1 h G1 v1 H1 r1 s1 p1 => ?_) fun _ _ h => h⟩
 split at h
 ·rename_i ws hw
  unfold compK at h
  split at h
  ·rename_i hl
   split at h
   ·rename_i out ho
    obtain ⟨G2, s2, r2⟩ := r1.frzs js
    have p2 := Rep.mono s2 w p1
    have io := ionone r2
    cases w with
    | tup us =>
     cases hw
     obtain ⟨a, xs, rfl, hq, rp⟩ := p2
     exact ⟨a, rfl, .inr ⟨⟨xs, r2.sub.tup hq⟩, comp_of walk_t r2 (s1.trans s2) rp (fun G' H' s s' => Same.tup s' (Same.tup s hq)) hl io ho h⟩⟩
    | lst us =>
     cases hw
     obtain ⟨a, xs, rfl, hq, rp⟩ := p2
     exact ⟨a, rfl, .inl ⟨⟨xs, r2.sub.seq hq⟩, comp_of walk_l r2 (s1.trans s2) rp (fun G' H' s s' => Same.seq s' (Same.seq s hq)) hl io ho h⟩⟩
    | _ => cases hw
   ·exact h.elim
  ·exact h.elim
 ·exact h.elim
theorem df_comp (hc : X.calm = true) (hi : DE Z X EE iter di) (ok : compOk sc scope N Nf js = true)
  (ht : ∀ Z' cl C s₀ H₀ ex, DTs Z' (X.cp ([x] ++ Nf) scope cl C s₀ H₀ ex) (fun _ => E0) ifs c) (he : ∀ Z' cl C s₀ H₀ ex, DE Z' (X.cp ([x] ++ Nf) scope cl C s₀ H₀ ex) (fun _ => E0) elt d)
  (hg : ∀ cl C s₀ H₀ ex, PG (X.cp ([x] ++ Nf) scope cl C s₀ H₀ ex) (.Name x pt) (gName 0))
  (hsc : X.env.scope = sc := by rfl) (hN : X.N = N := by rfl) (hs : ∀ x, foldedSetIterable iter X.env x = pure x := by intro _; rfl) :
  DF Z X EE (.ListComp elt [⟨.Name x pt, iter, ifs, 0⟩] scope pos) (dComp js di c d) := by
 exact PE.mono (pe_compK (Nl := [x]) (tc := cT X.K c) (te := cE X.K d) hc (pi_seq hi) ok hg (cT_ok ht) (cE_ok he) hsc hN hs) lift_comp
theorem lift_comp1 {K : PySem.W.Frag} : ∀ σ H Q, liftF K Z EE (dCompR rng1 js dA c d) σ H Q -> tComp (iRng1 (liftA K Z EE dA)) 1 js (gName 0) (cT K c) (cE K d) σ H Q := by
 rintro σ H Q ⟨G, e, rel, h⟩
 simp only [dCompR, R.holds_bind] at h
 refine ⟨G, e, rel, h.imp (fun ws e1 h G1 vs H1 r1 s1 p1 => ?_) fun _ _ h => h⟩
 unfold rng1 at h
 split at h
 ·rename_i us hh
  split at hh
  ·rename_i j
   split at hh
   ·rename_i hj
    cases hh
    obtain ⟨y, r, rfl, e1, e2⟩ := p1
    cases (show y = V.int j from e1)
    cases (show r = [] from e2)
    refine ⟨j, rfl, (okI_to hj).1, (okI_to hj).2, ?_⟩
    unfold compK at h
    split at h
    ·rename_i hl
     split at h
     ·rename_i out ho
      obtain ⟨G2, s2, r2⟩ := r1.frzs js
      have z := comp_of (J := Itr 0 (j - 0).toNat) walk_r r2 (s1.trans s2) (reps_range (lo := 0) (hi := j)) (fun _ _ _ _ => trivial) hl (ionone r2) ho h
      rwa [Int.sub_zero] at z
     ·exact h.elim
    ·exact h.elim
   ·cases hh
  ·cases hh
 ·exact h.elim
theorem df_comp1 {p1 p2 : Pos} (hc : X.calm = true) (hm : X.mg "range" = none) (ha : DA Z X EE [a] dA) (ok : compOk sc scope N Nf js = true)
  (ht : ∀ Z' cl C s₀ H₀ ex, DTs Z' (X.cp ([x] ++ Nf) scope cl C s₀ H₀ ex) (fun _ => E0) ifs c) (he : ∀ Z' cl C s₀ H₀ ex, DE Z' (X.cp ([x] ++ Nf) scope cl C s₀ H₀ ex) (fun _ => E0) elt d)
  (hg : ∀ cl C s₀ H₀ ex, PG (X.cp ([x] ++ Nf) scope cl C s₀ H₀ ex) (.Name x pt) (gName 0))
  (hgr : Gl X "range" := by rfl) (hs1 : starEach [a] X.env = [(false, eval a X.env)] := by rfl) (hsc : X.env.scope = sc := by rfl) (hN : X.N = N := by rfl) (hs : ∀ x, foldedSetIterable (.Call (.Name "range" p1) [a] [] p2) X.env x = pure x := by intro _; rfl) :
  DF Z X EE (.ListComp elt [⟨.Name x pt, .Call (.Name "range" p1) [a] [] p2, ifs, 0⟩] scope pos) (dCompR rng1 js dA c d) := by
 exact PE.mono (pe_compK (Nl := [x]) (tc := cT X.K c) (te := cE X.K d) hc (pi_range1 hgr hm ha hs1) ok hg (cT_ok ht) (cE_ok he) hsc hN hs) lift_comp1
theorem ds_setcomp1 (i : Nat) {y : Str} {py spos : Pos} (hNd : X.N.Nodup) {p1 p2 : Pos} (hc : X.calm = true) (hm : X.mg "range" = none) (ha : DA Z X EE [a] dA) (ok : compOk sc scope N Nf js = true)
  (ht : ∀ Z' cl C s₀ H₀ ex, DTs Z' (X.cp ([x] ++ Nf) scope cl C s₀ H₀ ex) (fun _ => E0) ifs c) (he : ∀ Z' cl C s₀ H₀ ex, DE Z' (X.cp ([x] ++ Nf) scope cl C s₀ H₀ ex) (fun _ => E0) elt d)
  (hg : ∀ cl C s₀ H₀ ex, PG (X.cp ([x] ++ Nf) scope cl C s₀ H₀ ex) (.Name x pt) (gName 0))
  (hgr : Gl X "range" := by rfl) (hs1 : starEach [a] X.env = [(false, eval a X.env)] := by rfl) (hsc : X.env.scope = sc := by rfl) (hN : X.N = N := by rfl) (hs : ∀ x, foldedSetIterable (.Call (.Name "range" p1) [a] [] p2) X.env x = pure x := by intro _; rfl) (hiy : X.N[i]? = some y := by rfl) (hxy : Loc X.env.scope y := by walk_at "3") (hfy : X.fn y = true \/ X.env.scope.names.lookup y = some .local := by walk_at "2") (hsw : swapsWith (.ListComp elt [⟨.Name x pt, .Call (.Name "range" p1) [a] [] p2, ifs, 0⟩] scope pos) (some (.Name y py)) spos.line X.env = pure true := by rfl) :
  DS Z X EE (.Assign [.Name y py] (.ListComp elt [⟨.Name x pt, .Call (.Name "range" p1) [a] [] p2, ifs, 0⟩] scope pos) spos) (dSet i (dFz (dCompR rng1 js dA c d))) := by
 refine PS.mono (ps_compAK (Nl := [x]) (tc := cT X.K c) (te := cE X.K d) hc (pi_range1 hgr hm ha hs1) ok hg (cT_ok ht) (cE_ok he) (pg_nm i hNd hiy hxy hfy) hsw hsc hN hs) ?_
 rintro D σ H ⟨G, e, rel, h⟩
 refine lift_comp1 σ H _ ⟨G, e, rel, ?_⟩
 refine (post_bind h).imp (fun w e1 h G1 a xs H1 r1 s1 q1 q2 q3 q4 p1 => ?_) fun _ _ h => h
 obtain ⟨sg, rg⟩ := r1.seen q1 q2 q3 q4
 exact h _ _ H1 (rg.set (v := .ref a) ⟨a, xs, rfl, SqL.of upd_same, Reps.mono sg w p1⟩) (s1.trans sg)
end
end D
set_option Elab.async false
set_option linter.all false
set_option maxRecDepth 100000
set_option maxHeartbeats 1000000
namespace D
open PySem L2
mutual
noncomputable def depW : W -> Nat
 | .tup ws => depWs ws + 1
 | .lst ws => depWs ws + 1
 | _ => 0
noncomputable def depWs : List W -> Nat
 | [] => 0
 | w :: ws => max (depW w) (depWs ws)
end
section
variable {X : Cx} {pins : List (Addr × Obj)} {σ : St} {H G : Hp} {s : Shared}
mutual
theorem rep_inj (I : Inv X pins σ H s) (sg : Same G H) : ∀ (w : W) {w' : W} {v : V} {k : Bool}, Rep X.K G w v -> Rep X.K G w' v -> eqW w w' = some k -> k = true
 | .non, w', v, k, h, h', e => by
  cases (show v = .non from h)
  cases w' <;> first | (cases h'; cases e; rfl) | (exfalso; obtain ⟨_, _, z, _⟩ := h'; first | done | cases z) | (exfalso; obtain ⟨_, z, _⟩ := h'; first | done | cases z)
 | .bl b, w', v, k, h, h', e => by
  cases (show v = .bl b from h)
  cases w' <;> first | (cases h'; cases e; exact beq_self_eq_true _) | (exfalso; obtain ⟨_, _, z, _⟩ := h'; first | done | cases z) | (exfalso; obtain ⟨_, z, _⟩ := h'; first | done | cases z)
 | .int b, w', v, k, h, h', e => by
  cases (show v = .int b from h)
  cases w' <;> first | (cases h'; cases e; exact beq_self_eq_true _) | (exfalso; obtain ⟨_, _, z, _⟩ := h'; first | done | cases z) | (exfalso; obtain ⟨_, z, _⟩ := h'; first | done | cases z)
 | .str b, w', v, k, h, h', e => by
  cases (show v = .str b from h)
  cases w' <;> first | (cases h'; cases e; exact beq_self_eq_true _) | (exfalso; obtain ⟨_, _, z, _⟩ := h'; first | done | cases z) | (exfalso; obtain ⟨_, z, _⟩ := h'; first | done | cases z)
 | .tup ws, w', v, k, h, h', e => by
  obtain ⟨a, xs, rfl, q, r⟩ := h
  cases w' with
  | tup ws' =>
   obtain ⟨a', xs', z, q', r'⟩ := h'
   cases z
   have := I.tuple_inj (sg.tup q) (sg.tup q')
   subst this
   exact reps_inj I sg ws r r' (e)
  | lst ws' =>
   obtain ⟨a', xs', z, q', r'⟩ := h'
   cases z
   obtain ⟨its, _, p1, _⟩ := I.tuple (sg.tup q)
   obtain ⟨its2, _, p2, _⟩ := I.list (sg.seq q')
   exact absurd rfl (SeqAt.ne_of_list_tuple p2.isList (show s.heap.IsTuple a _ from p1))
  | non => cases h'
  | bl _ => cases h'
  | int _ => cases h'
  | str _ => cases h'
  | exc _ => cases e
  | dic _ => cases e
 | .lst ws, w', v, k, h, h', e => by
  obtain ⟨a, xs, rfl, q, r⟩ := h
  cases w' with
  | lst ws' =>
   obtain ⟨a', xs', z, q', r'⟩ := h'
   cases z
   have := I.list_inj (sg.seq q) (sg.seq q')
   subst this
   exact reps_inj I sg ws r r' (e)
  | tup ws' =>
   obtain ⟨a', xs', z, q', r'⟩ := h'
   cases z
   obtain ⟨its, _, p1, _⟩ := I.tuple (sg.tup q')
   obtain ⟨its2, _, p2, _⟩ := I.list (sg.seq q)
   exact absurd rfl (SeqAt.ne_of_list_tuple p2.isList (show s.heap.IsTuple a _ from p1))
  | non => cases h'
  | bl _ => cases h'
  | int _ => cases h'
  | str _ => cases h'
  | exc _ => cases e
  | dic _ => cases e
 | .exc c, w', v, k, h, h', e => by cases w' <;> cases e
 | .dic c, w', v, k, h, h', e => by cases w' <;> cases e
theorem reps_inj (I : Inv X pins σ H s) (sg : Same G H) : ∀ (ws : List W) {ws' : List W} {vs : List V} {k : Bool}, Reps X.K G ws vs -> Reps X.K G ws' vs -> eqWs ws ws' = some k -> k = true
 | [], ws', vs, k, h, h', e => by
  cases h
  cases ws' with
  | nil => simp [eqWs] at e; exact e
  | cons _ _ => obtain ⟨_, _, z, _⟩ := h'; cases z
 | w :: ws, ws', vs, k, h, h', e => by
  obtain ⟨x, r, rfl, h1, h2⟩ := h
  cases ws' with
  | nil => cases h'
  | cons w' ws' =>
   obtain ⟨x', r', z, h1', h2'⟩ := h'
   cases z
   simp only [eqWs] at e
   cases q1 : eqW w w' with
   | none => rw [q1] at e; cases e
   | some b1 =>
    cases q2 : eqWs ws ws' with
    | none => rw [q1, q2] at e; cases e
    | some b2 =>
     rw [q1, q2] at e
     rw [rep_inj I sg w h1 h1' q1, reps_inj I sg ws h2 h2' q2] at e
     cases e; rfl
end
theorem eqWs_get : ∀ {xs ys : List W} {b : Bool}, eqWs xs ys = some b -> (∀ (j : Nat) x y, xs[j]? = some x -> ys[j]? = some y -> ∃ k, eqW x y = some k) /\ b = ((List.range (min xs.length ys.length)).all (fun j => ((eqW (xs.getD j .non) (ys.getD j .non)).getD false)) && xs.length == ys.length) := by
 intro xs
 induction xs with
 | nil =>
  intro ys b h
  refine ⟨fun j x y hx => by simp at hx, ?_⟩
  cases ys <;> simp [eqWs] at h <;> simp [<- h]
 | cons x xs ih =>
  intro ys b h
  cases ys with
  | nil => refine ⟨fun j x y hx hy => by simp at hy, ?_⟩; simp [eqWs] at h; simp [<- h]
  | cons y ys =>
   simp only [eqWs] at h
   cases q1 : eqW x y with
   | none => rw [q1] at h; cases h
   | some b1 =>
    cases q2 : eqWs xs ys with
    | none => rw [q1, q2] at h; cases h
    | some b2 =>
     rw [q1, q2] at h
     cases h
     obtain ⟨h1, h2⟩ := ih q2
     refine ⟨fun j x' y' hx hy => ?_, ?_⟩
     ·cases j with
      | zero => simp at hx hy; subst hx hy; exact ⟨_, q1⟩
      | succ j => exact h1 j x' y' (by simpa using hx) (by simpa using hy)
     ·rw [h2]
      simp only [List.length_cons, Nat.succ_min_succ, List.range_succ_eq_map, List.all_cons, List.all_map]
      have e0 : (eqW ((x :: xs).getD 0 .non) ((y :: ys).getD 0 .non)).getD false = b1 := by
       show (eqW x y).getD false = b1
       rw [q1]; rfl
      rw [e0, Bool.and_assoc]
      congr 1
      congr 1
      simp
theorem depWs_get : ∀ {xs : List W} {j : Nat} {x : W}, xs[j]? = some x -> depW x <= depWs xs
 | [], _, _, h => by simp at h
 | y :: ys, 0, x, h => by simp at h; subst h; simp only [depWs]; omega
 | y :: ys, j + 1, x, h => by
  have := depWs_get (xs := ys) (j := j) (by simpa using h)
  simp only [depWs]; omega
theorem getD_of {α : Type} {xs : List α} {j : Nat} {x d : α} (h : xs[j]? = some x) : xs.getD j d = x := by
 simp [List.getD, h]
theorem rc_mix (I : Inv X pins σ H s) (sg : Same G H) {w w' : W} {v v' : V} {u u' : Value} {b : Bool} {A : Around} (hu : A.units < cLine) (n1 : ∀ ws, w = .tup ws -> ∀ ws', w' ≠ .tup ws') (n2 : ∀ ws, w = .lst ws -> ∀ ws', w' ≠ .lst ws') (h : Rep X.K G w v) (h' : Rep X.K G w' v') (r : RelV v u) (r' : RelV v' u') (e : eqW w w' = some b) : SeqAt.RcAt A s u u' b := by
 have tl : ∀ {ws : List W} {v : V} {u : Value}, Rep X.K G (.lst ws) v -> RelV v u -> ∃ l items, u = .ref l /\ s.heap.IsList l items := fun h r => by
  obtain ⟨a, xs, rfl, q, _⟩ := h
  cases r
  obtain ⟨its, _, p, _⟩ := I.list (sg.seq q)
  exact ⟨a, _, rfl, p.isList⟩
 have tt : ∀ {ws : List W} {v : V} {u : Value}, Rep X.K G (.tup ws) v -> RelV v u -> ∃ l items, u = .ref l /\ s.heap.IsTuple l items := fun h r => by
  obtain ⟨a, xs, rfl, q, _⟩ := h
  cases r
  obtain ⟨its, _, p, _⟩ := I.tuple (sg.tup q)
  exact ⟨a, _, rfl, p⟩
 have tn : ∀ {v : V} {u : Value}, Rep X.K G .non v -> RelV v u -> u = .none := fun h r => by cases h; exact r
 have tb : ∀ {k : Bool} {v : V} {u : Value}, Rep X.K G (.bl k) v -> RelV v u -> u = .bool k := fun h r => by cases h; exact r
 have ti : ∀ {k : Int} {v : V} {u : Value}, Rep X.K G (.int k) v -> RelV v u -> ∃ t, u = .int k t := fun h r => by cases h; exact r
 have ts : ∀ {k : Str} {v : V} {u : Value}, Rep X.K G (.str k) v -> RelV v u -> ∃ t, u = .str k t := fun h r => by cases h; exact r
 cases w with
 | non =>
  obtain rfl := tn h r
  cases w' with
  | non => obtain rfl := tn h' r'; cases e; exact .none_none
  | bl k => obtain rfl := tb h' r'; cases e; exact .none_bool k
  | int k => obtain ⟨t, rfl⟩ := ti h' r'; cases e; exact .none_int k t
  | str k => obtain ⟨t, rfl⟩ := ts h' r'; cases e; exact .none_str k t
  | tup k => obtain ⟨l, it, rfl, p⟩ := tt h' r'; cases e; exact .none_tuple p hu
  | lst k => obtain ⟨l, it, rfl, p⟩ := tl h' r'; cases e; exact .none_list p hu
  | exc k => cases e
  | dic k => cases e
 | bl j =>
  obtain rfl := tb h r
  cases w' with
  | non => obtain rfl := tn h' r'; cases e; exact .bool_none j
  | bl k => obtain rfl := tb h' r'; cases e; exact .bool_bool j k
  | int k => obtain ⟨t, rfl⟩ := ti h' r'; cases e; exact .bool_int j k t
  | str k => obtain ⟨t, rfl⟩ := ts h' r'; cases e; exact .bool_str j k t
  | tup k => obtain ⟨l, it, rfl, p⟩ := tt h' r'; cases e; exact .bool_tuple j p hu
  | lst k => obtain ⟨l, it, rfl, p⟩ := tl h' r'; cases e; exact .bool_list j p hu
  | exc k => cases e
  | dic k => cases e
 | int j =>
  obtain ⟨t1, rfl⟩ := ti h r
  cases w' with
  | non => obtain rfl := tn h' r'; cases e; exact .int_none j t1
  | bl k => obtain rfl := tb h' r'; cases e; exact .int_bool j t1 k
  | int k => obtain ⟨t, rfl⟩ := ti h' r'; cases e; exact .int_int j t1 k t
  | str k => obtain ⟨t, rfl⟩ := ts h' r'; cases e; exact .int_str j t1 k t
  | tup k => obtain ⟨l, it, rfl, p⟩ := tt h' r'; cases e; exact .int_tuple j t1 p hu
  | lst k => obtain ⟨l, it, rfl, p⟩ := tl h' r'; cases e; exact .int_list j t1 p hu
  | exc k => cases e
  | dic k => cases e
 | str j =>
  obtain ⟨t1, rfl⟩ := ts h r
  cases w' with
  | non => obtain rfl := tn h' r'; cases e; exact .str_none j t1
  | bl k => obtain rfl := tb h' r'; cases e; exact .str_bool j t1 k
  | int k => obtain ⟨t, rfl⟩ := ti h' r'; cases e; exact .str_int j t1 k t
  | str k => obtain ⟨t, rfl⟩ := ts h' r'; cases e; exact .str_str j t1 k t
  | tup k => obtain ⟨l, it, rfl, p⟩ := tt h' r'; cases e; exact .str_tuple j t1 p hu
  | lst k => obtain ⟨l, it, rfl, p⟩ := tl h' r'; cases e; exact .str_list j t1 p hu
  | exc k => cases e
  | dic k => cases e
 | tup j =>
  obtain ⟨l1, it1, rfl, p1⟩ := tt h r
  cases w' with
  | non => obtain rfl := tn h' r'; cases e; exact .tuple_none p1 hu
  | bl k => obtain rfl := tb h' r'; cases e; exact .tuple_bool k p1 hu
  | int k => obtain ⟨t, rfl⟩ := ti h' r'; cases e; exact .tuple_int k t p1 hu
  | str k => obtain ⟨t, rfl⟩ := ts h' r'; cases e; exact .tuple_str k t p1 hu
  | tup k => exact absurd rfl (n1 j rfl k)
  | lst k => obtain ⟨l, it, rfl, p⟩ := tl h' r'; cases e; exact .tuple_list p1 p hu
  | exc k => cases e
  | dic k => cases e
 | lst j =>
  obtain ⟨l1, it1, rfl, p1⟩ := tl h r
  cases w' with
  | non => obtain rfl := tn h' r'; cases e; exact .list_none p1 hu
  | bl k => obtain rfl := tb h' r'; cases e; exact .list_bool k p1 hu
  | int k => obtain ⟨t, rfl⟩ := ti h' r'; cases e; exact .list_int k t p1 hu
  | str k => obtain ⟨t, rfl⟩ := ts h' r'; cases e; exact .list_str k t p1 hu
  | lst k => exact absurd rfl (n2 j rfl k)
  | tup k => obtain ⟨l, it, rfl, p⟩ := tt h' r'; cases e; exact .list_tuple p1 p hu
  | exc k => cases e
  | dic k => cases e
 | exc j => cases w' <;> cases e
 | dic j => cases w' <;> cases e
theorem rc_flat (I : Inv X pins σ H s) (sg : Same G H) {w w' : W} {v v' : V} {u u' : Value} {b : Bool} {A : Around} (hd : depW w <= 0) (hu : A.units < cLine) (h : Rep X.K G w v) (h' : Rep X.K G w' v') (r : RelV v u) (r' : RelV v' u') (e : eqW w w' = some b) : SeqAt.RcAt A s u u' b :=
 rc_mix I sg hu (fun ws z => by subst z; simp [depW] at hd) (fun ws z => by subst z; simp [depW] at hd) h h' r r' e
theorem rep_nofl {K : PySem.W.Frag} {G : Hp} {w : W} {v : V} (h : Rep K G w v) : ∀ x, v ≠ .flt x := fun x z => by
 subst z
 cases w with
 | tup ws => obtain ⟨_, _, z, _⟩ := h; cases z
 | lst ws => obtain ⟨_, _, z, _⟩ := h; cases z
 | exc c => obtain ⟨_, z, _⟩ := h; cases z
 | dic c => obtain ⟨_, z, _⟩ := h; cases z
 | _ => cases h
theorem eq_of_rc {A : Around} {v : V} {u u' : Value} {b : Bool} (rv : RelV v u) (hf : ∀ x, v ≠ .flt x) (h : SeqAt.RcAt A s u u' b) (hs : u = u' -> b = true) : SeqAt.EqAt A s u u' b := fun prog w E Q hq => by
 unfold eqBool
 refine wpAny_holding ?_
 refine wpAny_ite_split (fun hab => ?_) (fun _ => ?_)
 ·have hb := hs (eq_of_beq hab)
  subst hb
  exact wpAny_bind (wpAny_rule (wpAny_pure hq))
 ·have z := wpAny_bind (h prog w E (fun a s' => wpAny (model prog w) A (truthOfDropped a) Q E s') (wpAny_truthy_bool hq))
  cases v with
  | flt x => exact absurd rfl (hf x)
  | non => cases rv; exact z
  | bl _ => cases rv; exact z
  | int _ => obtain ⟨t, rfl⟩ := rv; exact z
  | str _ => obtain ⟨t, rfl⟩ := rv; exact z
  | byt _ => obtain ⟨t, rfl⟩ := rv; exact z
  | ref _ => cases rv; exact z
  | ty _ => cases rv; exact z
theorem rc_of (I : Inv X pins σ H s) (sg : Same G H) : ∀ (n : Nat) {w w' : W} {v v' : V} {u u' : Value} {b : Bool} {A : Around}, depW w <= n -> A.units + n < cLine -> Rep X.K G w v -> Rep X.K G w' v' -> RelV v u -> RelV v' u' -> eqW w w' = some b -> SeqAt.RcAt A s u u' b := by
 intro n
 induction n with
 | zero =>
  intro w w' v v' u u' b A hd hu h h' r r' e
  exact rc_flat I sg hd (by omega) h h' r r' e
 | succ n ih =>
  intro w w' v v' u u' b A hd hu h h' r r' e
  have items : ∀ {ws ws' : List W} {xs xs' : List V} {its its' : List Value} {k : Bool}, depWs ws <= n -> Reps X.K G ws xs -> Reps X.K G ws' xs' -> Vals xs its -> Vals xs' its' -> eqWs ws ws' = some k ->
    ∀ j (h1 : j < its.toArray.size) (h2 : j < its'.toArray.size), SeqAt.EqAt A.in1 s its.toArray[j] its'.toArray[j] ((eqW (ws.getD j .non) (ws'.getD j .non)).getD false) := by
   intro ws ws' xs xs' its its' k hd r1 r2 v1 v2 he j h1 h2
   have l1 := r1.length
   have l2 := r2.length
   have m1 := v1.length
   have m2 := v2.length
   have i1 : j < xs.length := by rw [m1]; simpa using h1
   have i2 : j < xs'.length := by rw [m2]; simpa using h2
   obtain ⟨u1, e1, ru1⟩ := v1.get (List.getElem?_eq_getElem i1)
   obtain ⟨u2, e2, ru2⟩ := v2.get (List.getElem?_eq_getElem i2)
   obtain ⟨w1, f1, p1⟩ := r1.getV (List.getElem?_eq_getElem i1)
   obtain ⟨w2, f2, p2⟩ := r2.getV (List.getElem?_eq_getElem i2)
   obtain ⟨b', hb'⟩ := (eqWs_get he).1 j w1 w2 f1 f2
   rw [getD_of f1, getD_of f2, hb']
   have g1 : its.toArray[j] = u1 := by
    obtain ⟨_, z⟩ := List.getElem?_eq_some_iff.mp e1
    simpa using z
   have g2 : its'.toArray[j] = u2 := by
    obtain ⟨_, z⟩ := List.getElem?_eq_some_iff.mp e2
    simpa using z
   rw [g1, g2]
   have hdw : depW w1 <= n := Nat.le_trans (depWs_get f1) hd
   have hun : A.in1.units + n < cLine := by
    have : A.in1.units = A.units + 1 := rfl
    omega
   refine eq_of_rc ru1 (rep_nofl p1) (ih hdw hun p1 p2 ru1 ru2 hb') fun z => ?_
   subst z
   have := ru1.inj ru2
   rw [this] at p1
   exact rep_inj I sg w1 p1 p2 hb'
  cases w with
  | tup ws =>
   cases w' with
   | tup ws' =>
    obtain ⟨a, xs, rfl, q1, r1⟩ := h
    obtain ⟨a', xs', rfl, q2, r2⟩ := h'
    cases r
    cases r'
    obtain ⟨its, v1, p1, _⟩ := I.tuple (sg.tup q1)
    obtain ⟨its', v2, p2, _⟩ := I.tuple (sg.tup q2)
    have e : eqWs ws ws' = some b := e
    have z := SeqAt.RcAt.tuples (show s.heap.IsTuple a _ from p1) (show s.heap.IsTuple a' _ from p2) (show A.units < cLine by omega) (items (by simp only [depW] at hd; omega) r1 r2 v1 v2 e)
    have l1 := r1.length
    have l2 := r2.length
    have m1 := v1.length
    have m2 := v2.length
    have eb := (eqWs_get e).2
    have n1 : its.length = ws.length := by omega
    have n2 : its'.length = ws'.length := by omega
    rw [eb]
    simp only [List.size_toArray, n1, n2] at z
    exact z
   | _ => exact rc_mix I sg (by omega) (by intro ws'; simp) (by intro ws'; simp) h h' r r' e
  | lst ws =>
   cases w' with
   | lst ws' =>
    obtain ⟨a, xs, rfl, q1, r1⟩ := h
    obtain ⟨a', xs', rfl, q2, r2⟩ := h'
    cases r
    cases r'
    obtain ⟨its, v1, p1, _⟩ := I.list (sg.seq q1)
    obtain ⟨its', v2, p2, _⟩ := I.list (sg.seq q2)
    have e : eqWs ws ws' = some b := e
    have l1 := r1.length
    have l2 := r2.length
    have m1 := v1.length
    have m2 := v2.length
    have eb := (eqWs_get e).2
    have n1 : its.length = ws.length := by omega
    have n2 : its'.length = ws'.length := by omega
    by_cases hl : ws.length = ws'.length
    ·have z := SeqAt.RcAt.lists p1.isList p2.isList (by simp only [List.size_toArray]; omega) (show A.units < cLine by omega) (items (by simp only [depW] at hd; omega) r1 r2 v1 v2 e)
     rw [eb, hl]
     simp only [List.size_toArray, n1, hl, Nat.min_self, beq_self_eq_true, Bool.and_true] at z |-
     exact z
    ·have z := SeqAt.RcAt.lists_lengths (A := A) p1.isList p2.isList (by simp only [List.size_toArray, bne_iff_ne]; omega) (show A.units < cLine by omega)
     have : b = false := by
      rw [eb]
      have : (ws.length == ws'.length) = false := by simp [hl]
      rw [this, Bool.and_false]
     rw [this]
     exact z
   | _ => exact rc_mix I sg (by omega) (by intro ws'; simp) (by intro ws'; simp) h h' r r' e
  | _ => exact rc_flat I sg (by simp [depW]) (by omega) h h' r r' e
theorem rcne_mix (I : Inv X pins σ H s) (sg : Same G H) {w w' : W} {v v' : V} {u u' : Value} {b : Bool} {A : Around} (hu : A.units < cLine) (n1 : ∀ ws, w = .tup ws -> ∀ ws', w' ≠ .tup ws') (n2 : ∀ ws, w = .lst ws -> ∀ ws', w' ≠ .lst ws') (h : Rep X.K G w v) (h' : Rep X.K G w' v') (r : RelV v u) (r' : RelV v' u') (e : eqW w w' = some b) : SeqAt.RcNeAt A s u u' (!b) := by
 have tl : ∀ {ws : List W} {v : V} {u : Value}, Rep X.K G (.lst ws) v -> RelV v u -> ∃ l items, u = .ref l /\ s.heap.IsList l items := fun h r => by
  obtain ⟨a, xs, rfl, q, _⟩ := h
  cases r
  obtain ⟨its, _, p, _⟩ := I.list (sg.seq q)
  exact ⟨a, _, rfl, p.isList⟩
 have tt : ∀ {ws : List W} {v : V} {u : Value}, Rep X.K G (.tup ws) v -> RelV v u -> ∃ l items, u = .ref l /\ s.heap.IsTuple l items := fun h r => by
  obtain ⟨a, xs, rfl, q, _⟩ := h
  cases r
  obtain ⟨its, _, p, _⟩ := I.tuple (sg.tup q)
  exact ⟨a, _, rfl, p⟩
 have tn : ∀ {v : V} {u : Value}, Rep X.K G .non v -> RelV v u -> u = .none := fun h r => by cases h; exact r
 have tb : ∀ {k : Bool} {v : V} {u : Value}, Rep X.K G (.bl k) v -> RelV v u -> u = .bool k := fun h r => by cases h; exact r
 have ti : ∀ {k : Int} {v : V} {u : Value}, Rep X.K G (.int k) v -> RelV v u -> ∃ t, u = .int k t := fun h r => by cases h; exact r
 have ts : ∀ {k : Str} {v : V} {u : Value}, Rep X.K G (.str k) v -> RelV v u -> ∃ t, u = .str k t := fun h r => by cases h; exact r
 cases w with
 | non =>
  obtain rfl := tn h r
  cases w' with
  | non => obtain rfl := tn h' r'; cases e; exact .none_none
  | bl k => obtain rfl := tb h' r'; cases e; exact .none_bool k
  | int k => obtain ⟨t, rfl⟩ := ti h' r'; cases e; exact .none_int k t
  | str k => obtain ⟨t, rfl⟩ := ts h' r'; cases e; exact .none_str k t
  | tup k => obtain ⟨l, it, rfl, p⟩ := tt h' r'; cases e; exact .none_tuple p hu
  | lst k => obtain ⟨l, it, rfl, p⟩ := tl h' r'; cases e; exact .none_list p hu
  | exc k => cases e
  | dic k => cases e
 | bl j =>
  obtain rfl := tb h r
  cases w' with
  | non => obtain rfl := tn h' r'; cases e; exact .bool_none j
  | bl k => obtain rfl := tb h' r'; cases e; exact .bool_bool j k
  | int k => obtain ⟨t, rfl⟩ := ti h' r'; cases e; exact .bool_int j k t
  | str k => obtain ⟨t, rfl⟩ := ts h' r'; cases e; exact .bool_str j k t
  | tup k => obtain ⟨l, it, rfl, p⟩ := tt h' r'; cases e; exact .bool_tuple j p hu
  | lst k => obtain ⟨l, it, rfl, p⟩ := tl h' r'; cases e; exact .bool_list j p hu
  | exc k => cases e
  | dic k => cases e
 | int j =>
  obtain ⟨t1, rfl⟩ := ti h r
  cases w' with
  | non => obtain rfl := tn h' r'; cases e; exact .int_none j t1
  | bl k => obtain rfl := tb h' r'; cases e; exact .int_bool j t1 k
  | int k => obtain ⟨t, rfl⟩ := ti h' r'; cases e; exact .int_int j t1 k t
  | str k => obtain ⟨t, rfl⟩ := ts h' r'; cases e; exact .int_str j t1 k t
  | tup k => obtain ⟨l, it, rfl, p⟩ := tt h' r'; cases e; exact .int_tuple j t1 p hu
  | lst k => obtain ⟨l, it, rfl, p⟩ := tl h' r'; cases e; exact .int_list j t1 p hu
  | exc k => cases e
  | dic k => cases e
 | str j =>
  obtain ⟨t1, rfl⟩ := ts h r
  cases w' with
  | non => obtain rfl := tn h' r'; cases e; exact .str_none j t1
  | bl k => obtain rfl := tb h' r'; cases e; exact .str_bool j t1 k
  | int k => obtain ⟨t, rfl⟩ := ti h' r'; cases e; exact .str_int j t1 k t
  | str k => obtain ⟨t, rfl⟩ := ts h' r'; cases e; exact .str_str j t1 k t
  | tup k => obtain ⟨l, it, rfl, p⟩ := tt h' r'; cases e; exact .str_tuple j t1 p hu
  | lst k => obtain ⟨l, it, rfl, p⟩ := tl h' r'; cases e; exact .str_list j t1 p hu
  | exc k => cases e
  | dic k => cases e
 | tup j =>
  obtain ⟨l1, it1, rfl, p1⟩ := tt h r
  cases w' with
  | non => obtain rfl := tn h' r'; cases e; exact .tuple_none p1 hu
  | bl k => obtain rfl := tb h' r'; cases e; exact .tuple_bool k p1 hu
  | int k => obtain ⟨t, rfl⟩ := ti h' r'; cases e; exact .tuple_int k t p1 hu
  | str k => obtain ⟨t, rfl⟩ := ts h' r'; cases e; exact .tuple_str k t p1 hu
  | tup k => exact absurd rfl (n1 j rfl k)
  | lst k => obtain ⟨l, it, rfl, p⟩ := tl h' r'; cases e; exact .tuple_list p1 p hu
  | exc k => cases e
  | dic k => cases e
 | lst j =>
  obtain ⟨l1, it1, rfl, p1⟩ := tl h r
  cases w' with
  | non => obtain rfl := tn h' r'; cases e; exact .list_none p1 hu
  | bl k => obtain rfl := tb h' r'; cases e; exact .list_bool k p1 hu
  | int k => obtain ⟨t, rfl⟩ := ti h' r'; cases e; exact .list_int k t p1 hu
  | str k => obtain ⟨t, rfl⟩ := ts h' r'; cases e; exact .list_str k t p1 hu
  | lst k => exact absurd rfl (n2 j rfl k)
  | tup k => obtain ⟨l, it, rfl, p⟩ := tt h' r'; cases e; exact .list_tuple p1 p hu
  | exc k => cases e
  | dic k => cases e
 | exc j => cases w' <;> cases e
 | dic j => cases w' <;> cases e
theorem rcne_flat (I : Inv X pins σ H s) (sg : Same G H) {w w' : W} {v v' : V} {u u' : Value} {b : Bool} {A : Around} (hd : depW w <= 0) (hu : A.units < cLine) (h : Rep X.K G w v) (h' : Rep X.K G w' v') (r : RelV v u) (r' : RelV v' u') (e : eqW w w' = some b) : SeqAt.RcNeAt A s u u' (!b) :=
 rcne_mix I sg hu (fun ws z => by subst z; simp [depW] at hd) (fun ws z => by subst z; simp [depW] at hd) h h' r r' e
theorem items_of (I : Inv X pins σ H s) (sg : Same G H) {A : Around} {n : Nat} (hu : A.units + (n + 1) < cLine) {ws ws' : List W} {xs xs' : List V} {its its' : List Value} {k : Bool} (hd : depWs ws <= n) (r1 : Reps X.K G ws xs) (r2 : Reps X.K G ws' xs') (v1 : Vals xs its) (v2 : Vals xs' its') (he : eqWs ws ws' = some k) :
  ∀ j (h1 : j < its.toArray.size) (h2 : j < its'.toArray.size), SeqAt.EqAt A.in1 s its.toArray[j] its'.toArray[j] ((eqW (ws.getD j .non) (ws'.getD j .non)).getD false) := by
 intro j h1 h2
 have l1 := r1.length
 have l2 := r2.length
 have m1 := v1.length
 have m2 := v2.length
 have i1 : j < xs.length := by rw [m1]; simpa using h1
 have i2 : j < xs'.length := by rw [m2]; simpa using h2
 obtain ⟨u1, e1, ru1⟩ := v1.get (List.getElem?_eq_getElem i1)
 obtain ⟨u2, e2, ru2⟩ := v2.get (List.getElem?_eq_getElem i2)
 obtain ⟨w1, f1, p1⟩ := r1.getV (List.getElem?_eq_getElem i1)
 obtain ⟨w2, f2, p2⟩ := r2.getV (List.getElem?_eq_getElem i2)
 obtain ⟨b', hb'⟩ := (eqWs_get he).1 j w1 w2 f1 f2
 rw [getD_of f1, getD_of f2, hb']
 have g1 : its.toArray[j] = u1 := by
  obtain ⟨_, z⟩ := List.getElem?_eq_some_iff.mp e1
  simpa using z
 have g2 : its'.toArray[j] = u2 := by
  obtain ⟨_, z⟩ := List.getElem?_eq_some_iff.mp e2
  simpa using z
 rw [g1, g2]
 have hdw : depW w1 <= n := Nat.le_trans (depWs_get f1) hd
 have hun : A.in1.units + n < cLine := by
  have : A.in1.units = A.units + 1 := rfl
  omega
 refine eq_of_rc ru1 (rep_nofl p1) (rc_of I sg n hdw hun p1 p2 ru1 ru2 hb') fun z => ?_
 subst z
 have := ru1.inj ru2
 rw [this] at p1
 exact rep_inj I sg w1 p1 p2 hb'
theorem rcne_of (I : Inv X pins σ H s) (sg : Same G H) (n : Nat) {w w' : W} {v v' : V} {u u' : Value} {b : Bool} {A : Around} (hd : depW w <= n + 1) (hu : A.units + (n + 1) < cLine) (h : Rep X.K G w v) (h' : Rep X.K G w' v') (r : RelV v u) (r' : RelV v' u') (e : eqW w w' = some b) : SeqAt.RcNeAt A s u u' (!b) := by
 cases w with
 | tup ws =>
  cases w' with
  | tup ws' =>
   obtain ⟨a, xs, rfl, q1, r1⟩ := h
   obtain ⟨a', xs', rfl, q2, r2⟩ := h'
   cases r
   cases r'
   obtain ⟨its, v1, p1, _⟩ := I.tuple (sg.tup q1)
   obtain ⟨its', v2, p2, _⟩ := I.tuple (sg.tup q2)
   have e : eqWs ws ws' = some b := e
   have z := SeqAt.RcNeAt.tuples (show s.heap.IsTuple a _ from p1) (show s.heap.IsTuple a' _ from p2) (show A.units < cLine by omega) (items_of I sg hu (by simp only [depW] at hd; omega) r1 r2 v1 v2 e)
   have l1 := r1.length
   have l2 := r2.length
   have m1 := v1.length
   have m2 := v2.length
   have eb := (eqWs_get e).2
   have n1 : its.length = ws.length := by omega
   have n2 : its'.length = ws'.length := by omega
   rw [eb]
   simp only [List.size_toArray, n1, n2] at z
   exact z
  | _ => exact rcne_mix I sg (by omega) (by intro ws'; simp) (by intro ws'; simp) h h' r r' e
 | lst ws =>
  cases w' with
  | lst ws' =>
   obtain ⟨a, xs, rfl, q1, r1⟩ := h
   obtain ⟨a', xs', rfl, q2, r2⟩ := h'
   cases r
   cases r'
   obtain ⟨its, v1, p1, _⟩ := I.list (sg.seq q1)
   obtain ⟨its', v2, p2, _⟩ := I.list (sg.seq q2)
   have e : eqWs ws ws' = some b := e
   have l1 := r1.length
   have l2 := r2.length
   have m1 := v1.length
   have m2 := v2.length
   have eb := (eqWs_get e).2
   have n1 : its.length = ws.length := by omega
   have n2 : its'.length = ws'.length := by omega
   by_cases hl : ws.length = ws'.length
   ·have z := SeqAt.RcNeAt.lists p1.isList p2.isList (by simp only [List.size_toArray]; omega) (show A.units < cLine by omega) (items_of I sg hu (by simp only [depW] at hd; omega) r1 r2 v1 v2 e)
    rw [eb, hl]
    simp only [List.size_toArray, n1, hl, Nat.min_self, beq_self_eq_true, Bool.and_true] at z |-
    exact z
   ·have z := SeqAt.RcNeAt.lists_lengths (A := A) p1.isList p2.isList (by simp only [List.size_toArray, bne_iff_ne]; omega) (show A.units < cLine by omega)
    have : b = false := by
     rw [eb]
     have : (ws.length == ws'.length) = false := by simp [hl]
     rw [this, Bool.and_false]
    rw [this]
    exact z
  | _ => exact rcne_mix I sg (by omega) (by intro ws'; simp) (by intro ws'; simp) h h' r r' e
 | _ => exact rcne_flat I sg (by simp [depW]) (by omega) h h' r r' e
noncomputable def eq2 (x y : W) : Option W := if depW x <= 150 then (eqW x y).map .bl else none
def rEqD (K : PySem.W.Frag) : R2 := fun x y H Q => ∃ G wx wy b, Same G H /\ depW wx <= 150 /\ Rep K G wx x /\ Rep K G wy y /\ eqW wx wy = some b /\ Q (.bl b) H
theorem op_eqD {X : Cx} (hu : X.A.units + 150 < cLine) : OpR X (compareOp .Eq) (rEqD X.K) := by
 intro pins s σ H x y v u Q I rx ry h
 obtain ⟨G, wx, wy, b, sg, hd, hx, hy, e, q⟩ := h
 exact rc_of I sg 150 hd hu hx hy rx ry e _ _ _ _ ⟨.bl b, H, I, rfl, q⟩
theorem o2_eq {K : PySem.W.Frag} : Op2 K (rEqD K) eq2 := by
 intro G H x y wx wy w Q s px py hf h
 unfold eq2 at hf
 split at hf
 ·rename_i hd
  obtain ⟨b, hb, rfl⟩ := Option.map_eq_some_iff.mp hf
  exact ⟨G, wx, wy, b, s, hd, px, py, hb, h G _ H (.refl s) rfl⟩
 ·cases hf
noncomputable def ne2 (x y : W) : Option W := if depW x <= 150 then (eqW x y).map fun b => .bl (!b) else none
def rNeD (K : PySem.W.Frag) : R2 := fun x y H Q => ∃ G wx wy b, Same G H /\ depW wx <= 150 /\ Rep K G wx x /\ Rep K G wy y /\ eqW wx wy = some b /\ Q (.bl (!b)) H
theorem op_neD {X : Cx} (hu : X.A.units + 150 < cLine) : OpR X (compareOp .NotEq) (rNeD X.K) := by
 intro pins s σ H x y v u Q I rx ry h
 obtain ⟨G, wx, wy, b, sg, hd, hx, hy, e, q⟩ := h
 exact rcne_of I sg 149 hd hu hx hy rx ry e _ _ _ _ ⟨.bl (!b), H, I, rfl, q⟩
theorem o2_ne {K : PySem.W.Frag} : Op2 K (rNeD K) ne2 := by
 intro G H x y wx wy w Q s px py hf h
 unfold ne2 at hf
 split at hf
 ·rename_i hd
  obtain ⟨b, hb, rfl⟩ := Option.map_eq_some_iff.mp hf
  exact ⟨G, wx, wy, b, s, hd, px, py, hb, h G _ H (.refl s) rfl⟩
 ·cases hf
end
end D
set_option Elab.async false
set_option linter.all false
set_option maxRecDepth 100000
set_option maxHeartbeats 1000000
namespace D
open PySem L2
section
variable {K : PySem.W.Frag}
end
section
variable {X : Cx} {Z : Zt} {EE : St -> XK} {a b c e : Expr} {es : List Expr} {da db : Den W} {dA : Den (List W)} {pos p : Pos} {x : Str}
theorem de_sub (ha : DE Z X EE a da) (hb : DE Z X EE b db) : DE Z X EE (.BinOp a .Sub b pos) (dOp subW da db) := de_op op_sub o2_sub ha hb
theorem de_mul (ha : DE Z X EE a da) (hb : DE Z X EE b db) : DE Z X EE (.BinOp a .Mult b pos) (dOp mulW da db) := de_op op_mul o2_mul ha hb
theorem de_fdiv (ha : DE Z X EE a da) (hb : DE Z X EE b db) : DE Z X EE (.BinOp a .FloorDiv b pos) (dOp fdivW da db) := de_op op_fdiv o2_fdiv ha hb
theorem de_mod (ha : DE Z X EE a da) (hb : DE Z X EE b db) : DE Z X EE (.BinOp a .Mod b pos) (dOp modW da db) := de_op op_mod o2_mod ha hb
theorem de_lt (ha : DE Z X EE a da) (hb : DE Z X EE b db) : DE Z X EE (.Compare a [.Lt] [b] pos) (dOp ltW da db) := de_cmp op_lt o2_lt ha hb (nomark _)
theorem de_le (ha : DE Z X EE a da) (hb : DE Z X EE b db) : DE Z X EE (.Compare a [.LtE] [b] pos) (dOp leW da db) := de_cmp op_le o2_le ha hb (nomark _)
theorem de_eq (hu : X.A.units + 150 < cLine) (ha : DE Z X EE a da) (hb : DE Z X EE b db) : DE Z X EE (.Compare a [.Eq] [b] pos) (dOp eq2 da db) := de_cmp (op_eqD hu) o2_eq ha hb (nomark _)
theorem de_ne (hu : X.A.units + 150 < cLine) (ha : DE Z X EE a da) (hb : DE Z X EE b db) : DE Z X EE (.Compare a [.NotEq] [b] pos) (dOp ne2 da db) := de_cmp (op_neD hu) o2_ne ha hb (nomark _)
theorem dt_lt (ha : DE Z X EE a da) (hb : DE Z X EE b db) : DT Z X EE (.Compare a [.Lt] [b] pos) (dTest (dOp ltW da db)) := dt_cmp op_lt o2_lt ha hb (nomark _)
theorem dt_gt (ha : DE Z X EE a da) (hb : DE Z X EE b db) : DT Z X EE (.Compare a [.Gt] [b] pos) (dTest (dOp gtW da db)) := dt_cmp op_gt o2_gt ha hb (nomark _)
theorem dt_eq (hu : X.A.units + 150 < cLine) (ha : DE Z X EE a da) (hb : DE Z X EE b db) : DT Z X EE (.Compare a [.Eq] [b] pos) (dTest (dOp eq2 da db)) := dt_cmp (op_eqD hu) o2_eq ha hb (nomark _)
theorem dt_ne (hu : X.A.units + 150 < cLine) (ha : DE Z X EE a da) (hb : DE Z X EE b db) : DT Z X EE (.Compare a [.NotEq] [b] pos) (dTest (dOp ne2 da db)) := dt_cmp (op_neD hu) o2_ne ha hb (nomark _)
theorem room_eq {k : Nat} {A : Around} (h : Room k A) : A.units + 150 < cLine := by have := h.un; omega
theorem roomH_eq {k : Nat} {A : Around} (h : RoomH k A) : A.units + 150 < cLine := by have := h.un; omega
noncomputable def cutW (xs : List W) (lo hi : Option Int) : List W := (xs.drop (HT.sIx xs.length 0 lo)).take (HT.sIx xs.length xs.length hi - HT.sIx xs.length 0 lo)
theorem Reps.cut {K : PySem.W.Frag} {G : Hp} {ws : List W} {xs : List V} (r : Reps K G ws xs) (lo hi : Option Int) : Reps K G (cutW ws lo hi) (cutV xs lo hi) := by
 unfold cutW cutV
 rw [r.length]
 exact (r.drop _).take _
def DO (Z : Zt) (X : Cx) (EE : St -> XK) (e : Option Expr) (d : Den (Option Int)) : Prop := PO X e (fun σ H Q => ∃ G e, Rel X.K Z G σ H e /\ (d e).holds (fun o e' => ∀ G' H', Rel X.K Z G' σ H' e' -> Same G G' -> Q o H') (XH X.K Z EE σ G))
noncomputable def dNoPart : Den (Option Int) := fun e => .ok none e
noncomputable def dPart (d : Den W) : Den (Option Int) := fun e => (d e).bind fun w e1 => match w with
 | .int i => .ok (some i) e1
 | _ => .no
theorem PO.mono {X : Cx} {e : Option Expr} {t t' : TO} (h : PO X e t) (i : ∀ σ H Q, t' σ H Q -> t σ H Q) : PO X e t' := fun pins s σ H Q I q => h pins s σ H Q I (i σ H Q q)
theorem do_none : DO Z X EE none dNoPart := PO.mono po_none fun σ H Q ⟨G, e, r, h⟩ => h G H r (.refl _)
theorem do_some (h : DE Z X EE e da) : DO Z X EE (some e) (dPart da) := by
 refine PO.mono (po_some h) ?_
 rintro σ H Q ⟨G, e, rel, h⟩
 simp only [dPart, R.holds_bind] at h
 refine ⟨G, e, rel, h.imp (fun x e1 h G1 v1 H1 r1 s1 p1 => ?_) fun _ _ h => h⟩
 cases x with
 | int i => cases (show v1 = V.int i from p1); exact ⟨i, rfl, h G1 H1 r1 s1⟩
 | _ => exact h.elim
noncomputable def slW : W -> Option Int -> Option Int -> Option W
 | .lst ws, lo, hi => some (.lst (cutW ws lo hi))
 | .tup ws, lo, hi => if ¬ (HT.sIx ws.length 0 lo = 0 /\ HT.sIx ws.length ws.length hi = ws.length) then some (.tup (cutW ws lo hi)) else none
 | _, _, _ => none
noncomputable def dSl (d : Den W) (dl dh : Den (Option Int)) : Den W := fun e => (d e).bind fun w e1 => (dl e1).bind fun lo e2 => (dh e2).bind fun hi e3 => ofOpt (slW w lo hi) e3
theorem de_slice {lo hi : Option Expr} {dl dh : Den (Option Int)} {p2 : Pos} (he : DE Z X EE e da) (hl : DO Z X EE lo dl) (hh : DO Z X EE hi dh) : DE Z X EE (.Subscript e (.Slice lo hi none p2) pos) (dSl da dl dh) := by
 refine PE.mono (pe_slice (sl_list.or sl_tup) he hl hh) ?_
 rintro σ H Q ⟨G, e, rel, h⟩
 simp only [dSl, R.holds_bind, ofOpt_holds] at h
 refine ⟨G, e, rel, h.imp (fun w e1 h G1 v1 H1 r1 s1 p1 => ?_) fun _ _ h => h⟩
 refine ⟨G1, e1, r1, h.imp (fun lo e2 h G2 H2 r2 s2 => ?_) fun _ _ h => XH.trans s1 h⟩
 refine ⟨G2, e2, r2, h.imp (fun hi e3 h G3 H3 r3 s3 => ?_) fun _ _ h => XH.trans (s1.trans s2) h⟩
 obtain ⟨y, hf, h⟩ := h
 have p3 := Rep.mono (s2.trans s3) w p1
 have s03 := (s1.trans s2).trans s3
 cases w with
 | lst ws =>
  cases hf
  obtain ⟨a, xs, rfl, q, r⟩ := p3
  refine .inl ⟨a, xs, rfl, r3.sub.seq q, fun p hp => ?_⟩
  have g := Grow.laid r3.sub hp (.lst (cutV xs lo hi))
  exact h _ _ _ (r3.grow g) (s03.trans g.gg) ⟨p, _, rfl, SqL.of upd_same, Reps.mono g.gg _ (r.cut lo hi)⟩
 | tup ws =>
  simp only [slW] at hf
  split at hf
  ·rename_i hw
   cases hf
   obtain ⟨a, xs, rfl, q, r⟩ := p3
   refine .inr ⟨a, xs, rfl, r3.sub.tup q, by rw [r.length]; exact hw, fun p hp => ?_⟩
   have g := Grow.laid r3.sub hp (.tup (cutV xs lo hi))
   exact h _ _ _ (r3.grow g) (s03.trans g.gg) ⟨p, _, rfl, SqT.of upd_same, Reps.mono g.gg _ (r.cut lo hi)⟩
  ·cases hf
 | _ => cases hf
noncomputable def tyW : W -> Value
 | .non => .type "NoneType"
 | .bl _ => .type "bool"
 | .int _ => .type "int"
 | .str _ => .type "str"
 | .tup _ => .type "tuple"
 | .lst _ => .type "list"
 | .exc c => c
 | .dic _ => .type "dict"
noncomputable def isiW (K : PySem.W.Frag) (cv : Value) : W -> Option W
 | .exc (.ref D) => if excClsIn K D = true then (PySem.W.kitOne K (.ref D) cv).map .bl else none
 | .exc _ => none
 | .dic _ => none
 | w => (PySem.W.kitOne K (tyW w) cv).map .bl
theorem isi_run {pins : List (Addr × Obj)} {s : Shared} {σ : St} {H G : Hp} {w : W} {v : V} {u cv : Value} {b : Bool} {Q : VK} (I : Inv X pins σ H s) (sg : Same G H) (p : Rep X.K G w v) (r : RelV v u) (h : isiW X.K cv w = some (.bl b)) (q : Q (.bl b) H) :
  wpAny (model X.prog X.w) X.A (call (.builtin "isinstance") [u, cv]) (EP X pins σ Q) X.xe s := by
 have fin : ∀ tk, EP X pins σ Q (.bool b) { s with toks := tk } := fun tk => ⟨.bl b, H, I.tok _, rfl, q⟩
 have kit : ∀ {t : Value}, (PySem.W.kitOne X.K t cv).map W.bl = some (.bl b) -> PySem.W.kitOne X.K t cv = some b := fun z => by
  obtain ⟨y, h1, h2⟩ := Option.map_eq_some_iff.mp z
  cases h2; exact h1
 cases w with
 | non => cases p; cases r; exact PySem.W.kia_one PySem.W.kitx_none I.kIn True.intro (kit h) (fun z => nomatch z) fin
 | bl y => cases p; cases r; exact PySem.W.kia_one PySem.W.kitx_bool I.kIn True.intro (kit h) (fun z => nomatch z) fin
 | int y => cases p; obtain ⟨t, rfl⟩ := r; exact PySem.W.kia_one PySem.W.kitx_int I.kIn True.intro (kit h) (fun z => nomatch z) fin
 | str y => cases p; obtain ⟨t, rfl⟩ := r; exact PySem.W.kia_one PySem.W.kitx_str I.kIn True.intro (kit h) (fun z => nomatch z) fin
 | tup ws =>
  obtain ⟨a, xs, rfl, hq, _⟩ := p
  cases r
  obtain ⟨its, _, ⟨o, h1, h2, _⟩, _⟩ := I.tuple (sg.tup hq)
  exact PySem.W.kia_one PySem.W.kitx_tuple I.kIn ⟨o, h1, h2⟩ (kit h) (fun z => nomatch z) fin
 | lst ws =>
  obtain ⟨a, xs, rfl, hq, _⟩ := p
  cases r
  obtain ⟨its, _, ⟨o, n, h1, h2, _⟩, _⟩ := I.list (sg.seq hq)
  exact PySem.W.kia_one PySem.W.kitx_list I.kIn ⟨o, h1, h2⟩ (kit h) (fun z => nomatch z) fin
 | dic c => simp [isiW] at h
 | exc c =>
  obtain ⟨e, rfl, he⟩ := p
  cases r
  unfold isiW at h
  split at h
  ·rename_i D heq
   cases heq
   split at h
   ·rename_i hC
    obtain ⟨⟨o, vs, h1, h2, h3⟩, _⟩ := (show ObjOk X.prog X.w H s.heap e (excO e (.ref D)) from I.hok e _ (sg _ _ he))
    exact PySem.W.kia_one (kitx_exc (ExcCls.of hC)) I.kIn ⟨o, vs, h1, h2, h3⟩ (kit h) (fun z => nomatch z) fin
   ·cases h
  ·cases h
  ·cases h
  ·rename_i h1 h2 h3
   exact absurd rfl (h2 c)
noncomputable def dIsi (K : PySem.W.Frag) (cv : Value) (d : Den W) : Den W := fun e => (d e).bind fun w e1 => match isiW K cv w with
 | some (.bl b) => .ok (.bl b) e1
 | _ => .no
theorem call_isiD {X : Cx} {cv : Value} {c : V} (hc : ClsV c cv) : CallR X (.builtin "isinstance") (fun xs H Q => ∃ x G w b, xs = [x, c] /\ Same G H /\ Rep X.K G w x /\ isiW X.K cv w = some (.bl b) /\ Q (.bl b) H) := by
 intro pins s σ H xs us Q I r h
 obtain ⟨x, G, w, b, rfl, sg, p, hi, q⟩ := h
 obtain ⟨u, u2, rfl, rx, rc⟩ := vals2 r
 have ec : u2 = cv := by
  cases c with
  | ty n => exact (show u2 = Value.type n from rc).trans (show cv = Value.type n from hc).symm
  | ref a => exact (show u2 = Value.ref a from rc).trans (show cv = Value.ref a from hc).symm
  | _ => exact hc.elim
 subst ec
 exact isi_run I sg p rx hi q
theorem de_isi {cv : Value} {c0 : V} (hc : ClsV c0 cv) (hcl : PE X c (tC c0)) (hm : X.mg "isinstance" = none) (he : DE Z X EE e da) (hg : Gl X "isinstance" := by rfl) (hs : starEach [e, c] X.env = (false, eval e X.env) :: starEach [c] X.env := by rfl) (hs2 : starEach [c] X.env = (false, eval c X.env) :: starEach [] X.env := by rfl) (hpl : (backTo pos (starEach [c] X.env)).any (·.1) = false := by rfl) :
  DE Z X EE (.Call (.Name "isinstance" p) [e, c] [] pos) (dIsi X.K cv da) := by
 refine PE.mono (pe_callB (call_isiD hc) hg hm PyProof.Rows.Boot.«isinstance» (pa_cons he (pa_cons hcl pa_nil hs2) hs) (by decide) (by decide) hs hpl) ?_
 rintro σ H Q ⟨G, e, rel, h⟩
 simp only [dIsi, R.holds_bind] at h
 refine ⟨G, e, rel, h.imp (fun w e1 h G1 v1 H1 r1 s1 p1 => ?_) fun _ _ h => h⟩
 split at h
 ·rename_i b hb
  exact ⟨v1, G1, w, b, rfl, r1.sub, p1, hb, h G1 _ H1 r1 s1 rfl⟩
 ·exact h.elim
theorem cls_own {n : Str} {a : Addr} {pos : Pos} (hm : X.mg n = some (.ref a)) (hg : Gl X n := by rfl) (hd : (n == ("__debug__" : Str)) = false := by decide) : PE X (.Name n pos) (tC (.ref a)) := pe_glob (v := .ref a) hg hm rfl hd
theorem cls_blt {n : Str} {T : String} {pos : Pos} (hv : bootBuiltins n = some (.type T)) (hm : X.mg n = none) (hg : Gl X n := by rfl) (hn : n ≠ "__name__" := by decide) (hd : (n == ("__debug__" : Str)) = false := by decide) : PE X (.Name n pos) (tC (.ty T)) := pe_bltn (v := .ty T) hg hm hv rfl hn hd
noncomputable def tup1 : List W -> Option W
 | [.lst ws] => some (.tup ws)
 | [.tup ws] => some (.tup ws)
 | _ => none
theorem oN_tup {K : PySem.W.Frag} : OpN K (fun xs H Q => ∃ p ys, xs = [.ref p] /\ ((SqL K H p ys /\ ∀ l, H l = none -> Q (.ref l) (upd H l (.tup ys))) \/ (SqT K H p ys /\ Q (.ref p) H))) tup1 := by
 intro G H xs ws w Q s pr hf h
 unfold tup1 at hf
 split at hf
 ·cases hf
  obtain ⟨x, r, rfl, px, pr⟩ := pr
  cases (show r = [] from pr)
  obtain ⟨a, ys, rfl, ha, ra⟩ := px
  refine ⟨a, ys, rfl, .inl ⟨s.seq ha, fun l hl => ?_⟩⟩
  have g := Grow.laid s hl (.tup ys)
  exact h _ _ _ g ⟨l, ys, rfl, SqT.of upd_same, Reps.mono g.gg _ ra⟩
 ·cases hf
  obtain ⟨x, r, rfl, px, pr⟩ := pr
  cases (show r = [] from pr)
  obtain ⟨a, ys, rfl, ha, ra⟩ := px
  exact ⟨a, ys, rfl, .inr ⟨s.tup ha, h G _ H (.refl s) ⟨a, ys, rfl, ha, ra⟩⟩⟩
 ·cases hf
theorem de_tuple (hm : X.mg "tuple" = none) (ha : DA Z X EE [e] dA) (hg : Gl X "tuple" := by rfl) (he : starEach [e] X.env = (false, eval e X.env) :: starEach [] X.env := by rfl) (hpl : (backTo pos (starEach [] X.env)).any (·.1) = false := by rfl) : DE Z X EE (.Call (.Name "tuple" p) [e] [] pos) (dFn tup1 dA) :=
 de_bty call_tuple_of oN_tup PyProof.Rows.Boot.«tuple» hm ha hg (by decide) (by decide) he hpl
theorem de_len (hm : X.mg "len" = none) (ha : DA Z X EE [e] dA) (hg : Gl X "len" := by rfl) (he : starEach [e] X.env = (false, eval e X.env) :: starEach [] X.env := by rfl) (hpl : (backTo pos (starEach [] X.env)).any (·.1) = false := by rfl) : DE Z X EE (.Call (.Name "len" p) [e] [] pos) (dFn len1 dA) :=
 de_blt call_len oN_len PySem.boot_len hm ha hg (by decide) (by decide) he hpl
theorem de_lenV (i : Nat) {pn : Pos} (hm : X.mg "len" = none) (hN : X.N[i]? = some x := by rfl) (hvis : Vis X.env.scope x := by walk_at "1") (hd : (x == ("__debug__" : Str)) = false := by decide) (hcd : (x == ("__classdict__" : Str)) = false := by decide)
  (hg : Gl X "len" := by rfl) (hs : starEach [.Name x p] X.env = (false, eval (.Name x p) X.env) :: starEach [] X.env := by rfl) (hpl : (backTo pos (starEach [] X.env)).any (·.1) = false := by rfl) : DE Z X EE (.Call (.Name "len" pn) [.Name x p] [] pos) (dFnV i len1) :=
 de_fnV i call_len oN_len PySem.boot_len hm hN hvis hd hcd hg (by decide) (by decide) hs hpl
noncomputable def lst1 : List W -> Option (List W)
 | [.lst ws] => some ws
 | [.tup ws] => some ws
 | _ => none
noncomputable def dList (dA : Den (List W)) : Den (List W) := fun e => (dA e).bind fun ws e1 => ofOpt (lst1 ws) e1
theorem df_list (hm : X.mg "list" = none) (ha : DA Z X EE [e] dA) (hg : Gl X "list" := by rfl) (he : starEach [e] X.env = (false, eval e X.env) :: starEach [] X.env := by rfl) (hpl : (backTo pos (starEach [] X.env)).any (·.1) = false := by rfl) : DF Z X EE (.Call (.Name "list" p) [e] [] pos) (dList dA) := by
 refine PE.mono (pe_callTy call_list_of hg hm PyProof.Rows.Boot.«list» ha (by decide) (by decide) he hpl) ?_
 rintro σ H Q ⟨G, e, rel, h⟩
 simp only [dList, R.holds_bind, ofOpt_holds] at h
 refine ⟨G, e, rel, h.imp (fun ws e1 h G1 vs H1 r1 s1 p1 => ?_) fun _ _ h => h⟩
 obtain ⟨out, hf, h⟩ := h
 unfold lst1 at hf
 split at hf
 ·cases hf
  obtain ⟨y, r, rfl, py, pr⟩ := p1
  cases (show r = [] from pr)
  obtain ⟨a, ys, rfl, hq, rq⟩ := py
  exact ⟨a, ys, rfl, .inl (r1.sub.seq hq), new_list r1 s1 rq h⟩
 ·cases hf
  obtain ⟨y, r, rfl, py, pr⟩ := p1
  cases (show r = [] from pr)
  obtain ⟨a, ys, rfl, hq, rq⟩ := py
  exact ⟨a, ys, rfl, .inr (r1.sub.tup hq), new_list r1 s1 rq h⟩
 ·cases hf
end
end D
set_option Elab.async false
set_option linter.all false
set_option maxRecDepth 100000
set_option maxHeartbeats 1000000
namespace D
open PySem L2
section
variable {P : Program} {w : World} {K : PySem.W.Frag} {mg : Str -> Option Value} {base : Heap}
theorem spF_no {F : List W -> FR} (hF : ∀ ws, F ws = .no) {vs : List V} {H : Hp} {Q : VK} {E : XK} (h : spF K F vs H Q E) : False := by
 obtain ⟨G, ws, hn, _⟩ := spF_ne h
 exact hn (hF ws)
theorem conF {x : Str} {st : Stmt} {N ps : List Str} {k : Nat} {F : List W -> FR} {f : Addr} {fd : FuncData} (A : Fun K x x st f fd) (sc : FnScope N ps (defScope st)) (len : ∀ ws, F ws ≠ .no -> ws.length = ps.length)
  (hb : ∀ ws, F ws ≠ .no -> ∀ (cdv : Value) (A : Around) (outer : List Env) (s : Shared) (H : Hp) (E : XK) (Z : Zt), Room k (A.deeper (PyProof.Rows.envOfC x (defScope st) s.heap.objs.size f cdv)) ->
   ∃ d, DSs Z (cxOf (CX1 P w) P w K mg base N x (defScope st) f cdv A outer s H E) (fun _ => E) (defBody st) d /\ (d (init N.length ws)).fn = F ws) : FnOk P w K mg base (CX1 P w) (k + 1) f fd ps (spF K F) := by
 refine A.okX sc (fun vs H Q E h => ?_) (fun cdv A outer s H vs Q E hr h => ?_)
 ·obtain ⟨G, ws, hn, r⟩ := spF_ne h
  rw [r.length]; exact len ws hn
 ·obtain ⟨G, ws, sg, rp, h⟩ := h
  have hn : F ws ≠ .no := fun z => by rw [z] at h; exact h
  obtain ⟨d, hd, he⟩ := hb ws hn cdv A outer s H E ⟨H, G, []⟩ hr
  exact ⟨_, hd, G, init N.length ws, rel_init sg rp, post_fn he h⟩
noncomputable def spLaw (K : PySem.W.Frag) : Sp := fun vs H Q _ => ∃ (a : Addr) (ns : List Int), vs = [.ref a] /\ SqL K H a (ns.map V.int) /\ ns.length <= 63 /\ ∀ H', Q (.bl true) H'
theorem reps_ints {G : Hp} : ∀ (ns : List Int), Reps K G (ns.map W.int) (ns.map V.int)
 | [] => rfl
 | n :: ns => ⟨_, _, rfl, rfl, reps_ints ns⟩
theorem spLaw_of {F : List W -> FR} (hF : ∀ ns : List Int, ns.length <= 63 -> F [.lst (ns.map .int)] = .ok (.fr (.bl true))) {vs : List V} {H : Hp} {Q : VK} {E : XK} (h : spLaw K vs H Q E) : spF K F vs H Q E := by
 obtain ⟨a, ns, rfl, hS, hl, q⟩ := h
 refine ⟨fun b => if b = a then H a else none, [.lst (ns.map .int)], fun b o z => ?_, ⟨.ref a, [], rfl, ⟨a, ns.map V.int, rfl, ?_, reps_ints ns⟩, rfl⟩, ?_⟩
 ·by_cases hb : b = a
  ·subst hb; simpa using z
  ·simp [hb] at z
 ·rcases hS with (h | ⟨o, h⟩) | h
  ·exact .inl (.inl (by simpa using h))
  ·exact .inl (.inr ⟨o, by simpa using h⟩)
  ·exact .inr h
 ·rw [hF ns hl]
  intro G' H' v g sl
  obtain ⟨u, h1, h2⟩ := sl
  cases h1
  cases (show v = V.bl true from h2)
  exact q H'
theorem cx1_no {P : Program} {w : World} {H : Hp} {s : Shared} {e : Value} {s' : Shared} (z : CX1 P w [] H s (fun _ _ _ => False) e s') : False := by
 obtain ⟨_, _, _, _, _, _, _, _, _, _, h⟩ := z
 exact h
theorem con0 {x : Str} {st : Stmt} {ps : List Str} {F : List W -> FR} (A : At K mg x st ps) (hF : ∀ ws, F ws = .no := by intro _; rfl) : Cal P w K mg base 0 x ps (spF K F) := by
 obtain ⟨f, fd, F0, m, b⟩ := A.ex
 exact ⟨f, fd, ⟨fun vs H Q E h => (spF_no hF h).elim, fun A outer s H args us vs Q E _ _ _ _ h => (spF_no hF h).elim⟩, m, F0.kp, b⟩
theorem con0H {x : Str} {st : Stmt} {ps : List Str} {F : List W -> FR} (A : At K mg x st ps) (hF : ∀ ws, F ws = .no := by intro _; rfl) : CalH P w K mg base 0 x ps (spF K F) := by
 obtain ⟨f, fd, F0, m, b⟩ := A.ex
 exact ⟨f, fd, ⟨fun vs H Q E h => (spF_no hF h).elim, fun A outer s H args us vs Q _ _ _ _ h => (spF_no hF h).elim⟩, m, F0.kp, b⟩
end
section
variable {X : Cx} {Z : Zt} {EE : St -> XK} {e : Expr} {es : List Expr} {d : Den Str} {da : Den W} {pos : Pos} {n : Nat}
def DFm (Z : Zt) (X : Cx) (EE : St -> XK) (n : Nat) (es : List Expr) (d : Den Str) : Prop := PF X es (fun acc σ H Q => acc.length + n * 1000001 <= 16777216 /\ ∃ G e, Rel X.K Z G σ H e /\ (d e).holds (fun y e' => ∀ G' H', Rel X.K Z G' σ H' e' -> Same G G' -> Q (acc ++ y) H') (XH X.K Z EE σ G))
end
end D
set_option Elab.async false
set_option linter.all false
set_option maxRecDepth 100000
set_option maxHeartbeats 1000000
namespace D
open PySem L2
section
variable {α β : Type} {c : Prop} [Decidable c] {a : α} {e e' : List S} {k : α -> List S -> R β} {ks : α -> List S -> SR} {x y : R α} {s t : SR} {w : W} {ws : List W} {v : Value} {st : S}
theorem bind_ok : (R.ok a e).bind k = k a e := rfl
theorem bind_ex : (R.ex v e : R α).bind k = .ex v e := rfl
theorem bind_no : (R.no : R α).bind k = .no := rfl
theorem bind_ite : (if c then x else y).bind k = if c then x.bind k else y.bind k := by split <;> rfl
theorem stm_ok : (R.ok a e).stm ks = ks a e := rfl
theorem stm_ex : (R.ex v e : R α).stm ks = .ex v e := rfl
theorem stm_no : (R.no : R α).stm ks = .no := rfl
theorem stm_ite : (if c then x else y).stm ks = if c then x.stm ks else y.stm ks := by split <;> rfl
noncomputable def SR.seq : SR -> (List S -> SR) -> SR
 | .nx e, b => b e
 | r, _ => r
theorem dSeq_s {p q : List S -> SR} : dSeq p q e = (p e).seq q := by
 unfold dSeq SR.seq
 cases p e <;> rfl
theorem seq_nx {q : List S -> SR} : (SR.nx e).seq q = q e := rfl
theorem seq_rt {q : List S -> SR} : (SR.rt st e).seq q = .rt st e := rfl
theorem seq_ex {q : List S -> SR} : (SR.ex v e).seq q = .ex v e := rfl
theorem seq_bk {q : List S -> SR} : (SR.bk e).seq q = .bk e := rfl
theorem seq_ct {q : List S -> SR} : (SR.ct e).seq q = .ct e := rfl
theorem seq_no {q : List S -> SR} : (SR.no).seq q = .no := rfl
theorem seq_ite {q : List S -> SR} : (if c then s else t).seq q = if c then s.seq q else t.seq q := by split <;> rfl
theorem fn_nx : (SR.nx e).fn = .ok (.fr .non) := rfl
theorem fn_rt : (SR.rt st e).fn = .ok st := rfl
theorem fn_ex : (SR.ex v e).fn = .ex v := rfl
theorem fn_no : (SR.no).fn = .no := rfl
theorem fn_ite : (if c then s else t).fn = if c then s.fn else t.fn := by split <;> rfl
theorem ofOpt_some : ofOpt (some a) e = .ok a e := rfl
theorem ofOpt_none : ofOpt (none : Option α) e = .no := rfl
theorem ofOpt_ite {o p : Option α} : ofOpt (if c then o else p) e = if c then ofOpt o e else ofOpt p e := by split <;> rfl
noncomputable def varS (i : Nat) (e : List S) : Option S -> R W
 | some (.fr w) => .ok w e
 | some (.own false ws) => .ok (.lst ws) (e.set i (.fr (.lst ws)))
 | _ => .no
theorem dVar_s {i : Nat} : dVar i e = varS i e e[i]? := by
 unfold dVar varS
 cases e[i]? with
 | none => rfl
 | some s => cases s with
  | own b ws => cases b <;> rfl
  | _ => rfl
theorem var_fr {i : Nat} : varS i e (some (.fr w)) = .ok w e := rfl
theorem var_own {i : Nat} : varS i e (some (.own false ws)) = .ok (.lst ws) (e.set i (.fr (.lst ws))) := rfl
theorem dC_s : dC w e = .ok w e := rfl
theorem dOp_s {f : W -> W -> Option W} {da db : Den W} : dOp f da db e = (da e).bind fun x e1 => (db e1).bind fun y e2 => ofOpt (f x y) e2 := rfl
noncomputable def testW (e : List S) : W -> R Bool
 | .bl k => .ok k e
 | _ => .no
theorem dTest_s {da : Den W} : dTest da e = (da e).bind fun x e1 => testW e1 x := rfl
theorem test_bl {b : Bool} : testW e (.bl b) = .ok b e := rfl
theorem dTru_s {da : Den W} : dTru da e = (da e).bind fun x e1 => ofOpt (truW x) e1 := rfl
theorem dAnd_s {p q : Den Bool} : dAnd p q e = (p e).bind fun x e1 => if x = true then q e1 else .ok false e1 := rfl
theorem dOr_s {p q : Den Bool} : dOr p q e = (p e).bind fun x e1 => if x = true then .ok true e1 else q e1 := rfl
theorem dNot_s {p : Den Bool} : dNot p e = (p e).bind fun x e1 => .ok (!x) e1 := rfl
noncomputable def andK (q : Den W) (e : List S) : W -> R W
 | .bl true => q e
 | .bl false => .ok (.bl false) e
 | _ => .no
theorem dAndV_s {p q : Den W} : dAndV p q e = (p e).bind fun x e1 => andK q e1 x := rfl
theorem and_bl {q : Den W} {b : Bool} : andK q e (.bl b) = if b = true then q e else .ok (.bl false) e := by cases b <;> rfl
noncomputable def notK (e : List S) : W -> R W
 | .bl k => .ok (.bl (!k)) e
 | _ => .no
theorem dNotV_s {p : Den W} : dNotV p e = (p e).bind fun x e1 => notK e1 x := rfl
theorem not_bl {b : Bool} : notK e (.bl b) = .ok (.bl (!b)) e := rfl
theorem dIf_s {p : Den Bool} {q q' : Den W} : dIf p q q' e = (p e).bind fun x e1 => if x = true then q e1 else q' e1 := rfl
theorem dNil_s : dNil e = .ok [] e := rfl
theorem dCons_s {p : Den W} {q : Den (List W)} : dCons p q e = (p e).bind fun x e1 => (q e1).bind fun xs e2 => .ok (x :: xs) e2 := rfl
theorem dTup_s {p : Den (List W)} : dTup p e = (p e).bind fun xs e1 => if xs.length <= 16777216 then .ok (.tup xs) e1 else .no := rfl
theorem dLst_s {p : Den (List W)} : dLst p e = (p e).bind fun xs e1 => if xs.length <= 16777216 then .ok xs e1 else .no := rfl
theorem dFz_s {p : Den (List W)} : dFz p e = (p e).bind fun xs e1 => .ok (.lst xs) e1 := rfl
theorem dFn_s {f : List W -> Option W} {p : Den (List W)} : dFn f p e = (p e).bind fun xs e1 => ofOpt (f xs) e1 := rfl
theorem dList_s {p : Den (List W)} : dList p e = (p e).bind fun xs e1 => ofOpt (lst1 xs) e1 := rfl
theorem dNx_s : dNx e = .nx e := rfl
theorem dDrop_s {d : Den W} : dDrop d e = (d e).stm fun _ e' => .nx e' := rfl
theorem dRet_s {d : Den W} : dRet d e = (d e).stm fun w e' => .rt (.fr w) e' := rfl
theorem dRetF_s {d : Den (List W)} : dRetF d e = (d e).stm fun w e' => .rt (.own false w) e' := rfl
noncomputable def retS (e : List S) : Option S -> SR
 | some (.own false ws) => .rt (.own false ws) e
 | some (.fr w) => .rt (.fr w) e
 | _ => .no
theorem dRetO_s {i : Nat} : dRetO i e = retS e e[i]? := by
 unfold dRetO retS
 cases e[i]? with
 | none => rfl
 | some s => cases s with
  | own b ws => cases b <;> rfl
  | _ => rfl
theorem ret_own : retS e (some (.own false ws)) = .rt (.own false ws) e := rfl
theorem ret_fr : retS e (some (.fr w)) = .rt (.fr w) e := rfl
theorem dIfS_s {p : Den Bool} {q q' : List S -> SR} : dIfS p q q' e = (p e).stm fun x e1 => if x = true then q e1 else q' e1 := rfl
theorem dSet_s {i : Nat} {d : Den W} : dSet i d e = (d e).stm fun w e' => .nx (e'.set i (.fr w)) := rfl
theorem dSetO_s {i : Nat} {d : Den (List W)} : dSetO i d e = (d e).stm fun w e' => .nx (e'.set i (.own false w)) := rfl
noncomputable def callR (e : List S) : FR -> R W
 | .ok (.fr w) => .ok w e
 | .ok (.own false ws) => .ok (.lst ws) e
 | .ok (.dic kvs) => .ok (.dic kvs) e
 | .ex c => .ex c e
 | _ => .no
theorem dCall_s {F : List W -> FR} {d : Den (List W)} : dCall F d e = (d e).bind fun ws e1 => callR e1 (F ws) := by
 unfold dCall
 congr 1
theorem call_fr : callR e (.ok (.fr w)) = .ok w e := rfl
theorem call_own : callR e (.ok (.own false ws)) = .ok (.lst ws) e := rfl
theorem call_ex : callR e (.ex v) = .ex v e := rfl
theorem call_no : callR e .no = .no := rfl
theorem call_ite {f g : FR} : callR e (if c then f else g) = if c then callR e f else callR e g := by split <;> rfl
noncomputable def callF (e : List S) : FR -> R (List W)
 | .ok (.own false ws) => .ok ws e
 | .ex c => .ex c e
 | _ => .no
theorem dCallF_s {F : List W -> FR} {d : Den (List W)} : dCallF F d e = (d e).bind fun ws e1 => callF e1 (F ws) := by
 unfold dCallF
 congr 1
theorem callF_own : callF e (.ok (.own false ws)) = .ok ws e := rfl
theorem callF_ex : callF e (.ex v) = .ex v e := rfl
theorem callF_ite {f g : FR} : callF e (if c then f else g) = if c then callF e f else callF e g := by split <;> rfl
noncomputable def callH (e : List S) : FR -> R W
 | .ok (.fr w) => .ok w e
 | .ok (.own false ws) => .ok (.lst ws) e
 | _ => .no
theorem dCallH_s {F : List W -> FR} {d : Den (List W)} : dCallH F d e = (d e).bind fun ws e1 => callH e1 (F ws) := by
 unfold dCallH
 congr 1
theorem callH_fr : callH e (.ok (.fr w)) = .ok w e := rfl
theorem callH_own : callH e (.ok (.own false ws)) = .ok (.lst ws) e := rfl
noncomputable def forW (i : Nat) (b : List S -> SR) (e : List S) : Option (List W) -> SR
 | some ws => forD i b ws e
 | none => .no
theorem dFor_s {i : Nat} {d : Den W} {b : List S -> SR} : dFor i d b e = (d e).stm fun w e1 => forW i b e1 (seqW w) := by
 unfold dFor
 congr 1
theorem dForR_s {i : Nat} {g : List W -> Option (List W)} {d : Den (List W)} {b : List S -> SR} : dForR i g d b e = (d e).stm fun w e1 => forW i b e1 (g w) := by
 unfold dForR
 congr 1
theorem forW_some {i : Nat} {b : List S -> SR} : forW i b e (some ws) = forD i b ws e := rfl
noncomputable def SR.turn : SR -> (List S -> SR) -> SR
 | .nx e, k => k e
 | .ct e, k => k e
 | .bk e, _ => .nx e
 | .rt s e, _ => .rt s e
 | .ex c e, _ => .ex c e
 | .no, _ => .no
theorem for_cons {i : Nat} {b : List S -> SR} : forD i b (w :: ws) e = (b (e.set i (.fr w))).turn (forD i b ws) := by
 show (match b (e.set i (.fr w)) with | .nx e' => forD i b ws e' | .ct e' => forD i b ws e' | .bk e' => .nx e' | .rt s e' => .rt s e' | .ex c e' => .ex c e' | .no => .no) = _
 cases b (e.set i (.fr w)) <;> rfl
theorem turn_nx {q : List S -> SR} : (SR.nx e).turn q = q e := rfl
theorem turn_ct {q : List S -> SR} : (SR.ct e).turn q = q e := rfl
theorem turn_bk {q : List S -> SR} : (SR.bk e).turn q = .nx e := rfl
theorem turn_rt {q : List S -> SR} : (SR.rt st e).turn q = .rt st e := rfl
theorem turn_ex {q : List S -> SR} : (SR.ex v e).turn q = .ex v e := rfl
theorem turn_no {q : List S -> SR} : (SR.no).turn q = .no := rfl
theorem turn_ite {q : List S -> SR} : (if c then s else t).turn q = if c then s.turn q else t.turn q := by split <;> rfl
noncomputable def look1 (k : W -> R W) : Option W -> R W
 | none => .no
 | some w => k w
theorem dIxV_s {i : Nat} {d : Den W} : dIxV i d e = look1 (fun _ => (d e).bind fun k e1 => look1 (fun w => ofOpt (ixW w k) e1) (e1[i]?.bind S.look)) (e[i]?.bind S.look) := by
 unfold dIxV look1
 cases e[i]?.bind S.look with
 | none => rfl
 | some w =>
  dsimp only
  try congr 1
theorem look_some {k : W -> R W} : look1 k (some w) = k w := rfl
theorem lk_fr : S.look (.fr w) = some w := rfl
theorem lk_own {b : Bool} : S.look (.own b ws) = some (.lst ws) := rfl
noncomputable def fnV2 (e : List S) (y : Option W) : Option S -> R W
 | some (.fr _) => ofOpt y e
 | _ => match y with
  | none => .no
  | some v => if scalW v = true then .ok v e else .no
theorem dFnV_s {i : Nat} {f : List W -> Option W} : dFnV i f e = look1 (fun w => fnV2 e (f [w]) e[i]?) (e[i]?.bind S.look) := by
 unfold dFnV look1
 cases q : e[i]? with
 | none => rfl
 | some s =>
  cases s with
  | no => rfl
  | dic _ => rfl
  | fr w =>
   show (match f [w] with | none => R.no | some v => R.ok v e) = fnV2 e (f [w]) (some (.fr w))
   generalize f [w] = y
   cases y <;> rfl
  | own b ws =>
   show (match f [W.lst ws] with | none => R.no | some v => if scalW v = true then R.ok v e else R.no) = fnV2 e (f [W.lst ws]) (some (.own b ws))
   generalize f [W.lst ws] = y
   cases y <;> rfl
theorem fnV_fr {y : Option W} : fnV2 e y (some (.fr w)) = ofOpt y e := rfl
theorem fnV_own {b : Bool} {v : W} : fnV2 e (some v) (some (.own b ws)) = if scalW v = true then .ok v e else .no := rfl
noncomputable def appK (i : Nat) (e : List S) : List W -> Option S -> SR
 | [w], some (.own b xs) => if xs.length < 16777216 then .nx (e.set i (.own b (xs ++ [w]))) else .no
 | _, _ => .no
noncomputable def ownQ (k : SR) : Option S -> SR
 | some (.own _ _) => k
 | _ => .no
theorem dApp_s {i : Nat} {d : Den (List W)} : dApp i d e = ownQ ((d e).stm fun ws e1 => appK i e1 ws e1[i]?) e[i]? := by
 unfold dApp ownQ
 cases e[i]? with
 | none => rfl
 | some s => cases s with
  | own b xs =>
   dsimp only
   try congr 1
  | _ => rfl
theorem own_q {k : SR} {b : Bool} : ownQ k (some (.own b ws)) = k := rfl
theorem app_k {i : Nat} {b : Bool} {xs : List W} : appK i e [w] (some (.own b xs)) = if xs.length < 16777216 then .nx (e.set i (.own b (xs ++ [w]))) else .no := rfl
theorem dRaise_s {C : Addr} {d : Den (List W)} : dRaise C d e = (d e).stm fun ws e1 => if ws.length <= 16777216 then .ex (.ref C) e1 else .no := rfl
theorem dSl_s {d : Den W} {dl dh : Den (Option Int)} : dSl d dl dh e = (d e).bind fun w e1 => (dl e1).bind fun lo e2 => (dh e2).bind fun hi e3 => ofOpt (slW w lo hi) e3 := rfl
theorem dNoPart_s : dNoPart e = .ok none e := rfl
noncomputable def partK (e : List S) : W -> R (Option Int)
 | .int i => .ok (some i) e
 | _ => .no
theorem dPart_s {d : Den W} : dPart d e = (d e).bind fun w e1 => partK e1 w := rfl
theorem part_int {i : Int} : partK e (.int i) = .ok (some i) e := rfl
noncomputable def isiK (e : List S) : Option W -> R W
 | some (.bl b) => .ok (.bl b) e
 | _ => .no
theorem dIsi_s {K : PySem.W.Frag} {cv : Value} {d : Den W} : dIsi K cv d e = (d e).bind fun w e1 => isiK e1 (isiW K cv w) := by
 unfold dIsi
 congr 1
theorem isi_bl {b : Bool} : isiK e (some (.bl b)) = .ok (.bl b) e := rfl
theorem isi_bool {K : PySem.W.Frag} {cv : Value} {b k : Bool} (h : PySem.W.kitOne K (.type "bool") cv = some k) : isiW K cv (.bl b) = some (.bl k) := by show (PySem.W.kitOne K (.type "bool") cv).map W.bl = _; rw [h]; rfl
theorem isi_int {K : PySem.W.Frag} {cv : Value} {b : Int} {k : Bool} (h : PySem.W.kitOne K (.type "int") cv = some k) : isiW K cv (.int b) = some (.bl k) := by show (PySem.W.kitOne K (.type "int") cv).map W.bl = _; rw [h]; rfl
theorem isi_str {K : PySem.W.Frag} {cv : Value} {b : Str} {k : Bool} (h : PySem.W.kitOne K (.type "str") cv = some k) : isiW K cv (.str b) = some (.bl k) := by show (PySem.W.kitOne K (.type "str") cv).map W.bl = _; rw [h]; rfl
theorem isi_tup {K : PySem.W.Frag} {cv : Value} {b : List W} {k : Bool} (h : PySem.W.kitOne K (.type "tuple") cv = some k) : isiW K cv (.tup b) = some (.bl k) := by show (PySem.W.kitOne K (.type "tuple") cv).map W.bl = _; rw [h]; rfl
theorem isi_exc {K : PySem.W.Frag} {cv : Value} {D : Addr} {k : Bool} (hc : excClsIn K D = true) (h : PySem.W.kitOne K (.ref D) cv = some k) : isiW K cv (.exc (.ref D)) = some (.bl k) := by show (if excClsIn K D = true then _ else _) = _; rw [if_pos hc, h]; rfl
noncomputable def tryH (n : Nat) : SR -> SR
 | .nx _ => .nx (List.replicate n .no)
 | .bk _ => .bk (List.replicate n .no)
 | .ct _ => .ct (List.replicate n .no)
 | .rt s e => .rt s e
 | _ => .no
noncomputable def tryK (K : PySem.W.Frag) (c : Addr) (i n : Nat) (h : List S -> SR) : SR -> SR
 | .ex cls e' => if PySem.W.exmOne K cls (.ref c) = some true then tryH n (h (e'.set i (.fr (.exc cls)))) else .no
 | r => r
theorem dTry_s {K : PySem.W.Frag} {c : Addr} {i n : Nat} {b h : List S -> SR} : dTry K c i n b h e = tryK K c i n h (b e) := by
  unfold dTry tryK
  cases b e with
  | ex cls e' => dsimp only; split
                 . cases h (e'.set i (.fr (.exc cls))) <;> rfl
                 . rfl
  | _ => rfl
theorem try_nx {K : PySem.W.Frag} {c : Addr} {i n : Nat} {h : List S -> SR} : tryK K c i n h (.nx e) = .nx e := rfl
theorem try_rt {K : PySem.W.Frag} {c : Addr} {i n : Nat} {h : List S -> SR} : tryK K c i n h (.rt st e) = .rt st e := rfl
theorem try_ex {K : PySem.W.Frag} {c : Addr} {i n : Nat} {h : List S -> SR} (hx : PySem.W.exmOne K v (.ref c) = some true) : tryK K c i n h (.ex v e) = tryH n (h (e.set i (.fr (.exc v)))) := by show (if _ then _ else _) = _; rw [if_pos hx]
theorem tryH_rt {n : Nat} : tryH n (.rt st e) = .rt st e := rfl
theorem tryH_nx {n : Nat} : tryH n (.nx e) = .nx (List.replicate n .no) := rfl
noncomputable def compR (e : List S) : Option (List W) -> R (List W)
 | some out => .ok out e
 | none => .no
theorem compK_s {js : List Nat} {cc : Den Bool} {d : Den W} : compK js cc d ws e = if ws.length <= 16777216 then compR (frzs js e) (compD cc d (pjS js (frzs js e)) ws) else .no := by
 unfold compK compR
 split
 ·cases compD cc d (pjS js (frzs js e)) ws <;> rfl
 ·rfl
noncomputable def compW (js : List Nat) (cc : Den Bool) (d : Den W) (e : List S) : Option (List W) -> R (List W)
 | some ws => compK js cc d ws e
 | none => .no
theorem dComp_s {js : List Nat} {di : Den W} {cc : Den Bool} {d : Den W} : dComp js di cc d e = (di e).bind fun w e1 => compW js cc d e1 (seqW w) := by
 unfold dComp
 congr 1
theorem dCompR_s {g : List W -> Option (List W)} {js : List Nat} {di : Den (List W)} {cc : Den Bool} {d : Den W} : dCompR g js di cc d e = (di e).bind fun w e1 => compW js cc d e1 (g w) := by
 unfold dCompR
 congr 1
theorem compW_some {js : List Nat} {cc : Den Bool} {d : Den W} : compW js cc d e (some ws) = compK js cc d ws e := rfl
theorem compR_some {out : List W} : compR e (some out) = .ok out e := rfl
theorem dYes_s : dYes e = .ok true e := rfl
theorem frzs_nil : frzs [] e = e := rfl
theorem frzs_cons {j : Nat} {js : List Nat} : frzs (j :: js) e = frzs js (frz1 e j) := rfl
theorem pjS_nil : pjS [] e = [] := rfl
theorem pjS_cons {j : Nat} {js : List Nat} : pjS (j :: js) e = pj1 e j :: pjS js e := rfl
theorem comp_cons {cc : Den Bool} {d : Den W} {pe : List S} : compD cc d pe (w :: ws) = (match cc (.fr w :: pe) with
  | .ok true e1 => (match d e1 with | .ok y _ => (compD cc d pe ws).map (y :: ·) | _ => none)
  | .ok false _ => compD cc d pe ws
  | _ => none) := rfl
end
end D
set_option Elab.async false
set_option linter.all false
set_option maxRecDepth 100000
set_option maxHeartbeats 1000000
namespace D
open PySem L2
section
variable {i j : Int} {x y : Str} {b c : Bool} {ws us : List W} {w : W}
theorem add_ii : addW (.int i) (.int j) = some (.int (i + j)) := rfl
theorem add_ss : addW (.str x) (.str y) = if x.length + y.length <= 16777216 then some (.str (x ++ y)) else none := rfl
theorem add_ll : addW (.lst ws) (.lst us) = if ws.length + us.length <= 16777216 then some (.lst (ws ++ us)) else none := rfl
theorem sub_ii : subW (.int i) (.int j) = some (.int (i - j)) := rfl
theorem mul_ii : mulW (.int i) (.int j) = if (-18446744073709551616 < i /\ i < 18446744073709551616) \/ (-18446744073709551616 < j /\ j < 18446744073709551616) then some (.int (i * j)) else none := rfl
theorem fdiv_ii : fdivW (.int i) (.int j) = if 0 < j /\ j < 1073741824 then some (.int (i / j)) else none := rfl
theorem mod_ii : modW (.int i) (.int j) = if 0 < j then some (.int (i % j)) else none := rfl
theorem lt_ii : ltW (.int i) (.int j) = some (.bl (decide (i < j))) := rfl
theorem le_ii : leW (.int i) (.int j) = some (.bl (decide (i <= j))) := rfl
theorem gt_ii : gtW (.int i) (.int j) = some (.bl (decide (j < i))) := rfl
theorem neg_i : negW (.int i) = some (.int (-i)) := rfl
theorem eq_ii : eq2 (.int i) (.int j) = some (.bl (decide (i = j))) := by
 show some (W.bl (i == j)) = _
 congr 2
theorem eq_ss : eq2 (.str x) (.str y) = some (.bl (decide (x = y))) := by
 show some (W.bl (x == y)) = _
 congr 2
theorem eq_bb : eq2 (.bl b) (.bl c) = some (.bl (decide (b = c))) := by
 show some (W.bl (b == c)) = _
 congr 2
theorem ne_ii : ne2 (.int i) (.int j) = some (.bl (!decide (i = j))) := by
 show some (W.bl (!(i == j))) = _
 congr 2
theorem ne_ss : ne2 (.str x) (.str y) = some (.bl (!decide (x = y))) := by
 show some (W.bl (!(x == y))) = _
 congr 2
theorem ne_bb : ne2 (.bl b) (.bl c) = some (.bl (!decide (b = c))) := by
 show some (W.bl (!(b == c))) = _
 congr 2
theorem ix_t : ixW (.tup ws) (.int i) = atI ws i := rfl
theorem ix_l : ixW (.lst ws) (.int i) = atI ws i := rfl
theorem len_t : len1 [.tup ws] = some (.int ws.length) := rfl
theorem len_l : len1 [.lst ws] = some (.int ws.length) := rfl
theorem tup_l : tup1 [.lst ws] = some (.tup ws) := rfl
theorem tup_t : tup1 [.tup ws] = some (.tup ws) := rfl
theorem lst_l : lst1 [.lst ws] = some ws := rfl
theorem lst_t : lst1 [.tup ws] = some ws := rfl
theorem tru_b : truW (.bl b) = some b := rfl
theorem tru_i : truW (.int i) = some (i != 0) := rfl
theorem tru_n : truW .non = some false := rfl
theorem tru_t : truW (.tup ws) = some (!ws.isEmpty) := rfl
theorem tru_l : truW (.lst ws) = some (!ws.isEmpty) := rfl
theorem seq_t : seqW (.tup ws) = some ws := rfl
theorem seq_l : seqW (.lst ws) = some ws := rfl
theorem sc_i : scalW (.int i) = true := rfl
theorem sc_b : scalW (.bl b) = true := rfl
theorem sc_s : scalW (.str x) = true := rfl
theorem sc_n : scalW .non = true := rfl
theorem sl_l {lo hi : Option Int} : slW (.lst ws) lo hi = some (.lst (cutW ws lo hi)) := rfl
theorem at0 {α : Type} {xs : List α} : atI xs 0 = xs[0]? := by
 cases xs with
 | nil => rfl
 | cons a l => exact atI_nat (j := 0) rfl
theorem at1 {α : Type} {xs : List α} : atI xs 1 = xs[1]? := by
 cases xs with
 | nil => rfl
 | cons a l =>
  cases l with
  | nil => rfl
  | cons b l => exact atI_nat (j := 1) rfl
theorem at2 {α : Type} {xs : List α} : atI xs 2 = xs[2]? := by
 cases xs with
 | nil => rfl
 | cons a l =>
  cases l with
  | nil => rfl
  | cons b l =>
   cases l with
   | nil => rfl
   | cons c l => exact atI_nat (j := 2) rfl
theorem at_pos {α : Type} {xs : List α} {k : Int} (h0 : 0 <= k) : atI xs k = xs[k.toNat]? := by
 unfold atI ixN
 rw [if_pos h0]
 by_cases h : k < xs.length
 ·rw [if_pos h]; rfl
 ·rw [if_neg h]
  exact (List.getElem?_eq_none (by omega)).symm
theorem ofString_inj {a b : String} (h : Str.ofString a = Str.ofString b) : a = b := by
 rw [Str.ofString_eq_toList, Str.ofString_eq_toList] at h
 have h1 : (a.toList.map Char.toNat).toArray = (b.toList.map Char.toNat).toArray := congrArg Str.cps h
 have h2 : a.toList.map Char.toNat = b.toList.map Char.toNat := by simpa using congrArg Array.toList h1
 have h3 : a.toList = b.toList := by
  have inj : ∀ c d : Char, c.toNat = d.toNat -> c = d := fun c d e => by
   apply Char.ext
   exact UInt32.toNat_inj.mp e
  exact (List.map_inj_right inj).mp h2
 exact String.toList_inj.mp h3
theorem str_eq {a b : String} : (Str.ofString a = Str.ofString b) = (a = b) := propext ⟨ofString_inj, fun h => by rw [h]⟩
end
end D
set_option Elab.async false
set_option linter.all false
set_option maxRecDepth 100000
set_option maxHeartbeats 1000000
namespace D
open PySem L2
noncomputable def boolsW : List W -> Option (List Bool)
 | [] => some []
 | .bl b :: ws => (boolsW ws).map (b :: ·)
 | _ => none
noncomputable def all1 : List W -> Option W
 | [.lst ws] => (boolsW ws).map fun bs => .bl (bs.all id)
 | _ => none
noncomputable def max2 : List W -> Option W
 | [.int i, .int j] => some (.int (if j > i then j else i))
 | _ => none
noncomputable def int1 : List W -> Option W
 | [.int i] => some (.int i)
 | [.bl b] => some (.int (if b then 1 else 0))
 | _ => none
noncomputable def eqS (y x : W) : Bool := (eqW y x).getD false
noncomputable def inW : W -> W -> Option W
 | x, .tup ws => if scalW x = true /\ ws.all scalW = true then some (.bl (ws.any fun y => eqS y x)) else none
 | x, .lst ws => if scalW x = true /\ ws.all scalW = true then some (.bl (ws.any fun y => eqS y x)) else none
 | _, _ => none
noncomputable def ninW : W -> W -> Option W
 | x, .tup ws => if scalW x = true /\ ws.all scalW = true then some (.bl (!ws.any fun y => eqS y x)) else none
 | x, .lst ws => if scalW x = true /\ ws.all scalW = true then some (.bl (!ws.any fun y => eqS y x)) else none
 | _, _ => none
section
variable {K : PySem.W.Frag} {G : Hp}
theorem scal_flat {w : W} {v : V} (h : scalW w = true) (p : Rep K G w v) : flatV v = true := by
 cases w with
 | non => cases p; rfl
 | bl b => cases p; rfl
 | int b => cases p; rfl
 | str b => cases p; rfl
 | _ => cases h
theorem scal_eq {w u : W} {v x : V} (h : scalW w = true) (h' : scalW u = true) (p : Rep K G w v) (q : Rep K G u x) : eqV v x = eqS w u := by
 cases w <;> cases u <;> first | (cases p; cases q; rfl) | exact absurd (show false = true from h') Bool.false_ne_true | exact absurd (show false = true from h) Bool.false_ne_true
theorem scals_in {u : W} {x : V} (hu : scalW u = true) (q : Rep K G u x) : ∀ {ws : List W} {xs : List V}, ws.all scalW = true -> Reps K G ws xs -> xs.all flatV = true /\ inV x xs = ws.any fun y => eqS y u
 | [], xs, _, r => by cases r; exact ⟨rfl, rfl⟩
 | w :: ws, xs, h, r => by
  obtain ⟨y, r', rfl, p, r⟩ := r
  rw [List.all_cons, Bool.and_eq_true] at h
  obtain ⟨i1, i2⟩ := scals_in hu q h.2 r
  refine ⟨by rw [List.all_cons, scal_flat h.1 p, i1]; rfl, ?_⟩
  show (eqV y x || inV x r') = (eqS w u || ws.any _)
  rw [scal_eq h.1 hu p q, i2]
theorem o2_in : Op2 K (rIn K false) inW := by
 intro G H x y wx wy w Q s px py hf h
 cases wy with
 | tup ws =>
  simp only [inW] at hf
  split at hf
  ·rename_i hc
   cases hf
   obtain ⟨a, xs, rfl, ha, ra⟩ := py
   obtain ⟨i1, i2⟩ := scals_in hc.1 px hc.2 ra
   refine ⟨a, xs, rfl, .inr (s.tup ha), scal_flat hc.1 px, i1, ?_⟩
   rw [i2]
   exact h G _ H (.refl s) rfl
  ·cases hf
 | lst ws =>
  simp only [inW] at hf
  split at hf
  ·rename_i hc
   cases hf
   obtain ⟨a, xs, rfl, ha, ra⟩ := py
   obtain ⟨i1, i2⟩ := scals_in hc.1 px hc.2 ra
   refine ⟨a, xs, rfl, .inl (s.seq ha), scal_flat hc.1 px, i1, ?_⟩
   rw [i2]
   exact h G _ H (.refl s) rfl
  ·cases hf
 | _ => simp [inW] at hf
theorem o2_nin : Op2 K (rIn K true) ninW := by
 intro G H x y wx wy w Q s px py hf h
 cases wy with
 | tup ws =>
  simp only [ninW] at hf
  split at hf
  ·rename_i hc
   cases hf
   obtain ⟨a, xs, rfl, ha, ra⟩ := py
   obtain ⟨i1, i2⟩ := scals_in hc.1 px hc.2 ra
   refine ⟨a, xs, rfl, .inr (s.tup ha), scal_flat hc.1 px, i1, ?_⟩
   rw [i2]
   exact h G _ H (.refl s) rfl
  ·cases hf
 | lst ws =>
  simp only [ninW] at hf
  split at hf
  ·rename_i hc
   cases hf
   obtain ⟨a, xs, rfl, ha, ra⟩ := py
   obtain ⟨i1, i2⟩ := scals_in hc.1 px hc.2 ra
   refine ⟨a, xs, rfl, .inl (s.seq ha), scal_flat hc.1 px, i1, ?_⟩
   rw [i2]
   exact h G _ H (.refl s) rfl
  ·cases hf
 | _ => simp [ninW] at hf
end
section
variable {K : PySem.W.Frag}
theorem boolsW_map : ∀ {ws : List W} {bs : List Bool}, boolsW ws = some bs -> ws = bs.map .bl
 | [], bs, h => by cases h; rfl
 | .bl b :: ws, bs, h => by
  obtain ⟨cs, h1, rfl⟩ := Option.map_eq_some_iff.mp (show (boolsW ws).map (b :: ·) = some bs from h)
  rw [boolsW_map h1]; rfl
 | .non :: ws, bs, h => by cases h
 | .int _ :: ws, bs, h => by cases h
 | .str _ :: ws, bs, h => by cases h
 | .tup _ :: ws, bs, h => by cases h
 | .lst _ :: ws, bs, h => by cases h
 | .exc _ :: ws, bs, h => by cases h
theorem boolsW_of : ∀ (bs : List Bool), boolsW (bs.map .bl) = some bs
 | [] => rfl
 | b :: bs => by
  show (boolsW (bs.map W.bl)).map (b :: ·) = _
  rw [boolsW_of bs]; rfl
theorem reps_bools {G : Hp} : ∀ {bs : List Bool} {xs : List V}, Reps K G (bs.map W.bl) xs -> xs = bs.map V.bl
 | [], xs, h => h
 | b :: bs, xs, h => by
  obtain ⟨x, r, rfl, h1, h2⟩ := h
  rw [reps_bools h2, show x = V.bl b from h1]; rfl
theorem oN_all : OpN K (fun xs H Q => ∃ p ys, xs = [.ref p] /\ SqL K H p ys /\ (∀ y ∈ ys, ∃ b, y = .bl b) /\ Q (.bl (ys.all fun y => decide (y = .bl true))) H) all1 := by
 intro G H xs ws w Q s pr hf h
 unfold all1 at hf
 split at hf
 ·obtain ⟨bs, hb, rfl⟩ := Option.map_eq_some_iff.mp hf
  have := boolsW_map hb
  subst this
  obtain ⟨x, r, rfl, px, pr⟩ := pr
  cases (show r = [] from pr)
  obtain ⟨a, ys, rfl, ha, ra⟩ := px
  have := reps_bools ra
  subst this
  refine ⟨a, _, rfl, s.seq ha, fun y hy => ?_, h G _ H (.refl s) ?_⟩
  ·obtain ⟨b, _, rfl⟩ := List.mem_map.mp hy; exact ⟨b, rfl⟩
  ·show V.bl _ = V.bl _
   congr 1
   rw [List.all_map]
   congr 1
   funext b
   cases b <;> first | rfl | simp
 ·cases hf
theorem oN_max : OpN K (fun xs H Q => ∃ i j, xs = [.int i, .int j] /\ Q (.int (if j > i then j else i)) H) max2 := by
 intro G H xs ws w Q s pr hf h
 unfold max2 at hf
 split at hf
 ·cases hf
  obtain ⟨x, r, rfl, px, y, r2, rfl, py, pr⟩ := pr
  cases (show r2 = [] from pr)
  cases px; cases py
  exact ⟨_, _, rfl, h G _ H (.refl s) rfl⟩
 ·cases hf
theorem oN_int : OpN K (fun xs H Q => (∃ i, xs = [.int i] /\ Q (.int i) H) \/ ∃ k, xs = [.bl k] /\ Q (.int (if k then 1 else 0)) H) int1 := by
 intro G H xs ws w Q s pr hf h
 unfold int1 at hf
 split at hf
 ·cases hf
  obtain ⟨x, r, rfl, px, pr⟩ := pr
  cases (show r = [] from pr)
  cases px
  exact .inl ⟨_, rfl, h G _ H (.refl s) rfl⟩
 ·cases hf
  obtain ⟨x, r, rfl, px, pr⟩ := pr
  cases (show r = [] from pr)
  cases px
  exact .inr ⟨_, rfl, h G _ H (.refl s) rfl⟩
 ·cases hf
end
section
variable {X : Cx} {Z : Zt} {EE : St -> XK} {a b c e : Expr} {es : List Expr} {da db : Den W} {dA : Den (List W)} {pos p p1 p2 pos1 pos2 : Pos} {x : Str}
theorem dt_in (hu : X.A.units + 150 < cLine) (ha : DE Z X EE a da) (hb : DE Z X EE b db) (hm : behindInMarks .In b = false := by with_unfolding_all rfl) : DT Z X EE (.Compare a [.In] [b] pos) (dTest (dOp inW da db)) := dt_cmp op_in_seq o2_in ha hb hm
theorem dt_nin (hu : X.A.units + 150 < cLine) (ha : DE Z X EE a da) (hb : DE Z X EE b db) (hm : behindInMarks .NotIn b = false := by with_unfolding_all rfl) : DT Z X EE (.Compare a [.NotIn] [b] pos) (dTest (dOp ninW da db)) := dt_cmp op_notIn_seq o2_nin ha hb hm
theorem de_all (hc : X.calm = true) (hm : X.mg "all" = none) (ha : DA Z X EE [e] dA) (hg : Gl X "all" := by rfl) (he : starEach [e] X.env = (false, eval e X.env) :: starEach [] X.env := by rfl) (hpl : (backTo pos (starEach [] X.env)).any (·.1) = false := by rfl) : DE Z X EE (.Call (.Name "all" p) [e] [] pos) (dFn all1 dA) :=
 de_blt (call_all hc) oN_all PyProof.Rows.Boot.«all» hm ha hg (by decide) (by decide) he hpl
theorem de_max2 (hc : X.calm = true) (hm : X.mg "max" = none) (ha : DA Z X EE [a, b] dA) (hg : Gl X "max" := by rfl) (he : starEach [a, b] X.env = (false, eval a X.env) :: starEach [b] X.env := by rfl) (hpl : (backTo pos (starEach [b] X.env)).any (·.1) = false := by rfl) : DE Z X EE (.Call (.Name "max" p) [a, b] [] pos) (dFn max2 dA) :=
 de_blt (call_max2 hc) oN_max PyProof.Rows.Boot.«max» hm ha hg (by decide) (by decide) he hpl
theorem de_int1 (hm : X.mg "int" = none) (ha : DA Z X EE [e] dA) (hg : Gl X "int" := by rfl) (he : starEach [e] X.env = (false, eval e X.env) :: starEach [] X.env := by rfl) (hpl : (backTo pos (starEach [] X.env)).any (·.1) = false := by rfl) : DE Z X EE (.Call (.Name "int" p) [e] [] pos) (dFn int1 dA) :=
 de_bty call_int1 oN_int PyProof.Rows.Boot.«int» hm ha hg (by decide) (by decide) he hpl
end
theorem all_l {bs : List Bool} : all1 [.lst (bs.map .bl)] = some (.bl (bs.all id)) := by
 show (boolsW (bs.map W.bl)).map _ = _
 rw [boolsW_of]; rfl
theorem max_ii {i j : Int} : max2 [.int i, .int j] = some (.int (if j > i then j else i)) := rfl
theorem int_i {i : Int} : int1 [.int i] = some (.int i) := rfl
theorem int_b {b : Bool} : int1 [.bl b] = some (.int (if b then 1 else 0)) := rfl
theorem cast0 : ((0 : Nat) : Int) = 0 := rfl
theorem cast1 : ((1 : Nat) : Int) = 1 := rfl
theorem for_ix {i : Nat} {b : List S -> SR} (I : Nat -> List S -> Prop) : ∀ (ws : List W) (k : Nat) (e : List S), I k e -> (∀ (j : Nat) (w : W) (e : List S), ws[j]? = some w -> I (k + j) e -> ∃ e', b (e.set i (.fr w)) = .nx e' /\ I (k + j + 1) e') -> ∃ e', forD i b ws e = .nx e' /\ I (k + ws.length) e'
 | [], k, e, h0, _ => ⟨e, rfl, h0⟩
 | w :: ws, k, e, h0, h => by
  obtain ⟨e1, h1, h2⟩ := h 0 w e rfl h0
  obtain ⟨e2, h3, h4⟩ := for_ix I ws (k + 1) e1 h2 fun j u e hu hI => by
   have z := h (j + 1) u e (by simpa using hu) (by rw [show k + (j + 1) = k + 1 + j by omega]; exact hI)
   rw [show k + (j + 1) + 1 = k + 1 + j + 1 by omega] at z
   exact z
  refine ⟨e2, ?_, ?_⟩
  ·rw [for_cons, h1, turn_nx, h3]
  ·rw [List.length_cons, show k + (ws.length + 1) = k + 1 + ws.length by omega]; exact h4
theorem mem_range {w : W} {lo hi : Int} (h : w ∈ rangeW lo hi) : ∃ k : Nat, w = .int (lo + k) /\ (k : Int) < hi - lo := by
 unfold rangeW at h
 obtain ⟨k, h1, rfl⟩ := List.mem_map.mp h
 rw [List.mem_range] at h1
 exact ⟨k, rfl, by omega⟩
theorem len_range {lo hi : Int} : (rangeW lo hi).length = (hi - lo).toNat := by simp [rangeW]
theorem get_range {lo hi : Int} {j : Nat} {w : W} (h : (rangeW lo hi)[j]? = some w) : w = .int (lo + j) /\ j < (hi - lo).toNat := by
 unfold rangeW at h
 rw [List.getElem?_map] at h
 obtain ⟨k, h1, rfl⟩ := Option.map_eq_some_iff.mp h
 obtain ⟨h2, h3⟩ := List.getElem?_eq_some_iff.mp h1
 simp at h2 h3
 subst h3
 exact ⟨rfl, by omega⟩
theorem for_rangeI {i : Nat} {b : List S -> SR} {lo hi : Int} (n : Nat) (hn : (hi - lo).toNat = n) (I : Nat -> List S -> Prop) (e : List S) (h0 : I 0 e) (h : ∀ (j : Nat) (e : List S), j < n -> I j e -> ∃ e', b (e.set i (.fr (.int (lo + j)))) = .nx e' /\ I (j + 1) e') : ∃ e', forD i b (rangeW lo hi) e = .nx e' /\ I n e' := by
 obtain ⟨e', h1, h2⟩ := for_ix (b := b) (i := i) I (rangeW lo hi) 0 e h0 fun j w e hw hI => by
  obtain ⟨rfl, hj⟩ := get_range hw
  rw [Nat.zero_add] at hI |-
  exact h j e (by omega) hI
 rw [len_range, hn, Nat.zero_add] at h2
 exact ⟨e', h1, h2⟩
end D
set_option Elab.async false
set_option linter.all false
set_option maxRecDepth 100000
set_option maxHeartbeats 1000000
namespace D
open PySem L2
section
variable {X : Cx} {Z : Zt} {EE : St -> XK} {es : List Expr} {dA : Den (List W)} {pos p pn : Pos} {k : Nat} {ps : List Str} {F : List W -> FR} {x f : Str}
end
mutual
noncomputable def conIn (K : PySem.W.Frag) : W -> Value -> Bool
 | .non, u => match u with | .none => true | _ => false
 | .bl b, u => match u with | .bool c => b == c | _ => false
 | .int i, u => match u with | .int j _ => decide (i = j) | _ => false
 | .str x, u => match u with | .str y _ => decide (x = y) | _ => false
 | .tup ws, u => match u with
  | .ref a => match K.lookup a with
   | some o => (o.cls == .type "tuple") && (match o.data with | .seq its _ => Nat.ble its.size 1000000 && consIn K ws its.toList | _ => false)
   | none => false
  | _ => false
 | .lst _, _ => false
 | .exc _, _ => false
 | .dic _, _ => false
noncomputable def consIn (K : PySem.W.Frag) : List W -> List Value -> Bool
 | [], us => us.isEmpty
 | w :: ws, us => match us with
  | u :: us => conIn K w u && consIn K ws us
  | [] => false
end
mutual
theorem con_rep {K : PySem.W.Frag} : ∀ (w : W) {u : Value}, conIn K w u = true -> ∃ v, RelV v u /\ ∀ G, Rep K G w v
 | .non, u, h => by
  unfold conIn at h
  split at h
  ·exact ⟨.non, rfl, fun _ => rfl⟩
  ·cases h
 | .bl b, u, h => by
  unfold conIn at h
  split at h
  ·rename_i c
   have : b = c := by simpa using h
   exact ⟨.bl b, by rw [this]; rfl, fun _ => rfl⟩
  ·cases h
 | .int i, u, h => by
  unfold conIn at h
  split at h
  ·rename_i j t
   have : i = j := by simpa using h
   exact ⟨.int i, ⟨t, by rw [this]⟩, fun _ => rfl⟩
  ·cases h
 | .str x, u, h => by
  unfold conIn at h
  split at h
  ·rename_i y t
   have : x = y := by simpa using h
   exact ⟨.str x, ⟨t, by rw [this]⟩, fun _ => rfl⟩
  ·cases h
 | .tup ws, u, h => by
  unfold conIn at h
  split at h
  ·rename_i a
   split at h
   ·rename_i o ho
    rw [Bool.and_eq_true] at h
    obtain ⟨h1, h2⟩ := h
    split at h2
    ·rename_i its n hd
     rw [Bool.and_eq_true] at h2
     obtain ⟨h3, h4⟩ := h2
     obtain ⟨xs, r, q⟩ := cons_rep ws h4
     exact ⟨.ref a, rfl, fun G => ⟨a, xs, rfl, .inr ⟨o, its, n, ho, by simpa using h1, hd, by rw [sizeLine_eq]; have := Nat.le_of_ble_eq_true h3; omega, r⟩, q G⟩⟩
    ·cases h2
   ·cases h
  ·cases h
 | .lst _, u, h => by unfold conIn at h; cases h
 | .exc _, u, h => by unfold conIn at h; cases h
 | .dic _, u, h => by unfold conIn at h; cases h
theorem cons_rep {K : PySem.W.Frag} : ∀ (ws : List W) {us : List Value}, consIn K ws us = true -> ∃ xs, Vals xs us /\ ∀ G, Reps K G ws xs
 | [], us, h => by
  unfold consIn at h
  cases us with
  | nil => exact ⟨[], .nil, fun _ => rfl⟩
  | cons _ _ => cases h
 | w :: ws, us, h => by
  unfold consIn at h
  cases us with
  | nil => cases h
  | cons u us =>
   rw [Bool.and_eq_true] at h
   obtain ⟨v, r, q⟩ := con_rep w h.1
   obtain ⟨xs, r', q'⟩ := cons_rep ws h.2
   exact ⟨v :: xs, .cons r r', fun G => ⟨v, xs, rfl, q G, q' G⟩⟩
end
theorem de_con {X : Cx} {Z : Zt} {EE : St -> XK} {x : Str} {w : W} {u : Value} {pos : Pos} (hm : X.mg x = some u) (hc : conIn X.K w u = true) (hg : Gl X x := by rfl) (hd : (x == ("__debug__" : Str)) = false := by decide) : DE Z X EE (.Name x pos) (dC w) := by
 obtain ⟨v, r, q⟩ := con_rep w hc
 exact PE.mono (pe_glob hg hm r hd) fun σ H Q ⟨G, e, rel, h⟩ => h G v H rel (.refl _) (q G)
section
variable {X : Cx} {Z : Zt} {EE : St -> XK} {e : Expr} {es : List Expr} {dA : Den (List W)} {pos p : Pos} {x : Str}
end
end D
set_option Elab.async false
set_option linter.all false
set_option maxRecDepth 100000
set_option maxHeartbeats 1000000
namespace D
open PySem L2
noncomputable def dPut (i : Nat) (dv dk : Den W) : List S -> SR := fun e => (dv e).stm fun w e1 => match e1[i]? with
 | some (.own _ _) => (dk e1).stm fun k e2 => match k, e2[i]? with
  | .int k, some (.own b ws) => match ixN ws.length k with
   | some j => .nx (e2.set i (.own b (ws.set j w)))
   | none => .no
  | _, _ => .no
 | _ => .no
section
variable {X : Cx} {Z : Zt} {EE : St -> XK} {e k : Expr} {d dk : Den W} {pos p tpos : Pos} {x : Str}
theorem ds_put (i : Nat) (he : DE Z X EE e d) (hk : DE Z X EE k dk) (hN : X.N[i]? = some x := by rfl) (hv : Vis X.env.scope x := by walk_at "1") (hd : (x == ("__debug__" : Str)) = false := by decide) (hcd : (x == ("__classdict__" : Str)) = false := by decide)
  (ha : ∀ v, assign (.Subscript (.Name x p) k tpos) X.env v = (do
   let ov <- holding [v] (eval (.Name x p) X.env)
   let iv <- holding [v, ov] (eval k X.env)
   standAt tpos
   holding [v, ov, iv] (setItem ov iv v)
   release [v, ov, iv] []) := by intro _; rfl)
  (hs : swapsWithSole [.Subscript (.Name x p) k tpos] e pos.line X.env = pure false := by rfl) (hw : swappedStores [.Subscript (.Name x p) k tpos] e X.env = pure none := by rfl)
  (h1 : (assignEach [.Subscript (.Name x p) k tpos] X.env).map (·.2) = [assign (.Subscript (.Name x p) k tpos) X.env] := by rfl) :
  DS Z X EE (.Assign [.Subscript (.Name x p) k tpos] e pos) (dPut i d dk) := by
 refine PS.mono (ps_asg he (pg_sub (pv i hN hv hd hcd) hk set_list ha) hs hw h1) ?_
 rintro D σ H ⟨G, e, rel, h⟩
 refine ⟨G, e, rel, (post_stm h).imp (fun w e1 h G1 v1 H1 r1 s1 p1 => ?_) fun _ _ h => h⟩
 split at h
 ·rename_i b0 ws0 he0
  obtain ⟨a, xs, q1, q2, q3, q4, q5⟩ := r1.own he0
  refine ⟨.ref a, q1, G1, e1, r1, (post_stm (σ := σ) h).imp (fun kw e2 h G2 v2 H2 r2 s2 p2 => ?_) fun _ _ h G' H' r s => h G' H' r (s1.trans s)⟩
  ·split at h
   ·rename_i kk b ws he2
    obtain ⟨a', zs, g1, g2, g3, g4, g5⟩ := r2.own he2
    rw [q1] at g1; cases g1
    cases p2
    split at h
    ·rename_i j hj
     refine ⟨a, zs, _, j, rfl, rfl, g2, by rw [g5.length]; exact hj, ?_⟩
     exact h G2 σ _ (r2.mut he2 q1 (g5.set j (Rep.mono s2 w p1))) (s1.trans s2)
    ·exact h.elim
   ·exact h.elim
 ·exact h.elim
end
section
variable {X : Cx} {Z : Zt} {EE : St -> XK} {a b : Expr} {da db : Den W} {pos : Pos}
end
def OpM (K : PySem.W.Frag) (r : V -> List V -> Hp -> VK -> Prop) (f : W -> List W -> Option W) : Prop := ∀ (G H : Hp) (x : V) (xs : List V) (wx : W) (ws : List W) (w : W) (Q : VK), Same G H -> Rep K G wx x -> Reps K G ws xs -> f wx ws = some w -> (∀ G' v H', Grow G H G' H' -> Rep K G' w v -> Q v H') -> r x xs H Q
noncomputable def kindW (T : String) : W -> Bool
 | .str _ => T == "str"
 | .lst _ => T == "list"
 | _ => false
noncomputable def dMeth (T : String) (f : W -> List W -> Option W) (d : Den W) (dA : Den (List W)) : Den W := fun e => (d e).bind fun x e1 => if kindW T x = true then (dA e1).bind fun ws e2 => ofOpt (f x ws) e2 else .no
section
variable {X : Cx} {Z : Zt} {EE : St -> XK} {o e : Expr} {es : List Expr} {d : Den W} {dA : Den (List W)} {pos p : Pos} {x : Str}
theorem de_meth {T id : String} {name : Str} {r : V -> List V -> Hp -> VK -> Prop} {f : W -> List W -> Option W} {apos cpos : Pos} (pa : PlainAttrs T) (slot : Slot T name id) (hty : typeOf (.builtin id) = pure (.type "method_descriptor")) (hm : MtR X id r) (hf : OpM X.K r f) (ho : DE Z X EE o d) (ha : DA Z X EE (e :: es) dA)
  (hbase : attributeBase o name X.env (eval o X.env) = eval o X.env := by rfl)
  (hfew : ((backTo cpos (starEach (e :: es) X.env)).all (fun x => !x.1) && (backToKw cpos (keywordEach [] X.env)).all (fun x => x.1.isSome) && decide ((e :: es).length + ([] : List Keyword).length + (if ([] : List Keyword).isEmpty then 0 else 1) < 30)) = true := by rfl)
  (hline : (apos.endLine == cpos.line) = true := by rfl) (hs : starEach (e :: es) X.env = (false, eval e X.env) :: starEach es X.env := by rfl) (hplain : (backTo cpos (starEach es X.env)).any (·.1) = false := by rfl) :
  DE Z X EE (.Call (.Attribute o name apos) (e :: es) [] cpos) (dMeth T f d dA) := by
 refine PE.mono (pe_bm pa slot hty hm ho ha hbase hfew hline hs hplain) ?_
 rintro σ H Q ⟨G, e, rel, h⟩
 simp only [dMeth, R.holds_bind] at h
 refine ⟨G, e, rel, h.imp (fun wx e1 h G1 v1 H1 r1 s1 p1 => ?_) fun _ _ h => h⟩
 split at h
 ·rename_i hk
  refine ⟨?_, G1, e1, r1, (R.holds_bind.mp h).imp (fun ws e2 h G2 vs H2 r2 s2 p2 => ?_) fun _ _ h => XH.trans s1 h⟩
  ·cases wx with
   | str z => cases p1; exact (by simpa [kindW] using hk : T = "str")
   | lst ws =>
    obtain ⟨a, xs, rfl, q, _⟩ := p1
    exact .inl ⟨by simpa [kindW] using hk, xs, r1.sub.seq q⟩
   | _ => cases hk
  ·obtain ⟨w, hw, h⟩ := ofOpt_holds.mp h
   exact hf G2 H2 v1 vs wx ws w Q r2.sub (Rep.mono s2 wx p1) p2 hw fun G' v H' g p => h G' v H' (r2.grow g) ((s1.trans s2).trans g.gg) p
 ·exact h.elim
end
noncomputable def strsW : List W -> Option (List Str)
 | [] => some []
 | .str x :: r => (strsW r).map (x :: ·)
 | _ => none
theorem strs_rep {K : PySem.W.Frag} {G : Hp} : ∀ {ws : List W} {ys : List Str} {xs : List V}, strsW ws = some ys -> Reps K G ws xs -> xs = ys.map V.str
 | [], ys, xs, h, r => by cases h; exact r
 | .str x :: ws, ys, xs, h, r => by
  unfold strsW at h
  obtain ⟨zs, h1, rfl⟩ := Option.map_eq_some_iff.mp h
  obtain ⟨v, t, rfl, p, q⟩ := r
  cases p
  rw [strs_rep h1 q]
  rfl
 | .non :: ws, _, _, h, _ => by cases h
 | .bl _ :: ws, _, _, h, _ => by cases h
 | .int _ :: ws, _, _, h, _ => by cases h
 | .tup _ :: ws, _, _, h, _ => by cases h
 | .lst _ :: ws, _, _, h, _ => by cases h
 | .exc _ :: ws, _, _, h, _ => by cases h
section
variable {X : Cx} {Z : Zt} {EE : St -> XK} {o e : Expr} {d : Den W} {dA : Den (List W)}
end
end D
set_option Elab.async false
set_option linter.all false
set_option maxRecDepth 100000
set_option maxHeartbeats 1000000
namespace D
open PySem L2
section
variable {X : Cx} {Z : Zt} {EE : St -> XK} {e : Expr} {body : List Stmt} {d : Den W} {s1 : List S -> SR} {pos : Pos}
end
noncomputable def idxS (x : Str) : List Str -> Option Nat
 | [] => none
 | y :: ys => if y = x then some 0 else (idxS x ys).map (· + 1)
theorem idxS_get {x : Str} : ∀ {ys : List Str} {j : Nat}, idxS x ys = some j -> ys[j]? = some x /\ ∀ (m : Nat) (y : Str), m < j -> ys[m]? = some y -> y ≠ x
 | [], j, h => by cases h
 | y :: ys, j, h => by
  unfold idxS at h
  split at h
  ·rename_i hy
   cases h
   exact ⟨by rw [hy]; rfl, fun m y hm _ => by omega⟩
  ·rename_i hy
   obtain ⟨k, h1, rfl⟩ := Option.map_eq_some_iff.mp h
   obtain ⟨h2, h3⟩ := idxS_get h1
   refine ⟨by simpa using h2, fun m z hm hz => ?_⟩
   cases m with
   | zero => simp at hz; rw [<- hz]; exact hy
   | succ m => exact h3 m z (by omega) (by simpa using hz)
noncomputable def indexW : W -> List W -> Option W
 | .lst ws, [.str x] => match strsW ws with
  | some ys => match idxS x ys with
   | some j => some (.int j)
   | none => none
  | none => none
 | _, _ => none
def rIndex (K : PySem.W.Frag) : V -> List V -> Hp -> VK -> Prop := fun v vs H Q => ∃ b ys x j, v = .ref b /\ vs = [.str x] /\ SqL K H b (ys.map V.str) /\ idxS x ys = some j /\ Q (.int (j : Nat)) H
theorem strs_at : ∀ {ys : List Str} {its : List Value}, Vals (ys.map V.str) its -> ∀ (m : Nat) (u : Value), its[m]? = some u -> ∃ y t, ys[m]? = some y /\ u = .str y t
 | [], its, h, m, u, hu => by cases h; simp at hu
 | y :: ys, its, h, m, u, hu => by
  cases h with
  | cons r t =>
   obtain ⟨k, rfl⟩ := r
   cases m with
   | zero => simp at hu; exact ⟨y, k, rfl, hu.symm⟩
   | succ m => simpa using strs_at t m u (by simpa using hu)
theorem mt_index {X : Cx} : MtR X "list.index" (rIndex X.K) := by
 intro pins s σ H x vs v us Q I rx rv h
 obtain ⟨b, ys, x0, j, rfl, rfl, hB, hj, q⟩ := h
 cases rx
 obtain ⟨u, rfl, ru⟩ := rv.one
 obtain ⟨t, rfl⟩ := ru
 obtain ⟨its, r, pl, hz⟩ := I.list hB
 obtain ⟨⟨cls, dd, data, sl⟩, ho, hc, n, hd⟩ := pl.isList
 simp only at hc hd
 subst hc hd
 obtain ⟨h1, h2⟩ := idxS_get hj
 have hlen := r.length
 rw [List.length_map] at hlen hz
 have hjl : j < ys.length := (List.getElem?_eq_some_iff.mp h1).1
 have hl63 := line63
 let e : Value -> Bool := fun u => match u with | .str y _ => y == x0 | _ => false
 have at' : ∀ (m : Nat) (hm : m < its.toArray.size), ∃ y k, ys[m]? = some y /\ its.toArray[m] = .str y k := fun m hm => by
  have hm' : m < its.length := by simpa using hm
  obtain ⟨y, k, z1, z2⟩ := strs_at r m its[m] (List.getElem?_eq_getElem hm')
  exact ⟨y, k, z1, by simpa using z2⟩
 refine call_meets F.slot_list_index ⟨_, ho, rfl⟩ F.entry_list_index (F.args_list_index_2 _ _) (SeqAt.list_indexAt b its.toArray n dd sl (.str x0 t) e j (by simp only [List.size_toArray]; omega) (by omega) ?_ ?_) ⟨ho, ?_, ?_⟩
 ·obtain ⟨y, k, z1, z2⟩ := at' j (by simp only [List.size_toArray]; omega)
  rw [h1] at z1
  cases z1
  rw [z2]
  simp [e]
 ·intro m hm hlt
  obtain ⟨y, k, z1, z2⟩ := at' m hm
  rw [z2]
  simpa [e] using h2 m y hlt z1
 ·intro y hy
  obtain ⟨m, hm, rfl⟩ := Array.mem_iff_getElem.mp hy
  obtain ⟨y, k, z1, z2⟩ := at' m hm
  rw [z2]
  exact SeqAt.EqAt.str_str y k x0 t
 ·exact ⟨.int j, H, I.tok _, ⟨_, rfl⟩, q⟩
theorem oM_index {K : PySem.W.Frag} : OpM K (rIndex K) indexW := by
 intro G H x xs wx ws w Q s px pr hf h
 unfold indexW at hf
 split at hf
 ·rename_i us x0
  obtain ⟨y, r, rfl, py, pr⟩ := pr
  cases (show r = [] from pr)
  cases py
  split at hf
  ·rename_i ys hy
   split at hf
   ·rename_i j hj
    cases hf
    obtain ⟨a, cs, rfl, hq, rp⟩ := px
    have := strs_rep hy rp
    subst this
    exact ⟨a, ys, x0, j, rfl, rfl, s.seq hq, hj, h G _ H (.refl s) rfl⟩
   ·cases hf
  ·cases hf
 ·cases hf
section
variable {X : Cx} {Z : Zt} {EE : St -> XK} {o e : Expr} {d : Den W} {dA : Den (List W)}
theorem de_index {apos cpos : Pos} (ho : DE Z X EE o d) (ha : DA Z X EE [e] dA)
  (hbase : attributeBase o "index" X.env (eval o X.env) = eval o X.env := by rfl)
  (hfew : ((backTo cpos (starEach [e] X.env)).all (fun x => !x.1) && (backToKw cpos (keywordEach [] X.env)).all (fun x => x.1.isSome) && decide ([e].length + ([] : List Keyword).length + (if ([] : List Keyword).isEmpty then 0 else 1) < 30)) = true := by rfl)
  (hline : (apos.endLine == cpos.line) = true := by rfl) (hs : starEach [e] X.env = (false, eval e X.env) :: starEach [] X.env := by rfl) (hplain : (backTo cpos (starEach [] X.env)).any (·.1) = false := by rfl) :
  DE Z X EE (.Call (.Attribute o "index" apos) [e] [] cpos) (dMeth "list" indexW d dA) :=
 de_meth PySem.F.plainAttrs_list PySem.F.slot_list_index PySem.F.type_list_index mt_index oM_index ho ha hbase hfew hline hs hplain
end
end D
set_option Elab.async false
set_option linter.all false
set_option maxRecDepth 100000
set_option maxHeartbeats 1000000
namespace D
open PySem L2
structure TabK (P : Program) (w : World) (K : PySem.W.Frag) (d : Addr) (tb : List (Str × Int)) : Prop where
 tab : ∀ h, K.In h -> PyProof.Rows.StrTab P w h d (PySem.W.kdpD tb)
 obj : ∃ o, K.lookup d = some o /\ o.cls = .type "dict" /\ o.dict = none
section
variable {X : Cx} {Z : Zt} {EE : St -> XK} {e k : Expr} {es : List Expr} {dk : Den W} {dA : Den (List W)} {pos p : Pos} {x : Str} {d : Addr} {tb : List (Str × Int)}
end
end D
set_option Elab.async false
set_option linter.all false
set_option maxRecDepth 100000
set_option maxHeartbeats 1000000
namespace D
open PySem L2
section
variable {e : List S} {w : W} {ws : List W}
noncomputable def putC (i : Nat) (e : List S) (b : Bool) (ws : List W) (w : W) : Option Nat -> SR
 | some j => .nx (e.set i (.own b (ws.set j w)))
 | none => .no
noncomputable def putB (i : Nat) (e : List S) (w : W) : W -> Option S -> SR
 | .int k, some (.own b ws) => putC i e b ws w (ixN ws.length k)
 | _, _ => .no
noncomputable def putA (i : Nat) (dk : Den W) (w : W) (e : List S) : Option S -> SR
 | some (.own _ _) => (dk e).stm fun k e2 => putB i e2 w k e2[i]?
 | _ => .no
theorem dPut_s {i : Nat} {dv dk : Den W} : dPut i dv dk e = (dv e).stm fun w e1 => putA i dk w e1 e1[i]? := by
 unfold dPut
 congr 1
theorem putA_own {i : Nat} {dk : Den W} {b : Bool} : putA i dk w e (some (.own b ws)) = (dk e).stm fun k e2 => putB i e2 w k e2[i]? := rfl
theorem putB_own {i : Nat} {b : Bool} {k : Int} : putB i e w (.int k) (some (.own b ws)) = putC i e b ws w (ixN ws.length k) := rfl
theorem putC_some {i j : Nat} {b : Bool} : putC i e b ws w (some j) = .nx (e.set i (.own b (ws.set j w))) := rfl
theorem dMeth_s {T : String} {f : W -> List W -> Option W} {d : Den W} {dA : Den (List W)} : dMeth T f d dA e = (d e).bind fun x e1 => if kindW T x = true then (dA e1).bind fun ws e2 => ofOpt (f x ws) e2 else .no := rfl
theorem kind_s {z : Str} : kindW "str" (.str z) = true := rfl
theorem kind_l : kindW "list" (.lst ws) = true := rfl
end
structure Walk2 (K : PySem.W.Frag) (G1 : Hp) (J : It) (ps : List (W × W)) : Prop where
 go : ∀ (i : Nat) (G H : Hp), Same G1 G -> Same G H -> i < ps.length -> J.go i H
 yld : ∀ (i : Nat) (G H : Hp) (x : V) (H' : Hp), Same G1 G -> Same G H -> J.yld i H x H' -> ∀ u v, ps[i]? = some (u, v) ->
  Grow G H G H' /\ ∀ (m n : Nat) (σ : St) (Q : St -> Hp -> Prop), (∀ y z, Rep K G u y -> Rep K G v z -> Q ((σ.set m (some y)).set n (some z)) H') -> gTup K 2 (gCons (gName m) (gCons (gName n) gNil)) x σ H' Q
 stop : ∀ (i : Nat) (G H : Hp), Same G1 G -> Same G H -> ps.length <= i -> J.stop i H
section
variable {K : PySem.W.Frag} {Z : Zt} {EE : St -> XK}
end
end D
set_option Elab.async false
set_option linter.all false
set_option maxRecDepth 100000
set_option maxHeartbeats 1000000
namespace D
open PySem L2
section
variable {X : Cx} {Z : Zt} {EE : St -> XK} {elt iter e a : Expr} {body : List Stmt} {ifs : List Expr} {scope sc : Scope} {pos pt p1 p2 p3 : Pos} {x y : Str} {Nf N : List Str} {js : List Nat} {di : Den (List (W × W))} {dA : Den (List W)} {d0 : Den W} {c : Den Bool} {d : Den W} {s1 : List S -> SR} {kt : Nat}
end
end D
set_option Elab.async false
set_option linter.all false
set_option maxRecDepth 100000
set_option maxHeartbeats 1000000
namespace D
open PySem L2
section
variable {e : List S} {w : W} {ws : List W} {ps : List (W × W)} {di : Den (List (W × W))} {b : List S -> SR} {i j : Nat} {c : Prop} [Decidable c] {s t : SR} {k : List S -> SR} {v : Value} {st : S}
end
end D
set_option Elab.async false
set_option linter.all false
set_option maxRecDepth 100000
set_option maxHeartbeats 1000000
namespace D
open PySem L2
theorem list_mulW (l : Addr) (items : Array Value) (n : Nat) (x : Int) (u : Tok) (dd : Option Addr) (sl : Array (Option Value)) (hc0 : ¬(!Builtin.List.listFitsIndex x) = true) (hc1 : ¬items.size * x.toNat > (2 ^ 63 - 1) / 8) (hc2 : ¬Builtin.List.listTooLong (items.size * x.toNat) = true) :
  Meets (Builtin.«list.__mul__» ⟨[.ref l, .int x u], []⟩) (fun _ R s => s.heap.get? l = some { cls := .type "list", dict := dd, data := .seq items n, slots := sl } /\ R (.ok (.ret (Value.ref s.heap.objs.size))) { s with heap := s.heap.push { cls := Value.type "list", data := Data.seq (List.foldl (fun x1 x2 => x1 ++ x2) #[] (List.replicate (if items.isEmpty = true then 0 else x.toNat) items)) }, toks := s.toks }) :=
 .of_wp fun prog w A R s h => by
  obtain ⟨hp, g, d, tk, os⟩ := s; obtain ⟨hl, h⟩ := h
  have hsz := PySem.AutoListH.joined_fits hc2
  wp_walk; refine wpAny_ite_false (decide_eq_false (Nat.not_lt.mpr hsz)) ?_; wp_walk; exact ⟨_, rfl, h⟩
theorem int_rmulW (a : Int) (t : Tok) (l : Addr) (items : Array Value) (n : Nat) (dd : Option Addr) (sl : Array (Option Value)) :
  Meets (Builtin.«int.__rmul__» ⟨[.int a t, .ref l], []⟩) (fun _ R s => s.heap.get? l = some { cls := .type "list", dict := dd, data := .seq items n, slots := sl } /\ R (.ok (.ret Value.notImplemented)) s) :=
 .of_wp fun prog w A R s h => by obtain ⟨hp, g, d, tk, os⟩ := s; obtain ⟨hl, h⟩ := h; wp_walk; exact ⟨_, rfl, h⟩
def rRepS (K : PySem.W.Frag) : R2 := fun x y H Q => ∃ l k xs, x = .ref l /\ y = .int k /\ SqL K H l xs /\ -(2 ^ 63) <= k /\ k < 2 ^ 63 /\ xs.length * k.toNat <= sizeLine /\
 ∀ p, H p = none -> Q (.ref p) (upd H p (.lst (List.replicate k.toNat xs).flatten))
theorem op_repS {X : Cx} : OpR X (binaryOp .Mult) (rRepS X.K) := by
 intro pins s σ H x y v u Q I rx ry h
 obtain ⟨l, k, xs, rfl, rfl, hH, h1, h2, hz, q⟩ := h
 cases rx
 obtain ⟨t, rfl⟩ := ry
 obtain ⟨its, r, p1, _⟩ := I.list hH
 obtain ⟨⟨cls, dd, data, sl⟩, ho, hc, n, hd⟩ := id p1.isList
 simp only at hc hd
 subst hc hd
 have hl := r.length
 have hlen : its.toArray.size * k.toNat <= sizeLine := by rw [List.size_toArray, <- hl]; exact hz
 have hcap : ¬ its.toArray.size * k.toNat > (2 ^ 63 - 1) / 8 := by
  have : (sizeLine : Nat) <= (2 ^ 63 - 1) / 8 := by decide
  omega
 have hfit : ¬ (!Builtin.List.listFitsIndex k) = true := by
  rw [fitsIndex_both h1 h2]
  exact Bool.false_ne_true
 have hlong : ¬ Builtin.List.listTooLong (its.toArray.size * k.toNat) = true := by
  rw [notLongL hlen]
  exact Bool.false_ne_true
 have hnew : List.foldl (fun x1 x2 => x1 ++ x2) #[] (List.replicate (if its.toArray.isEmpty = true then 0 else k.toNat) its.toArray) = (List.replicate k.toNat its).flatten.toArray := by
  have f0 : ∀ m : Nat, List.foldl (fun x1 x2 => x1 ++ x2) #[] (List.replicate m its.toArray) = (List.replicate m its).flatten.toArray := fun m => by
   have := foldl_rep its m []
   rw [List.nil_append] at this
   exact this
  rw [f0]
  cases its with
  | nil => simp
  | cons a r' => rw [if_neg (by simp)]
 refine wpAny_binaryOp_repeat_ref (T := "list") (U := "int") (by decide) ⟨_, ho, rfl⟩ (fun s' => typeIs_int s' k t) noFill_list_mul F.fills_int_mul F.slot_int_rmul repeat_list F.slot_int_index.lookup
  (PySem.call_meets F.slot_int_rmul (typeIs_int s k t) F.entry_int_rmul (F.args_int_rmul_2 _ _) (int_rmulW k t l its.toArray n dd sl)
   ⟨ho, rfl, ⟨_, ho, rfl⟩, PySem.call_meets F.slot_list_mul ⟨_, ho, rfl⟩ F.entry_list_mul (F.args_list_mul_2 _ _) (list_mulW l its.toArray n k t dd sl hfit hcap hlong) ⟨ho, ?_⟩⟩)
 rw [hnew]
 exact ⟨.ref _, _, I.lnew (t' := s.toks) (r.rep k.toNat) (by rw [len_rep, Nat.mul_comm]; exact hz), rfl, q _ I.fresh⟩
noncomputable def repW : W -> W -> Option W
 | .lst ws, .int k => if okI k = true /\ ws.length * k.toNat <= 16777216 then some (.lst (List.replicate k.toNat ws).flatten) else none
 | _, _ => none
theorem reps_rep {K : PySem.W.Frag} {G : Hp} {ws : List W} {xs : List V} (r : Reps K G ws xs) : ∀ k : Nat, Reps K G (List.replicate k ws).flatten (List.replicate k xs).flatten
 | 0 => rfl
 | k + 1 => by
  rw [List.replicate_succ, List.replicate_succ, List.flatten_cons, List.flatten_cons]
  exact r.append (reps_rep r k)
theorem o2_rep {K : PySem.W.Frag} : Op2 K (rRepS K) repW := by
 intro G H x y wx wy w Q s px py hf h
 unfold repW at hf
 split at hf
 ·rename_i ws k
  split at hf
  ·rename_i hc
   cases hf
   cases (show y = V.int k from py)
   obtain ⟨l, xs, rfl, hq, rp⟩ := px
   have hb := okI_to hc.1
   refine ⟨l, k, xs, rfl, rfl, s.seq hq, by omega, by omega, by rw [sizeLine_eq, rp.length]; exact hc.2, fun p hp => ?_⟩
   have g : Grow G H (upd G p (.lst (List.replicate k.toNat xs).flatten)) (upd H p (.lst (List.replicate k.toNat xs).flatten)) := Grow.laid s hp _
   exact h _ _ _ g ⟨p, _, rfl, SqL.of upd_same, Reps.mono g.gg _ (reps_rep rp _)⟩
  ·cases hf
 ·cases hf
section
variable {X : Cx} {Z : Zt} {EE : St -> XK} {a b : Expr} {da db : Den W} {pos : Pos}
theorem de_rep (ha : DE Z X EE a da) (hb : DE Z X EE b db) : DE Z X EE (.BinOp a .Mult b pos) (dOp repW da db) := de_op op_repS o2_rep ha hb
end
end D
set_option Elab.async false
set_option linter.all false
set_option maxRecDepth 100000
set_option maxHeartbeats 1000000
namespace D
open PySem L2
noncomputable def intsW : List W -> Option (List Int)
 | [] => some []
 | .int x :: r => (intsW r).map (x :: ·)
 | _ => none
theorem ints_rep {K : PySem.W.Frag} {G : Hp} : ∀ {ws : List W} {ys : List Int} {xs : List V}, intsW ws = some ys -> Reps K G ws xs -> xs = ys.map V.int
 | [], ys, xs, h, r => by cases h; cases (show xs = [] from r); rfl
 | w :: ws, ys, xs, h, r => by
  unfold intsW at h
  split at h
  ·rename_i z; cases z
  ·rename_i y r' z
   cases z
   obtain ⟨ys', h1, rfl⟩ := Option.map_eq_some_iff.mp h
   obtain ⟨v, vs, rfl, p1, p2⟩ := r
   cases (show v = V.int y from p1)
   rw [ints_rep h1 p2]
   rfl
  ·cases h
section
variable {X : Cx} {Z : Zt} {EE : St -> XK} {o e : Expr} {d : Den W} {dA : Den (List W)}
end
end D
set_option Elab.async false
set_option linter.all false
set_option maxRecDepth 100000
set_option maxHeartbeats 1000000
namespace D
open PySem L2
section
variable {prog : Program} {w : World} {A : Around} {E : Value -> Shared -> Prop} {s : Shared}
structure Apart (z I O i j a b : Addr) : Prop where
 Iz : I ≠ z
 Oz : O ≠ z
 iz : i ≠ z
 jz : j ≠ z
 IO : I ≠ O
 Ii : I ≠ i
 Ij : I ≠ j
 Oi : O ≠ i
 Oj : O ≠ j
 ij : i ≠ j
 az : a ≠ z
 aO : a ≠ O
 ai : a ≠ i
 aj : a ≠ j
 bz : b ≠ z
 bO : b ≠ O
 bi : b ≠ i
 bj : b ≠ j
end
end D
set_option Elab.async false
set_option linter.all false
set_option maxRecDepth 100000
set_option maxHeartbeats 1000000
namespace D
open PySem L2
section
variable {prog : Program} {w : World} {A : Around} {E : Value -> Shared -> Prop} {s : Shared}
end
section
variable {X : Cx} {Z : Zt} {EE : St -> XK} {e1 e2 : Expr} {pos pt : Pos} {dA : Den (List W)} {kt : Nat}
end
end D
set_option Elab.async false
set_option linter.all false
set_option maxRecDepth 100000
set_option maxHeartbeats 1000000
namespace D
open PySem L2
section
variable {X : Cx} {Z : Zt} {EE : St -> XK} {a1 a2 : Expr} {pos pt : Pos} {dA : Den (List W)} {kt : Nat}
end
section
variable {e : List S} {us vs : List W}
end
end D
set_option Elab.async false
set_option linter.all false
set_option maxRecDepth 100000
set_option maxHeartbeats 1000000
namespace D
open PySem L2
section
variable {X : Cx} {Z : Zt} {EE : St -> XK} {x : Str} {p pos : Pos}
end
section
variable {X : Cx} {Z : Zt} {EE : St -> XK} {o e a b c : Expr} {d da db dc : Den W} {dA : Den (List W)} {pos p1 p2 p3 : Pos} {kt : Nat} {x y : Str}
end
section
variable {e : List S} {w : W} {ws : List W}
end
end D
set_option Elab.async false
set_option linter.all false
set_option maxRecDepth 100000
set_option maxHeartbeats 1000000
namespace D
open PySem L2
noncomputable def insI (x : Int) : List Int -> List Int
 | [] => [x]
 | y :: ys => if x <= y then x :: y :: ys else y :: insI x ys
noncomputable def sortI : List Int -> List Int
 | [] => []
 | x :: xs => insI x (sortI xs)
theorem insI_perm (x : Int) : ∀ l : List Int, (insI x l).Perm (x :: l)
 | [] => .refl _
 | y :: ys => by
  unfold insI
  split
  ·exact .refl _
  ·exact ((insI_perm x ys).cons y).trans (.swap x y ys)
theorem sortI_perm : ∀ l : List Int, (sortI l).Perm l
 | [] => .refl _
 | x :: xs => (insI_perm x _).trans ((sortI_perm xs).cons x)
theorem insI_sorted {x : Int} : ∀ {l : List Int}, l.Pairwise (· <= ·) -> (insI x l).Pairwise (· <= ·)
 | [], _ => by simp [insI]
 | y :: ys, h => by
  unfold insI
  rw [List.pairwise_cons] at h
  split
  ·rename_i hxy
   refine List.pairwise_cons.mpr ⟨fun z hz => ?_, List.pairwise_cons.mpr h⟩
   rcases List.mem_cons.mp hz with rfl | hz
   ·exact hxy
   ·exact Int.le_trans hxy (h.1 z hz)
  ·rename_i hxy
   refine List.pairwise_cons.mpr ⟨fun z hz => ?_, insI_sorted h.2⟩
   rcases List.mem_cons.mp ((insI_perm x ys).mem_iff.mp hz) with rfl | hz
   ·omega
   ·exact h.1 z hz
theorem sortI_sorted : ∀ l : List Int, (sortI l).Pairwise (· <= ·)
 | [] => .nil
 | x :: xs => insI_sorted (sortI_sorted xs)
theorem sorted_unique {l l' : List Int} (p : l.Perm l') (h : l.Pairwise (· <= ·)) (h' : l'.Pairwise (· <= ·)) : l = l' := p.eq_of_pairwise (fun a b _ _ h1 h2 => Int.le_antisymm h1 h2) h h'
theorem ints_are : ∀ {ys : List Int} {its : List Value}, Vals (ys.map V.int) its -> PyProof.Rows.IntsAre its ys
 | [], its, h => by cases h; exact .nil
 | y :: ys, its, h => by
  cases h with
  | cons r t =>
   obtain ⟨k, rfl⟩ := r
   exact .cons y k (ints_are t)
theorem are_vals : ∀ {ys : List Int} {its : List Value}, PyProof.Rows.IntsAre its ys -> Vals (ys.map V.int) its
 | _, _, .nil => .nil
 | _, _, .cons n t h => .cons ⟨_, rfl⟩ (are_vals h)
section
variable {X : Cx} {Z : Zt} {EE : St -> XK} {e : Expr} {dA : Den (List W)} {pos p : Pos}
end
theorem ints_of : ∀ ns : List Int, intsW (ns.map .int) = some ns
 | [] => rfl
 | n :: ns => by rw [List.map_cons]; show (intsW (ns.map .int)).map (n :: ·) = _; rw [ints_of ns]; rfl
end D
set_option Elab.async false
set_option linter.all false
set_option maxRecDepth 100000
set_option maxHeartbeats 1000000
namespace D
open PySem L2
noncomputable def hide1 : S -> S
 | .own _ ws => .fr (.lst ws)
 | .dic kvs => .fr (.dic kvs)
 | s => s
noncomputable def hideS (e : List S) : List S := e.map hide1
noncomputable def borrowR (e : List S) : R W -> R W
 | .ok w _ => if scalW w = true then .ok w e else .no
 | .ex c _ => .ex c e
 | .no => .no
noncomputable def dBorrow (d : Den W) : Den W := fun e => borrowR e (d (hideS e))
noncomputable def borrowT (e : List S) : R Bool -> R Bool
 | .ok b _ => .ok b e
 | .ex c _ => .ex c e
 | .no => .no
noncomputable def dBorrowT (d : Den Bool) : Den Bool := fun e => borrowT e (d (hideS e))
theorem Rel.hide {K : PySem.W.Frag} {Z : Zt} {G H : Hp} {σ : St} {e : List S} (r : Rel K Z G σ H e) : Rel K ⟨H, H, []⟩ H σ H (hideS e) := by
 have g : ∀ (i : Nat) (s : S), (hideS e)[i]? = some s -> ∃ s0, e[i]? = some s0 /\ s = hide1 s0 := fun i s h => by
  unfold hideS at h
  rw [List.getElem?_map] at h
  obtain ⟨s0, h1, h2⟩ := Option.map_eq_some_iff.mp h
  exact ⟨s0, h1, h2.symm⟩
 refine ⟨.refl _, fun i s h => ?_, by unfold hideS; rw [List.length_map]; exact r.len, fun i j b b' ws ws' a h1 _ _ _ => ?_, fun a o h _ => h, (fun a h => nomatch h), fun a _ => rfl⟩
 ·obtain ⟨s0, h0, rfl⟩ := g i s h
  have q := r.slot i s0 h0
  cases s0 with
  | no => trivial
  | fr w =>
   obtain ⟨u, q1, q2⟩ := q
   exact ⟨u, q1, Rep.mono r.sub w q2⟩
  | own b ws =>
   obtain ⟨a, xs, q1, q2, q3, q4, q5⟩ := q
   exact ⟨.ref a, q1, a, xs, rfl, SqL.of q2, Reps.mono r.sub ws q5⟩
  | dic kvs =>
   obtain ⟨a, q1, q2, _⟩ := q
   exact ⟨.ref a, q1, a, rfl, q2⟩
 ·obtain ⟨s0, _, h2⟩ := g i _ h1
  cases s0 <;> cases h2
theorem Rel.back {K : PySem.W.Frag} {Z : Zt} {G G2 H H2 : Hp} {σ : St} {e e2 : List S} (r : Rel K Z G σ H e) (r2 : Rel K ⟨H, H, []⟩ G2 σ H2 e2) : Rel K Z G σ H2 e := by
 have hh : Same H H2 := fun a o h => r2.ent a o h (fun z => nomatch z)
 exact r.grow ⟨hh, .refl _, fun a o h => hh a o (r.sub a o h), fun _ _ => rfl⟩
theorem scal_any {K : PySem.W.Frag} {G G' : Hp} {w : W} {v : V} (h : scalW w = true) (p : Rep K G w v) : Rep K G' w v := by
 cases w with
 | non => exact p
 | bl b => exact p
 | int b => exact p
 | str b => exact p
 | _ => cases h
section
variable {X : Cx} {Z : Zt} {EE : St -> XK} {e : Expr} {d : Den W} {c : Den Bool}
theorem de_borrow (he : ∀ Z', DE Z' X EE e d) : DE Z X EE e (dBorrow d) := by
 intro pins s σ H Q I hq
 obtain ⟨G, e0, rel, h⟩ := hq
 refine he ⟨H, H, []⟩ pins s σ H Q I ⟨H, hideS e0, rel.hide, ?_⟩
 unfold dBorrow borrowR at h
 cases q : d (hideS e0) with
 | ok w e2 =>
  rw [q] at h
  dsimp only at h
  split at h
  ·rename_i hs
   intro G2 v H2 r2 s2 p
   exact h G v H2 (rel.back r2) (.refl _) (scal_any hs p)
  ·exact h.elim
 | ex k e2 =>
  rw [q] at h
  intro G2 H2 r2 s2
  exact h G H2 (rel.back r2) (.refl _)
 | no => rw [q] at h; exact h.elim
theorem dt_borrow (he : ∀ Z', DT Z' X EE e c) : DT Z X EE e (dBorrowT c) := by
 intro pins s σ H Q I hq
 obtain ⟨G, e0, rel, h⟩ := hq
 refine he ⟨H, H, []⟩ pins s σ H Q I ⟨H, hideS e0, rel.hide, ?_⟩
 unfold dBorrowT borrowT at h
 cases q : c (hideS e0) with
 | ok w e2 =>
  rw [q] at h
  intro G2 H2 r2 s2
  exact h G H2 (rel.back r2) (.refl _)
 | ex k e2 =>
  rw [q] at h
  intro G2 H2 r2 s2
  exact h G H2 (rel.back r2) (.refl _)
 | no => rw [q] at h; exact h.elim
end
section
variable {e e' : List S} {w : W} {ws : List W} {v : Value} {k : Bool} {s : S} {p : Prop} [Decidable p]
theorem dBorrow_s {d : Den W} : dBorrow d e = borrowR e (d (hideS e)) := rfl
theorem dBorrowT_s {d : Den Bool} : dBorrowT d e = borrowT e (d (hideS e)) := rfl
theorem borrow_ok : borrowR e (.ok w e') = if scalW w = true then .ok w e else .no := rfl
theorem borrow_ex : borrowR e (.ex v e') = .ex v e := rfl
theorem borrowT_ok : borrowT e (.ok k e') = .ok k e := rfl
theorem borrowT_ex : borrowT e (.ex v e') = .ex v e := rfl
theorem borrow_ite {x y : R W} : borrowR e (if p then x else y) = if p then borrowR e x else borrowR e y := by split <;> rfl
theorem borrowT_ite {x y : R Bool} : borrowT e (if p then x else y) = if p then borrowT e x else borrowT e y := by split <;> rfl
theorem hide_nil : hideS [] = [] := rfl
theorem hide_cons : hideS (s :: e) = hide1 s :: hideS e := rfl
theorem hide_own {b : Bool} : hide1 (.own b ws) = .fr (.lst ws) := rfl
theorem hide_fr : hide1 (.fr w) = .fr w := rfl
theorem hide_no : hide1 .no = .no := rfl
end
end D
set_option Elab.async false
set_option linter.all false
set_option maxRecDepth 100000
set_option maxHeartbeats 4000000
namespace L2
open PySem PySem.Spec PyProof.Rows
structure FlyA (outer : List Env) (H H' : Hp) (h h' : Heap) (e : Addr) (cls : Value) (B : Heap) : Prop where
 stay : B.StaysIn h'
 bare : B.get? e = none
 ff : h'.FunFrames B outer
 tr : ∃ a0 fl, h'.TracedAtW B e cls a0 fl
 old : ∀ b o, h.get? b = some o -> H b = none -> b ∉ frs outer -> B.get? b = some o
 trk : ∀ b u o, H' b = some u -> h'.get? b = some o -> B.get? b = some o
 all : ∀ b o, h.get? b = some o -> b ∈ frs outer \/ ∃ o', B.get? b = some o'
 new : h.get? e = none
section
variable {M : Model} {A : Around} {E : Value -> Shared -> Prop} {s : Shared}
end
section
variable {P : Program} {w : World} {K : PySem.W.Frag} {mg : Str -> Option Value} {base : Heap} {N : List Str} {qual : Str} {scope : Scope} {f : Addr} {cd : Value} {A : Around} {outer : List Env} {s₀ : Shared} {H₀ : Hp} {E : XK}
end
section
variable {X : Cx} {pins : List (Addr × Obj)} {σ : St} {H : Hp} {s : Shared}
end
noncomputable abbrev accO : Obj := { cls := .type "list", dict := none, data := .seq ([] : List Value).toArray }
section
variable {X : Cx} {elt target iter : Expr} {ifs : List Expr} {scope : Scope} {pos : Pos} {wi : TI} {g : TG} {tc : (St -> XK) -> TT} {te : (St -> XK) -> TE}
end
end L2
set_option Elab.async false
set_option linter.all false
set_option maxRecDepth 100000
set_option maxHeartbeats 1000000
namespace D
open PySem L2
noncomputable def compX (c : Den Bool) (d : Den W) (pe : List S) : List W -> Option (Value ⊕ List W)
 | [] => some (.inr [])
 | w :: ws => match c (.fr w :: pe) with
  | .ok true e1 => match d e1 with
   | .ok y _ => (compX c d pe ws).map (Sum.map id (y :: ·))
   | .ex k _ => some (.inl k)
   | .no => none
  | .ok false _ => compX c d pe ws
  | .ex k _ => some (.inl k)
  | .no => none
noncomputable def compXR (e : List S) : Option (Value ⊕ List W) -> R (List W)
 | some (.inr out) => .ok out e
 | some (.inl k) => .ex k e
 | none => .no
noncomputable def compKX (js : List Nat) (c : Den Bool) (d : Den W) (ws : List W) (e1 : List S) : R (List W) :=
 if ws.length <= 16777216 then compXR (frzs js e1) (compX c d (pjS js (frzs js e1)) ws) else .no
theorem compKX_s {js : List Nat} {cc : Den Bool} {d : Den W} {ws : List W} {e : List S} : compKX js cc d ws e = if ws.length <= 16777216 then compXR (frzs js e) (compX cc d (pjS js (frzs js e)) ws) else .no := rfl
theorem compXR_ok {out : List W} {e : List S} : compXR e (some (.inr out)) = .ok out e := rfl
theorem compXR_ex {k : Value} {e : List S} : compXR e (some (.inl k)) = .ex k e := rfl
section
variable {K : PySem.W.Frag} {Z : Zt} {G G1 H H1 : Hp} {σ : St} {e e1 : List S}
end
section
variable {X : Cx} {Z : Zt} {EE : St -> XK} {elt iter a b : Expr} {ifs : List Expr} {scope sc : Scope} {pos pt : Pos} {x : Str} {Nf N : List Str} {js : List Nat} {di : Den W} {dA : Den (List W)} {c : Den Bool} {d : Den W}
theorem compKX_holds {ws : List W} {P : List W -> List S -> Prop} {Ex : Value -> List S -> Prop} {e1 : List S} (h : (compKX js c d ws e1).holds P Ex) : ws.length <= 16777216 /\ ∃ out, compX c d (pjS js (frzs js e1)) ws = some out /\ Sum.elim (fun k => Ex k (frzs js e1)) (fun o => P o (frzs js e1)) out := by
 unfold compKX at h
 split at h
 ·rename_i hl
  cases ho : compX c d (pjS js (frzs js e1)) ws with
  | none => rw [ho] at h; exact h.elim
  | some out => rw [ho] at h; exact ⟨hl, out, rfl, by cases out <;> exact h⟩
 ·exact h.elim
end
end D
set_option Elab.async false
set_option linter.all false
set_option maxRecDepth 100000
set_option maxHeartbeats 4000000
namespace L2
open PySem PySem.Spec PyProof.Rows
theorem below_go {xs : Array Nat} {j : Nat} (hs : xs.toList.Pairwise (· < ·)) : ∀ (fuel lo hi : Nat), hi - lo <= fuel -> lo <= hi -> hi <= xs.size ->
  (∀ i (_ : i < lo) (h : i < xs.size), xs[i] < j) -> (∀ i (_ : hi <= i) (h : i < xs.size), j <= xs[i]) ->
  (∀ i (_ : i < SetTable.below.go xs j fuel lo hi) (h : i < xs.size), xs[i] < j) /\ (∀ i (_ : SetTable.below.go xs j fuel lo hi <= i) (h : i < xs.size), j <= xs[i])
 | 0, lo, hi, hf, h1, h2, a1, a2 => by
  have : lo = hi := by omega
  subst this
  exact ⟨a1, a2⟩
 | fuel + 1, lo, hi, hf, h1, h2, a1, a2 => by
  have mono : ∀ i k (hi : i < xs.size) (hk : k < xs.size), i <= k -> xs[i] <= xs[k] := fun i k hi hk hik => by
   rcases Nat.lt_or_eq_of_le hik with z | z
   ·have := List.pairwise_iff_getElem.mp hs i k (by simpa using hi) (by simpa using hk) z
    simp only [Array.getElem_toList] at this
    omega
   ·subst z; exact Nat.le_refl _
  unfold SetTable.below.go
  split
  ·rename_i hlt
   dsimp only
   have hmid : (lo + hi) / 2 < xs.size := by omega
   have hg : xs.getD ((lo + hi) / 2) j = xs[(lo + hi) / 2] := by simp [Array.getD, hmid]
   rw [hg]
   split
   ·rename_i hx
    exact below_go hs fuel _ hi (by omega) (by omega) h2 (fun i h3 h4 => Nat.lt_of_le_of_lt (mono i _ h4 hmid (by omega)) hx) a2
   ·rename_i hx
    exact below_go hs fuel lo _ (by omega) (by omega) (by omega) a1 (fun i h3 h4 => Nat.le_trans (Nat.not_lt.mp hx) (mono _ i hmid h4 h3))
  ·rename_i hge
   have : lo = hi := by omega
   subst this
   exact ⟨a1, a2⟩
theorem below_is {xs : Array Nat} {j : Nat} (hs : xs.toList.Pairwise (· < ·)) : (∀ i (_ : i < SetTable.below xs j) (h : i < xs.size), xs[i] < j) /\ (∀ i (_ : SetTable.below xs j <= i) (h : i < xs.size), j <= xs[i]) := by
 unfold SetTable.below
 exact below_go hs xs.size 0 xs.size (by omega) (by omega) (by omega) (fun i h => by omega) (fun i h h2 => by omega)
def Rise (t : SetTable) : Prop := t.place.toList.Pairwise (· < ·) /\ t.dummies = #[]
theorem Rise.standIn {t : SetTable} (n : Nat) : Rise (t.standIn n) := by
 refine ⟨?_, rfl⟩
 show (Array.range n).toList.Pairwise (· < ·)
 rw [Array.toList_range]
 exact List.pairwise_lt_range
theorem Rise.orStandIn {t : SetTable} (h : Rise t) (n : Nat) : Rise (t.orStandIn n) := by
 unfold SetTable.orStandIn
 split
 ·exact h
 ·exact Rise.standIn n
theorem has_none {j : Nat} : SetTable.has #[] j = false := by
 unfold SetTable.has; simp
theorem Rise.put {t : SetTable} {j : Nat} (h : Rise t) (hj : t.slot j = .empty) : Rise (t.put j).1 := by
 obtain ⟨h1, h2⟩ := h
 obtain ⟨b1, b2⟩ := below_is (j := j) h1
 have hne : t.place[SetTable.below t.place j]? ≠ some j := fun z => by
  unfold SetTable.slot at hj
  simp [z] at hj
 have b3 : ∀ i (_ : SetTable.below t.place j <= i) (hi : i < t.place.size), j < t.place[i] := fun i hi hs => by
  have q := b2 i hi hs
  rcases Nat.lt_or_eq_of_le q with z | z
  ·exact z
  ·exfalso
   by_cases e : i = SetTable.below t.place j
   ·subst e; exact hne (by rw [Array.getElem?_eq_getElem hs, <- z])
   ·have hlt : SetTable.below t.place j < i := by omega
    have q2 := b2 _ (Nat.le_refl _) (Nat.lt_trans hlt hs)
    have q3 := List.pairwise_iff_getElem.mp h1 _ i (by simpa using Nat.lt_trans hlt hs) (by simpa using hs) hlt
    simp only [Array.getElem_toList] at q3
    omega
 refine ⟨?_, ?_⟩
 ·show (SetTable.insertAt t.place (SetTable.below t.place j) j).toList.Pairwise (· < ·)
  rw [SetTable.toList_insertAt, List.pairwise_append]
  refine ⟨h1.sublist (List.take_sublist _ _), List.pairwise_cons.mpr ⟨fun x hx => ?_, h1.sublist (List.drop_sublist _ _)⟩, fun x hx y hy => ?_⟩
  ·obtain ⟨i, hi, rfl⟩ := List.mem_iff_getElem.mp hx
   rw [List.getElem_drop, Array.getElem_toList]
   exact b3 _ (by omega) _
  ·have hxj : x < j := by
    obtain ⟨i, hi, rfl⟩ := List.mem_iff_getElem.mp hx
    rw [List.getElem_take, Array.getElem_toList]
    rw [List.length_take] at hi
    exact b1 _ (by omega) _
   rcases List.mem_cons.mp hy with rfl | hy
   ·exact hxj
   ·obtain ⟨i, hi, rfl⟩ := List.mem_iff_getElem.mp hy
    rw [List.getElem_drop, Array.getElem_toList]
    exact Nat.lt_trans hxj (b3 _ (by omega) _)
 ·show (if SetTable.has t.dummies j = true then _ else t.dummies) = #[]
  rw [h2, has_none]
  rfl
theorem probe_go {t : SetTable} {f : Nat -> Int} {h : Int} (hd : t.dummies = #[]) : ∀ (fuel : Nat) (p : SetTable.Probe) (m : SetTable.Met), p.dummy = none -> SetTable.probe.go t f h fuel p = some m -> ∀ j d, m = .empty j d -> t.slot j = .empty /\ d = none
 | 0, p, m, hp, hm, j, d, e => by cases hm
 | fuel + 1, p, m, hp, hm, j, d, e => by
  unfold SetTable.probe.go at hm
  have adv : ∀ q : SetTable.Probe, q.dummy = none -> (t.advance q).dummy = none := fun q hq => by
   unfold SetTable.advance
   split <;> exact hq
  split at hm
  ·rename_i hs
   cases hm
   cases e
   exact ⟨hs, hp⟩
  ·rename_i hs
   exfalso
   unfold SetTable.slot at hs
   rw [hd, has_none] at hs
   by_cases z : t.place[SetTable.below t.place p.j]? = some p.j <;> simp [z] at hs
  ·split at hm
   ·cases hm
    cases e
   ·exact probe_go hd fuel _ m (adv p hp) hm j d e
theorem free_slot {t : SetTable} {h : Int} {j : Nat} {b : Bool} (hd : t.dummies = #[]) (hf : t.freeSlot h = some (j, b)) : t.slot j = .empty := by
 unfold SetTable.freeSlot at hf
 split at hf
 ·rename_i j0 d0 hq
  obtain ⟨z1, z2⟩ := probe_go hd _ _ _ rfl hq j0 d0 rfl
  subst z2
  cases hf
  exact z1
 ·cases hf
theorem Rise.layNew {t : SetTable} {es : Array (Int × Value)} {h : Int} {x : Value} (hr : Rise t) : Rise (layNew t es h x).2.1 := by
 unfold PySem.layNew
 split
 ·rename_i slot wd hq
  exact (hr.put (free_slot hr.2 hq)).orStandIn _
 ·exact Rise.standIn _
theorem orStandIn_led {t : SetTable} {n : Nat} : (t.orStandIn n).led = t.led := by
 unfold SetTable.orStandIn; split <;> rfl
theorem layNew_led {t : SetTable} {es : Array (Int × Value)} {h : Int} {x : Value} : (layNew t es h x).2.1.led = t.led := by
 unfold PySem.layNew
 split
 ·exact orStandIn_led
 ·rfl
theorem laid_is {mask finger moves : Nat} {led plain : Bool} {hs : Array Int} {t : SetTable} {o : Array Nat} (h : SetTable.laid mask finger moves led plain hs = some (t, o)) : Rise t /\ t.led = led := by
 unfold SetTable.laid at h
 cases q : SetTable.layClean mask hs with
 | none => rw [q] at h; cases h
 | some owner =>
  rw [q] at h
  have h : some _ = some _ := h
  simp only [Option.some.injEq, Prod.mk.injEq] at h
  obtain ⟨rfl, _⟩ := h
  refine ⟨⟨?_, rfl⟩, rfl⟩
  simp only [List.toList_toArray]
  refine List.Pairwise.map _ (R := fun (p q : Nat × Nat) => p.1 < q.1) (fun _ _ h => h) ?_
  refine List.Pairwise.filterMap _ (R := (· < ·)) (fun a b hab c hc d hd => ?_) List.pairwise_lt_range
  obtain ⟨_, _, rfl⟩ := Option.map_eq_some_iff.mp hc
  obtain ⟨_, _, rfl⟩ := Option.map_eq_some_iff.mp hd
  exact hab
theorem Rise.relayAll {t : SetTable} {es : Array (Int × Value)} {n : Nat} : Rise (relayAll t es n).2.1 /\ (relayAll t es n).2.1.led = t.led := by
 unfold PySem.relayAll
 split
 ·rename_i t' o hq
  dsimp only
  split
  ·exact laid_is hq
  ·exact ⟨Rise.standIn _, rfl⟩
 ·exact ⟨Rise.standIn _, rfl⟩
noncomputable def valI : Value -> Int
 | .int n _ => n
 | _ => 0
structure SetData (prog : Program) (w : World) (es : Array (Int × Value)) (t : SetTable) (S : List Int) : Prop where
 el : ElemsOf (intKind prog w) es.toList
 sz : es.size < scanBound
 fit : t.fits es.size = true
 rise : Rise t
 led : t.led = !w.params.followText "set-order"
 whole : ∀ e ∈ es.toList, ∃ n k, e.2 = Value.int n k
 perm : (es.toList.map fun e => valI e.2).Perm S
def SetR (prog : Program) (w : World) (h : Heap) (a : Addr) (S : List Int) : Prop :=
 ∃ o es ep t, h.get? a = some o /\ o.ExactSet /\ o.data = .set es ep t /\ SetData prog w es t S
noncomputable def stepD (S : List Int) (k : Int) : List Int := if k ∈ S then S else S ++ [k]
section
variable {prog : Program} {w : World} {A : Around} {E : Value -> Shared -> Prop} {s : Shared} {a : Addr} {S : List Int} {es : Array (Int × Value)} {t : SetTable} {ep : Nat} {o : Obj}
theorem SetData.len (D : SetData prog w es t S) : es.size = S.length := by
 have := D.perm.length_eq
 simpa using this
theorem SetData.relay (D : SetData prog w es t S) (n : Nat) : SetData prog w (relayAll t es n).1 (relayAll t es n).2.1 S := by
 have p := relayAll_perm t es n
 have hz : (relayAll t es n).1.size = es.size := by have := p.length_eq; simpa using this
 exact ⟨D.el.perm p, by rw [hz]; exact D.sz, relayAll_fits t es n, Rise.relayAll.1, Rise.relayAll.2.trans D.led, fun e he => D.whole e (p.mem_iff.mp he), (p.map _).trans D.perm⟩
theorem SetData.lay (D : SetData prog w es t S) {k : Int} {u : Tok} (hr : es.size + 1 < scanBound) (hk : k ∉ S) : SetData prog w (layNew t es (hashInt k) (.int k u)).1 (layNew t es (hashInt k) (.int k u)).2.1 (S ++ [k]) := by
 have p := layNew_perm t es (hashInt k) (.int k u)
 rw [Array.toList_push] at p
 have hz : (layNew t es (hashInt k) (.int k u)).1.size = es.size + 1 := by have := p.length_eq; simpa using this
 refine ⟨?_, by rw [hz]; exact hr, layNew_fits .., D.rise.layNew, layNew_led.trans D.led, fun e he => ?_, ?_⟩
 ·exact ElemsOf.perm (ElemsOf.push D.el (k := k) (intKind_is prog w k u) rfl) p
 ·rcases List.mem_append.mp (p.mem_iff.mp he) with z | z
  ·exact D.whole e z
  ·rw [List.mem_singleton.mp z]; exact ⟨k, u, rfl⟩
 ·refine (p.map _).trans ?_
  rw [List.map_append]
  exact D.perm.append (.refl _)
theorem find_set (D : SetData prog w es t S) (k : Int) : (es.toList.findIdx? (fun e => (intKind prog w).is k e.2)).isSome = decide (k ∈ S) := by
 rw [List.findIdx?_isSome, Bool.eq_iff_iff, List.any_eq_true, decide_eq_true_eq, <- D.perm.mem_iff]
 constructor
 ·rintro ⟨e, he, q⟩
  obtain ⟨n, u, hn⟩ := D.whole e he
  rw [hn] at q
  have : n = k := by simpa [intKind, Value.isInt] using q
  exact List.mem_map.mpr ⟨e, he, by rw [hn]; exact this⟩
 ·intro h
  obtain ⟨e, he, q⟩ := List.mem_map.mp h
  obtain ⟨n, u, hn⟩ := D.whole e he
  refine ⟨e, he, ?_⟩
  rw [hn] at q |-
  have : n = k := q
  subst this
  exact intKind_is prog w n u
theorem store_set (ho : s.heap.get? a = some o) (hex : o.ExactSet) (hd : o.data = .set es ep t) {es' : Array (Int × Value)} {t' : SetTable} {S' : List Int} {Q : Unit -> Shared -> Prop} (D : SetData prog w es' t' S')
  (h : ∀ h', Heap.SameBut a s.heap h' -> (∃ o', h'.get? a = some o' /\ o'.ExactSet /\ o'.data = .set es' (ep + 1) t') -> Q () { s with heap := h' }) : wpAny (model prog w) A (storeSet a es' t') Q E s := by
 refine wpAny_storeSet_of ho hd ?_ (fits_of_scanBound D.sz)
 have hg := Heap.get?_update_self (Obj.putSet es' t') ho (by rw [putSet_of es' t' hd]; rfl)
 rw [putSet_of es' t' hd] at hg
 exact h _ (Heap.SameBut.update s.heap a (Obj.putSet es' t')) ⟨_, hg, hex, rfl⟩
theorem add_set {k : Int} {u : Tok} {Q : Bool -> Shared -> Prop} (hS : SetR prog w s.heap a S) (hr : S.length + 1 < scanBound)
  (h : ∀ h', Heap.SameBut a s.heap h' -> SetR prog w h' a (stepD S k) -> ∀ b, Q b { s with heap := h' }) :
  wpAny (model prog w) A (setAddHashed a (.int k u) (hashInt k)) Q E s := by
 obtain ⟨o, es, ep, t, ho, hex, hd, D⟩ := hS
 have hlen := D.len
 unfold setAddHashed setAddHashedIn
 refine wpAny_holding (wpAny_bind (wpAny_setState_of ho hd D.fit ?_))
 dsimp only
 rw [byScan_of (knd := intKind prog w) (show (Value.int k u).scannable = true from rfl) D.sz D.el]
 simp only [↓reduceIte]
 unfold setAddByScan
 refine wpAny_bind (wpAny_bind (wpAny_rule (wpAny_bind ?_)))
 refine wpAny_setScan_of (knd := intKind prog w) (k := k) (intKind_is prog w k u) ho hd D.fit D.el ?_
 have hf := find_set D k
 have e0 : s = { s with heap := s.heap } := by cases s; rfl
 cases hq : es.toList.findIdx? (fun e => (intKind prog w).is k e.2) with
 | some j =>
  rw [hq] at hf
  have hk : k ∈ S := of_decide_eq_true hf.symm
  refine wpAny_pure (wpAny_pure ?_)
  rw [e0]
  refine h s.heap (Heap.SameBut.refl a s.heap) ?_ false
  unfold stepD
  rw [if_pos hk]
  exact ⟨o, es, ep, t, ho, hex, hd, D⟩
 | none =>
  rw [hq] at hf
  have hk : k ∉ S := fun z => by rw [decide_eq_true z] at hf; cases hf
  have D1 := D.lay (k := k) (u := u) (by omega) hk
  dsimp only
  have fin : ∀ h', Heap.SameBut a s.heap h' -> SetR prog w h' a (S ++ [k]) -> Q true { s with heap := h' } := fun h' h1 h2 => by
   refine h h' h1 ?_ true
   unfold stepD
   rw [if_neg hk]
   exact h2
  generalize PySem.layNew t es (hashInt k) (.int k u) = L at D1 |-
  obtain ⟨es1, t1, wd, gave⟩ := L
  have D1 : SetData prog w es1 t1 (S ++ [k]) := D1
  dsimp only
  have gv : ∀ (b : Bool) {s1 : Shared} {Q' : Unit -> Shared -> Prop}, Q' () s1 -> wpAny (model prog w) A (match b with | true => rule "set.scan.the-table-gave-way" | false => pure ()) Q' E s1 := fun b s1 Q' hq => by
   cases b
   ·exact wpAny_pure hq
   ·exact wpAny_rule hq
  refine wpAny_bind (gv gave ?_)
  have tail : wpAny (model prog w) A (storeSet a es1 t1 >>= fun _ => if (!wd && t1.tooFull) = true then (match (relayAll t1 es1 (SetTable.grown es1.size)).2.2 with | true => rule "set.scan.the-table-gave-way" | false => pure ()) >>= fun _ => storeSet a (relayAll t1 es1 (SetTable.grown es1.size)).1 (relayAll t1 es1 (SetTable.grown es1.size)).2.1 >>= fun _ => pure (some true) else pure (some true))
    (fun r s' => wpAny (model prog w) A (match r with | some added => pure added | none => setAddHashedIn a (.int k u) (hashInt k) 99999) Q E s') E s := by
   refine wpAny_bind (store_set ho hex hd D1 fun h1 sb1 ⟨o1, q1, q2, q3⟩ => ?_)
   split
   ·refine wpAny_bind (gv _ ?_)
    refine wpAny_bind (store_set (s := { s with heap := h1 }) q1 q2 q3 (D1.relay _) fun h2 sb2 ⟨o2, r1, r2, r3⟩ => ?_)
    exact wpAny_pure (wpAny_pure (fin h2 (sb1.trans sb2) ⟨o2, _, _, _, r1, r2, r3, D1.relay _⟩))
   ·exact wpAny_pure (wpAny_pure (fin h1 sb1 ⟨o1, _, _, _, q1, q2, q3, D1⟩))
  split
  ·refine wpAny_bind ?_
   rw [hashByValue_scannable 8 (show (Value.int k u).scannable = true from rfl)]
   exact wpAny_pure tail
  ·exact wpAny_bind (wpAny_pure tail)
end
end L2
set_option Elab.async false
set_option linter.all false
set_option maxRecDepth 100000
set_option maxHeartbeats 4000000
namespace L2
open PySem PySem.Spec PyProof.Rows
noncomputable def dedup (ns : List Int) : List Int := ns.foldl stepD []
theorem fold_nodup : ∀ (ns S : List Int), S.Nodup -> (ns.foldl stepD S).Nodup
 | [], S, h => h
 | n :: ns, S, h => by
  refine fold_nodup ns _ ?_
  unfold stepD
  split
  ·exact h
  ·rename_i hn
   rw [List.nodup_append]
   exact ⟨h, by simp, fun a ha b hb => by rw [List.mem_singleton.mp hb]; rintro rfl; exact hn ha⟩
theorem fold_mem : ∀ (ns S : List Int) (k : Int), k ∈ ns.foldl stepD S ↔ k ∈ S \/ k ∈ ns
 | [], S, k => by simp
 | n :: ns, S, k => by
  rw [List.foldl_cons, fold_mem ns]
  have : k ∈ stepD S n ↔ k ∈ S \/ k = n := by
   unfold stepD
   split
   ·rename_i hn
    exact ⟨.inl, fun z => z.elim id fun e => e ▸ hn⟩
   ·simp
  rw [this, List.mem_cons, or_assoc]
theorem SetR.keep {prog : Program} {w : World} {h h' : Heap} {a : Addr} {S : List Int} (x : SetR prog w h a S) (k : ∀ o, h.get? a = some o -> h'.get? a = some o) : SetR prog w h' a S := by
 obtain ⟨o, es, ep, t, q, r⟩ := x
 exact ⟨o, es, ep, t, k o q, r⟩
section
variable {prog : Program} {w : World} {A : Around} {E : Value -> Shared -> Prop} {s : Shared}
theorem set_loop {R : Result -> Shared -> Prop} {I c : Addr} {fp wr : List Addr} {G : Array GenState -> Array GenState -> Prop} {n : Nat} {P : Nat -> Value -> Prop} {St : Nat -> Shared -> Prop} (W : WalksS prog w A.in1 I fp wr G n P St) (hc : c ∉ fp) (ns : List Int) (hn : ns.length = n)
  (hv : ∀ i v, P i v -> ∃ x u, ns[i]? = some x /\ v = Value.int x u) (hb : n + 1 < scanBound) : ∀ (rest : List Int) (i : Nat) (s : Shared) (S : List Int), ns.drop i = rest -> i <= n -> St i s -> S.length <= i -> SetR prog w s.heap c S ->
   (∀ s', Moved (c :: wr) G s s' -> SetR prog w s'.heap c (rest.foldl stepD S) -> R (.ok (.ret .none)) s') -> codeAny (model prog w) A (.builtin "set.update.loop" ⟨[.ref c, .ref I], []⟩) R s
 | [], i, s, S, hd, hi, st, hl, hS, hR => by
  have hin : i = n := by
   have := congrArg List.length hd
   simp at this; omega
  subst hin
  have hcw : c ∉ wr := fun z => hc (W.sub _ z)
  refine codeAny_builtin PyProof.Rows.F.entry_set_update_loop ?_
  rw [Around.under_plainId PyProof.Rows.F.plain_set_update_loop _]
  show wpAny (model prog w) A.in1 (pyNext (.ref I) >>= _) _ _ s
  refine wpAny_bind (W.done s _ _ st fun s1 mv => ?_)
  exact wpAny_pure (hR s1 (mv.mono fun b hb => List.mem_cons_of_mem _ hb) (hS.keep fun o q => mv.heap c o hcw q))
 | x :: rest, i, s, S, hd, hi, st, hl, hS, hR => by
  have hlt : i < n := by
   have := congrArg List.length hd
   simp at this; omega
  have hx : ns[i]? = some x := by
   have := congrArg (·[0]?) hd
   simpa using this
  have hd2 : ns.drop (i + 1) = rest := by
   have := congrArg List.tail hd
   simpa using this
  have hcw : c ∉ wr := fun z => hc (W.sub _ z)
  refine codeAny_builtin PyProof.Rows.F.entry_set_update_loop ?_
  rw [Around.under_plainId PyProof.Rows.F.plain_set_update_loop _]
  show wpAny (model prog w) A.in1 (pyNext (.ref I) >>= _) _ _ s
  refine wpAny_bind (W.item i s _ _ hlt st fun v s1 hP st1 mv => ?_)
  obtain ⟨y, u, hy, rfl⟩ := hv i v hP
  have e : y = x := Option.some.inj (hy.symm.trans hx)
  subst e
  show wpAny (model prog w) A.in1 (holding [Value.int y u] (setAdd c (.int y u)) >>= _) _ _ s1
  refine wpAny_bind (wpAny_holding ?_)
  unfold setAdd
  refine wpAny_holding (wpAny_bind ((intKind prog w).pyHash (k := y) (intKind_is _ _ _ _) ?_))
  refine add_set (s := { s1 with toks := s1.toks + 1 }) (S := S) (k := y) (u := u) (hS.keep fun o q => mv.heap c o hcw q) (by omega) fun h2 sb hS2 b => ?_
  have hl2 : (stepD S y).length <= i + 1 := by
   unfold stepD
   split
   ·omega
   ·rw [List.length_append]; exact Nat.succ_le_succ hl
  refine wpAny_pure ⟨plainId_quiet PyProof.Rows.F.plain_set_update_loop _, set_loop W hc ns hn hv hb rest (i + 1) _ (stepD S y) hd2 hlt (W.frame _ s1 _ _ st1 (Nat.le_succ _) fun b hb o q => ?_) hl2 hS2 fun s3 mv3 hS3 => ?_⟩
  ·exact (sb.2 b fun z => hc (z ▸ hb)).trans q
  ·refine hR s3 (Moved.trans W.gtrans ((mv.mono fun b hb => List.mem_cons_of_mem _ hb).then_heap (Nat.le_succ _) fun b o hb q => ?_) mv3) hS3
   exact (sb.2 b fun z => hb (by rw [z]; exact List.mem_cons_self)).trans q
noncomputable def newO (w : World) : Obj := { cls := .type "set", dict := none, data := .set #[] 0 (.fresh 0 0 (!w.params.followText "set-order")) }
theorem newO_is {h : Heap} {a : Addr} (e : h.get? a = some (newO w)) : SetR prog w h a [] :=
 ⟨_, #[], 0, _, e, ⟨rfl, rfl, rfl⟩, rfl, fun e he => (by simp at he), (by decide), rfl, ⟨(by simp [SetTable.fresh]), rfl⟩, rfl, fun e he => (by simp at he), (by simp)⟩
theorem set_new (v : Value) {Q1 : Value -> Shared -> Prop} (h : Q1 (.ref s.heap.objs.size) { s with heap := s.heap.push (newO w) }) :
  codeAny (model prog w) A (.call (.builtin "set.__new__") ⟨[.type "set", v], []⟩) (wants Q1 E) s := by
 refine codeAny_of_tree ?_
 show wpAny (model prog w) A.in1 (checkBuiltinCall "set.__new__" ⟨[.type "set", v], []⟩ >>= fun _ => again (.builtin "set.__new__" ⟨[.type "set", v], []⟩)) _ _ s
 refine wpAny_bind (wpAny_of_eq (PySem.F.newCall_set_1 v) (wpAny_pure ⟨plainId_quiet PySem.F.plain_set_new _, codeAny_builtin PySem.F.entry_set_new ?_⟩))
 rw [Around.under_plainId PySem.F.plain_set_new _]
 unfold Builtin.«set.__new__» Builtin.Frozenset.newClass
 have hsub := sub_set_self
 obtain ⟨hp, g, d, tk, os⟩ := s
 dsimp only
 wp_walk
 refine wpAny_askSetting (wpAny_pure ?_)
 dsimp only
 simp only [newObj]
 exact wpAny_bind (wpAny_alloc (wpAny_pure (wpAny_pure h)))
theorem call_setR {l : Addr} {items : Array Value} {ns : List Int} {Q : Value -> Shared -> Prop} (hh : A.handled = none) (hl : s.heap.IsList l items) (hi : PyProof.Rows.IntsAre items.toList ns) (hb : items.size + 1 < scanBound)
  (h : ∀ (h' : Heap) (tk : Nat), SetR prog w h' s.heap.objs.size (dedup ns) -> (∀ b o, b < s.heap.objs.size -> s.heap.get? b = some o -> h'.get? b = some o) -> Q (.ref s.heap.objs.size) { s with heap := h', toks := tk }) :
  wpAny (model prog w) A (call (.type "set") [.ref l]) Q E s := by
 obtain ⟨c, tl, hmro⟩ := PySem.F.called_set.mro
 have hmade := PySem.F.called_set.made
 have hsub := PySem.F.called_set.sub
 refine wpAny_call (codeAny_of_tree ?_)
 show wpAny (model prog w) _ (callAny (.type "set") _) _ _ s
 refine wpAny_pure ⟨Code.quiet_builtin _ (by decide +kernel), codeAny_builtin PySem.F.entry_type_call ?_⟩
 rw [Around.under_plain (weight_type_call_type "set" [.ref l] []) rfl]
 have z1 := PySem.F.called_set.notType
 have z2 := PySem.F.called_set.canCreate
 have z3 := PySem.F.typeCall_set_1 (.ref l)
 repeat (any_goals (first | assumption | wp_step))
 refine codeAny_mono (set_new (.ref l) (E := E) (Q1 := fun obj s1 => obj = .ref s.heap.objs.size /\ s1 = { s with heap := s.heap.push (newO w) }) ⟨rfl, rfl⟩) fun r s1 hr => ?_
 cases r with
 | error e => exact hr
 | ok fl =>
  cases fl with
  | ret obj =>
   obtain ⟨rfl, rfl⟩ := hr
   have hS : (s.heap.push (newO w)).get? s.heap.objs.size = some (newO w) := Heap.get?_push_size _ rfl
   have hT : Shared.TypeIs { s with heap := s.heap.push (newO w) } (.ref s.heap.objs.size) "set" := ⟨_, hS, rfl⟩
   have z4 := PySem.F.called_set.init.lookup
   have z5 := PySem.F.called_set.init.bind (.ref s.heap.objs.size)
   repeat (any_goals (first | assumption | wp_step))
   refine codeAny_mono (codeAny_call_builtin (R := wants (fun r s2 => r = .none /\ ∃ h' tk, s2 = { s with heap := h', toks := tk } /\ SetR prog w h' s.heap.objs.size (dedup ns) /\ (∀ b o, b < s.heap.objs.size -> s.heap.get? b = some o -> h'.get? b = some o)) E) PySem.F.called_set.init.plain PySem.F.entry_set_init (check_set_init_1 hT ?_)) fun r2 s2 hr2 => ?_
   ·obtain ⟨ol, hol, hcl, nl, hdl⟩ := hl
    obtain ⟨ocls, odict, odata, oslots⟩ := ol
    simp only at hcl hdl
    subst hcl; subst hdl
    have hol' : (s.heap.push (newO w)).get? l = some { cls := .type "list", dict := odict, data := .seq items nl, slots := oslots } := Heap.get?_push_of_some _ hol
    have z6 := PySem.F.sub_list_set
    have z7 := PySem.F.sub_list_frozenset
    have z8 : (Value.type "list" == Value.type "dict") = false := by decide
    have hl1 : (s.heap.push (newO w)).IsList l items := ⟨_, hol', rfl, nl, rfl⟩
    unfold Builtin.«set.__init__» noKeywords Builtin.Frozenset.updateFrom
    generalize hPI : pyIter = PI
    wp_walk
    subst hPI
    refine wpAny_pyIter_list hl1 ?_
    refine wpAny_bind (wpAny_runValue ?_)
    have hlS : l < s.heap.objs.size := Heap.lt_size hol
    have hh3 : A.in1.in1.in1.handled = none := hh
    have neI : l ≠ (s.heap.push (newO w)).objs.size := by rw [Heap.size_push]; exact Nat.ne_of_lt (Nat.lt_succ_of_lt hlS)
    have nf : s.heap.objs.size ∉ [(s.heap.push (newO w)).objs.size, l] := by
     rw [Heap.size_push]
     simp only [List.mem_cons, List.not_mem_nil, or_false, not_or]
     exact ⟨Nat.ne_of_lt (Nat.lt_succ_self _), Nat.ne_of_gt hlS⟩
    refine set_loop ((Walks.list hh3 _ l neI items).toS) nf ns (by rw [<- PyProof.Rows.IntsAre.length hi]; simp) (fun i v hv => ?_) hb ns 0 _ [] rfl (Nat.zero_le _) ⟨⟨_, Heap.get?_push_size _ rfl, rfl, rfl⟩, (hl1.push _)⟩ (Nat.le_refl _) (newO_is (Heap.get?_push_of_some _ hS)) fun s' mv hS' => ?_
    ·obtain ⟨u, e⟩ := PyProof.Rows.IntsAre.int_at hi i v (by rw [Array.getElem?_toList]; exact hv)
     have hlt : i < ns.length := by
      rw [<- PyProof.Rows.IntsAre.length hi]
      have := (Array.getElem?_eq_some_iff.mp hv).1
      simpa using this
     exact ⟨ns.getD i 0, u, by simp [List.getD, hlt], e⟩
    ·obtain ⟨h', g', d', tk', os'⟩ := s'
     have e1 : g' = s.gens := mv.gens
     have e2 : d' = s.drawn := mv.drawn
     have e3 : os' = s.os := mv.os
     subst e1; subst e2; subst e3
     show wpAny _ _ _ _ _ _
     refine wpAny_pure ?_
     show wpAny _ _ (ret Value.none) _ _ _
     refine wpAny_pure ⟨rfl, h', tk', rfl, hS', fun b o hb q => ?_⟩
     have n2 : b ≠ (s.heap.push (newO w)).objs.size := by rw [Heap.size_push]; exact Nat.ne_of_lt (Nat.lt_succ_of_lt hb)
     exact mv.heap b o (by simp only [List.mem_cons, List.not_mem_nil, or_false, not_or]; exact ⟨Nat.ne_of_lt hb, n2⟩) (Heap.get?_push_of_some _ (Heap.get?_push_of_some _ q))
   ·cases r2 with
    | error e => exact hr2
    | ok f2 =>
     cases f2 with
     | ret r =>
      obtain ⟨rfl, h', tk, rfl, y1, y2⟩ := hr2
      repeat (any_goals (first | assumption | wp_step))
      exact h _ _ y1 y2
     | _ => exact hr2.elim
  | _ => exact hr.elim
end
end L2
set_option Elab.async false
set_option linter.all false
set_option maxRecDepth 100000
set_option maxHeartbeats 4000000
namespace L2
open PySem PySem.Spec PyProof.Rows
theorem below_le {xs : Array Nat} {j : Nat} : ∀ (fuel lo hi : Nat), lo <= hi -> lo <= SetTable.below.go xs j fuel lo hi /\ SetTable.below.go xs j fuel lo hi <= hi
 | 0, lo, hi, h => ⟨Nat.le_refl _, h⟩
 | fuel + 1, lo, hi, h => by
  unfold SetTable.below.go
  split
  ·dsimp only
   split
   ·have := below_le (xs := xs) (j := j) fuel ((lo + hi) / 2 + 1) hi (by omega)
    exact ⟨by omega, this.2⟩
   ·have := below_le (xs := xs) (j := j) fuel lo ((lo + hi) / 2) (by omega)
    exact ⟨this.1, by omega⟩
  ·exact ⟨Nat.le_refl _, h⟩
noncomputable def slotAt (t : SetTable) (i : Nat) : Nat := match i with
 | 0 => 0
 | i + 1 => t.place.getD i 0 + 1
theorem below_slot {t : SetTable} (hr : Rise t) {i : Nat} (hi : i <= t.place.size) : SetTable.below t.place (slotAt t i) = i := by
 obtain ⟨b1, b2⟩ := below_is (j := slotAt t i) hr.1
 have hle : SetTable.below t.place (slotAt t i) <= t.place.size := (below_le _ _ _ (Nat.zero_le _)).2
 cases i with
 | zero =>
  rcases Nat.eq_zero_or_pos (SetTable.below t.place (slotAt t 0)) with z | z
  ·exact z
  ·exact absurd (b1 0 z (by omega)) (Nat.not_lt_zero _)
 | succ i =>
  have hi' : i < t.place.size := hi
  have e : slotAt t (i + 1) = t.place[i] + 1 := by simp [slotAt, Array.getD, hi']
  rw [e] at b1 b2 hle |-
  have mono : ∀ k l (hk : k < t.place.size) (hl : l < t.place.size), k < l -> t.place[k] < t.place[l] := fun k l hk hl hkl => by
   have := List.pairwise_iff_getElem.mp hr.1 k l (by simpa using hk) (by simpa using hl) hkl
   simpa using this
  rcases Nat.lt_trichotomy (SetTable.below t.place (t.place[i] + 1)) (i + 1) with z | z | z
  ·have := b2 i (by omega) hi'
   omega
  ·exact z
  ·have h1 := b1 (i + 1) z (by omega)
   have h2 := mono i (i + 1) hi' (by omega) (Nat.lt_succ_self _)
   omega
theorem erase_perm {α : Type} : ∀ (l : List α) (i : Nat) (h : i < l.length), (l[i] :: l.eraseIdx i).Perm l
 | [], i, h => absurd h (Nat.not_lt_zero _)
 | x :: l, 0, h => .refl _
 | x :: l, i + 1, h => by
  have hi : i < l.length := by simpa using h
  have ih := erase_perm l i hi
  show (l[i] :: x :: l.eraseIdx i).Perm (x :: l)
  exact (List.Perm.swap x _ _).trans (ih.cons x)
theorem pick_go {α : Type} {next : Nat -> Nat} : ∀ (fuel k : Nat) (left : List α) (out : Array α), fuel = left.length -> (pickOrder.go next fuel k left out).toList.Perm (out.toList ++ left)
 | 0, k, left, out, h => by
  have : left = [] := List.length_eq_zero_iff.mp h.symm
  subst this
  simp [pickOrder.go]
 | fuel + 1, k, left, out, h => by
  have hlt : next k % left.length < left.length := Nat.mod_lt _ (by omega)
  unfold pickOrder.go
  rw [List.getElem?_eq_getElem hlt]
  dsimp only
  refine (pick_go fuel (k + 1) _ _ (by rw [List.length_eraseIdx_of_lt hlt]; omega)).trans ?_
  rw [Array.toList_push, List.append_assoc]
  refine List.Perm.append_left _ ?_
  exact erase_perm _ _ hlt
theorem pick_perm {α : Type} (next : Nat -> Nat) (xs : Array α) : (pickOrder next xs).toList.Perm xs.toList := by
 unfold pickOrder
 have := pick_go (next := next) xs.size 0 xs.toList #[] (by simp)
 simpa using this
section
variable {prog : Program} {w : World} {A : Around} {E : Value -> Shared -> Prop} {s : Shared}
theorem any_choose {src : Source} {n : Nat} {Q : Nat -> Shared -> Prop} (hn : n ≠ 0) (h : ∀ i d, i < n -> Q i { s with drawn := d }) : wpAny (model prog w) A (choose src n) Q E s := fun _ _ _ =>
 ⟨hn, h _ _ (Nat.mod_lt _ (Nat.pos_of_ne_zero hn))⟩
theorem draw_order {α : Type} : ∀ (n : Nat) (xs : List α) (s : Shared) (Q : List α -> Shared -> Prop), n = xs.length -> (∀ ys d, ys.Perm xs -> Q ys { s with drawn := d }) -> wpAny (model prog w) A (drawOrder n xs) Q E s
 | 0, xs, s, Q, h, hq => by
  have : xs = [] := List.length_eq_zero_iff.mp h.symm
  subst this
  unfold drawOrder
  have := hq [] s.drawn (.refl _)
  exact wpAny_pure this
 | n + 1, [], s, Q, h, hq => by cases h
 | n + 1, x :: xs, s, Q, h, hq => by
  unfold drawOrder
  refine wpAny_bind (any_choose (by simp) fun i d hi => ?_)
  rw [List.getElem?_eq_getElem hi]
  dsimp only
  refine wpAny_bind (draw_order n _ _ _ (by rw [List.length_eraseIdx_of_lt hi]; simp at h |-; omega) fun ys d' hp => ?_)
  exact wpAny_pure (hq _ _ ((hp.cons _).trans (erase_perm _ _ hi)))
end
def MdS (w : World) (a : Addr) (es : Array (Int × Value)) (ep : Nat) (t : SetTable) (ord : List Value) (i sl : Nat) : Prop :=
 (w.params.followText "set-order" = true /\ ord = (pickOrder (w.params.setOrder a ep) es).toList.map (·.2)) \/
 (w.params.followText "set-order" = false /\ (!t.plain && decide (es.size > 1)) = false /\ t.led = true /\ Rise t /\ sl = slotAt t i /\ ord = es.toList.map (·.2))
section
variable {prog : Program} {w : World} {A : Around} {E : Value -> Shared -> Prop} {s : Shared} {a : Addr} {o : Obj} {es : Array (Int × Value)} {ep : Nat} {t : SetTable} {ord : List Value} {i sl : Nat}
theorem by_text {Q : Bool -> Shared -> Prop} (h : Q (w.params.followText "set-order") s) : wpAny (model prog w) A setsByText Q E s := by
 unfold setsByText
 exact wpAny_bind (wpAny_askSetting (wpAny_pure h))
theorem set_next {Q : Option (Value × Nat) -> Shared -> Prop} (ho : s.heap.get? a = some o) (hd : o.data = .set es ep t) (hf : t.fits es.size = true) (md : MdS w a es ep t ord i sl) (hi : i <= es.size)
  (h : (ord[i]? = none -> Q none s) /\ ∀ x, ord[i]? = some x -> ∀ nx, MdS w a es ep t ord (i + 1) nx -> Q (some (x, nx)) s) : wpAny (model prog w) A (setNext a sl i ep) Q E s := by
 unfold setNext
 refine wpAny_bind (wpAny_setState_of ho hd hf ?_)
 dsimp only
 refine wpAny_bind (by_text ?_)
 rcases md with ⟨m1, m2⟩ | ⟨m1, m2, m3, m4, m5, m6⟩
 ·rw [m1, if_pos rfl, if_neg (by simp)]
  refine wpAny_bind ?_
  unfold setWalk
  refine wpAny_bind (wpAny_setState_of ho hd hf ?_)
  dsimp only
  refine wpAny_bind (by_text ?_)
  rw [m1, if_pos rfl]
  refine wpAny_bind (wpAny_askSetting (wpAny_pure (wpAny_pure ?_)))
  subst m2
  show Q (((pickOrder (w.params.setOrder a ep) es)[i]?).map fun e => (e.2, sl)) s
  cases q : (pickOrder (w.params.setOrder a ep) es)[i]? with
  | none => exact h.1 (by rw [List.getElem?_map, Array.getElem?_toList, q]; rfl)
  | some e => exact h.2 e.2 (by rw [List.getElem?_map, Array.getElem?_toList, q]; rfl) sl (.inl ⟨m1, rfl⟩)
 ·rw [m1, if_neg (by decide)]
  refine wpAny_ite_split (fun z => absurd z ?_) fun _ => ?_
  ·have e : (!t.plain && decide (es.size > 1)) ≠ true := by rw [m2]; decide
   exact e
  have hz : t.place.size = es.size := by
   simp only [SetTable.fits, Bool.and_eq_true, beq_iff_eq] at hf
   exact hf.1
  refine wpAny_bind ?_
  show wpAny (model prog w) A (if (!t.led && !es.isEmpty) = true then unsupported "set:maker-not-led" else pure ()) _ E s
  rw [m3, if_neg (by simp)]
  refine wpAny_pure ?_
  subst m5
  rw [below_slot m4 (by omega)]
  refine wpAny_pure ?_
  subst m6
  by_cases hlt : i < es.size
  ·have hp : i < t.place.size := by omega
   rw [Array.getElem?_eq_getElem hlt, Array.getElem?_eq_getElem hp]
   refine h.2 es[i].2 (by rw [List.getElem?_map, Array.getElem?_toList, Array.getElem?_eq_getElem hlt]; rfl) _ (.inr ⟨m1, m2, m3, m4, ?_, rfl⟩)
   simp [slotAt, Array.getD, hp]
  ·rw [Array.getElem?_eq_none (by omega)]
   exact h.1 (by simp; omega)
end
end L2
set_option Elab.async false
set_option linter.all false
set_option maxRecDepth 100000
set_option maxHeartbeats 4000000
namespace L2
open PySem PySem.Spec PyProof.Rows
namespace SI
theorem own : Manifest.owners.lookup (String.ofList ['r', 'o', 't', 'a', 'r', 'e', 't', 'i', '_', 't', 'e', 's'].reverse) = some Manifest.sig_set_iterator := by kernel_rfl
theorem next : Slot "set_iterator" "__next__" "set_iterator.__next__" := .of (owner := "set_iterator") (n := "__next__") (by rw [typeLookup_type, builtinLookup_eq_fast]; kernel_rfl) (by decide +kernel) (by decide +kernel) (by decide +kernel) (by first | exact .inl (by decide +kernel) | exact .inr (by decide +kernel)) (by rw [isSubtype_type]; kernel_rfl)
theorem nextE : entryFor table "set_iterator.__next__" = some Builtin.«set_iterator.__next__» := entryFor_of_tree (by kernel_rfl)
theorem nextA (a : Value) : argsOk "set_iterator.__next__" ⟨[a], []⟩ := by
 unfold argsOk
 rw [signature?_of (id := "set_iterator.__next__") (n := ['_', '_', 't', 'x', 'e', 'n', '_', '_']) (o := ['r', 'o', 't', 'a', 'r', 'e', 't', 'i', '_', 't', 'e', 's']) (by kernel_rfl) own]
 kernel_rfl
theorem iter : Slot "set_iterator" "__iter__" "set_iterator.__iter__" := .of (owner := "set_iterator") (n := "__iter__") (by rw [typeLookup_type, builtinLookup_eq_fast]; kernel_rfl) (by decide +kernel) (by decide +kernel) (by decide +kernel) (by first | exact .inl (by decide +kernel) | exact .inr (by decide +kernel)) (by rw [isSubtype_type]; kernel_rfl)
theorem iterE : entryFor table "set_iterator.__iter__" = some Builtin.«dict_keyiterator.__iter__» := entryFor_alias (id' := "dict_keyiterator.__iter__") (by kernel_rfl) rfl (by decide +kernel) (by kernel_rfl)
theorem iterA (a : Value) : argsOk "set_iterator.__iter__" ⟨[a], []⟩ := by
 unfold argsOk
 rw [signature?_of (id := "set_iterator.__iter__") (n := ['_', '_', 'r', 'e', 't', 'i', '_', '_']) (o := ['r', 'o', 't', 'a', 'r', 'e', 't', 'i', '_', 't', 'e', 's']) (by kernel_rfl) own]
 kernel_rfl
theorem ofSet : entryFor table "set.__iter__" = some Builtin.«frozenset.__iter__» := entryFor_alias (id' := "frozenset.__iter__") (by kernel_rfl) rfl (by decide +kernel) (by kernel_rfl)
end SI
def FirstOk (w : World) (h : Heap) (a T : Addr) (es : Array (Int × Value)) (ep : Nat) (t : SetTable) (ord : List Value) (i : Nat) (first : Value) : Prop :=
 (∃ sl : Nat, first = rawInt sl /\ MdS w a es ep t ord i sl) \/
 (∃ (ps : List Nat) (oT : Obj) (nT : Nat), first = .ref T /\ h.get? T = some oT /\ oT.data = .seq (ps.map fun (j : Nat) => rawInt j).toArray nT /\ ps.length = es.size /\ ord.length = es.size /\ ∀ (k j : Nat), ps[k]? = some j -> ∃ e, es[j]? = some e /\ ord[k]? = some e.2)
def SIt (w : World) (h : Heap) (I a T : Addr) (es : Array (Int × Value)) (ep : Nat) (t : SetTable) (ord : List Value) (i : Nat) : Prop :=
 (∃ o, h.get? a = some o /\ o.data = .set es ep t) /\ ∃ oI first, h.get? I = some oI /\ oI.cls = .type "set_iterator" /\ oI.data = .fields #[first, rawInt i, .ref a, rawInt es.size, rawInt ep] /\ FirstOk w h a T es ep t ord i first
theorem SIt.keep {w : World} {h h' : Heap} {I a T : Addr} {es : Array (Int × Value)} {ep : Nat} {t : SetTable} {ord : List Value} {i : Nat} (x : SIt w h I a T es ep t ord i) (k : ∀ b, b = I \/ b = a \/ b = T -> ∀ o, h.get? b = some o -> h'.get? b = some o) : SIt w h' I a T es ep t ord i := by
 obtain ⟨⟨o, x1, x2⟩, oI, f, y1, y2, y3, y4⟩ := x
 refine ⟨⟨o, k a (.inr (.inl rfl)) o x1, x2⟩, oI, f, k I (.inl rfl) oI y1, y2, y3, ?_⟩
 rcases y4 with z | ⟨ps, oT, nT, z1, z2, z3⟩
 ·exact .inl z
 ·exact .inr ⟨ps, oT, nT, z1, k T (.inr (.inr rfl)) oT z2, z3⟩
section
variable {prog : Program} {w : World} {A : Around} {E : Value -> Shared -> Prop} {s : Shared} {I a T : Addr} {es : Array (Int × Value)} {ep : Nat} {t : SetTable} {ord : List Value} {i : Nat}
theorem SIt.type (x : SIt w s.heap I a T es ep t ord i) : s.TypeIs (.ref I) "set_iterator" := by
 obtain ⟨_, oI, f, y1, y2, _⟩ := x
 exact ⟨oI, y1, y2⟩
theorem raise_stop {α : Type} {Q0 : α -> Shared -> Prop} {E0 : Value -> Shared -> Prop} (hh : A.handled = none) (h : ∀ h' e, (∀ b o, s.heap.get? b = some o -> h'.get? b = some o) -> Shared.TypeIs { s with heap := h' } (.ref e) "StopIteration" -> E0 (.ref e) { s with heap := h' }) :
  wpAny (model prog w) A (newExc (.type "StopIteration") [] >>= fun e => (raiseNew e : Sem α)) Q0 E0 s := by
 refine wpAny_bind ?_
 simp only [newExc, newTuple]
 refine wpAny_bind (wpAny_newObj_type ?_ (by size_fits))
 refine wpAny_bind (m := firstArgMember _ _) (wpAny_of_eq (a := Value.none) (by first | rfl | (simp only [firstArgMember]; rfl)) ?_)
 refine wpAny_newObj_type ?_ (by size_fits)
 simp only [raiseNew]
 refine wpAny_bind (wpAny_handled ?_)
 rw [hh]
 refine wpAny_bind (wpAny_pure (wpAny_throw ?_))
 exact h _ _ (fun b o q => Heap.get?_push_of_some _ (Heap.get?_push_of_some _ q)) ⟨_, Heap.get?_push_size _ rfl, rfl⟩
theorem si_step {Q : Option Value -> Shared -> Prop} (hh : A.handled = none) (x : SIt w s.heap I a T es ep t ord i) (hf : t.fits es.size = true) (nI : a ≠ I) (nT : T ≠ I) (hi : i <= es.size)
  (hs : ∀ v h', ord[i]? = some v -> SIt w h' I a T es ep t ord (i + 1) -> Heap.SameBut I s.heap h' -> Q (some v) { s with heap := h' })
  (he : ord[i]? = none -> ∀ h', Heap.ExtBut I s.heap h' -> Q none { s with heap := h' }) : wpAny (model prog w) A (pyNext (.ref I)) Q E s := by
 have hT := x.type
 obtain ⟨⟨o, x1, x2⟩, oI, first, y1, y2, y3, y4⟩ := id x
 unfold pyNext
 refine wpAny_bind (wpAny_attempt (wpAny_callSpecial?_slot (name := Str.ofString "__next__") hT SI.next (wpAny_call_entry SI.next hT SI.nextE ?_ (SI.nextA _))))
 unfold Builtin.«set_iterator.__next__»
 refine wpAny_bind (wpAny_of_eq (a := (Value.ref I, [])) rfl ?_)
 try dsimp only
 refine wpAny_bind (wpAny_fieldsOf y1 y3 ?_)
 show wpAny (model prog w) A.in1 (setEntries a >>= _) _ _ s
 refine wpAny_bind (wpAny_setEntries_of x1 x2 hf ?_)
 rw [if_neg (by simp : ¬ (((es.size : Nat) : Int) != ((es.size : Nat) : Int)) = true)]
 have fin : ∀ (first' : Value) (h' : Heap) (vs : Array Value), h'.get? I = some { oI with data := .fields vs } -> vs = #[first', rawInt ((i : Int) + 1), .ref a, rawInt es.size, rawInt ep] -> Heap.SameBut I s.heap h' -> FirstOk w h' a T es ep t ord (i + 1) first' -> SIt w h' I a T es ep t ord (i + 1) := fun first' h' vs q1 q2 q3 q4 => by
  refine ⟨⟨o, (q3.2 a nI).trans x1, x2⟩, _, first', q1, y2, ?_, q4⟩
  rw [q2]
  rfl
 have upd : ∀ (h : Heap) (ob : Obj) (vs : Array Value) (k : Nat) (v : Value), h.get? I = some { ob with data := .fields vs } -> (h.update I (Obj.mapFields (·.setIfInBounds k v))).get? I = some { ob with data := .fields (vs.setIfInBounds k v) } := fun h ob vs k v q => by
  have := Heap.get?_update_self (Obj.mapFields (·.setIfInBounds k v)) q (Obj.isFreed_of_fields (Obj.data_mapFields rfl _))
  rw [this]
  rfl
 have y1' : s.heap.get? I = some { oI with data := .fields #[first, rawInt i, .ref a, rawInt es.size, rawInt ep] } := by rw [y1, <- y3]
 have ss : ∀ (h h' : Heap), Heap.SameBut I h h' -> ∀ b o, b ≠ I -> h.get? b = some o -> h'.get? b = some o := fun h h' q b o hb e => (q.2 b hb).trans e
 rcases y4 with ⟨sl, rfl, md⟩ | ⟨ps, oT, nTt, rfl, z2, z3, z4, z5, z6⟩
 ·show wpAny (model prog w) A.in1 (setNext a ((sl : Int)).toNat ((i : Int)).toNat ((ep : Int)).toNat >>= _) _ _ s
  rw [Int.toNat_natCast, Int.toNat_natCast, Int.toNat_natCast]
  refine wpAny_bind (set_next x1 x2 hf md hi ⟨fun hn => ?_, fun v hv nx md' => ?_⟩)
  ·refine wpAny_bind (wpAny_setField y1 y3 (by simp) ?_)
   refine raise_stop (A := A.in1) hh fun h' e k1 k2 => ?_
   refine wpAny_bind (wpAny_isInstance (T := "StopIteration") (b := true) k2 isSubtype_stop ?_)
   exact wpAny_pure (he hn h' fun b o hb q => k1 b o (ss _ _ (Heap.SameBut.update s.heap I _) b o hb q))
  ·dsimp only
   refine wpAny_bind (wpAny_setField y1 y3 (by simp) ?_)
   have g1 := upd s.heap oI _ 0 (rawInt (nx : Int)) y1'
   refine wpAny_bind (wpAny_setField g1 rfl (by simp) ?_)
   have g2 := upd _ oI _ 1 (rawInt ((i : Int) + 1)) g1
   have sb := (Heap.SameBut.update s.heap I (Obj.mapFields (·.setIfInBounds 0 (rawInt (nx : Int))))).trans (Heap.SameBut.update _ I (Obj.mapFields (·.setIfInBounds 1 (rawInt ((i : Int) + 1)))))
   exact wpAny_pure ⟨v, rfl, wpAny_pure (hs v _ hv (fin (rawInt (nx : Int)) _ _ g2 (by simp) sb (.inl ⟨nx, rfl, md'⟩)) sb)⟩
 ·show wpAny (model prog w) A.in1 (seqItems? (.ref T) >>= _) _ _ s
  refine wpAny_bind (wpAny_seqItems z2 z3 ?_)
  dsimp only
  rw [Int.toNat_natCast]
  cases hq : ps[i]? with
  | none =>
   have e0 : (ps.map fun (j : Nat) => rawInt j).toArray[i]? = none := by simp [hq]
   rw [e0]
   dsimp only
   have hn : ord[i]? = none := by
    rw [List.getElem?_eq_none_iff] at hq |-
    omega
   refine wpAny_bind (wpAny_setField y1 y3 (by simp) ?_)
   have g1 := upd s.heap oI _ 0 (rawInt 0) y1'
   refine wpAny_bind (wpAny_setField g1 rfl (by simp) ?_)
   refine raise_stop (A := A.in1) hh fun h' e k1 k2 => ?_
   refine wpAny_bind (wpAny_isInstance (T := "StopIteration") (b := true) k2 isSubtype_stop ?_)
   exact wpAny_pure (he hn h' fun b o hb q => k1 b o (ss _ _ ((Heap.SameBut.update s.heap I _).trans (Heap.SameBut.update _ I _)) b o hb q))
  | some j =>
   have e0 : (ps.map fun (j : Nat) => rawInt j).toArray[i]? = some (rawInt (j : Int)) := by simp [hq]
   rw [e0]
   show wpAny (model prog w) A.in1 (setNextDrawn a ((j : Int)).toNat ((ep : Int)).toNat >>= _) _ _ s
   rw [Int.toNat_natCast, Int.toNat_natCast]
   obtain ⟨e1, c1, c2⟩ := z6 i j hq
   unfold setNextDrawn
   refine wpAny_bind (wpAny_bind (wpAny_setState_of x1 x2 hf ?_))
   dsimp only
   rw [if_neg (by simp), c1]
   refine wpAny_pure ?_
   refine wpAny_bind (wpAny_setField y1 y3 (by simp) ?_)
   have g1 := upd s.heap oI _ 1 (rawInt ((i : Int) + 1)) y1'
   have sb := Heap.SameBut.update s.heap I (Obj.mapFields (·.setIfInBounds 1 (rawInt ((i : Int) + 1))))
   exact wpAny_pure ⟨e1.2, rfl, wpAny_pure (hs e1.2 _ c2 (fin (.ref T) _ _ g1 (by simp) sb (.inr ⟨ps, oT, nTt, rfl, (sb.2 T nT).trans z2, z3, z4, z5, z6⟩)) sb)⟩
end
end L2
set_option Elab.async false
set_option linter.all false
set_option maxRecDepth 100000
set_option maxHeartbeats 4000000
namespace L2
open PySem PySem.Spec PyProof.Rows
section
variable {prog : Program} {w : World} {A : Around} {E : Value -> Shared -> Prop} {s : Shared} {I a T : Addr} {es : Array (Int × Value)} {ep : Nat} {t : SetTable} {ord : List Value} {S : List Int}
theorem walks_set (hh : A.handled = none) (hf : t.fits es.size = true) (nI : a ≠ I) (nT : T ≠ I) (hl : ord.length = es.size) :
  Walks prog w A I [I, a, T] [I] es.size (fun i v => ord[i]? = some v) (fun i h => i <= es.size /\ SIt w h I a T es ep t ord i) where
 sub := fun b hb => by simp at hb; simp [hb]
 frame := fun _ _ _ st k => ⟨st.1, st.2.keep fun b hb o q => k b (by simpa using hb) o q⟩
 item := fun i s Q E hi st hQ => by
  refine si_step hh st.2 hf nI nT st.1 (fun v h' hv x sb => hQ v h' s.toks hv ⟨hi, x⟩ fun b o hb q => (sb.2 b fun z => hb (by simp [z])).trans q) fun hn => ?_
  rw [List.getElem?_eq_none_iff] at hn
  omega
 done := fun s Q E st hQ => by
  refine si_step hh st.2 hf nI nT st.1 (fun v h' hv x sb => ?_) fun hn h' x => hQ h' s.toks fun b o hb q => x b o (fun z => hb (by simp [z])) q
  have := (List.getElem?_eq_some_iff.mp hv).1
  omega
 self := fun i s Q E st hQ => by
  have hT := st.2.type
  refine wpAny_pyIter_slot hT SI.iter (wpAny_call_entry SI.iter hT SI.iterE ?_ (SI.iterA _))
  show wpAny (model prog w) A.in1 (ret (.ref I)) _ _ s
  exact wpAny_pure ⟨_, rfl, "set_iterator", _, hT, SI.next.lookup, hQ⟩
theorem iter_set {o : Obj} {Q : Value -> Shared -> Prop} (ho : s.heap.get? a = some o) (hex : o.ExactSet) (hd : o.data = .set es ep t) (D : SetData prog w es t S)
  (hQ : ∀ h1 d I T ord, (∀ b o, s.heap.get? b = some o -> h1.get? b = some o) -> s.heap.objs.size <= I -> (T = a \/ s.heap.objs.size <= T) -> T ≠ I -> (ord.map valI).Perm S -> (∀ v ∈ ord, ∃ n k, v = Value.int n k) -> ord.length = es.size -> SIt w h1 I a T es ep t ord 0 -> Q (.ref I) { s with heap := h1, drawn := d }) :
  wpAny (model prog w) A (pyIter (.ref a)) Q E s := by
 have hT : s.TypeIs (.ref a) "set" := ⟨o, ho, hex.1⟩
 have ha : a < s.heap.objs.size := Heap.lt_size ho
 have szl : es.size <= sizeLine := fits_of_scanBound D.sz
 refine wpAny_pyIter_slot hT PySem.F.slot_set_iter (wpAny_call_entry PySem.F.slot_set_iter hT SI.ofSet ?_ (PySem.F.args_set_iter_1 _))
 unfold Builtin.«frozenset.__iter__»
 refine wpAny_bind (wpAny_of_eq (a := a) rfl ?_)
 refine wpAny_bind (m := Builtin.Frozenset.sizeOf a) ?_
 unfold Builtin.Frozenset.sizeOf
 refine wpAny_bind (wpAny_setEntries_of ho hd D.fit (wpAny_pure ?_))
 refine wpAny_bind (m := setDrawn a) ?_
 unfold setDrawn
 refine wpAny_bind (wpAny_setState_of ho hd D.fit ?_)
 refine wpAny_bind (by_text (wpAny_pure ?_))
 have plain : ∀ (Q0 : Value -> Shared -> Prop), Q0 = Q -> MdS w a es ep t (match w.params.followText "set-order" with | true => (pickOrder (w.params.setOrder a ep) es).toList.map (·.2) | false => es.toList.map (·.2)) 0 0 ->
   Q (.ref s.heap.objs.size) { s with heap := s.heap.push { cls := .type "set_iterator", data := .fields #[rawInt 0, rawInt 0, .ref a, rawInt es.size, rawInt ep] } } := fun _ _ md => by
  have e0 : ({ s with heap := s.heap.push { cls := .type "set_iterator", data := .fields #[rawInt 0, rawInt 0, .ref a, rawInt es.size, rawInt ep] } } : Shared) = { s with heap := s.heap.push { cls := .type "set_iterator", data := .fields #[rawInt 0, rawInt 0, .ref a, rawInt es.size, rawInt ep] }, drawn := s.drawn } := rfl
  rw [e0]
  refine hQ _ s.drawn s.heap.objs.size a _ (fun b o q => Heap.get?_push_of_some _ q) (Nat.le_refl _) (.inl rfl) (Nat.ne_of_lt ha) ?_ (fun v hv => ?_) ?_ ⟨⟨o, Heap.get?_push_of_some _ ho, hd⟩, _, _, Heap.get?_push_size _ rfl, rfl, rfl, .inl ⟨0, rfl, md⟩⟩
  ·cases w.params.followText "set-order"
   ·rw [List.map_map]; exact D.perm
   ·rw [List.map_map]; exact ((pick_perm _ es).map _).trans D.perm
  ·cases hq : w.params.followText "set-order" <;> rw [hq] at hv
   ·obtain ⟨e, he, rfl⟩ := List.mem_map.mp hv
    exact D.whole e he
   ·obtain ⟨e, he, rfl⟩ := List.mem_map.mp hv
    exact D.whole e ((pick_perm _ es).mem_iff.mp he)
  ·cases w.params.followText "set-order"
   ·simp
   ·simpa using (pick_perm (w.params.setOrder a ep) es).length_eq
 refine wpAny_ite_split (fun hdr => ?_) (fun hdr => ?_)
 ·-- the order is drawn
  have hdr : (!w.params.followText "set-order" && (!t.plain && decide (es.size > 1))) = true := hdr
  refine wpAny_bind (m := drawOrder es.size (List.range es.size)) (draw_order _ _ _ _ (by simp) fun ps d hp => ?_)
  have lp : ps.length = es.size := by simpa using hp.length_eq
  refine wpAny_bind (wpAny_newTuple ?_ (by simpa [lp] using szl))
  refine wpAny_bind (m := setEpoch a) (wpAny_setEpoch_of (o := o) (Heap.get?_push_of_some _ ho) hd D.fit ?_)
  refine wpAny_bind ?_
  unfold newFields
  refine wpAny_newObj_type (wpAny_pure ⟨_, rfl, "set_iterator", _, ⟨_, Heap.get?_push_size _ rfl, rfl⟩, SI.next.lookup, ?_⟩)
  have inb : ∀ j ∈ ps, j < es.size := fun j hj => by simpa using hp.mem_iff.mp hj
  refine hQ _ d _ s.heap.objs.size (ps.map fun j => (es.getD j (0, .none)).2) (fun b o q => Heap.get?_push_of_some _ (Heap.get?_push_of_some _ q)) (by rw [Heap.size_push]; exact Nat.le_succ _) (.inr (Nat.le_refl _)) (by rw [Heap.size_push]; exact Nat.ne_of_lt (Nat.lt_succ_self _)) ?_ (fun v hv => ?_) (by simpa using lp) ⟨⟨o, Heap.get?_push_of_some _ (Heap.get?_push_of_some _ ho), hd⟩, _, _, Heap.get?_push_size _ rfl, rfl, rfl, .inr ⟨ps, _, _, rfl, Heap.get?_push_of_some _ (Heap.get?_push_size _ rfl), rfl, lp, by simpa using lp, fun k j hk => ?_⟩⟩
  ·rw [List.map_map]
   refine ((hp.map _).trans ?_).trans D.perm
   have e : (List.range es.size).map (valI ∘ fun j => (es.getD j (0, .none)).2) = es.toList.map fun e => valI e.2 := by
    apply List.ext_getElem
    ·simp
    ·intro i h1 h2
     have hi : i < es.size := by simpa using h1
     simp [Array.getD, hi]
   rw [e]
  ·obtain ⟨j, hj, rfl⟩ := List.mem_map.mp hv
   have hi := inb j hj
   refine D.whole (es.getD j (0, .none)) ?_
   simp [Array.getD, hi]
  ·have hj := inb j (List.mem_of_getElem? hk)
   exact ⟨es[j], Array.getElem?_eq_getElem hj, by rw [List.getElem?_map, hk]; simp [Array.getD, hj]⟩
 ·have hdr : ¬ (!w.params.followText "set-order" && (!t.plain && decide (es.size > 1))) = true := hdr
  refine wpAny_bind (wpAny_pure ?_)
  refine wpAny_bind (m := setEpoch a) (wpAny_setEpoch_of ho hd D.fit ?_)
  refine wpAny_bind ?_
  unfold newFields
  refine wpAny_newObj_type (wpAny_pure ⟨_, rfl, "set_iterator", _, ⟨_, Heap.get?_push_size _ rfl, rfl⟩, SI.next.lookup, ?_⟩)
  refine plain Q rfl ?_
  cases hq : w.params.followText "set-order"
  ·refine .inr ⟨hq, ?_, by rw [D.led, hq]; rfl, D.rise, rfl, rfl⟩
   rw [hq] at hdr
   simpa using hdr
  ·exact .inl ⟨hq, rfl⟩
theorem len_hint {Q : Bool -> Shared -> Prop} (hT : s.TypeIs (.ref a) "set") (h : Q false s) : wpAny (model prog w) A (Builtin.List.listLengthHint (.ref a)) Q E s := by
 unfold Builtin.List.listLengthHint
 refine wpAny_bind (wpAny_specialOf hT PySem.F.slot_set_len.lookup ?_)
 generalize hid : ("set.__len__" : String) = id0
 wp_delta
 rw [show splitId id0 = some ("set", "__len__") from by subst hid; decide +kernel]
 subst hid
 refine wpAny_bind (wpAny_isInstance (T := "set") (b := true) hT (by rw [isSubtype_type]; kernel_rfl) ?_)
 refine wpAny_ite_split (fun z => absurd z (by decide)) fun _ => ?_
 refine wpAny_ite_split (fun _ => ?_) fun z => absurd (by decide +kernel) z
 exact wpAny_bind (wpAny_typeOf hT (wpAny_pure h))
theorem extend_set {R : Result -> Shared -> Prop} {o : Obj} {L : Addr} {res : Value} {c0 : Nat} (hh : A.handled = none) (ho : s.heap.get? a = some o) (hex : o.ExactSet) (hd : o.data = .set es ep t) (D : SetData prog w es t S) (hLa : L ≠ a)
  (hL : s.heap.get? L = some { cls := .type "list", data := .seq #[] c0 })
  (hR : ∀ s' (acc : Array Value) c', s'.os = s.os -> s'.gens = s.gens -> (∀ b o, b ≠ L -> s.heap.get? b = some o -> s'.heap.get? b = some o) -> s'.heap.get? L = some { cls := .type "list", dict := none, data := .seq acc c', slots := #[] } -> (acc.toList.map valI).Perm S -> (∀ v ∈ acc.toList, ∃ n k, v = Value.int n k) -> R (.ok (.ret res)) s') :
  wpAny (model prog w) A.in1 (Builtin.List.listExtendWith (.ref L) (.ref a) res) (fun fin s' => match fin with | .done f => R (.ok f) s' | .again c' => c'.quiet = true /\ codeAny (model prog w) A c' R s') (fun e s' => R (.error e) s') s := by
 have hT : s.TypeIs (.ref a) "set" := ⟨o, ho, hex.1⟩
 have hLlt : L < s.heap.objs.size := Heap.lt_size hL
 have halt : a < s.heap.objs.size := Heap.lt_size ho
 unfold Builtin.List.listExtendWith
 refine wpAny_bind (wpAny_typeOf (T := "set") hT ?_)
 have e1 : Builtin.List.listSameRef (.ref L) (.ref a) = false := by simp [Builtin.List.listSameRef, hLa]
 have e2 : (Value.type "set" == Value.type "list") = false := by decide
 have e3 : (Value.type "set" == Value.type "tuple") = false := by decide
 simp only [e1, e2, e3, Bool.or_false, Bool.false_eq_true, if_false]
 refine wpAny_bind (iter_set ho hex hd D fun h1 d I T ord k1 hI hTT nT hp hv hl x => ?_)
 have nLI : L ≠ I := Nat.ne_of_lt (Nat.lt_of_lt_of_le hLlt hI)
 have naI : a ≠ I := Nat.ne_of_lt (Nat.lt_of_lt_of_le halt hI)
 have nLT : L ≠ T := by
  rcases hTT with z | z
  ·rw [z]; exact hLa
  ·exact Nat.ne_of_lt (Nat.lt_of_lt_of_le hLlt z)
 have nf : L ∉ [I, a, T] := by simp [nLI, hLa, nLT]
 have W := walks_set (prog := prog) (w := w) (A := A.in1) (ep := ep) (ord := ord) hh D.fit naI nT hl
 have key : ∀ (h : Heap) (c1 tk : Nat), SIt w h I a T es ep t ord 0 -> (∀ b o, b ≠ L -> s.heap.get? b = some o -> h.get? b = some o) -> h.get? L = some { cls := .type "list", data := .seq #[] c1 } ->
   codeAny (model prog w) A (.builtin "list.extend.loop" ⟨[.ref L, .ref I, res], []⟩) R { s with heap := h, toks := tk, drawn := d } := fun h c1 tk hx hk hL1 => by
  refine codeAny_extend_loopS W.toS (fits_of_scanBound D.sz) L nf res es.size 0 { s with heap := h, toks := tk, drawn := d } #[] c1 rfl (Nat.zero_le _) ⟨Nat.zero_le _, hx⟩ hL1 (ItemsOf.nil _) fun s' acc' c' mv hL' hacc => ?_
  have ea : acc'.toList = ord := by
   apply List.ext_getElem?
   intro i
   by_cases hi : i < es.size
   ·have hi' : i < acc'.size := by rw [hacc.1]; exact hi
    have q := hacc.2 i acc'[i] (Array.getElem?_eq_getElem hi')
    rw [q, Array.getElem?_toList, Array.getElem?_eq_getElem hi']
   ·rw [List.getElem?_eq_none (by rw [Array.length_toList, hacc.1]; omega), List.getElem?_eq_none (by omega)]
  refine hR s' acc' c' mv.os mv.gens (fun b o hb q => mv.heap b o (fun z => ?_) (hk b o hb q)) hL' (by rw [ea]; exact hp) (by rw [ea]; exact hv)
  rcases List.mem_cons.mp z with z | z
  ·exact hb z
  ·exact absurd (Heap.lt_size q) (by rw [List.mem_singleton.mp z]; exact Nat.not_lt.mpr hI)
 have hL1 := k1 _ _ hL
 refine wpAny_bind (wpAny_holding (len_hint (s := { s with heap := h1, drawn := d }) ⟨o, k1 _ _ ho, hex.1⟩ ?_))
 refine wpAny_ite_split (fun _ => ?_) (fun _ => wpAny_pure ⟨plainId_quiet PySem.F.plain_extend_loop _, key h1 c0 s.toks x (fun b o _ q => k1 b o q) hL1⟩)
 refine wpAny_bind (wpAny_rule (wpAny_bind ?_))
 show wpAny (model prog w) A.in1 (updateSeq L (·.push .none) >>= fun _ => updateSeq L (·.pop)) _ _ _
 refine wpAny_bind (wpAny_updateSeq hL1 rfl ?_)
 have hL2 := Heap.get?_update_self (Obj.mapSeq (·.push Value.none)) hL1 rfl
 refine wpAny_updateSeq (hz := by seq_fits) hL2 rfl ?_
 have hL3 := Heap.get?_update_self (Obj.mapSeq (·.pop)) hL2 rfl
 have oth : ∀ b, b ≠ L -> ((h1.update L (Obj.mapSeq (·.push Value.none))).update L (Obj.mapSeq (·.pop))).get? b = h1.get? b := fun b hb => (Heap.get?_update_other _ _ (Ne.symm hb)).trans (Heap.get?_update_other _ _ (Ne.symm hb))
 refine wpAny_pure ⟨plainId_quiet PySem.F.plain_extend_loop _, key _ _ s.toks (x.keep fun b hb o q => ?_) (fun b o hb q => (oth b hb).trans (k1 b o q)) hL3⟩
 refine (oth b ?_).trans q
 rcases hb with z | z | z
 ·rw [z]; exact nLI.symm
 ·rw [z]; exact hLa.symm
 ·rw [z]; exact nLT.symm
theorem collect_set {Q : List Value -> Shared -> Prop} (hh : A.handled = none) (hS : SetR prog w s.heap a S)
  (h : ∀ s' (vs : List Value), s'.os = s.os -> s'.gens = s.gens -> (∀ b o, s.heap.get? b = some o -> s'.heap.get? b = some o) -> (vs.map valI).Perm S -> (∀ v ∈ vs, ∃ n k, v = Value.int n k) -> s.heap.objs.size <= s'.heap.objs.size -> Q vs s') : wpAny (model prog w) A (collect (.ref a)) Q E s := by
 obtain ⟨o, es, ep, t, ho, hex, hd, D⟩ := hS
 unfold collect
 refine wpAny_bind (wpAny_runValue (codeAny_builtin PyProof.Rows.entry_proto_collect' ?_))
 rw [Around.under_plainId PySem.F.plain_proto_collect _]
 show wpAny (model prog w) A.in1 (newList [] >>= fun l => again (.builtin "list.__iadd__" ⟨[l, .ref a], []⟩)) _ _ s
 refine wpAny_bind (wpAny_newObj_type ?_)
 refine wpAny_pure ⟨plainId_quiet PySem.F.plain_list_iadd _, codeAny_builtin PyProof.Rows.entry_list_iadd' ?_⟩
 rw [Around.under_plainId PySem.F.plain_list_iadd _]
 have hL : (s.heap.push accO).get? s.heap.objs.size = some { cls := .type "list", data := .seq #[] } := Heap.get?_push_size _ rfl
 show wpAny (model prog w) A.in1 (Builtin.List.listExtendWith (.ref s.heap.objs.size) (.ref a) (.ref s.heap.objs.size)) _ _ { s with heap := s.heap.push accO }
 have key := extend_set (A := A) (s := { s with heap := s.heap.push accO }) (res := .ref s.heap.objs.size) (R := fun q s' => ∃ (acc : Array Value) (c' : Nat), q = .ok (.ret (.ref s.heap.objs.size)) /\ s'.os = s.os /\ s'.gens = s.gens /\ (∀ b o, s.heap.get? b = some o -> s'.heap.get? b = some o) /\ s'.heap.get? s.heap.objs.size = some { cls := .type "list", dict := none, data := .seq acc c', slots := #[] } /\ (acc.toList.map valI).Perm S /\ ∀ v ∈ acc.toList, ∃ n k, v = Value.int n k)
  hh (Heap.get?_push_of_some _ ho) hex hd D (Nat.ne_of_gt (Heap.lt_size ho)) hL fun s' acc c' q1 q2 q3 q4 q5 q6 => ⟨acc, c', rfl, q1, q2, fun b o e => q3 b o (Nat.ne_of_lt (Heap.lt_size e)) (Heap.get?_push_of_some _ e), q4, q5, q6⟩
 refine wpAny_mono key (fun fin s' x => ?_) fun e s' x => ?_
 ·cases fin with
  | done f =>
   obtain ⟨acc, c', e, q1, q2, q3, q4, q5, q6⟩ := x
   cases e
   show wpAny (model prog w) A (load s.heap.objs.size >>= _) _ _ _
   exact wpAny_bind (wpAny_load q4 (wpAny_pure (h s' _ q1 q2 q3 q5 q6 (Nat.le_of_lt (Heap.lt_size q4)))))
  | again c1 =>
   refine ⟨x.1, codeAny_mono x.2 fun q s2 y => ?_⟩
   obtain ⟨acc, c', rfl, q1, q2, q3, q4, q5, q6⟩ := y
   show wpAny (model prog w) A (load s.heap.objs.size >>= _) _ _ _
   exact wpAny_bind (wpAny_load q4 (wpAny_pure (h s2 _ q1 q2 q3 q5 q6 (Nat.le_of_lt (Heap.lt_size q4)))))
 ·obtain ⟨_, _, e', _⟩ := x
  cases e'
theorem ints_of_vals : ∀ (vs : List Value), (∀ v ∈ vs, ∃ n k, v = Value.int n k) -> PyProof.Rows.IntsAre vs (vs.map valI)
 | [], _ => .nil
 | v :: vs, h => by
  obtain ⟨n, k, rfl⟩ := h v (by simp)
  exact .cons n k (ints_of_vals vs fun u hu => h u (by simp [hu]))
theorem sorted_set {Q : Value -> Shared -> Prop} (hh : A.handled = none) (hS : SetR prog w s.heap a S) (h64 : S.length < 64)
  (h : ∀ s' L (out : Array Value) c' (ns : List Int), s'.os = s.os -> s'.gens = s.gens -> (∀ b o, s.heap.get? b = some o -> s'.heap.get? b = some o) -> s.heap.objs.size <= L -> s'.heap.get? L = some (PyProof.Rows.seqObj "list" out c') -> PyProof.Rows.IntsAre out.toList ns -> ns.Perm S -> ns.Pairwise (· <= ·) -> Q (.ref L) s') :
  wpAny (model prog w) A (call (.builtin "sorted") [.ref a]) Q E s := by
 refine PySem.Calls.call_function_entry PyProof.Rows.kind_sorted PyProof.Rows.plain_sorted PyProof.Rows.entry_sorted (PyProof.Rows.args_sorted1 _) ?_
 unfold Builtin.«sorted»
 refine wpAny_bind (m := checkCount "sorted" 1 1 _) (wpAny_pure ?_)
 refine wpAny_bind (collect_set (A := A.in1) hh hS fun s1 vs q1 q2 q3 q5 q6 hsz => ?_)
 have hl : vs.length = S.length := by simpa using q5.length_eq
 refine wpAny_bind (wpAny_newList ?_ (by rw [hl, sizeLine_eq]; omega))
 have hoL : (s1.heap.push (PyProof.Rows.seqObj "list" vs.toArray 0)).get? s1.heap.objs.size = some (PyProof.Rows.seqObj "list" vs.toArray 0) := Heap.get?_push_size _ rfl
 refine wpAny_bind (wpAny_holding (wpAny_call_entry PyProof.Rows.slot_list_sort ⟨_, hoL, rfl⟩ PyProof.Rows.entry_list_sort (PyProof.Rows.list_sort_tree hoL (ints_of_vals vs q6) (by omega) fun out ns b1 b2 b3 => ⟨_, rfl, ?_⟩) (PyProof.Rows.args_list_sort _)))
 obtain ⟨c', he⟩ := PyProof.Rows.sortedHeap_at (out := out) hoL
 refine wpAny_pure ⟨_, rfl, h _ _ out c' ns q1 q2 (fun b o q => ?_) hsz he b1 (b2.trans q5) b3⟩
 have q' := q3 b o q
 have hlt := Heap.lt_size q'
 show (PyProof.Rows.sortedHeap _ _ _ _).get? b = some o
 rw [PyProof.Rows.sortedHeap_old (Nat.ne_of_lt hlt) (by rw [Heap.size_push]; exact Nat.lt_succ_of_lt hlt)]
 exact Heap.get?_push_of_some _ q'
end
end L2
set_option Elab.async false
set_option linter.all false
set_option maxRecDepth 100000
set_option maxHeartbeats 1000000
namespace D
open PySem L2
def tSS (K : PySem.W.Frag) (ta : TA) : TE := fun σ H Q => ta σ H fun xs H1 => ∃ p ns, xs = [.ref p] /\ SqL K H1 p (ns.map V.int) /\ ns.length < 4000 /\ (dedup ns).length < 64 /\ ∀ b, H1 b = none -> Q (.ref b) (upd H1 b (.lst ((sortI (dedup ns)).map V.int)))
theorem pe_sortset {X : Cx} {e : Expr} {ta : TA} {p1 p2 pos1 pos2 : Pos} (hc : X.calm = true) (hm1 : X.mg "sorted" = none) (hm2 : X.mg "set" = none) (ha : PA X [e] ta) (hg1 : Gl X "sorted" := by rfl) (hg2 : Gl X "set" := by rfl)
  (hs1 : starEach [.Call (.Name "set" p2) [e] [] pos2] X.env = (false, eval (.Call (.Name "set" p2) [e] [] pos2) X.env) :: starEach [] X.env := by rfl) (hs2 : starEach [e] X.env = (false, eval e X.env) :: starEach [] X.env := by rfl) (hpl : (backTo pos2 (starEach [] X.env)).any (·.1) = false := by rfl) :
  PE X (.Call (.Name "sorted" p1) [.Call (.Name "set" p2) [e] [] pos2] [] pos1) (tSS X.K ta) := by
 intro pins s σ H Q I h
 refine wpAny_Call_Name_kw (ld_blt I hg1 hm1 PyProof.Rows.Boot.«sorted» ?_ (by decide))
 refine PyProof.Rows.callWith_builtin1 ?_ hs1 rfl
 rw [hs1]
 show wpAny _ _ (spliced ((false, eval (.Call (.Name "set" p2) [e] [] pos2) X.env) :: backTo pos1 (starEach [] X.env))) _ _ s
 refine PySem.Calls.spliced_cons ?_
 refine wpAny_Call_Name_kw (ld_blt I hg2 hm2 PyProof.Rows.Boot.«set» ?_ (by decide))
 refine PyProof.Rows.callWith_type1 (thn (ha pos2 pins s σ H _ I h) fun us s1 ⟨vs, H1, I1, r1, p, ns, e1, hq, hn, h64, q⟩ => ?_) hs2 hpl
 subst e1
 obtain ⟨u, rfl, ru⟩ := vals1 r1
 cases ru
 obtain ⟨its, rv, pl, hz⟩ := I1.list hq
 have hlen := rv.length
 rw [List.length_map] at hlen
 have hh : X.A.handled = none := I1.ok.hd hc
 refine call_setR (items := its.toArray) (ns := ns) hh pl.isList (by simpa using ints_are rv) (by show its.length + 1 < 4096; omega) fun h1 tk hS k1 => ?_
 refine PySem.Calls.spliced_nil ?_
 refine sorted_set (s := { s1 with heap := h1, toks := tk }) (S := dedup ns) hh hS h64 fun s2 L out c' ns' g1 g2 g3 g4 g5 g6 g7 g8 => ?_
 have e2 : ns' = sortI (dedup ns) := sorted_unique (g7.trans (sortI_perm _).symm) g8 (sortI_sorted _)
 subst e2
 have up : ∀ b o, s1.heap.get? b = some o -> s2.heap.get? b = some o := fun b o z => g3 b o (k1 b o (Heap.lt_size z) z)
 have hL : s1.heap.objs.size <= L := by
  obtain ⟨o, _, _, _, z, _⟩ := hS
  exact Nat.le_trans (Nat.le_of_lt (Heap.lt_size z)) g4
 have fr : H1 L = none := I1.hok.fresh hL
 refine ⟨.ref L, upd H1 L (.lst ((sortI (dedup ns)).map V.int)), I1.call' (s' := s2) (ch := []) g1 (Un.laid up hL fr) (I1.hok.laid up hL ?_) (by rw [show s2.gens = s1.gens from g2]; exact I1.bare) (fun b hb => nomatch hb), rfl, q L fr⟩
 refine ⟨?_, out.toList, c', are_vals g6, ?_⟩
 ·rw [List.length_map, (sortI_perm _).length_eq, sizeLine_eq]; omega
 ·rw [g5]
noncomputable def sortset1 : List W -> Option (List W)
 | [.lst ws] => match intsW ws with
  | some ns => if ns.length < 4000 /\ (dedup ns).length < 64 then some ((sortI (dedup ns)).map .int) else none
  | none => none
 | _ => none
noncomputable def dSS (dA : Den (List W)) : Den (List W) := fun e => (dA e).bind fun ws e1 => ofOpt (sortset1 ws) e1
theorem dSS_s {dA : Den (List W)} {e : List S} : dSS dA e = (dA e).bind fun ws e1 => ofOpt (sortset1 ws) e1 := rfl
section
variable {X : Cx} {Z : Zt} {EE : St -> XK} {e : Expr} {dA : Den (List W)} {p1 p2 pos1 pos2 : Pos}
theorem df_sortset (hc : X.calm = true) (hm1 : X.mg "sorted" = none) (hm2 : X.mg "set" = none) (ha : DA Z X EE [e] dA) (hg1 : Gl X "sorted" := by rfl) (hg2 : Gl X "set" := by rfl)
  (hs1 : starEach [.Call (.Name "set" p2) [e] [] pos2] X.env = (false, eval (.Call (.Name "set" p2) [e] [] pos2) X.env) :: starEach [] X.env := by rfl) (hs2 : starEach [e] X.env = (false, eval e X.env) :: starEach [] X.env := by rfl) (hpl : (backTo pos2 (starEach [] X.env)).any (·.1) = false := by rfl) :
  DF Z X EE (.Call (.Name "sorted" p1) [.Call (.Name "set" p2) [e] [] pos2] [] pos1) (dSS dA) := by
 refine PE.mono (pe_sortset hc hm1 hm2 ha hg1 hg2 hs1 hs2 hpl) ?_
 rintro σ H Q ⟨G, e, rel, h⟩
 simp only [dSS, R.holds_bind, ofOpt_holds] at h
 refine ⟨G, e, rel, h.imp (fun ws e1 h G1 vs H1 r1 s1 p1 => ?_) fun _ _ h => h⟩
 obtain ⟨out, hf, h⟩ := h
 unfold sortset1 at hf
 split at hf
 ·rename_i us
  obtain ⟨y, r, rfl, py, pr⟩ := p1
  cases (show r = [] from pr)
  split at hf
  ·rename_i ns hns
   split at hf
   ·rename_i hl
    cases hf
    obtain ⟨a, cs, rfl, hq, rp⟩ := py
    have := ints_rep hns rp
    subst this
    exact ⟨a, ns, rfl, r1.sub.seq hq, hl.1, hl.2, new_list r1 s1 (reps_ints _) h⟩
   ·cases hf
  ·cases hf
 ·cases hf
end
theorem sortset_l {ns : List Int} (h : ns.length < 4000) (h2 : (dedup ns).length < 64) : sortset1 [.lst (ns.map .int)] = some ((sortI (dedup ns)).map .int) := by
 show (match intsW (ns.map .int) with | some ns => if ns.length < 4000 /\ (dedup ns).length < 64 then some ((sortI (dedup ns)).map W.int) else none | none => none) = _
 rw [ints_of]
 exact if_pos ⟨h, h2⟩
theorem rising_unique : ∀ {l l' : List Int}, l.Pairwise (· < ·) -> l'.Pairwise (· < ·) -> (∀ x, x ∈ l ↔ x ∈ l') -> l = l'
 | [], [], _, _, _ => rfl
 | [], y :: _, _, _, h => absurd ((h y).mpr (by simp)) (by simp)
 | x :: _, [], _, _, h => absurd ((h x).mp (by simp)) (by simp)
 | x :: l, y :: l', h1, h2, h => by
  rw [List.pairwise_cons] at h1 h2
  have e : x = y := by
   rcases List.mem_cons.mp ((h x).mp (by simp)) with z | z
   ·exact z
   ·rcases List.mem_cons.mp ((h y).mpr (by simp)) with z' | z'
    ·exact z'.symm
    ·have := h2.1 x z; have := h1.1 y z'; omega
  subst e
  congr 1
  refine rising_unique h1.2 h2.2 fun z => ⟨fun hz => ?_, fun hz => ?_⟩
  ·rcases List.mem_cons.mp ((h z).mp (by simp [hz])) with q | q
   ·have := h1.1 z hz; omega
   ·exact q
  ·rcases List.mem_cons.mp ((h z).mpr (by simp [hz])) with q | q
   ·have := h2.1 z hz; omega
   ·exact q
theorem sortset_is {ns l : List Int} (hl : l.Pairwise (· < ·)) (h : ∀ x, x ∈ l ↔ x ∈ ns) : sortI (dedup ns) = l := by
 have nd : (dedup ns).Nodup := fold_nodup ns [] .nil
 refine rising_unique ?_ hl fun x => ?_
 ·have s1 := sortI_sorted (dedup ns)
  have s2 : (sortI (dedup ns)).Nodup := (sortI_perm _).nodup_iff.mpr nd
  have s3 := s1.and s2
  exact s3.imp fun {a b} ⟨h1, h2⟩ => by omega
 ·rw [(sortI_perm _).mem_iff, h]
  unfold dedup
  rw [fold_mem]
  simp
end D
set_option Elab.async false
set_option linter.all false
set_option maxRecDepth 100000
set_option maxHeartbeats 1000000
namespace D
open PySem L2
section
variable (l : Addr) (items : Array Value) (n : Nat) (k : Int) (u : Tok) (dd : Option Addr) (sl : Array (Option Value))
end
section
variable {X : Cx} {Z : Zt} {EE : St -> XK} {a b : Expr} {da db : Den W} {pos : Pos}
end
end D
set_option Elab.async false
set_option linter.all false
set_option maxRecDepth 100000
set_option maxHeartbeats 1000000
namespace D
open PySem L2
theorem call_any {X : Cx} (hc : X.calm = true) : CallR X (.builtin "any") (fun xs H Q => ∃ p ys, xs = [.ref p] /\ SqL X.K H p ys /\ (∀ y ∈ ys, ∃ b, y = .bl b) /\ Q (.bl (ys.any fun y => decide (y = .bl true))) H) := by
 intro pins s σ H xs us Q I r h
 obtain ⟨p, ys, rfl, hq, hb, q⟩ := h
 obtain ⟨u, rfl, rx⟩ := vals1 r
 cases rx
 obtain ⟨its, r', pl, hz⟩ := I.list hq
 have hl := pl.isList
 have hlt : p < s.heap.objs.size := by obtain ⟨_, e, _⟩ := hl; exact Heap.lt_size e
 have hh : X.A.in1.handled = none := I.ok.hd hc
 refine call_any_walk (wpAny_pyIter_list hl ⟨s.heap.objs.size, [s.heap.objs.size, p], [s.heap.objs.size], _, _, _, fun i => decide (ys[i]? = some (.bl true)), rfl, Walks.list hh s.heap.objs.size p (Nat.ne_of_lt hlt) its.toArray, ⟨⟨_, Heap.get?_push_size _ rfl, rfl, rfl⟩, hl.push _⟩, ?_, fun h' tk kp => ?_⟩)
 ·intro i v s1 Q1 E1 hv hQ
  have hv' : its[i]? = some v := by simpa using hv
  have hi : i < ys.length := by rw [r'.length]; exact (List.getElem?_eq_some_iff.mp hv').1
  obtain ⟨u, hu, ru⟩ := r'.get (List.getElem?_eq_getElem hi)
  rw [hv'] at hu
  cases hu
  obtain ⟨b, eb⟩ := hb ys[i] (List.getElem_mem hi)
  rw [eb] at ru
  cases ru
  refine wpAny_truthy_bool ?_
  have e : decide (ys[i]? = some (V.bl true)) = b := by
   rw [List.getElem?_eq_getElem hi, eb]
   cases b <;> simp
  rw [<- e]
  exact hQ
 ·have e : (List.range its.toArray.size).any (fun i => decide (ys[i]? = some (V.bl true))) = ys.any fun y => decide (y = .bl true) := by
   rw [Bool.eq_iff_iff, List.any_eq_true, List.any_eq_true]
   constructor
   ·rintro ⟨i, hi, z⟩
    rw [List.mem_range, List.size_toArray, <- r'.length] at hi
    rw [List.getElem?_eq_getElem hi] at z
    exact ⟨ys[i], List.getElem_mem hi, by simpa using z⟩
   ·rintro ⟨y, hy, z⟩
    obtain ⟨i, hi, rfl⟩ := List.getElem_of_mem hy
    exact ⟨i, by rw [List.mem_range, List.size_toArray, <- r'.length]; exact hi, by rw [List.getElem?_eq_getElem hi]; simpa using z⟩
  refine ⟨.bl _, H, I.kept (t' := tk) fun b o hbo => kp b o (fun z => ?_) (Heap.get?_push_of_some _ hbo), rfl, e ▸ q⟩
  rw [List.mem_singleton] at z
  exact absurd (Heap.lt_size hbo) (by rw [z]; exact Nat.lt_irrefl _)
noncomputable def any1 : List W -> Option W
 | [.lst ws] => (boolsW ws).map fun bs => .bl (bs.any id)
 | _ => none
theorem oN_any {K : PySem.W.Frag} : OpN K (fun xs H Q => ∃ p ys, xs = [.ref p] /\ SqL K H p ys /\ (∀ y ∈ ys, ∃ b, y = .bl b) /\ Q (.bl (ys.any fun y => decide (y = .bl true))) H) any1 := by
 intro G H xs ws w Q s pr hf h
 unfold any1 at hf
 split at hf
 ·obtain ⟨bs, hb, rfl⟩ := Option.map_eq_some_iff.mp hf
  have := boolsW_map hb
  subst this
  obtain ⟨x, r, rfl, px, pr⟩ := pr
  cases (show r = [] from pr)
  obtain ⟨a, ys, rfl, ha, ra⟩ := px
  have := reps_bools ra
  subst this
  refine ⟨a, _, rfl, s.seq ha, fun y hy => ?_, h G _ H (.refl s) ?_⟩
  ·obtain ⟨b, _, rfl⟩ := List.mem_map.mp hy; exact ⟨b, rfl⟩
  ·show V.bl _ = V.bl _
   congr 1
   rw [List.any_map]
   congr 1
   funext b
   cases b <;> first | rfl | simp
 ·cases hf
section
variable {X : Cx} {Z : Zt} {EE : St -> XK} {e : Expr} {dA : Den (List W)} {pos p : Pos}
theorem de_any (hc : X.calm = true) (hm : X.mg "any" = none) (ha : DA Z X EE [e] dA) (hg : Gl X "any" := by rfl) (he : starEach [e] X.env = (false, eval e X.env) :: starEach [] X.env := by rfl) (hpl : (backTo pos (starEach [] X.env)).any (·.1) = false := by rfl) : DE Z X EE (.Call (.Name "any" p) [e] [] pos) (dFn any1 dA) :=
 de_blt (call_any hc) oN_any PyProof.Rows.Boot.«any» hm ha hg (by decide) (by decide) he hpl
end
theorem any_l {bs : List Bool} : any1 [.lst (bs.map .bl)] = some (.bl (bs.any id)) := by
 show (boolsW (bs.map .bl)).map _ = _
 rw [boolsW_of]
 rfl
def rCat0 (K : PySem.W.Frag) : R2 := fun x y H Q => ∃ a b ys, x = .ref a /\ y = .ref b /\ SqT K H a [] /\ SqT K H b ys /\ Q (.ref b) H
open PyProof.Rows in
theorem op_cat0 {X : Cx} : OpR X (binaryOp .Add) (rCat0 X.K) := by
 intro pins s σ H x y v u Q I rx ry h
 obtain ⟨a, b, ys, rfl, rfl, ha, hb, q⟩ := h
 cases rx
 cases ry
 obtain ⟨its, r1, p1, _⟩ := I.tuple ha
 obtain ⟨its2, r2, p2, _⟩ := I.tuple hb
 cases r1
 obtain ⟨⟨cls, dd, data, sl⟩, ho, hc, n, hd⟩ := id p1
 obtain ⟨⟨cls2, dd2, data2, sl2⟩, ho2, hc2, n2, hd2⟩ := id p2
 simp only at hc hd hc2 hd2
 subst hc hd hc2 hd2
 exact concat_meets ⟨_, ho, rfl⟩ ⟨_, ho2, rfl⟩ noFill_tuple_add seq_tuple_add PySem.F.slot_tuple_add PySem.F.entry_tuple_add (PySem.F.args_tuple_add_2 _ _) (tuple_addW0 a b _ _ n n2 dd dd2 sl sl2 rfl) ⟨ho, ho2, .ref b, H, I, rfl, q⟩
noncomputable def addX : W -> W -> Option W
 | .tup xs, .tup ys => if xs.length + ys.length <= 16777216 then some (.tup (xs ++ ys)) else none
 | x, y => addW x y
theorem addX_tt {xs ys : List W} : addX (.tup xs) (.tup ys) = if xs.length + ys.length <= 16777216 then some (.tup (xs ++ ys)) else none := rfl
theorem addX_ii {i j : Int} : addX (.int i) (.int j) = some (.int (i + j)) := rfl
theorem addX_ll {xs ys : List W} : addX (.lst xs) (.lst ys) = if xs.length + ys.length <= 16777216 then some (.lst (xs ++ ys)) else none := rfl
theorem addX_ss {x y : Str} : addX (.str x) (.str y) = if x.length + y.length <= 16777216 then some (.str (x ++ y)) else none := rfl
theorem o2_addX {K : PySem.W.Frag} : Op2 K (fun x y H Q => rCat0 K x y H Q \/ (rI0 (fun i j => .int (i + j)) x y H Q \/ ((∃ i j, x = .str i /\ y = .str j /\ i.length + j.length <= sizeLine /\ Q (.str (i ++ j)) H) \/ (rCatT K x y H Q \/ rCatS K x y H Q)))) addX := by
 intro G H x y wx wy w Q s px py hf h
 unfold addX at hf
 split at hf
 ·rename_i xs ys
  split at hf
  ·rename_i hl
   by_cases h0 : xs = []
   ·subst h0
    cases hf
    obtain ⟨a, vs, rfl, hq, rp⟩ := px
    obtain ⟨b, us, rfl, hq2, rp2⟩ := py
    cases (show vs = [] from rp)
    exact .inl ⟨a, b, us, rfl, rfl, s.tup hq, s.tup hq2, h G _ H (.refl s) ⟨b, us, rfl, hq2, rp2⟩⟩
   ·exact .inr (o2_add G H x y (.tup xs) (.tup ys) w Q s px py (by show (if xs ≠ [] /\ xs.length + ys.length <= 16777216 then some (W.tup (xs ++ ys)) else none) = some w; rw [if_pos ⟨h0, hl⟩]; exact hf) h)
  ·cases hf
 ·exact .inr (o2_add G H x y _ _ w Q s px py hf h)
section
variable {X : Cx} {Z : Zt} {EE : St -> XK} {a b : Expr} {da db : Den W} {pos : Pos}
theorem de_addX (ha : DE Z X EE a da) (hb : DE Z X EE b db) : DE Z X EE (.BinOp a .Add b pos) (dOp addX da db) := de_op (op_cat0.or (op_add.or (op_add_str.or (op_catT.or op_catS)))) o2_addX ha hb
end
section
variable {X : Cx} {pins : List (Addr × Obj)} {σ : St} {H G : Hp} {s : Shared}
end
section
variable {X : Cx} {Z : Zt} {EE : St -> XK} {e : Expr} {dA : Den (List W)} {pos p : Pos}
end
end D
set_option Elab.async false
set_option linter.all false
set_option maxRecDepth 100000
set_option maxHeartbeats 1000000
namespace D
open PySem L2
end D
set_option Elab.async false
set_option linter.all false
set_option maxRecDepth 100000
set_option maxHeartbeats 1000000
namespace D
open PySem L2
theorem getD_lt {l : List Int} {i : Nat} (h : i < l.length) : l.getD i 0 = l[i] := by
 unfold List.getD
 rw [List.getElem?_eq_getElem h]
 rfl
section
variable {X : Cx} {Z : Zt} {EE : St -> XK} {e : Expr} {dA : Den (List W)} {pos p : Pos}
end
end D
set_option Elab.async false
set_option linter.all false
set_option maxRecDepth 100000
set_option maxHeartbeats 1000000
namespace D
open PySem L2 PySem.Spec PyProof.Rows
section
variable {prog : Program} {w : World} {A : Around} {E : Value -> Shared -> Prop} {s : Shared}
end
section
variable {X : Cx} {Z : Zt} {EE : L2.St -> XK} {e : Expr} {d : Den W} {x y : Str} {p1 p2 p3 pos : Pos} {kt : Nat}
end
end D
set_option Elab.async false
set_option linter.all false
set_option maxRecDepth 100000
set_option maxHeartbeats 1000000
namespace D
open PySem L2 PySem.Spec PyProof.Rows
section
variable {X : Cx} {a : Expr} {ta : TA} {p p2 pos pos2 : Pos}
def tLR (ta : TA) : TE := fun σ H Q => ta σ H fun vs H1 => ∃ j : Int, vs = [.int j] /\ j.toNat <= 16777216 /\ -(2 ^ 62) <= j /\ ∀ l, H1 l = none -> Q (.ref l) (upd H1 l (.lst ((List.range j.toNat).map fun (k : Nat) => V.int (k : Int))))
theorem vals_of {vs : List V} {us : List Value} (hl : vs.length = us.length) (h : ∀ (i : Nat) (h1 : i < vs.length) (h2 : i < us.length), RelV vs[i] us[i]) : Vals vs us := by
 induction vs generalizing us with
 | nil =>
  cases us with
  | nil => exact .nil
  | cons u us => simp at hl
 | cons v vs ih =>
  cases us with
  | nil => simp at hl
  | cons u us =>
   refine .cons (h 0 (by simp) (by simp)) (ih (by simpa using hl) fun i h1 h2 => ?_)
   have := h (i + 1) (by simpa using h1) (by simpa using h2)
   simpa using this
theorem pe_listR (hc : X.calm = true) (hgl : Gl X "list") (hml : X.mg "list" = none) (hg : Gl X "range") (hm : X.mg "range" = none) (ha : PA X [a] ta) (hs : starEach [a] X.env = [(false, eval a X.env)] := by rfl)
  (he : starEach [.Call (.Name "range" p2) [a] [] pos2] X.env = [(false, eval (.Call (.Name "range" p2) [a] [] pos2) X.env)] := by rfl) : PE X (.Call (.Name "list" p) [.Call (.Name "range" p2) [a] [] pos2] [] pos) (tLR ta) := by
 intro pins s σ H Q I h
 refine wpAny_Call_Name_kw (ld_blt I hgl hml PyProof.Rows.Boot.«list» ?_ (by decide) (by decide))
 refine PyProof.Rows.callWith_type1 ?_ (by rw [he]; rfl) rfl
 rw [he]
 show wpAny _ _ (spliced ((false, eval (.Call (.Name "range" p2) [a] [] pos2) X.env) :: [])) _ _ s
 refine Calls.spliced_cons ?_
 refine Call_ (ld_blt I hg hm boot_range (PyProof.Rows.callWith_type1 (thn (ha pos2 pins s σ H _ I h) fun us s1 ⟨vs, H1, I1, r1, q1⟩ => ?_) hs rfl))
 obtain ⟨j, e, z1, z2, q⟩ := q1
 subst e
 cases r1 with
 | cons r rr =>
  cases rr
  obtain ⟨t, rfl⟩ := r
  refine call_range_1 (Calls.spliced_nil ?_)
  have I2 : Inv X pins σ H1 { s1 with heap := s1.heap.push { cls := .type "range", data := .fields #[.int 0 s1.toks, .int j t, .int 1 (s1.toks + 1)] }, toks := s1.toks + 1 + 1 } := I1.kept fun b o e => Heap.get?_push_of_some _ e
  have hn : Builtin.Range.rangeSize 0 j 1 = ((j.toNat : Nat) : Int) := by rw [rangeSize_one]; split <;> omega
  refine call_list_range (I.ok.hd hc) (IsRange.new ..) (small_one (by omega) (by omega) z2 (by omega)) hn (by omega) fun h' tk acc' c' hk hS' hacc => ?_
  refine ⟨.ref _, _, I2.laid (t' := tk) hk (Nat.le_refl _) (show ObjOk X.prog X.w _ h' _ (.lst ((List.range j.toNat).map fun (k : Nat) => V.int (k : Int))) from ⟨by simp [sizeLine]; omega, acc'.toList, c', vals_of (by simp [hacc.1]) (fun i h1 h2 => ?_), by simpa using hS'⟩), rfl, q _ (I2.hok.fresh (Nat.le_refl _))⟩
  have h2' : i < acc'.size := by simpa using h2
  obtain ⟨t2, e2⟩ := hacc.2 i acc'[i] (by simp [h2'])
  have e3 : acc'.toList[i] = .int (0 + (i : Int) * 1) t2 := by simpa using e2
  rw [e3]
  simp only [List.getElem_map, List.getElem_range]
  exact ⟨t2, by simp⟩
end
section
variable {X : Cx} {Z : Zt} {EE : L2.St -> XK} {e : Expr} {dA : Den (List W)} {p p2 pos pos2 : Pos}
noncomputable def listR1 : List W -> Option (List W)
 | [.int j] => if j.toNat <= 16777216 /\ -(2 ^ 62) <= j then some ((List.range j.toNat).map fun (k : Nat) => W.int (k : Int)) else none
 | _ => none
noncomputable def dListR (dA : Den (List W)) : Den (List W) := fun e => (dA e).bind fun ws e1 => ofOpt (listR1 ws) e1
theorem reps_nats {K : PySem.W.Frag} {G : Hp} : ∀ ks : List Nat, Reps K G (ks.map fun (k : Nat) => W.int (k : Int)) (ks.map fun (k : Nat) => V.int (k : Int))
 | [] => rfl
 | k :: ks => ⟨_, _, rfl, rfl, reps_nats ks⟩
theorem df_listR (hc : X.calm = true) (hml : X.mg "list" = none) (hm : X.mg "range" = none) (ha : DA Z X EE [e] dA) (hgl : Gl X "list" := by rfl) (hg : Gl X "range" := by rfl) (hs : starEach [e] X.env = [(false, eval e X.env)] := by rfl)
  (he : starEach [.Call (.Name "range" p2) [e] [] pos2] X.env = [(false, eval (.Call (.Name "range" p2) [e] [] pos2) X.env)] := by rfl) : DF Z X EE (.Call (.Name "list" p) [.Call (.Name "range" p2) [e] [] pos2] [] pos) (dListR dA) := by
 refine PE.mono (pe_listR hc hgl hml hg hm ha hs he) ?_
 rintro σ H Q ⟨G, e, rel, h⟩
 simp only [dListR, R.holds_bind, ofOpt_holds] at h
 refine ⟨G, e, rel, h.imp (fun ws e1 h G1 vs H1 r1 s1 p1 => ?_) fun _ _ h => h⟩
 obtain ⟨out, hf, h⟩ := h
 unfold listR1 at hf
 split at hf
 ·rename_i j
  split at hf
  ·rename_i hj
   cases hf
   obtain ⟨y, r, rfl, py, pr⟩ := p1
   cases (show r = [] from pr)
   cases (show y = V.int j from py)
   exact ⟨j, rfl, hj.1, hj.2, new_list r1 s1 (reps_nats _) h⟩
  ·cases hf
 ·cases hf
end
theorem listR_i {j : Nat} (h : j <= 16777216) : listR1 [.int (j : Int)] = some ((List.range j).map fun (k : Nat) => W.int (k : Int)) := by
 show (if ((j : Int)).toNat <= 16777216 /\ -(2 ^ 62) <= (j : Int) then _ else _) = _
 rw [if_pos ⟨by omega, by omega⟩]
 rfl
theorem dListR_s {dA : Den (List W)} {e : List S} : dListR dA e = (dA e).bind fun ws e1 => ofOpt (listR1 ws) e1 := rfl
end D
set_option Elab.async false
set_option linter.all false
set_option maxRecDepth 100000
set_option maxHeartbeats 1000000
namespace D
open PySem L2
noncomputable def smallI (n : Int) : Bool := decide (-1000000000000 <= n) && decide (n <= 1000000000000)
theorem small_is {n : Int} (h : smallI n = true) : -1000000000000 <= n /\ n <= 1000000000000 := by
 unfold smallI at h
 rw [Bool.and_eq_true] at h
 exact ⟨of_decide_eq_true h.1, of_decide_eq_true h.2⟩
theorem pre_is (ns : List Int) (h : ∀ n ∈ ns, smallI n = true) : ∀ j : Nat, preSum (fun i => ns.getD i 0) j = (ns.take j).sum /\ -(1000000000000 * (j : Int)) <= preSum (fun i => ns.getD i 0) j /\ preSum (fun i => ns.getD i 0) j <= 1000000000000 * (j : Int)
 | 0 => ⟨rfl, by simp [preSum], by simp [preSum]⟩
 | j + 1 => by
  obtain ⟨h1, h2, h3⟩ := pre_is ns h j
  have e : preSum (fun i => ns.getD i 0) (j + 1) = preSum (fun i => ns.getD i 0) j + ns.getD j 0 := rfl
  have b : -1000000000000 <= ns.getD j 0 /\ ns.getD j 0 <= 1000000000000 := by
   by_cases hj : j < ns.length
   ·rw [getD_lt hj]; exact small_is (h _ (List.getElem_mem hj))
   ·have : ns.getD j 0 = 0 := by simp [List.getD, hj]
    rw [this]; decide
  refine ⟨?_, by rw [e]; push_cast; omega, by rw [e]; push_cast; omega⟩
  rw [e, h1]
  by_cases hj : j < ns.length
  ·have e2 : ns.take (j + 1) = ns.take j ++ [ns[j]] := by rw [List.take_add_one, List.getElem?_eq_getElem hj]; rfl
   rw [e2, List.sum_append, getD_lt hj]
   simp
  ·have : ns.getD j 0 = 0 := by simp [List.getD, hj]
   rw [this, List.take_of_length_le (by omega), List.take_of_length_le (by omega)]
   omega
theorem call_sum1 {X : Cx} (hc : X.calm = true) : CallR X (.builtin "sum") (fun xs H Q => ∃ p, ∃ ns : List Int, xs = [.ref p] /\ SqL X.K H p (ns.map V.int) /\ ns.length <= 1000 /\ (∀ n ∈ ns, smallI n = true) /\ Q (.int ns.sum) H) := by
 intro pins s σ H xs us Q I r h
 obtain ⟨p, ns, rfl, hq, hn, hb, q⟩ := h
 obtain ⟨u, rfl, rx⟩ := vals1 r
 cases rx
 obtain ⟨its, r', pl, hz⟩ := I.list hq
 have hl := pl.isList
 have hlt : p < s.heap.objs.size := by obtain ⟨_, e, _⟩ := hl; exact Heap.lt_size e
 have hh : X.A.in1.handled = none := I.ok.hd hc
 have hlen : its.length = ns.length := by have := r'.length; rw [List.length_map] at this; exact this.symm
 have hval : ∀ (i : Nat) (v : Value), its.toArray[i]? = some v -> ∃ t, v = Value.int (ns.getD i 0) t := fun i v hv => by
  have hv' : its[i]? = some v := by simpa using hv
  have hi : i < ns.length := by rw [<- hlen]; exact (List.getElem?_eq_some_iff.mp hv').1
  obtain ⟨u, hu, ru⟩ := r'.get (i := i) (x := V.int (ns.getD i 0)) (by rw [List.getElem?_map, List.getElem?_eq_getElem hi, getD_lt hi]; rfl)
  rw [hv'] at hu
  cases hu
  exact ru
 have fit : ∀ j, j < its.toArray.size -> InLong (ns.getD j 0) /\ InLong (preSum (fun i => ns.getD i 0) (j + 1)) := fun j hj => by
  have hj' : j < ns.length := by rw [List.size_toArray, hlen] at hj; exact hj
  have b1 := small_is (hb _ (List.getElem_mem hj'))
  obtain ⟨_, b2, b3⟩ := pre_is ns hb (j + 1)
  rw [getD_lt hj']
  exact ⟨⟨by omega, by omega⟩, ⟨by omega, by omega⟩⟩
 refine call_sum_walk (wpAny_pyIter_list hl ⟨s.heap.objs.size, [s.heap.objs.size, p], [s.heap.objs.size], _, _, _, fun i => ns.getD i 0, rfl, Walks.list hh s.heap.objs.size p (Nat.ne_of_lt hlt) its.toArray, ⟨⟨_, Heap.get?_push_size _ rfl, rfl, rfl⟩, hl.push _⟩, fun b hb => ?_, hval, fit, fun h' tk t' hk => ?_⟩)
 ·show b < (s.heap.push _).objs.size
  rw [Heap.size_push]
  rcases List.mem_cons.mp hb with e | hb
  ·rw [e]; exact Nat.lt_succ_self _
  ·rw [List.mem_singleton.mp hb]; exact Nat.lt_succ_of_lt hlt
 ·have e : preSum (fun i => ns.getD i 0) its.toArray.size = ns.sum := by
   rw [(pre_is ns hb _).1, List.size_toArray, hlen, List.take_of_length_le (Nat.le_refl _)]
  refine ⟨.int ns.sum, H, I.kept (t' := tk) fun b o hbo => hk b o (fun z => ?_) (Heap.get?_push_of_some _ hbo), ⟨t', by rw [e]⟩, q⟩
  rw [List.mem_singleton] at z
  exact absurd (Heap.lt_size hbo) (by rw [z]; exact Nat.lt_irrefl _)
noncomputable def sum1 : List W -> Option W
 | [.lst ws] => match intsW ws with
  | some ns => if ns.length <= 1000 /\ (∀ n ∈ ns, smallI n = true) then some (.int ns.sum) else none
  | _ => none
 | _ => none
theorem oN_sum1 {K : PySem.W.Frag} : OpN K (fun xs H Q => ∃ p, ∃ ns : List Int, xs = [.ref p] /\ SqL K H p (ns.map V.int) /\ ns.length <= 1000 /\ (∀ n ∈ ns, smallI n = true) /\ Q (.int ns.sum) H) sum1 := by
 intro G H xs ws w Q s pr hf h
 unfold sum1 at hf
 split at hf
 ·obtain ⟨x, r, rfl, px, pr⟩ := pr
  cases (show r = [] from pr)
  split at hf
  ·rename_i ns hns
   split at hf
   ·rename_i hb
    cases hf
    obtain ⟨a, cs, rfl, hq, rp⟩ := px
    have := ints_rep hns rp
    subst this
    exact ⟨a, ns, rfl, s.seq hq, hb.1, hb.2, h G _ H (.refl s) rfl⟩
   ·cases hf
  ·cases hf
 ·cases hf
section
variable {X : Cx} {Z : Zt} {EE : St -> XK} {e : Expr} {dA : Den (List W)} {pos p : Pos}
theorem de_sum (hc : X.calm = true) (hm : X.mg "sum" = none) (ha : DA Z X EE [e] dA) (hg : Gl X "sum" := by rfl) (he : starEach [e] X.env = (false, eval e X.env) :: starEach [] X.env := by rfl) (hpl : (backTo pos (starEach [] X.env)).any (·.1) = false := by rfl) : DE Z X EE (.Call (.Name "sum" p) [e] [] pos) (dFn sum1 dA) :=
 de_blt (call_sum1 hc) oN_sum1 PyProof.Rows.Boot.«sum» hm ha hg (by decide) (by decide) he hpl
end
theorem sum1_l {ns : List Int} (h1 : ns.length <= 1000) (h2 : ∀ n ∈ ns, -1000000000000 <= n /\ n <= 1000000000000) : sum1 [.lst (ns.map .int)] = some (.int ns.sum) := by
 show (match intsW (ns.map .int) with | some ns => if ns.length <= 1000 /\ (∀ n ∈ ns, smallI n = true) then some (W.int ns.sum) else none | _ => none) = _
 rw [ints_of]
 exact if_pos ⟨h1, fun n hn => by
  obtain ⟨a, b⟩ := h2 n hn
  unfold smallI
  rw [decide_eq_true a, decide_eq_true b]
  rfl⟩
end D
namespace M10
noncomputable def numG (a : Int) (row : List Bool) : Int := row.foldl (fun acc b => 2 * acc + (if b = true then 1 else 0)) a
noncomputable def num (row : List Bool) : Int := numG 0 row
noncomputable def b2 (b : Bool) : Int := if b = true then 1 else 0
noncomputable def bits : Nat -> Int -> List Bool
 | 0, _ => []
 | m + 1, n => decide (n % 2 = 1) :: bits m (n / 2)
noncomputable def rest : Nat -> Int -> Int
 | 0, n => n
 | m + 1, n => rest m (n / 2)
theorem bits_len : ∀ m n, (bits m n).length = m
 | 0, _ => rfl
 | m + 1, n => by rw [bits, List.length_cons, bits_len m]
noncomputable def part (row : List Bool) (i : Nat) : Int := num (row.take i) * 2 ^ (row.length - i)
end M10
set_option Elab.async false
set_option linter.all false
set_option maxRecDepth 100000
set_option maxHeartbeats 4000000
namespace Q
open PySem L2 D
seal DE DF DT DW DA DS DSs DTs DO DFm PE PT PW PA PS PSs PG PGs PI PF PTs PC OpR UnR IxR CallR TruR MtR MtM SlR PO
theorem us1 {α : Type} {P : List α -> Prop} (h : ∀ x0, P [x0]) : ∀ us : List α, us.length = 1 -> P us
 | [x0], _ => h x0
theorem us2 {α : Type} {P : List α -> Prop} (h : ∀ x0 x1, P [x0, x1]) : ∀ us : List α, us.length = 2 -> P us
 | [x0, x1], _ => h x0 x1
theorem us3 {α : Type} {P : List α -> Prop} (h : ∀ x0 x1 x2, P [x0, x1, x2]) : ∀ us : List α, us.length = 3 -> P us
 | [x0, x1, x2], _ => h x0 x1 x2
theorem us4 {α : Type} {P : List α -> Prop} (h : ∀ x0 x1 x2 x3, P [x0, x1, x2, x3]) : ∀ us : List α, us.length = 4 -> P us
 | [x0, x1, x2, x3], _ => h x0 x1 x2 x3
noncomputable def top (i : Nat) : Stmt := PySem.Challenge.pw_circuits_k14_forms_of_tables.main.body.getD i (.Pass ⟨0, 0, 0, 0⟩)
structure Blt (mg : Str -> Option Value) : Prop where
 b_ValueError : mg "ValueError" = none
 b_all : mg "all" = none
 b_any : mg "any" = none
 b_bool : mg "bool" = none
 b_int : mg "int" = none
 b_isinstance : mg "isinstance" = none
 b_len : mg "len" = none
 b_list : mg "list" = none
 b_max : mg "max" = none
 b_range : mg "range" = none
 b_set : mg "set" = none
 b_sorted : mg "sorted" = none
 b_str : mg "str" = none
 b_sum : mg "sum" = none
 b_tuple : mg "tuple" = none
structure Adr where
 CircuitError : Addr
 NoPlace : Addr
 NoName : Addr
 BadText : Addr
 NoRow : Addr
 NoTable : Addr
 UnlikeSizes : Addr
 TooGreat : Addr
 NoMachine : Addr
 BadSheet : Addr
 MOST_PLACES : Value
structure Exs (K : PySem.W.Frag) (mg : Str -> Option Value) (a : Adr) : Prop where
 z : True
 m_CircuitError : mg "CircuitError" = some (.ref a.CircuitError)
 m_NoPlace : mg "NoPlace" = some (.ref a.NoPlace)
 m_NoName : mg "NoName" = some (.ref a.NoName)
 m_BadText : mg "BadText" = some (.ref a.BadText)
 m_NoRow : mg "NoRow" = some (.ref a.NoRow)
 m_NoTable : mg "NoTable" = some (.ref a.NoTable)
 m_UnlikeSizes : mg "UnlikeSizes" = some (.ref a.UnlikeSizes)
 m_TooGreat : mg "TooGreat" = some (.ref a.TooGreat)
 m_NoMachine : mg "NoMachine" = some (.ref a.NoMachine)
 m_BadSheet : mg "BadSheet" = some (.ref a.BadSheet)
 m_MOST_PLACES : mg "MOST_PLACES" = some a.MOST_PLACES
 g_MOST_PLACES : conIn K (.int 10) a.MOST_PLACES = true
 e_NoTable : excIn K a.NoTable a.CircuitError = true
 c_NoTable : excClsIn K a.NoTable = true
 x_NoTable_CircuitError : PySem.W.exmOne K (.ref a.NoTable) (.ref a.CircuitError) = some true
 k_NoTable_NoPlace : PySem.W.kitOne K (.ref a.NoTable) (.ref a.NoPlace) = some false
 k_NoTable_NoName : PySem.W.kitOne K (.ref a.NoTable) (.ref a.NoName) = some false
 k_NoTable_BadText : PySem.W.kitOne K (.ref a.NoTable) (.ref a.BadText) = some false
 k_NoTable_NoRow : PySem.W.kitOne K (.ref a.NoTable) (.ref a.NoRow) = some false
 k_NoTable_NoTable : PySem.W.kitOne K (.ref a.NoTable) (.ref a.NoTable) = some true
 k_NoTable_UnlikeSizes : PySem.W.kitOne K (.ref a.NoTable) (.ref a.UnlikeSizes) = some false
 k_NoTable_TooGreat : PySem.W.kitOne K (.ref a.NoTable) (.ref a.TooGreat) = some false
 k_NoTable_NoMachine : PySem.W.kitOne K (.ref a.NoTable) (.ref a.NoMachine) = some false
 k_NoTable_BadSheet : PySem.W.kitOne K (.ref a.NoTable) (.ref a.BadSheet) = some false
 k_NoTable_ValueError : PySem.W.kitOne K (.ref a.NoTable) (.type "ValueError") = some true
 t_NoneType_int : PySem.W.kitOne K (.type "NoneType") (.type "int") = some false
 t_bool_int : PySem.W.kitOne K (.type "bool") (.type "int") = some true
 t_int_int : PySem.W.kitOne K (.type "int") (.type "int") = some true
 t_str_int : PySem.W.kitOne K (.type "str") (.type "int") = some false
 t_tuple_int : PySem.W.kitOne K (.type "tuple") (.type "int") = some false
 t_list_int : PySem.W.kitOne K (.type "list") (.type "int") = some false
 t_NoneType_bool : PySem.W.kitOne K (.type "NoneType") (.type "bool") = some false
 t_bool_bool : PySem.W.kitOne K (.type "bool") (.type "bool") = some true
 t_int_bool : PySem.W.kitOne K (.type "int") (.type "bool") = some false
 t_str_bool : PySem.W.kitOne K (.type "str") (.type "bool") = some false
 t_tuple_bool : PySem.W.kitOne K (.type "tuple") (.type "bool") = some false
 t_list_bool : PySem.W.kitOne K (.type "list") (.type "bool") = some false
 t_NoneType_tuple : PySem.W.kitOne K (.type "NoneType") (.type "tuple") = some false
 t_bool_tuple : PySem.W.kitOne K (.type "bool") (.type "tuple") = some false
 t_int_tuple : PySem.W.kitOne K (.type "int") (.type "tuple") = some false
 t_str_tuple : PySem.W.kitOne K (.type "str") (.type "tuple") = some false
 t_tuple_tuple : PySem.W.kitOne K (.type "tuple") (.type "tuple") = some true
 t_list_tuple : PySem.W.kitOne K (.type "list") (.type "tuple") = some false
 t_NoneType_str : PySem.W.kitOne K (.type "NoneType") (.type "str") = some false
 t_bool_str : PySem.W.kitOne K (.type "bool") (.type "str") = some false
 t_int_str : PySem.W.kitOne K (.type "int") (.type "str") = some false
 t_str_str : PySem.W.kitOne K (.type "str") (.type "str") = some true
 t_tuple_str : PySem.W.kitOne K (.type "tuple") (.type "str") = some false
 t_list_str : PySem.W.kitOne K (.type "list") (.type "str") = some false
noncomputable abbrev i_eased_not : Nat := 0
noncomputable abbrev i_eased : Nat := 1
noncomputable abbrev i_with_truth : Nat := 2
noncomputable abbrev i_chosen : Nat := 3
noncomputable abbrev i_rows_many : Nat := 4
noncomputable abbrev i_places_of : Nat := 5
noncomputable abbrev i_form_of_table : Nat := 6
noncomputable abbrev i_form_from : Nat := 7
noncomputable abbrev i_is_one_truth : Nat := 8
noncomputable abbrev i__law_cell_at : Nat := 9
noncomputable abbrev i__law_whole : Nat := 10
noncomputable abbrev i__law_mixed : Nat := 11
noncomputable abbrev i__law_class : Nat := 12
noncomputable abbrev i__law_count : Nat := 13
noncomputable abbrev i__law_row_of : Nat := 14
noncomputable abbrev i__law_table_by : Nat := 15
noncomputable abbrev i__law_is_form : Nat := 16
noncomputable abbrev i__law_truth : Nat := 17
noncomputable abbrev i__law_size : Nat := 18
noncomputable abbrev i__law_places : Nat := 19
noncomputable abbrev i__law_open : Nat := 20
noncomputable abbrev i__law_refused : Nat := 21
noncomputable abbrev i__law_right : Nat := 22
noncomputable abbrev i_law : Nat := 23
noncomputable abbrev s_eased_not : Stmt := top 1
theorem sc_eased_not : FnScope ["form"] ["form"] (defScope s_eased_not) := ⟨rfl, rfl, rfl, by decide +kernel, rfl, by decide +kernel, by decide +kernel⟩
noncomputable abbrev s_eased : Stmt := top 2
theorem sc_eased : FnScope ["word", "form", "other"] ["word", "form", "other"] (defScope s_eased) := ⟨rfl, rfl, rfl, by decide +kernel, rfl, by decide +kernel, by decide +kernel⟩
noncomputable abbrev s_with_truth : Stmt := top 3
theorem sc_with_truth : FnScope ["word", "truth", "form"] ["word", "truth", "form"] (defScope s_with_truth) := ⟨rfl, rfl, rfl, by decide +kernel, rfl, by decide +kernel, by decide +kernel⟩
noncomputable abbrev s_chosen : Stmt := top 4
theorem sc_chosen : FnScope ["place", "low", "high", "here"] ["place", "low", "high"] (defScope s_chosen) := ⟨rfl, rfl, rfl, by decide +kernel, rfl, by decide +kernel, by decide +kernel⟩
noncomputable abbrev s_rows_many : Stmt := top 17
theorem sc_rows_many : FnScope ["many", "count", "place"] ["many"] (defScope s_rows_many) := ⟨rfl, rfl, rfl, by decide +kernel, rfl, by decide +kernel, by decide +kernel⟩
noncomputable abbrev s_places_of : Stmt := top 20
theorem sc_places_of : FnScope ["table", "many"] ["table"] (defScope s_places_of) := ⟨rfl, rfl, rfl, by decide +kernel, rfl, by decide +kernel, by decide +kernel⟩
noncomputable abbrev s_form_of_table : Stmt := top 21
theorem sc_form_of_table : FnScope ["table"] ["table"] (defScope s_form_of_table) := ⟨rfl, rfl, rfl, by decide +kernel, rfl, by decide +kernel, by decide +kernel⟩
noncomputable abbrev s_form_from : Stmt := top 22
theorem sc_form_from : FnScope ["truths", "place", "middle", "low", "high", "low_form"] ["truths", "place"] (defScope s_form_from) := ⟨rfl, rfl, rfl, by decide +kernel, rfl, by decide +kernel, by decide +kernel⟩
noncomputable abbrev s_is_one_truth : Stmt := top 23
theorem sc_is_one_truth : FnScope ["truths"] ["truths"] (defScope s_is_one_truth) := ⟨rfl, rfl, rfl, by decide +kernel, rfl, by decide +kernel, by decide +kernel⟩
noncomputable abbrev s__law_cell_at : Stmt := top 25
theorem sc__law_cell_at : FnScope ["_law_script", "_law_k"] ["_law_script", "_law_k"] (defScope s__law_cell_at) := ⟨rfl, rfl, rfl, by decide +kernel, rfl, by decide +kernel, by decide +kernel⟩
noncomputable abbrev s__law_whole : Stmt := top 26
theorem sc__law_whole : FnScope ["_law_found"] ["_law_found"] (defScope s__law_whole) := ⟨rfl, rfl, rfl, by decide +kernel, rfl, by decide +kernel, by decide +kernel⟩
noncomputable abbrev s__law_mixed : Stmt := top 27
theorem sc__law_mixed : FnScope ["_law_cell", "_law_k", "_law_many_here", "_law_some", "_law_made"] ["_law_cell", "_law_k", "_law_many_here"] (defScope s__law_mixed) := ⟨rfl, rfl, rfl, by decide +kernel, rfl, by decide +kernel, by decide +kernel⟩
noncomputable abbrev s__law_class : Stmt := top 28
theorem sc__law_class : FnScope ["_law_e", "_law_words"] ["_law_e"] (defScope s__law_class) := ⟨rfl, rfl, rfl, by decide +kernel, rfl, by decide +kernel, by decide +kernel⟩
noncomputable abbrev s__law_count : Stmt := top 29
theorem sc__law_count : FnScope ["_law_many_here", "_law_count_here", "_law_k"] ["_law_many_here"] (defScope s__law_count) := ⟨rfl, rfl, rfl, by decide +kernel, rfl, by decide +kernel, by decide +kernel⟩
noncomputable abbrev s__law_row_of : Stmt := top 30
theorem sc__law_row_of : FnScope ["_law_number", "_law_many_here", "_law_found", "_law_k"] ["_law_number", "_law_many_here"] (defScope s__law_row_of) := ⟨rfl, rfl, rfl, by decide +kernel, rfl, by decide +kernel, by decide +kernel⟩
noncomputable abbrev s__law_table_by : Stmt := top 31
theorem sc__law_table_by : FnScope ["_law_cells", "_law_many_here", "_law_found", "_law_k"] ["_law_cells", "_law_many_here"] (defScope s__law_table_by) := ⟨rfl, rfl, rfl, by decide +kernel, rfl, by decide +kernel, by decide +kernel⟩
noncomputable abbrev s__law_is_form : Stmt := top 33
theorem sc__law_is_form : FnScope ["_law_form", "_law_deep"] ["_law_form", "_law_deep"] (defScope s__law_is_form) := ⟨rfl, rfl, rfl, by decide +kernel, rfl, by decide +kernel, by decide +kernel⟩
noncomputable abbrev s__law_truth : Stmt := top 34
theorem sc__law_truth : FnScope ["_law_form", "_law_row", "_law_one", "_law_other"] ["_law_form", "_law_row"] (defScope s__law_truth) := ⟨rfl, rfl, rfl, by decide +kernel, rfl, by decide +kernel, by decide +kernel⟩
noncomputable abbrev s__law_size : Stmt := top 35
theorem sc__law_size : FnScope ["_law_form"] ["_law_form"] (defScope s__law_size) := ⟨rfl, rfl, rfl, by decide +kernel, rfl, by decide +kernel, by decide +kernel⟩
noncomputable abbrev s__law_places : Stmt := top 36
theorem sc__law_places : FnScope ["_law_form", "_law_found"] ["_law_form"] (defScope s__law_places) := ⟨rfl, rfl, rfl, by decide +kernel, rfl, by decide +kernel, by decide +kernel⟩
noncomputable abbrev s__law_open : Stmt := top 37
theorem sc__law_open : FnScope ["_law_form", "_law_least", "_law_own", "_law_most"] ["_law_form", "_law_least"] (defScope s__law_open) := ⟨rfl, rfl, rfl, by decide +kernel, rfl, by decide +kernel, by decide +kernel⟩
noncomputable abbrev s__law_refused : Stmt := top 38
theorem sc__law_refused : FnScope ["_law_rows", "_law_e"] ["_law_rows"] (defScope s__law_refused) := ⟨rfl, rfl, rfl, by decide +kernel, rfl, by decide +kernel, by decide +kernel⟩
noncomputable abbrev s__law_right : Stmt := top 39
theorem sc__law_right : FnScope ["_law_rows", "_law_many_here", "_law_form", "_law_cell", "_law_hangs", "_law_place", "_law_step", "_law_numbers"] ["_law_rows", "_law_many_here", "_law_form", "_law_cell"] (defScope s__law_right) := ⟨rfl, rfl, rfl, by decide +kernel, rfl, by decide +kernel, by decide +kernel⟩
noncomputable abbrev s_law : Stmt := top 40
theorem sc_law : FnScope ["_law_script", "_law_cell", "_law_far", "_law_many_here", "_law_rows", "_law_step", "_law_handed"] ["_law_script"] (defScope s_law) := ⟨rfl, rfl, rfl, by decide +kernel, rfl, by decide +kernel, by decide +kernel⟩
noncomputable def d_eased_not (K : PySem.W.Frag) (a : Adr) (r : Nat -> List W -> FR) : List S -> SR :=
 (dSeq (dIfS (dTest (dOp eq2 (dOp ixW (dVar 0) (dC (.int 0))) (dC (.str "is"))))
  (dRet (dTup (dCons (dC (.str "is")) (dCons (dNotV (dOp ixW (dVar 0) (dC (.int 1)))) dNil))))
  dNx)
  (dRet (dTup (dCons (dC (.str "not")) (dCons (dVar 0) dNil)))))
noncomputable def d_eased (K : PySem.W.Frag) (a : Adr) (r : Nat -> List W -> FR) : List S -> SR :=
 (dSeq (dIfS (dTest (dOp eq2 (dOp ixW (dVar 1) (dC (.int 0))) (dC (.str "is"))))
  (dRet (dCall (r i_with_truth) (dCons (dVar 0) (dCons (dOp ixW (dVar 1) (dC (.int 1))) (dCons (dVar 2) dNil)))))
  dNx)
  (dSeq (dIfS (dTest (dOp eq2 (dOp ixW (dVar 2) (dC (.int 0))) (dC (.str "is"))))
  (dRet (dCall (r i_with_truth) (dCons (dVar 0) (dCons (dOp ixW (dVar 2) (dC (.int 1))) (dCons (dVar 1) dNil)))))
  dNx)
  (dRet (dTup (dCons (dVar 0) (dCons (dVar 1) (dCons (dVar 2) dNil)))))))
noncomputable def d_with_truth (K : PySem.W.Frag) (a : Adr) (r : Nat -> List W -> FR) : List S -> SR :=
 (dSeq (dIfS (dTest (dOp eq2 (dVar 0) (dC (.str "and"))))
  (dRet (dIf (dTru (dVar 1)) (dVar 2) (dTup (dCons (dC (.str "is")) (dCons (dC (.bl false)) dNil)))))
  dNx)
  (dSeq (dIfS (dTest (dOp eq2 (dVar 0) (dC (.str "or"))))
  (dRet (dIf (dTru (dVar 1)) (dTup (dCons (dC (.str "is")) (dCons (dC (.bl true)) dNil))) (dVar 2)))
  dNx)
  (dRet (dIf (dTru (dVar 1)) (dCall (r i_eased_not) (dCons (dVar 2) dNil)) (dVar 2)))))
noncomputable def d_chosen (K : PySem.W.Frag) (a : Adr) (r : Nat -> List W -> FR) : List S -> SR :=
 (dSeq (dSet 3 (dTup (dCons (dC (.str "at")) (dCons (dVar 0) dNil))))
  (dSeq (dIfS (dTest (dOp eq2 (dVar 1) (dTup (dCons (dC (.str "is")) (dCons (dC (.bl true)) dNil)))))
  (dRet (dCall (r i_eased) (dCons (dC (.str "or")) (dCons (dTup (dCons (dC (.str "not")) (dCons (dVar 3) dNil))) (dCons (dVar 2) dNil)))))
  dNx)
  (dSeq (dIfS (dTest (dOp eq2 (dVar 2) (dTup (dCons (dC (.str "is")) (dCons (dC (.bl true)) dNil)))))
  (dRet (dCall (r i_eased) (dCons (dC (.str "or")) (dCons (dVar 3) (dCons (dVar 1) dNil)))))
  dNx)
  (dRet (dCall (r i_eased) (dCons (dC (.str "or")) (dCons (dCall (r i_eased) (dCons (dC (.str "and")) (dCons (dTup (dCons (dC (.str "not")) (dCons (dVar 3) dNil))) (dCons (dVar 1) dNil)))) (dCons (dCall (r i_eased) (dCons (dC (.str "and")) (dCons (dVar 3) (dCons (dVar 2) dNil)))) dNil))))))))
noncomputable def l_rows_many_0 (K : PySem.W.Frag) (a : Adr) (r : Nat -> List W -> FR) : List S -> SR :=
 (dSet 1 (dOp mulW (dC (.int 2)) (dVar 1)))
noncomputable def d_rows_many (K : PySem.W.Frag) (a : Adr) (r : Nat -> List W -> FR) : List S -> SR :=
 (dSeq (dSet 1 (dC (.int 1)))
  (dSeq (dForR 2 rng1 (dCons (dVar 0) dNil)
  (l_rows_many_0 K a r))
  (dRet (dVar 1))))
noncomputable def l_places_of_0 (K : PySem.W.Frag) (a : Adr) (r : Nat -> List W -> FR) : List S -> SR :=
 (dIfS (dTest (dOp eq2 (dFn len1 (dCons (dVar 0) dNil)) (dCall (r i_rows_many) (dCons (dVar 1) dNil))))
  (dRet (dVar 1))
  dNx)
noncomputable def d_places_of (K : PySem.W.Frag) (a : Adr) (r : Nat -> List W -> FR) : List S -> SR :=
 (dSeq (dForR 1 rng1 (dCons (dOp addX (dC (.int 10)) (dC (.int 1))) dNil)
  (l_places_of_0 K a r))
  (dRaise a.NoTable (dCons (dC (.str "no table has that length")) dNil)))
noncomputable def d_form_of_table (K : PySem.W.Frag) (a : Adr) (r : Nat -> List W -> FR) : List S -> SR :=
 (dSeq (dDrop (dCall (r i_places_of) (dCons (dVar 0) dNil)))
  (dRet (dCall (r i_form_from) (dCons (dVar 0) (dCons (dC (.int 0)) dNil)))))
noncomputable def e_form_from_0 (K : PySem.W.Frag) (a : Adr) (r : Nat -> List W -> FR) : Den W :=
 (dNotV (dVar 0))
noncomputable def d_form_from (K : PySem.W.Frag) (a : Adr) (r : Nat -> List W -> FR) : List S -> SR :=
 (dSeq (dIfS (dTru (dCall (r i_is_one_truth) (dCons (dVar 0) dNil)))
  (dRet (dTup (dCons (dC (.str "is")) (dCons (dOp ixW (dVar 0) (dC (.int 0))) dNil))))
  dNx)
  (dSeq (dSet 2 (dOp fdivW (dFn len1 (dCons (dVar 0) dNil)) (dC (.int 2))))
  (dSeq (dSet 3 (dSl (dVar 0) dNoPart (dPart (dVar 2))))
  (dSeq (dSet 4 (dSl (dVar 0) (dPart (dVar 2)) dNoPart))
  (dSeq (dSet 5 (dCall (r i_form_from) (dCons (dVar 3) (dCons (dOp addX (dVar 1) (dC (.int 1))) dNil))))
  (dSeq (dIfS (dTest (dOp eq2 (dVar 3) (dVar 4)))
  (dRet (dVar 5))
  dNx)
  (dSeq (dIfS (dAnd (dNot (dTru (dCall (r i_is_one_truth) (dCons (dVar 3) dNil)))) (dTest (dOp eq2 (dVar 4) (dFz (dComp [] (dVar 3) dYes (e_form_from_0 K a r))))))
  (dRet (dTup (dCons (dC (.str "odd")) (dCons (dVar 5) (dCons (dTup (dCons (dC (.str "at")) (dCons (dVar 1) dNil))) dNil)))))
  dNx)
  (dRet (dCall (r i_chosen) (dCons (dVar 1) (dCons (dVar 5) (dCons (dCall (r i_form_from) (dCons (dVar 4) (dCons (dOp addX (dVar 1) (dC (.int 1))) dNil))) dNil))))))))))))
noncomputable def e_is_one_truth_0 (K : PySem.W.Frag) (a : Adr) (r : Nat -> List W -> FR) : Den W :=
 (dOp eq2 (dVar 0) (dOp ixW (dVar 1) (dC (.int 0))))
noncomputable def d_is_one_truth (K : PySem.W.Frag) (a : Adr) (r : Nat -> List W -> FR) : List S -> SR :=
 (dRet (dFn all1 (dCons (dFz (dComp [0] (dVar 0) dYes (e_is_one_truth_0 K a r))) dNil)))
noncomputable def d__law_cell_at (K : PySem.W.Frag) (a : Adr) (r : Nat -> List W -> FR) : List S -> SR :=
 (dSeq (dIfS (dTest (dOp ltW (dVar 1) (dFn len1 (dCons (dVar 0) dNil))))
  (dRet (dOp ixW (dVar 0) (dVar 1)))
  dNx)
  (dRet (dC (.int 0))))
noncomputable def d__law_whole (K : PySem.W.Frag) (a : Adr) (r : Nat -> List W -> FR) : List S -> SR :=
 (dRet (dAndV (dIsi K (.type "int") (dVar 0)) (dNotV (dIsi K (.type "bool") (dVar 0)))))
noncomputable def d__law_mixed (K : PySem.W.Frag) (a : Adr) (r : Nat -> List W -> FR) : List S -> SR :=
 (dSeq (dSet 3 (dFz (dLst (dCons (dC (.int 99991)) (dCons (dC (.int 99989)) (dCons (dC (.int 99971)) (dCons (dC (.int 99961)) (dCons (dC (.int 99929)) (dCons (dC (.int 99923)) (dCons (dC (.int 99907)) (dCons (dC (.int 99901)) (dCons (dC (.int 99881)) (dCons (dC (.int 99877)) (dCons (dC (.int 99871)) dNil))))))))))))))
  (dSeq (dSet 4 (dOp modW (dOp mulW (dOp addX (dVar 0) (dOp mulW (dC (.int 7)) (dVar 1))) (dC (.int 48271))) (dOp ixW (dVar 3) (dOp modW (dVar 1) (dC (.int 11))))))
  (dRet (dOp modW (dOp modW (dOp addX (dOp addX (dOp mulW (dOp mulW (dVar 4) (dVar 4)) (dC (.int 7))) (dVar 4)) (dVar 1)) (dC (.int 1000003))) (dVar 2)))))
noncomputable def d__law_class (K : PySem.W.Frag) (a : Adr) (r : Nat -> List W -> FR) : List S -> SR :=
 (dSeq (dSetO 1 (dLst dNil))
  (dSeq (dIfS (dTru (dIsi K (.ref a.NoPlace) (dVar 0)))
  (dApp 1 (dCons (dC (.str "place")) dNil))
  dNx)
  (dSeq (dIfS (dTru (dIsi K (.ref a.NoName) (dVar 0)))
  (dApp 1 (dCons (dC (.str "name")) dNil))
  dNx)
  (dSeq (dIfS (dTru (dIsi K (.ref a.BadText) (dVar 0)))
  (dApp 1 (dCons (dC (.str "text")) dNil))
  dNx)
  (dSeq (dIfS (dTru (dIsi K (.ref a.NoRow) (dVar 0)))
  (dApp 1 (dCons (dC (.str "row")) dNil))
  dNx)
  (dSeq (dIfS (dTru (dIsi K (.ref a.NoTable) (dVar 0)))
  (dApp 1 (dCons (dC (.str "table")) dNil))
  dNx)
  (dSeq (dIfS (dTru (dIsi K (.ref a.UnlikeSizes) (dVar 0)))
  (dApp 1 (dCons (dC (.str "sizes")) dNil))
  dNx)
  (dSeq (dIfS (dOr (dTru (dIsi K (.ref a.TooGreat) (dVar 0))) (dOr (dTru (dIsi K (.ref a.NoMachine) (dVar 0))) (dTru (dIsi K (.ref a.BadSheet) (dVar 0)))))
  (dApp 1 (dCons (dC (.str "other")) dNil))
  dNx)
  (dSeq (dIfS (dAnd (dBorrowT (dTest (dOp eq2 (dFnV 1 len1) (dC (.int 1))))) (dTru (dIsi K (.type "ValueError") (dVar 0))))
  (dRet (dIxV 1 (dC (.int 0))))
  dNx)
  (dRet (dC (.str "other"))))))))))))
noncomputable def l__law_count_0 (K : PySem.W.Frag) (a : Adr) (r : Nat -> List W -> FR) : List S -> SR :=
 (dSet 1 (dOp mulW (dC (.int 2)) (dVar 1)))
noncomputable def d__law_count (K : PySem.W.Frag) (a : Adr) (r : Nat -> List W -> FR) : List S -> SR :=
 (dSeq (dSet 1 (dC (.int 1)))
  (dSeq (dForR 2 rng1 (dCons (dVar 0) dNil)
  (l__law_count_0 K a r))
  (dRet (dVar 1))))
noncomputable def l__law_row_of_0 (K : PySem.W.Frag) (a : Adr) (r : Nat -> List W -> FR) : List S -> SR :=
 (dApp 2 (dCons (dOp eq2 (dOp modW (dOp fdivW (dVar 0) (dCall (r i__law_count) (dCons (dOp subW (dOp subW (dVar 1) (dC (.int 1))) (dVar 3)) dNil))) (dC (.int 2))) (dC (.int 1))) dNil))
noncomputable def d__law_row_of (K : PySem.W.Frag) (a : Adr) (r : Nat -> List W -> FR) : List S -> SR :=
 (dSeq (dSetO 2 (dLst dNil))
  (dSeq (dForR 3 rng1 (dCons (dVar 1) dNil)
  (l__law_row_of_0 K a r))
  (dRet (dFn tup1 (dCons (dVar 2) dNil)))))
noncomputable def l__law_table_by_0 (K : PySem.W.Frag) (a : Adr) (r : Nat -> List W -> FR) : List S -> SR :=
 (dIfS (dTest (dOp eq2 (dFn len1 (dCons (dVar 0) dNil)) (dC (.int 0))))
  (dApp 2 (dCons (dC (.bl false)) dNil))
  (dIfS (dTest (dOp ltW (dVar 3) (dFn len1 (dCons (dVar 0) dNil))))
  (dApp 2 (dCons (dOp eq2 (dOp modW (dOp ixW (dVar 0) (dVar 3)) (dC (.int 2))) (dC (.int 1))) dNil))
  (dApp 2 (dCons (dOp eq2 (dCall (r i__law_mixed) (dCons (dOp addX (dOp ixW (dVar 0) (dOp modW (dVar 3) (dFn len1 (dCons (dVar 0) dNil)))) (dVar 3)) (dCons (dC (.int 6)) (dCons (dC (.int 2)) dNil)))) (dC (.int 1))) dNil))))
noncomputable def d__law_table_by (K : PySem.W.Frag) (a : Adr) (r : Nat -> List W -> FR) : List S -> SR :=
 (dSeq (dSetO 2 (dLst dNil))
  (dSeq (dForR 3 rng1 (dCons (dCall (r i__law_count) (dCons (dVar 1) dNil)) dNil)
  (l__law_table_by_0 K a r))
  (dRetO 2)))
noncomputable def d__law_is_form (K : PySem.W.Frag) (a : Adr) (r : Nat -> List W -> FR) : List S -> SR :=
 (dSeq (dIfS (dOr (dNot (dTru (dIsi K (.type "tuple") (dVar 0)))) (dOr (dTest (dOp ltW (dFn len1 (dCons (dVar 0) dNil)) (dC (.int 2)))) (dOr (dTest (dOp gtW (dVar 1) (dC (.int 60)))) (dNot (dTru (dIsi K (.type "str") (dOp ixW (dVar 0) (dC (.int 0)))))))))
  (dRet (dC (.bl false)))
  dNx)
  (dSeq (dIfS (dTest (dOp eq2 (dOp ixW (dVar 0) (dC (.int 0))) (dC (.str "is"))))
  (dRet (dAndV (dOp eq2 (dFn len1 (dCons (dVar 0) dNil)) (dC (.int 2))) (dIsi K (.type "bool") (dOp ixW (dVar 0) (dC (.int 1))))))
  dNx)
  (dSeq (dIfS (dTest (dOp eq2 (dOp ixW (dVar 0) (dC (.int 0))) (dC (.str "at"))))
  (dRet (dAndV (dOp eq2 (dFn len1 (dCons (dVar 0) dNil)) (dC (.int 2))) (dAndV (dCall (r i__law_whole) (dCons (dOp ixW (dVar 0) (dC (.int 1))) dNil)) (dOp leW (dC (.int 0)) (dOp ixW (dVar 0) (dC (.int 1)))))))
  dNx)
  (dSeq (dIfS (dTest (dOp eq2 (dOp ixW (dVar 0) (dC (.int 0))) (dC (.str "not"))))
  (dRet (dAndV (dOp eq2 (dFn len1 (dCons (dVar 0) dNil)) (dC (.int 2))) (dCall (r i__law_is_form) (dCons (dOp ixW (dVar 0) (dC (.int 1))) (dCons (dOp addX (dVar 1) (dC (.int 1))) dNil)))))
  dNx)
  (dSeq (dIfS (dOr (dTest (dOp ninW (dOp ixW (dVar 0) (dC (.int 0))) (dFz (dLst (dCons (dC (.str "and")) (dCons (dC (.str "or")) (dCons (dC (.str "odd")) dNil))))))) (dTest (dOp ne2 (dFn len1 (dCons (dVar 0) dNil)) (dC (.int 3)))))
  (dRet (dC (.bl false)))
  dNx)
  (dRet (dAndV (dCall (r i__law_is_form) (dCons (dOp ixW (dVar 0) (dC (.int 1))) (dCons (dOp addX (dVar 1) (dC (.int 1))) dNil))) (dCall (r i__law_is_form) (dCons (dOp ixW (dVar 0) (dC (.int 2))) (dCons (dOp addX (dVar 1) (dC (.int 1))) dNil))))))))))
noncomputable def d__law_truth (K : PySem.W.Frag) (a : Adr) (r : Nat -> List W -> FR) : List S -> SR :=
 (dSeq (dIfS (dTest (dOp eq2 (dOp ixW (dVar 0) (dC (.int 0))) (dC (.str "is"))))
  (dRet (dOp ixW (dVar 0) (dC (.int 1))))
  dNx)
  (dSeq (dIfS (dTest (dOp eq2 (dOp ixW (dVar 0) (dC (.int 0))) (dC (.str "at"))))
  (dRet (dOp ixW (dVar 1) (dOp ixW (dVar 0) (dC (.int 1)))))
  dNx)
  (dSeq (dSet 2 (dCall (r i__law_truth) (dCons (dOp ixW (dVar 0) (dC (.int 1))) (dCons (dVar 1) dNil))))
  (dSeq (dIfS (dTest (dOp eq2 (dOp ixW (dVar 0) (dC (.int 0))) (dC (.str "not"))))
  (dRet (dNotV (dVar 2)))
  dNx)
  (dSeq (dIfS (dOr (dAnd (dTest (dOp eq2 (dOp ixW (dVar 0) (dC (.int 0))) (dC (.str "and")))) (dNot (dTru (dVar 2)))) (dAnd (dTest (dOp eq2 (dOp ixW (dVar 0) (dC (.int 0))) (dC (.str "or")))) (dTru (dVar 2))))
  (dRet (dVar 2))
  dNx)
  (dSeq (dSet 3 (dCall (r i__law_truth) (dCons (dOp ixW (dVar 0) (dC (.int 2))) (dCons (dVar 1) dNil))))
  (dSeq (dIfS (dTest (dOp eq2 (dOp ixW (dVar 0) (dC (.int 0))) (dC (.str "odd"))))
  (dRet (dOp ne2 (dVar 2) (dVar 3)))
  dNx)
  (dRet (dVar 3)))))))))
noncomputable def e__law_size_0 (K : PySem.W.Frag) (a : Adr) (r : Nat -> List W -> FR) : Den W :=
 (dCall (r i__law_size) (dCons (dVar 0) dNil))
noncomputable def d__law_size (K : PySem.W.Frag) (a : Adr) (r : Nat -> List W -> FR) : List S -> SR :=
 (dSeq (dIfS (dTest (dOp inW (dOp ixW (dVar 0) (dC (.int 0))) (dFz (dLst (dCons (dC (.str "is")) (dCons (dC (.str "at")) dNil))))))
  (dRet (dC (.int 1)))
  dNx)
  (dRet (dOp addX (dC (.int 1)) (dFn sum1 (dCons (dFz (dComp [] (dSl (dVar 0) (dPart (dC (.int 1))) dNoPart) dYes (e__law_size_0 K a r))) dNil)))))
noncomputable def d__law_places (K : PySem.W.Frag) (a : Adr) (r : Nat -> List W -> FR) : List S -> SR :=
 (dSeq (dIfS (dTest (dOp eq2 (dOp ixW (dVar 0) (dC (.int 0))) (dC (.str "is"))))
  (dRetF (dLst dNil))
  dNx)
  (dSeq (dIfS (dTest (dOp eq2 (dOp ixW (dVar 0) (dC (.int 0))) (dC (.str "at"))))
  (dRetF (dLst (dCons (dOp ixW (dVar 0) (dC (.int 1))) dNil)))
  dNx)
  (dSeq (dSet 1 (dCall (r i__law_places) (dCons (dOp ixW (dVar 0) (dC (.int 1))) dNil)))
  (dSeq (dIfS (dTest (dOp ne2 (dOp ixW (dVar 0) (dC (.int 0))) (dC (.str "not"))))
  (dSet 1 (dOp addX (dVar 1) (dCall (r i__law_places) (dCons (dOp ixW (dVar 0) (dC (.int 2))) dNil))))
  dNx)
  (dRetF (dSS (dCons (dVar 1) dNil)))))))
noncomputable def d__law_open (K : PySem.W.Frag) (a : Adr) (r : Nat -> List W -> FR) : List S -> SR :=
 (dSeq (dSet 2 (dMeth "list" indexW (dFz (dLst (dCons (dC (.str "or")) (dCons (dC (.str "odd")) (dCons (dC (.str "and")) (dCons (dC (.str "not")) (dCons (dC (.str "is")) (dCons (dC (.str "at")) dNil)))))))) (dCons (dOp ixW (dVar 0) (dC (.int 0))) dNil)))
  (dSeq (dIfS (dTest (dOp gtW (dVar 2) (dC (.int 3))))
  (dRet (dC (.int 0)))
  dNx)
  (dSeq (dSet 3 (dC (.int 0)))
  (dSeq (dIfS (dTest (dOp ltW (dVar 2) (dC (.int 3))))
  (dSet 3 (dFn max2 (dCons (dCall (r i__law_open) (dCons (dOp ixW (dVar 0) (dC (.int 1))) (dCons (dVar 2) dNil))) (dCons (dCall (r i__law_open) (dCons (dOp ixW (dVar 0) (dC (.int 2))) (dCons (dOp addX (dVar 2) (dC (.int 1))) dNil))) dNil))))
  (dSet 3 (dCall (r i__law_open) (dCons (dOp ixW (dVar 0) (dC (.int 1))) (dCons (dC (.int 3)) dNil)))))
  (dRet (dOp addX (dVar 3) (dFn int1 (dCons (dOp ltW (dVar 2) (dVar 1)) dNil))))))))
noncomputable def d__law_refused (K : PySem.W.Frag) (a : Adr) (r : Nat -> List W -> FR) : List S -> SR :=
 (dSeq (dTry K a.CircuitError 1 2
  (dDrop (dCall (r i_form_of_table) (dCons (dVar 0) dNil)))
  (dRet (dOp eq2 (dCallH (r i__law_class) (dCons (dVar 1) dNil)) (dC (.str "table")))))
  (dRet (dC (.bl false))))
noncomputable def e__law_right_0 (K : PySem.W.Frag) (a : Adr) (r : Nat -> List W -> FR) : Den W :=
 (dOp eq2 (dCall (r i__law_truth) (dCons (dVar 3) (dCons (dCall (r i__law_row_of) (dCons (dVar 0) (dCons (dVar 2) dNil))) dNil))) (dOp ixW (dVar 1) (dVar 0)))
noncomputable def e__law_right_1 (K : PySem.W.Frag) (a : Adr) (r : Nat -> List W -> FR) : Den W :=
 (dCall (r i__law_mixed) (dCons (dOp addX (dVar 2) (dOp fdivW (dVar 0) (dC (.int 11)))) (dCons (dVar 0) (dCons (dFn len1 (dCons (dVar 1) dNil)) dNil))))
noncomputable def e__law_right_2 (K : PySem.W.Frag) (a : Adr) (r : Nat -> List W -> FR) : Den W :=
 (dOp ne2 (dOp ixW (dVar 1) (dVar 0)) (dOp ixW (dVar 1) (dOp addX (dVar 0) (dVar 2))))
noncomputable def t__law_right_0 (K : PySem.W.Frag) (a : Adr) (r : Nat -> List W -> FR) : Den Bool :=
 (dTest (dOp eq2 (dOp modW (dOp fdivW (dVar 0) (dVar 2)) (dC (.int 2))) (dC (.int 0))))
noncomputable def l__law_right_0 (K : PySem.W.Frag) (a : Adr) (r : Nat -> List W -> FR) : List S -> SR :=
 (dSeq (dSet 6 (dCall (r i__law_count) (dCons (dOp subW (dOp subW (dVar 1) (dC (.int 1))) (dVar 5)) dNil)))
  (dIfS (dTru (dFn any1 (dCons (dFz (dCompR rng1 [0, 6] (dCons (dFn len1 (dCons (dVar 0) dNil)) dNil) (t__law_right_0 K a r) (e__law_right_2 K a r))) dNil)))
  (dApp 4 (dCons (dVar 5) dNil))
  dNx))
noncomputable def d__law_right (K : PySem.W.Frag) (a : Adr) (r : Nat -> List W -> FR) : List S -> SR :=
 (dSeq (dIfS (dOr (dNot (dTru (dCall (r i__law_is_form) (dCons (dVar 2) (dCons (dC (.int 1)) dNil))))) (dAnd (dTest (dOp ltW (dVar 1) (dC (.int 8)))) (dTest (dOp gtW (dCall (r i__law_size) (dCons (dVar 2) dNil)) (dC (.int 1000))))))
  (dRet (dC (.bl false)))
  dNx)
  (dSeq (dSetO 4 (dLst dNil))
  (dSeq (dForR 5 rng1 (dCons (dVar 1) dNil)
  (l__law_right_0 K a r))
  (dSeq (dIfS (dOr (dBorrowT (dTest (dOp ne2 (dCall (r i__law_places) (dCons (dVar 2) dNil)) (dVar 4)))) (dTest (dOp gtW (dCall (r i__law_open) (dCons (dVar 2) (dCons (dC (.int 0)) dNil))) (dVar 1))))
  (dRet (dC (.bl false)))
  dNx)
  (dSeq (dSet 7 (dFz (dListR (dCons (dFn len1 (dCons (dVar 0) dNil)) dNil))))
  (dSeq (dIfS (dTest (dOp gtW (dVar 1) (dC (.int 5))))
  (dSet 7 (dFz (dCompR rng1 [0, 3] (dCons (dC (.int 30)) dNil) dYes (e__law_right_1 K a r))))
  dNx)
  (dRet (dFn all1 (dCons (dFz (dComp [0, 1, 2] (dVar 7) dYes (e__law_right_0 K a r))) dNil)))))))))
noncomputable def e_law_0 (K : PySem.W.Frag) (a : Adr) (r : Nat -> List W -> FR) : Den W :=
 (dOp ixW (dVar 1) (dOp subW (dVar 0) (dOp mulW (dOp modW (dOp fdivW (dVar 0) (dVar 2)) (dC (.int 2))) (dVar 2))))
noncomputable def d_law (K : PySem.W.Frag) (a : Adr) (r : Nat -> List W -> FR) : List S -> SR :=
 (dSeq (dSet 1 (dCall (r i__law_cell_at) (dCons (dVar 0) (dCons (dC (.int 0)) dNil))))
  (dSeq (dSet 2 (dCall (r i__law_cell_at) (dCons (dVar 0) (dCons (dC (.int 1)) dNil))))
  (dSeq (dSet 3 (dOp ixW (dFz (dLst (dCons (dC (.int 0)) (dCons (dC (.int 1)) (dCons (dC (.int 2)) (dCons (dC (.int 3)) (dCons (dC (.int 4)) (dCons (dC (.int 2)) (dCons (dC (.int 3)) (dCons (dC (.int 5)) dNil)))))))))) (dOp modW (dVar 1) (dC (.int 8)))))
  (dSeq (dIfS (dTest (dOp eq2 (dOp modW (dOp fdivW (dVar 1) (dC (.int 8))) (dC (.int 3))) (dC (.int 1))))
  (dSet 3 (dOp addX (dC (.int 6)) (dOp ixW (dFz (dLst (dCons (dC (.int 0)) (dCons (dC (.int 1)) (dCons (dC (.int 1)) (dCons (dC (.int 0)) (dCons (dC (.int 2)) (dCons (dC (.int 0)) (dCons (dC (.int 1)) (dCons (dC (.int 4)) dNil)))))))))) (dOp modW (dOp fdivW (dVar 1) (dC (.int 24))) (dC (.int 8))))))
  dNx)
  (dSeq (dSet 4 (dCall (r i__law_table_by) (dCons (dSl (dVar 0) (dPart (dC (.int 2))) dNoPart) (dCons (dVar 3) dNil))))
  (dSeq (dIfS (dAnd (dTest (dOp eq2 (dOp modW (dVar 2) (dC (.int 2))) (dC (.int 1)))) (dTest (dOp gtW (dVar 3) (dC (.int 0)))))
  (dSeq (dSet 5 (dCall (r i__law_count) (dCons (dCall (r i__law_mixed) (dCons (dVar 2) (dCons (dC (.int 1)) (dCons (dVar 3) dNil)))) dNil)))
  (dSet 4 (dFz (dCompR rng1 [4, 5] (dCons (dFn len1 (dCons (dVar 4) dNil)) dNil) dYes (e_law_0 K a r)))))
  dNx)
  (dSeq (dIfS (dTest (dOp eq2 (dOp modW (dOp fdivW (dVar 2) (dC (.int 2))) (dC (.int 6))) (dC (.int 1))))
  (dSeq (dSet 4 (dSl (dOp addX (dVar 4) (dOp repW (dFz (dLst (dCons (dC (.bl true)) dNil))) (dC (.int 2048)))) dNoPart (dPart (dOp ixW (dFz (dLst (dCons (dC (.int 0)) (dCons (dC (.int 3)) (dCons (dOp mulW (dFn len1 (dCons (dVar 4) dNil)) (dC (.int 3))) (dCons (dC (.int 2048)) dNil)))))) (dOp modW (dOp fdivW (dVar 2) (dC (.int 12))) (dC (.int 4)))))))
  (dRet (dCall (r i__law_refused) (dCons (dVar 4) dNil))))
  dNx)
  (dSeq (dSetO 6 (dList (dCons (dVar 4) dNil)))
  (dSeq (dIfS (dOr (dNot (dTru (dBorrow (dCall (r i__law_right) (dCons (dVar 4) (dCons (dVar 3) (dCons (dCall (r i_form_of_table) (dCons (dVar 6) dNil)) (dCons (dVar 1) dNil)))))))) (dBorrowT (dTest (dOp ne2 (dVar 6) (dVar 4)))))
  (dRet (dC (.bl false)))
  dNx)
  (dSeq (dPut 6 (dNotV (dOp ixW (dVar 4) (dOp subW (dFn len1 (dCons (dVar 4) dNil)) (dC (.int 1))))) (dOp subW (dFn len1 (dCons (dVar 4) dNil)) (dC (.int 1))))
  (dSeq (dIfS (dNot (dTru (dBorrow (dCall (r i__law_right) (dCons (dVar 6) (dCons (dVar 3) (dCons (dCall (r i_form_of_table) (dCons (dVar 6) dNil)) (dCons (dVar 1) dNil))))))))
  (dRet (dC (.bl false)))
  dNx)
  (dRet (dCall (r i__law_right) (dCons (dVar 4) (dCons (dVar 3) (dCons (dCall (r i_form_of_table) (dCons (dFz (dList (dCons (dVar 4) dNil))) dNil)) (dCons (dVar 1) dNil)))))))))))))))))
noncomputable def body (K : PySem.W.Frag) (a : Adr) (r : Nat -> List W -> FR) (ws : List W) : Nat -> FR
 | 0 => if ws.length = 1 then (d_eased_not K a r (init 1 ws)).fn else .no
 | 1 => if ws.length = 3 then (d_eased K a r (init 3 ws)).fn else .no
 | 2 => if ws.length = 3 then (d_with_truth K a r (init 3 ws)).fn else .no
 | 3 => if ws.length = 3 then (d_chosen K a r (init 4 ws)).fn else .no
 | 4 => if ws.length = 1 then (d_rows_many K a r (init 3 ws)).fn else .no
 | 5 => if ws.length = 1 then (d_places_of K a r (init 2 ws)).fn else .no
 | 6 => if ws.length = 1 then (d_form_of_table K a r (init 1 ws)).fn else .no
 | 7 => if ws.length = 2 then (d_form_from K a r (init 6 ws)).fn else .no
 | 8 => if ws.length = 1 then (d_is_one_truth K a r (init 1 ws)).fn else .no
 | 9 => if ws.length = 2 then (d__law_cell_at K a r (init 2 ws)).fn else .no
 | 10 => if ws.length = 1 then (d__law_whole K a r (init 1 ws)).fn else .no
 | 11 => if ws.length = 3 then (d__law_mixed K a r (init 5 ws)).fn else .no
 | 12 => if ws.length = 1 then (d__law_class K a r (init 2 ws)).fn else .no
 | 13 => if ws.length = 1 then (d__law_count K a r (init 3 ws)).fn else .no
 | 14 => if ws.length = 2 then (d__law_row_of K a r (init 4 ws)).fn else .no
 | 15 => if ws.length = 2 then (d__law_table_by K a r (init 4 ws)).fn else .no
 | 16 => if ws.length = 2 then (d__law_is_form K a r (init 2 ws)).fn else .no
 | 17 => if ws.length = 2 then (d__law_truth K a r (init 4 ws)).fn else .no
 | 18 => if ws.length = 1 then (d__law_size K a r (init 1 ws)).fn else .no
 | 19 => if ws.length = 1 then (d__law_places K a r (init 2 ws)).fn else .no
 | 20 => if ws.length = 2 then (d__law_open K a r (init 4 ws)).fn else .no
 | 21 => if ws.length = 1 then (d__law_refused K a r (init 2 ws)).fn else .no
 | 22 => if ws.length = 4 then (d__law_right K a r (init 8 ws)).fn else .no
 | 23 => if ws.length = 1 then (d_law K a r (init 7 ws)).fn else .no
 | _ => .no
noncomputable def run (K : PySem.W.Frag) (a : Adr) : Nat -> Nat -> List W -> FR
 | 0, _, _ => .no
 | n + 1, i, ws => body K a (run K a n) ws i
theorem run_eased_not {K : PySem.W.Frag} {a : Adr} {n : Nat} {ws : List W} : run K a (n + 1) i_eased_not ws = if ws.length = 1 then (d_eased_not K a (run K a n) (init 1 ws)).fn else .no := rfl
theorem run_eased {K : PySem.W.Frag} {a : Adr} {n : Nat} {ws : List W} : run K a (n + 1) i_eased ws = if ws.length = 3 then (d_eased K a (run K a n) (init 3 ws)).fn else .no := rfl
theorem run_with_truth {K : PySem.W.Frag} {a : Adr} {n : Nat} {ws : List W} : run K a (n + 1) i_with_truth ws = if ws.length = 3 then (d_with_truth K a (run K a n) (init 3 ws)).fn else .no := rfl
theorem run_chosen {K : PySem.W.Frag} {a : Adr} {n : Nat} {ws : List W} : run K a (n + 1) i_chosen ws = if ws.length = 3 then (d_chosen K a (run K a n) (init 4 ws)).fn else .no := rfl
theorem run_rows_many {K : PySem.W.Frag} {a : Adr} {n : Nat} {ws : List W} : run K a (n + 1) i_rows_many ws = if ws.length = 1 then (d_rows_many K a (run K a n) (init 3 ws)).fn else .no := rfl
theorem run_places_of {K : PySem.W.Frag} {a : Adr} {n : Nat} {ws : List W} : run K a (n + 1) i_places_of ws = if ws.length = 1 then (d_places_of K a (run K a n) (init 2 ws)).fn else .no := rfl
theorem run_form_of_table {K : PySem.W.Frag} {a : Adr} {n : Nat} {ws : List W} : run K a (n + 1) i_form_of_table ws = if ws.length = 1 then (d_form_of_table K a (run K a n) (init 1 ws)).fn else .no := rfl
theorem run_form_from {K : PySem.W.Frag} {a : Adr} {n : Nat} {ws : List W} : run K a (n + 1) i_form_from ws = if ws.length = 2 then (d_form_from K a (run K a n) (init 6 ws)).fn else .no := rfl
theorem run_is_one_truth {K : PySem.W.Frag} {a : Adr} {n : Nat} {ws : List W} : run K a (n + 1) i_is_one_truth ws = if ws.length = 1 then (d_is_one_truth K a (run K a n) (init 1 ws)).fn else .no := rfl
theorem run__law_cell_at {K : PySem.W.Frag} {a : Adr} {n : Nat} {ws : List W} : run K a (n + 1) i__law_cell_at ws = if ws.length = 2 then (d__law_cell_at K a (run K a n) (init 2 ws)).fn else .no := rfl
theorem run__law_whole {K : PySem.W.Frag} {a : Adr} {n : Nat} {ws : List W} : run K a (n + 1) i__law_whole ws = if ws.length = 1 then (d__law_whole K a (run K a n) (init 1 ws)).fn else .no := rfl
theorem run__law_mixed {K : PySem.W.Frag} {a : Adr} {n : Nat} {ws : List W} : run K a (n + 1) i__law_mixed ws = if ws.length = 3 then (d__law_mixed K a (run K a n) (init 5 ws)).fn else .no := rfl
theorem run__law_class {K : PySem.W.Frag} {a : Adr} {n : Nat} {ws : List W} : run K a (n + 1) i__law_class ws = if ws.length = 1 then (d__law_class K a (run K a n) (init 2 ws)).fn else .no := rfl
theorem run__law_count {K : PySem.W.Frag} {a : Adr} {n : Nat} {ws : List W} : run K a (n + 1) i__law_count ws = if ws.length = 1 then (d__law_count K a (run K a n) (init 3 ws)).fn else .no := rfl
theorem run__law_row_of {K : PySem.W.Frag} {a : Adr} {n : Nat} {ws : List W} : run K a (n + 1) i__law_row_of ws = if ws.length = 2 then (d__law_row_of K a (run K a n) (init 4 ws)).fn else .no := rfl
theorem run__law_table_by {K : PySem.W.Frag} {a : Adr} {n : Nat} {ws : List W} : run K a (n + 1) i__law_table_by ws = if ws.length = 2 then (d__law_table_by K a (run K a n) (init 4 ws)).fn else .no := rfl
theorem run__law_is_form {K : PySem.W.Frag} {a : Adr} {n : Nat} {ws : List W} : run K a (n + 1) i__law_is_form ws = if ws.length = 2 then (d__law_is_form K a (run K a n) (init 2 ws)).fn else .no := rfl
theorem run__law_truth {K : PySem.W.Frag} {a : Adr} {n : Nat} {ws : List W} : run K a (n + 1) i__law_truth ws = if ws.length = 2 then (d__law_truth K a (run K a n) (init 4 ws)).fn else .no := rfl
theorem run__law_size {K : PySem.W.Frag} {a : Adr} {n : Nat} {ws : List W} : run K a (n + 1) i__law_size ws = if ws.length = 1 then (d__law_size K a (run K a n) (init 1 ws)).fn else .no := rfl
theorem run__law_places {K : PySem.W.Frag} {a : Adr} {n : Nat} {ws : List W} : run K a (n + 1) i__law_places ws = if ws.length = 1 then (d__law_places K a (run K a n) (init 2 ws)).fn else .no := rfl
theorem run__law_open {K : PySem.W.Frag} {a : Adr} {n : Nat} {ws : List W} : run K a (n + 1) i__law_open ws = if ws.length = 2 then (d__law_open K a (run K a n) (init 4 ws)).fn else .no := rfl
theorem run__law_refused {K : PySem.W.Frag} {a : Adr} {n : Nat} {ws : List W} : run K a (n + 1) i__law_refused ws = if ws.length = 1 then (d__law_refused K a (run K a n) (init 2 ws)).fn else .no := rfl
theorem run__law_right {K : PySem.W.Frag} {a : Adr} {n : Nat} {ws : List W} : run K a (n + 1) i__law_right ws = if ws.length = 4 then (d__law_right K a (run K a n) (init 8 ws)).fn else .no := rfl
theorem run_law {K : PySem.W.Frag} {a : Adr} {n : Nat} {ws : List W} : run K a (n + 1) i_law ws = if ws.length = 1 then (d_law K a (run K a n) (init 7 ws)).fn else .no := rfl
section
variable {P : Program} {w : World} {K : PySem.W.Frag} {mg : Str -> Option Value} {base : Heap}
structure Ats (K : PySem.W.Frag) (mg : Str -> Option Value) : Prop where
 eased_not : At K mg "eased_not" s_eased_not ["form"]
 eased : At K mg "eased" s_eased ["word", "form", "other"]
 with_truth : At K mg "with_truth" s_with_truth ["word", "truth", "form"]
 chosen : At K mg "chosen" s_chosen ["place", "low", "high"]
 rows_many : At K mg "rows_many" s_rows_many ["many"]
 places_of : At K mg "places_of" s_places_of ["table"]
 form_of_table : At K mg "form_of_table" s_form_of_table ["table"]
 form_from : At K mg "form_from" s_form_from ["truths", "place"]
 is_one_truth : At K mg "is_one_truth" s_is_one_truth ["truths"]
 _law_cell_at : At K mg "_law_cell_at" s__law_cell_at ["_law_script", "_law_k"]
 _law_whole : At K mg "_law_whole" s__law_whole ["_law_found"]
 _law_mixed : At K mg "_law_mixed" s__law_mixed ["_law_cell", "_law_k", "_law_many_here"]
 _law_class : At K mg "_law_class" s__law_class ["_law_e"]
 _law_count : At K mg "_law_count" s__law_count ["_law_many_here"]
 _law_row_of : At K mg "_law_row_of" s__law_row_of ["_law_number", "_law_many_here"]
 _law_table_by : At K mg "_law_table_by" s__law_table_by ["_law_cells", "_law_many_here"]
 _law_is_form : At K mg "_law_is_form" s__law_is_form ["_law_form", "_law_deep"]
 _law_truth : At K mg "_law_truth" s__law_truth ["_law_form", "_law_row"]
 _law_size : At K mg "_law_size" s__law_size ["_law_form"]
 _law_places : At K mg "_law_places" s__law_places ["_law_form"]
 _law_open : At K mg "_law_open" s__law_open ["_law_form", "_law_least"]
 _law_refused : At K mg "_law_refused" s__law_refused ["_law_rows"]
 _law_right : At K mg "_law_right" s__law_right ["_law_rows", "_law_many_here", "_law_form", "_law_cell"]
 law : At K mg "law" s_law ["_law_script"]
structure Cals (P : Program) (w : World) (K : PySem.W.Frag) (mg : Str -> Option Value) (base : Heap) (a : Adr) (n : Nat) : Prop where
 eased_not : Cal P w K mg base n "eased_not" ["form"] (spF K (run K a n i_eased_not))
 eased : Cal P w K mg base n "eased" ["word", "form", "other"] (spF K (run K a n i_eased))
 with_truth : Cal P w K mg base n "with_truth" ["word", "truth", "form"] (spF K (run K a n i_with_truth))
 chosen : Cal P w K mg base n "chosen" ["place", "low", "high"] (spF K (run K a n i_chosen))
 rows_many : Cal P w K mg base n "rows_many" ["many"] (spF K (run K a n i_rows_many))
 places_of : Cal P w K mg base n "places_of" ["table"] (spF K (run K a n i_places_of))
 form_of_table : Cal P w K mg base n "form_of_table" ["table"] (spF K (run K a n i_form_of_table))
 form_from : Cal P w K mg base n "form_from" ["truths", "place"] (spF K (run K a n i_form_from))
 is_one_truth : Cal P w K mg base n "is_one_truth" ["truths"] (spF K (run K a n i_is_one_truth))
 _law_cell_at : Cal P w K mg base n "_law_cell_at" ["_law_script", "_law_k"] (spF K (run K a n i__law_cell_at))
 _law_whole : Cal P w K mg base n "_law_whole" ["_law_found"] (spF K (run K a n i__law_whole))
 _law_mixed : Cal P w K mg base n "_law_mixed" ["_law_cell", "_law_k", "_law_many_here"] (spF K (run K a n i__law_mixed))
 _law_class : Cal P w K mg base n "_law_class" ["_law_e"] (spF K (run K a n i__law_class))
 _law_count : Cal P w K mg base n "_law_count" ["_law_many_here"] (spF K (run K a n i__law_count))
 _law_row_of : Cal P w K mg base n "_law_row_of" ["_law_number", "_law_many_here"] (spF K (run K a n i__law_row_of))
 _law_table_by : Cal P w K mg base n "_law_table_by" ["_law_cells", "_law_many_here"] (spF K (run K a n i__law_table_by))
 _law_is_form : Cal P w K mg base n "_law_is_form" ["_law_form", "_law_deep"] (spF K (run K a n i__law_is_form))
 _law_truth : Cal P w K mg base n "_law_truth" ["_law_form", "_law_row"] (spF K (run K a n i__law_truth))
 _law_size : Cal P w K mg base n "_law_size" ["_law_form"] (spF K (run K a n i__law_size))
 _law_places : Cal P w K mg base n "_law_places" ["_law_form"] (spF K (run K a n i__law_places))
 _law_open : Cal P w K mg base n "_law_open" ["_law_form", "_law_least"] (spF K (run K a n i__law_open))
 _law_refused : Cal P w K mg base n "_law_refused" ["_law_rows"] (spF K (run K a n i__law_refused))
 _law_right : Cal P w K mg base n "_law_right" ["_law_rows", "_law_many_here", "_law_form", "_law_cell"] (spF K (run K a n i__law_right))
 law : Cal P w K mg base n "law" ["_law_script"] (spF K (run K a n i_law))
structure CalsH (P : Program) (w : World) (K : PySem.W.Frag) (mg : Str -> Option Value) (base : Heap) (a : Adr) (n : Nat) : Prop where
 z : True
 _law_class : CalH P w K mg base n "_law_class" ["_law_e"] (spF K (run K a n i__law_class))
theorem okH__law_class {a : Adr} {n : Nat} (A : Ats K mg) (B : Blt mg) (M : Exs K mg a) : CalH P w K mg base (n + 1) "_law_class" ["_law_e"] (spF K (run K a (n + 1) i__law_class)) := by
 refine conH A._law_class sc__law_class (fun ws hw => ?_) (fun ws hw f cdv A outer s H Z hr => ⟨d__law_class K a (run K a n), (dss_cons (ds_own 1 sc__law_class.nd (df_lst da_nil))
  (dss_cons (ds_if (dt_val (de_isi (c0 := .ref _) rfl (cls_own M.m_NoPlace) B.b_isinstance (dv 0)))
  (dss_one (ds_app 1 (da_cons de_str da_nil)))
  dss_nil)
  (dss_cons (ds_if (dt_val (de_isi (c0 := .ref _) rfl (cls_own M.m_NoName) B.b_isinstance (dv 0)))
  (dss_one (ds_app 1 (da_cons de_str da_nil)))
  dss_nil)
  (dss_cons (ds_if (dt_val (de_isi (c0 := .ref _) rfl (cls_own M.m_BadText) B.b_isinstance (dv 0)))
  (dss_one (ds_app 1 (da_cons de_str da_nil)))
  dss_nil)
  (dss_cons (ds_if (dt_val (de_isi (c0 := .ref _) rfl (cls_own M.m_NoRow) B.b_isinstance (dv 0)))
  (dss_one (ds_app 1 (da_cons de_str da_nil)))
  dss_nil)
  (dss_cons (ds_if (dt_val (de_isi (c0 := .ref _) rfl (cls_own M.m_NoTable) B.b_isinstance (dv 0)))
  (dss_one (ds_app 1 (da_cons de_str da_nil)))
  dss_nil)
  (dss_cons (ds_if (dt_val (de_isi (c0 := .ref _) rfl (cls_own M.m_UnlikeSizes) B.b_isinstance (dv 0)))
  (dss_one (ds_app 1 (da_cons de_str da_nil)))
  dss_nil)
  (dss_cons (ds_if (dt_w (dw_or (dt_val (de_isi (c0 := .ref _) rfl (cls_own M.m_TooGreat) B.b_isinstance (dv 0))) (dw_or (dt_val (de_isi (c0 := .ref _) rfl (cls_own M.m_NoMachine) B.b_isinstance (dv 0))) (dw_or1 (dt_val (de_isi (c0 := .ref _) rfl (cls_own M.m_BadSheet) B.b_isinstance (dv 0)))))))
  (dss_one (ds_app 1 (da_cons de_str da_nil)))
  dss_nil)
  (dss_cons (ds_if (dt_w (dw_and (dt_borrow fun _ => (dt_eq (roomH_eq hr) (de_lenV 1 B.b_len) de_int)) (dw_and1 (dt_val (de_isi (c0 := .ty _) rfl (cls_blt PyProof.Rows.Boot.«ValueError» B.b_ValueError) B.b_isinstance (dv 0))))))
  (dss_one (ds_ret (de_ixV 1 de_int)))
  dss_nil)
  (dss_one (ds_ret de_str))))))))))), ?_⟩)
 ·rw [run__law_class] at hw; split at hw
  ·assumption
  ·exact absurd rfl hw
 ·rw [run__law_class] at hw |-; split at hw
  ·rename_i hl; rw [if_pos hl]; rfl
  ·exact absurd rfl hw
theorem b_eased_not {a : Adr} {n : Nat} (B : Blt mg) (M : Exs K mg a) (C : Cals P w K mg base a n) (CH : CalsH P w K mg base a n) {f : Addr} {cdv : Value} {A : Around} {outer : List Env} {s : Shared} {H : Hp} {E : XK} {Z : Zt} (hr : Room n (A.deeper (PyProof.Rows.envOfC "eased_not" (defScope s_eased_not) s.heap.objs.size f cdv))) :
  DSs Z (cxOf (CX1 P w) P w K mg base ["form"] "eased_not" (defScope s_eased_not) f cdv A outer s H E) (fun _ => E) (defBody s_eased_not) (d_eased_not K a (run K a n)) :=
 (dss_cons (ds_if (dt_eq (room_eq hr) (de_ix (dv 0) de_int) de_str)
  (dss_one (ds_ret (de_tup (da_cons de_str (da_cons (de_not (de_ix (dv 0) de_int)) da_nil)))))
  dss_nil)
  (dss_one (ds_ret (de_tup (da_cons de_str (da_cons (dv 0) da_nil))))))
theorem l_eased_not {K : PySem.W.Frag} {a : Adr} {n : Nat} {ws : List W} (h : run K a (n + 1) i_eased_not ws ≠ .no) : ws.length = 1 /\ (d_eased_not K a (run K a n) (init 1 ws)).fn = run K a (n + 1) i_eased_not ws := by
 rw [run_eased_not] at h |-; split at h
 ·rename_i hl; rw [if_pos hl]; exact ⟨hl, rfl⟩
 ·exact absurd rfl h
theorem ok_eased_not {a : Adr} {n : Nat} (B : Blt mg) (M : Exs K mg a) (C : Cals P w K mg base a n) (CH : CalsH P w K mg base a n) (A : Ats K mg) : Cal P w K mg base (n + 1) "eased_not" ["form"] (spF K (run K a (n + 1) i_eased_not)) :=
 con A.eased_not sc_eased_not (fun ws hw => (l_eased_not hw).1) fun ws hw f cdv A outer s H E Z hr => ⟨_, b_eased_not B M C CH hr, (l_eased_not hw).2⟩
theorem b_eased {a : Adr} {n : Nat} (B : Blt mg) (M : Exs K mg a) (C : Cals P w K mg base a n) (CH : CalsH P w K mg base a n) {f : Addr} {cdv : Value} {A : Around} {outer : List Env} {s : Shared} {H : Hp} {E : XK} {Z : Zt} (hr : Room n (A.deeper (PyProof.Rows.envOfC "eased" (defScope s_eased) s.heap.objs.size f cdv))) :
  DSs Z (cxOf (CX1 P w) P w K mg base ["word", "form", "other"] "eased" (defScope s_eased) f cdv A outer s H E) (fun _ => E) (defBody s_eased) (d_eased K a (run K a n)) :=
 (dss_cons (ds_if (dt_eq (room_eq hr) (de_ix (dv 1) de_int) de_str)
  (dss_one (ds_ret (de_cal C.with_truth hr pass1 (da_cons (dv 0) (da_cons (de_ix (dv 1) de_int) (da_cons (dv 2) da_nil))))))
  dss_nil)
  (dss_cons (ds_if (dt_eq (room_eq hr) (de_ix (dv 2) de_int) de_str)
  (dss_one (ds_ret (de_cal C.with_truth hr pass1 (da_cons (dv 0) (da_cons (de_ix (dv 2) de_int) (da_cons (dv 1) da_nil))))))
  dss_nil)
  (dss_one (ds_ret (de_tup (da_cons (dv 0) (da_cons (dv 1) (da_cons (dv 2) da_nil))))))))
theorem l_eased {K : PySem.W.Frag} {a : Adr} {n : Nat} {ws : List W} (h : run K a (n + 1) i_eased ws ≠ .no) : ws.length = 3 /\ (d_eased K a (run K a n) (init 3 ws)).fn = run K a (n + 1) i_eased ws := by
 rw [run_eased] at h |-; split at h
 ·rename_i hl; rw [if_pos hl]; exact ⟨hl, rfl⟩
 ·exact absurd rfl h
theorem ok_eased {a : Adr} {n : Nat} (B : Blt mg) (M : Exs K mg a) (C : Cals P w K mg base a n) (CH : CalsH P w K mg base a n) (A : Ats K mg) : Cal P w K mg base (n + 1) "eased" ["word", "form", "other"] (spF K (run K a (n + 1) i_eased)) :=
 con A.eased sc_eased (fun ws hw => (l_eased hw).1) fun ws hw f cdv A outer s H E Z hr => ⟨_, b_eased B M C CH hr, (l_eased hw).2⟩
theorem b_with_truth {a : Adr} {n : Nat} (B : Blt mg) (M : Exs K mg a) (C : Cals P w K mg base a n) (CH : CalsH P w K mg base a n) {f : Addr} {cdv : Value} {A : Around} {outer : List Env} {s : Shared} {H : Hp} {E : XK} {Z : Zt} (hr : Room n (A.deeper (PyProof.Rows.envOfC "with_truth" (defScope s_with_truth) s.heap.objs.size f cdv))) :
  DSs Z (cxOf (CX1 P w) P w K mg base ["word", "truth", "form"] "with_truth" (defScope s_with_truth) f cdv A outer s H E) (fun _ => E) (defBody s_with_truth) (d_with_truth K a (run K a n)) :=
 (dss_cons (ds_if (dt_eq (room_eq hr) (dv 0) de_str)
  (dss_one (ds_ret (de_if (dt_val (dv 1)) (dv 2) (de_tup (da_cons de_str (da_cons de_bl da_nil))))))
  dss_nil)
  (dss_cons (ds_if (dt_eq (room_eq hr) (dv 0) de_str)
  (dss_one (ds_ret (de_if (dt_val (dv 1)) (de_tup (da_cons de_str (da_cons de_bl da_nil))) (dv 2))))
  dss_nil)
  (dss_one (ds_ret (de_if (dt_val (dv 1)) (de_cal C.eased_not hr pass1 (da_cons (dv 2) da_nil)) (dv 2))))))
theorem l_with_truth {K : PySem.W.Frag} {a : Adr} {n : Nat} {ws : List W} (h : run K a (n + 1) i_with_truth ws ≠ .no) : ws.length = 3 /\ (d_with_truth K a (run K a n) (init 3 ws)).fn = run K a (n + 1) i_with_truth ws := by
 rw [run_with_truth] at h |-; split at h
 ·rename_i hl; rw [if_pos hl]; exact ⟨hl, rfl⟩
 ·exact absurd rfl h
theorem ok_with_truth {a : Adr} {n : Nat} (B : Blt mg) (M : Exs K mg a) (C : Cals P w K mg base a n) (CH : CalsH P w K mg base a n) (A : Ats K mg) : Cal P w K mg base (n + 1) "with_truth" ["word", "truth", "form"] (spF K (run K a (n + 1) i_with_truth)) :=
 con A.with_truth sc_with_truth (fun ws hw => (l_with_truth hw).1) fun ws hw f cdv A outer s H E Z hr => ⟨_, b_with_truth B M C CH hr, (l_with_truth hw).2⟩
theorem b_chosen {a : Adr} {n : Nat} (B : Blt mg) (M : Exs K mg a) (C : Cals P w K mg base a n) (CH : CalsH P w K mg base a n) {f : Addr} {cdv : Value} {A : Around} {outer : List Env} {s : Shared} {H : Hp} {E : XK} {Z : Zt} (hr : Room n (A.deeper (PyProof.Rows.envOfC "chosen" (defScope s_chosen) s.heap.objs.size f cdv))) :
  DSs Z (cxOf (CX1 P w) P w K mg base ["place", "low", "high", "here"] "chosen" (defScope s_chosen) f cdv A outer s H E) (fun _ => E) (defBody s_chosen) (d_chosen K a (run K a n)) :=
 (dss_cons (ds_set 3 sc_chosen.nd (de_tup (da_cons de_str (da_cons (dv 0) da_nil))))
  (dss_cons (ds_if (dt_eq (room_eq hr) (dv 1) (de_tup (da_cons de_str (da_cons de_bl da_nil))))
  (dss_one (ds_ret (de_cal C.eased hr pass1 (da_cons de_str (da_cons (de_tup (da_cons de_str (da_cons (dv 3) da_nil))) (da_cons (dv 2) da_nil))))))
  dss_nil)
  (dss_cons (ds_if (dt_eq (room_eq hr) (dv 2) (de_tup (da_cons de_str (da_cons de_bl da_nil))))
  (dss_one (ds_ret (de_cal C.eased hr pass1 (da_cons de_str (da_cons (dv 3) (da_cons (dv 1) da_nil))))))
  dss_nil)
  (dss_one (ds_ret (de_cal C.eased hr pass1 (da_cons de_str (da_cons (de_cal C.eased hr pass1 (da_cons de_str (da_cons (de_tup (da_cons de_str (da_cons (dv 3) da_nil))) (da_cons (dv 1) da_nil)))) (da_cons (de_cal C.eased hr pass1 (da_cons de_str (da_cons (dv 3) (da_cons (dv 2) da_nil)))) da_nil)))))))))
theorem l_chosen {K : PySem.W.Frag} {a : Adr} {n : Nat} {ws : List W} (h : run K a (n + 1) i_chosen ws ≠ .no) : ws.length = 3 /\ (d_chosen K a (run K a n) (init 4 ws)).fn = run K a (n + 1) i_chosen ws := by
 rw [run_chosen] at h |-; split at h
 ·rename_i hl; rw [if_pos hl]; exact ⟨hl, rfl⟩
 ·exact absurd rfl h
theorem ok_chosen {a : Adr} {n : Nat} (B : Blt mg) (M : Exs K mg a) (C : Cals P w K mg base a n) (CH : CalsH P w K mg base a n) (A : Ats K mg) : Cal P w K mg base (n + 1) "chosen" ["place", "low", "high"] (spF K (run K a (n + 1) i_chosen)) :=
 con A.chosen sc_chosen (fun ws hw => (l_chosen hw).1) fun ws hw f cdv A outer s H E Z hr => ⟨_, b_chosen B M C CH hr, (l_chosen hw).2⟩
theorem b_rows_many {a : Adr} {n : Nat} (B : Blt mg) (M : Exs K mg a) (C : Cals P w K mg base a n) (CH : CalsH P w K mg base a n) {f : Addr} {cdv : Value} {A : Around} {outer : List Env} {s : Shared} {H : Hp} {E : XK} {Z : Zt} (hr : Room n (A.deeper (PyProof.Rows.envOfC "rows_many" (defScope s_rows_many) s.heap.objs.size f cdv))) :
  DSs Z (cxOf (CX1 P w) P w K mg base ["many", "count", "place"] "rows_many" (defScope s_rows_many) f cdv A outer s H E) (fun _ => E) (defBody s_rows_many) (d_rows_many K a (run K a n)) :=
 (dss_cons (ds_set 1 sc_rows_many.nd de_int)
  (dss_cons (ds_for1 2 sc_rows_many.nd PassesOwn.leaving rfl B.b_range (da_cons (dv 0) da_nil)
  (dss_one (ds_set 1 sc_rows_many.nd (de_mul de_int (dv 1)))))
  (dss_one (ds_ret (dv 1)))))
theorem l_rows_many {K : PySem.W.Frag} {a : Adr} {n : Nat} {ws : List W} (h : run K a (n + 1) i_rows_many ws ≠ .no) : ws.length = 1 /\ (d_rows_many K a (run K a n) (init 3 ws)).fn = run K a (n + 1) i_rows_many ws := by
 rw [run_rows_many] at h |-; split at h
 ·rename_i hl; rw [if_pos hl]; exact ⟨hl, rfl⟩
 ·exact absurd rfl h
theorem ok_rows_many {a : Adr} {n : Nat} (B : Blt mg) (M : Exs K mg a) (C : Cals P w K mg base a n) (CH : CalsH P w K mg base a n) (A : Ats K mg) : Cal P w K mg base (n + 1) "rows_many" ["many"] (spF K (run K a (n + 1) i_rows_many)) :=
 con A.rows_many sc_rows_many (fun ws hw => (l_rows_many hw).1) fun ws hw f cdv A outer s H E Z hr => ⟨_, b_rows_many B M C CH hr, (l_rows_many hw).2⟩
theorem b_places_of {a : Adr} {n : Nat} (B : Blt mg) (M : Exs K mg a) (C : Cals P w K mg base a n) (CH : CalsH P w K mg base a n) {f : Addr} {cdv : Value} {A : Around} {outer : List Env} {s : Shared} {H : Hp} {E : XK} {Z : Zt} (hr : Room n (A.deeper (PyProof.Rows.envOfC "places_of" (defScope s_places_of) s.heap.objs.size f cdv))) :
  DSs Z (cxOf (CX1 P w) P w K mg base ["table", "many"] "places_of" (defScope s_places_of) f cdv A outer s H E) (fun _ => E) (defBody s_places_of) (d_places_of K a (run K a n)) :=
 (dss_cons (ds_for1 1 sc_places_of.nd PassesOwn.leaving rfl B.b_range (da_cons (de_addX (de_con M.m_MOST_PLACES M.g_MOST_PLACES) de_int) da_nil)
  (dss_one (ds_if (dt_eq (room_eq hr) (de_len B.b_len (da_cons (dv 0) da_nil)) (de_cal C.rows_many hr pass1 (da_cons (dv 1) da_nil)))
  (dss_one (ds_ret (dv 1)))
  dss_nil)))
  (dss_one (ds_raise rais1 M.e_NoTable M.m_NoTable rfl (da_cons de_str da_nil))))
theorem l_places_of {K : PySem.W.Frag} {a : Adr} {n : Nat} {ws : List W} (h : run K a (n + 1) i_places_of ws ≠ .no) : ws.length = 1 /\ (d_places_of K a (run K a n) (init 2 ws)).fn = run K a (n + 1) i_places_of ws := by
 rw [run_places_of] at h |-; split at h
 ·rename_i hl; rw [if_pos hl]; exact ⟨hl, rfl⟩
 ·exact absurd rfl h
theorem ok_places_of {a : Adr} {n : Nat} (B : Blt mg) (M : Exs K mg a) (C : Cals P w K mg base a n) (CH : CalsH P w K mg base a n) (A : Ats K mg) : Cal P w K mg base (n + 1) "places_of" ["table"] (spF K (run K a (n + 1) i_places_of)) :=
 con A.places_of sc_places_of (fun ws hw => (l_places_of hw).1) fun ws hw f cdv A outer s H E Z hr => ⟨_, b_places_of B M C CH hr, (l_places_of hw).2⟩
theorem b_form_of_table {a : Adr} {n : Nat} (B : Blt mg) (M : Exs K mg a) (C : Cals P w K mg base a n) (CH : CalsH P w K mg base a n) {f : Addr} {cdv : Value} {A : Around} {outer : List Env} {s : Shared} {H : Hp} {E : XK} {Z : Zt} (hr : Room n (A.deeper (PyProof.Rows.envOfC "form_of_table" (defScope s_form_of_table) s.heap.objs.size f cdv))) :
  DSs Z (cxOf (CX1 P w) P w K mg base ["table"] "form_of_table" (defScope s_form_of_table) f cdv A outer s H E) (fun _ => E) (defBody s_form_of_table) (d_form_of_table K a (run K a n)) :=
 (dss_cons (ds_expr (de_cal C.places_of hr pass1 (da_cons (dv 0) da_nil)))
  (dss_one (ds_ret (de_cal C.form_from hr pass1 (da_cons (dv 0) (da_cons de_int da_nil))))))
theorem l_form_of_table {K : PySem.W.Frag} {a : Adr} {n : Nat} {ws : List W} (h : run K a (n + 1) i_form_of_table ws ≠ .no) : ws.length = 1 /\ (d_form_of_table K a (run K a n) (init 1 ws)).fn = run K a (n + 1) i_form_of_table ws := by
 rw [run_form_of_table] at h |-; split at h
 ·rename_i hl; rw [if_pos hl]; exact ⟨hl, rfl⟩
 ·exact absurd rfl h
theorem ok_form_of_table {a : Adr} {n : Nat} (B : Blt mg) (M : Exs K mg a) (C : Cals P w K mg base a n) (CH : CalsH P w K mg base a n) (A : Ats K mg) : Cal P w K mg base (n + 1) "form_of_table" ["table"] (spF K (run K a (n + 1) i_form_of_table)) :=
 con A.form_of_table sc_form_of_table (fun ws hw => (l_form_of_table hw).1) fun ws hw f cdv A outer s H E Z hr => ⟨_, b_form_of_table B M C CH hr, (l_form_of_table hw).2⟩
theorem b_form_from {a : Adr} {n : Nat} (B : Blt mg) (M : Exs K mg a) (C : Cals P w K mg base a n) (CH : CalsH P w K mg base a n) {f : Addr} {cdv : Value} {A : Around} {outer : List Env} {s : Shared} {H : Hp} {E : XK} {Z : Zt} (hr : Room n (A.deeper (PyProof.Rows.envOfC "form_from" (defScope s_form_from) s.heap.objs.size f cdv))) :
  DSs Z (cxOf (CX1 P w) P w K mg base ["truths", "place", "middle", "low", "high", "low_form"] "form_from" (defScope s_form_from) f cdv A outer s H E) (fun _ => E) (defBody s_form_from) (d_form_from K a (run K a n)) :=
 (dss_cons (ds_if (dt_val (de_cal C.is_one_truth hr pass1 (da_cons (dv 0) da_nil)))
  (dss_one (ds_ret (de_tup (da_cons de_str (da_cons (de_ix (dv 0) de_int) da_nil)))))
  dss_nil)
  (dss_cons (ds_set 2 sc_form_from.nd (de_fdiv (de_len B.b_len (da_cons (dv 0) da_nil)) de_int))
  (dss_cons (ds_set 3 sc_form_from.nd (de_slice (dv 0) do_none (do_some (dv 2))))
  (dss_cons (ds_set 4 sc_form_from.nd (de_slice (dv 0) (do_some (dv 2)) do_none))
  (dss_cons (ds_set 5 sc_form_from.nd (de_cal C.form_from hr pass1 (da_cons (dv 3) (da_cons (de_addX (dv 1) de_int) da_nil))))
  (dss_cons (ds_if (dt_eq (room_eq hr) (dv 3) (dv 4))
  (dss_one (ds_ret (dv 5)))
  dss_nil)
  (dss_cons (ds_if (dt_w (dw_and (dt_not (dt_val (de_cal C.is_one_truth hr pass1 (da_cons (dv 3) da_nil)))) (dw_and1 (dt_eq (room_eq hr) (dv 4) (de_fz (df_comp (x := "truth") (Nf := []) (js := []) (sc := defScope s_form_from) (N := ["truths", "place", "middle", "low", "high", "low_form"]) rfl (dv 3) (by decide +kernel)
   (fun _ _ _ _ _ _ => dts_nil)
   (fun _ _ _ _ _ _ => (de_not (dv 0)))
   (fun _ _ _ _ _ => pg_nm 0 (show (["truth"] : List Str).Nodup by decide +kernel))))))))
  (dss_one (ds_ret (de_tup (da_cons de_str (da_cons (dv 5) (da_cons (de_tup (da_cons de_str (da_cons (dv 1) da_nil))) da_nil))))))
  dss_nil)
  (dss_one (ds_ret (de_cal C.chosen hr pass1 (da_cons (dv 1) (da_cons (dv 5) (da_cons (de_cal C.form_from hr pass1 (da_cons (dv 4) (da_cons (de_addX (dv 1) de_int) da_nil))) da_nil)))))))))))))
theorem l_form_from {K : PySem.W.Frag} {a : Adr} {n : Nat} {ws : List W} (h : run K a (n + 1) i_form_from ws ≠ .no) : ws.length = 2 /\ (d_form_from K a (run K a n) (init 6 ws)).fn = run K a (n + 1) i_form_from ws := by
 rw [run_form_from] at h |-; split at h
 ·rename_i hl; rw [if_pos hl]; exact ⟨hl, rfl⟩
 ·exact absurd rfl h
theorem ok_form_from {a : Adr} {n : Nat} (B : Blt mg) (M : Exs K mg a) (C : Cals P w K mg base a n) (CH : CalsH P w K mg base a n) (A : Ats K mg) : Cal P w K mg base (n + 1) "form_from" ["truths", "place"] (spF K (run K a (n + 1) i_form_from)) :=
 con A.form_from sc_form_from (fun ws hw => (l_form_from hw).1) fun ws hw f cdv A outer s H E Z hr => ⟨_, b_form_from B M C CH hr, (l_form_from hw).2⟩
theorem b_is_one_truth {a : Adr} {n : Nat} (B : Blt mg) (M : Exs K mg a) (C : Cals P w K mg base a n) (CH : CalsH P w K mg base a n) {f : Addr} {cdv : Value} {A : Around} {outer : List Env} {s : Shared} {H : Hp} {E : XK} {Z : Zt} (hr : Room n (A.deeper (PyProof.Rows.envOfC "is_one_truth" (defScope s_is_one_truth) s.heap.objs.size f cdv))) :
  DSs Z (cxOf (CX1 P w) P w K mg base ["truths"] "is_one_truth" (defScope s_is_one_truth) f cdv A outer s H E) (fun _ => E) (defBody s_is_one_truth) (d_is_one_truth K a (run K a n)) :=
 (dss_one (ds_ret (de_all rfl B.b_all (da_cons (de_fz (df_comp (x := "truth") (Nf := ["truths"]) (js := [0]) (sc := defScope s_is_one_truth) (N := ["truths"]) rfl (dv 0) (by decide +kernel)
   (fun _ _ _ _ _ _ => dts_nil)
   (fun _ _ _ _ _ _ => (de_eq (room_eq hr) (dv 0) (de_ix (dv 1) de_int)))
   (fun _ _ _ _ _ => pg_nm 0 (show (["truth", "truths"] : List Str).Nodup by decide +kernel)))) da_nil))))
theorem l_is_one_truth {K : PySem.W.Frag} {a : Adr} {n : Nat} {ws : List W} (h : run K a (n + 1) i_is_one_truth ws ≠ .no) : ws.length = 1 /\ (d_is_one_truth K a (run K a n) (init 1 ws)).fn = run K a (n + 1) i_is_one_truth ws := by
 rw [run_is_one_truth] at h |-; split at h
 ·rename_i hl; rw [if_pos hl]; exact ⟨hl, rfl⟩
 ·exact absurd rfl h
theorem ok_is_one_truth {a : Adr} {n : Nat} (B : Blt mg) (M : Exs K mg a) (C : Cals P w K mg base a n) (CH : CalsH P w K mg base a n) (A : Ats K mg) : Cal P w K mg base (n + 1) "is_one_truth" ["truths"] (spF K (run K a (n + 1) i_is_one_truth)) :=
 con A.is_one_truth sc_is_one_truth (fun ws hw => (l_is_one_truth hw).1) fun ws hw f cdv A outer s H E Z hr => ⟨_, b_is_one_truth B M C CH hr, (l_is_one_truth hw).2⟩
theorem b__law_cell_at {a : Adr} {n : Nat} (B : Blt mg) (M : Exs K mg a) (C : Cals P w K mg base a n) (CH : CalsH P w K mg base a n) {f : Addr} {cdv : Value} {A : Around} {outer : List Env} {s : Shared} {H : Hp} {E : XK} {Z : Zt} (hr : Room n (A.deeper (PyProof.Rows.envOfC "_law_cell_at" (defScope s__law_cell_at) s.heap.objs.size f cdv))) :
  DSs Z (cxOf (CX1 P w) P w K mg base ["_law_script", "_law_k"] "_law_cell_at" (defScope s__law_cell_at) f cdv A outer s H E) (fun _ => E) (defBody s__law_cell_at) (d__law_cell_at K a (run K a n)) :=
 (dss_cons (ds_if (dt_lt (dv 1) (de_len B.b_len (da_cons (dv 0) da_nil)))
  (dss_one (ds_ret (de_ix (dv 0) (dv 1))))
  dss_nil)
  (dss_one (ds_ret de_int)))
theorem l__law_cell_at {K : PySem.W.Frag} {a : Adr} {n : Nat} {ws : List W} (h : run K a (n + 1) i__law_cell_at ws ≠ .no) : ws.length = 2 /\ (d__law_cell_at K a (run K a n) (init 2 ws)).fn = run K a (n + 1) i__law_cell_at ws := by
 rw [run__law_cell_at] at h |-; split at h
 ·rename_i hl; rw [if_pos hl]; exact ⟨hl, rfl⟩
 ·exact absurd rfl h
theorem ok__law_cell_at {a : Adr} {n : Nat} (B : Blt mg) (M : Exs K mg a) (C : Cals P w K mg base a n) (CH : CalsH P w K mg base a n) (A : Ats K mg) : Cal P w K mg base (n + 1) "_law_cell_at" ["_law_script", "_law_k"] (spF K (run K a (n + 1) i__law_cell_at)) :=
 con A._law_cell_at sc__law_cell_at (fun ws hw => (l__law_cell_at hw).1) fun ws hw f cdv A outer s H E Z hr => ⟨_, b__law_cell_at B M C CH hr, (l__law_cell_at hw).2⟩
theorem b__law_whole {a : Adr} {n : Nat} (B : Blt mg) (M : Exs K mg a) (C : Cals P w K mg base a n) (CH : CalsH P w K mg base a n) {f : Addr} {cdv : Value} {A : Around} {outer : List Env} {s : Shared} {H : Hp} {E : XK} {Z : Zt} (hr : Room n (A.deeper (PyProof.Rows.envOfC "_law_whole" (defScope s__law_whole) s.heap.objs.size f cdv))) :
  DSs Z (cxOf (CX1 P w) P w K mg base ["_law_found"] "_law_whole" (defScope s__law_whole) f cdv A outer s H E) (fun _ => E) (defBody s__law_whole) (d__law_whole K a (run K a n)) :=
 (dss_one (ds_ret (de_and (de_isi (c0 := .ty _) rfl (cls_blt PyProof.Rows.Boot.«int» B.b_int) B.b_isinstance (dv 0)) (de_one (de_not (de_isi (c0 := .ty _) rfl (cls_blt PyProof.Rows.Boot.«bool» B.b_bool) B.b_isinstance (dv 0)))))))
theorem l__law_whole {K : PySem.W.Frag} {a : Adr} {n : Nat} {ws : List W} (h : run K a (n + 1) i__law_whole ws ≠ .no) : ws.length = 1 /\ (d__law_whole K a (run K a n) (init 1 ws)).fn = run K a (n + 1) i__law_whole ws := by
 rw [run__law_whole] at h |-; split at h
 ·rename_i hl; rw [if_pos hl]; exact ⟨hl, rfl⟩
 ·exact absurd rfl h
theorem ok__law_whole {a : Adr} {n : Nat} (B : Blt mg) (M : Exs K mg a) (C : Cals P w K mg base a n) (CH : CalsH P w K mg base a n) (A : Ats K mg) : Cal P w K mg base (n + 1) "_law_whole" ["_law_found"] (spF K (run K a (n + 1) i__law_whole)) :=
 con A._law_whole sc__law_whole (fun ws hw => (l__law_whole hw).1) fun ws hw f cdv A outer s H E Z hr => ⟨_, b__law_whole B M C CH hr, (l__law_whole hw).2⟩
theorem b__law_mixed {a : Adr} {n : Nat} (B : Blt mg) (M : Exs K mg a) (C : Cals P w K mg base a n) (CH : CalsH P w K mg base a n) {f : Addr} {cdv : Value} {A : Around} {outer : List Env} {s : Shared} {H : Hp} {E : XK} {Z : Zt} (hr : Room n (A.deeper (PyProof.Rows.envOfC "_law_mixed" (defScope s__law_mixed) s.heap.objs.size f cdv))) :
  DSs Z (cxOf (CX1 P w) P w K mg base ["_law_cell", "_law_k", "_law_many_here", "_law_some", "_law_made"] "_law_mixed" (defScope s__law_mixed) f cdv A outer s H E) (fun _ => E) (defBody s__law_mixed) (d__law_mixed K a (run K a n)) :=
 (dss_cons (ds_set 3 sc__law_mixed.nd (de_fz (df_lst (da_cons de_int (da_cons de_int (da_cons de_int (da_cons de_int (da_cons de_int (da_cons de_int (da_cons de_int (da_cons de_int (da_cons de_int (da_cons de_int (da_cons de_int da_nil))))))))))))))
  (dss_cons (ds_set 4 sc__law_mixed.nd (de_mod (de_mul (de_addX (dv 0) (de_mul de_int (dv 1))) de_int) (de_ix (dv 3) (de_mod (dv 1) de_int))))
  (dss_one (ds_ret (de_mod (de_mod (de_addX (de_addX (de_mul (de_mul (dv 4) (dv 4)) de_int) (dv 4)) (dv 1)) de_int) (dv 2))))))
theorem l__law_mixed {K : PySem.W.Frag} {a : Adr} {n : Nat} {ws : List W} (h : run K a (n + 1) i__law_mixed ws ≠ .no) : ws.length = 3 /\ (d__law_mixed K a (run K a n) (init 5 ws)).fn = run K a (n + 1) i__law_mixed ws := by
 rw [run__law_mixed] at h |-; split at h
 ·rename_i hl; rw [if_pos hl]; exact ⟨hl, rfl⟩
 ·exact absurd rfl h
theorem ok__law_mixed {a : Adr} {n : Nat} (B : Blt mg) (M : Exs K mg a) (C : Cals P w K mg base a n) (CH : CalsH P w K mg base a n) (A : Ats K mg) : Cal P w K mg base (n + 1) "_law_mixed" ["_law_cell", "_law_k", "_law_many_here"] (spF K (run K a (n + 1) i__law_mixed)) :=
 con A._law_mixed sc__law_mixed (fun ws hw => (l__law_mixed hw).1) fun ws hw f cdv A outer s H E Z hr => ⟨_, b__law_mixed B M C CH hr, (l__law_mixed hw).2⟩
theorem b__law_class {a : Adr} {n : Nat} (B : Blt mg) (M : Exs K mg a) (C : Cals P w K mg base a n) (CH : CalsH P w K mg base a n) {f : Addr} {cdv : Value} {A : Around} {outer : List Env} {s : Shared} {H : Hp} {E : XK} {Z : Zt} (hr : Room n (A.deeper (PyProof.Rows.envOfC "_law_class" (defScope s__law_class) s.heap.objs.size f cdv))) :
  DSs Z (cxOf (CX1 P w) P w K mg base ["_law_e", "_law_words"] "_law_class" (defScope s__law_class) f cdv A outer s H E) (fun _ => E) (defBody s__law_class) (d__law_class K a (run K a n)) :=
 (dss_cons (ds_own 1 sc__law_class.nd (df_lst da_nil))
  (dss_cons (ds_if (dt_val (de_isi (c0 := .ref _) rfl (cls_own M.m_NoPlace) B.b_isinstance (dv 0)))
  (dss_one (ds_app 1 (da_cons de_str da_nil)))
  dss_nil)
  (dss_cons (ds_if (dt_val (de_isi (c0 := .ref _) rfl (cls_own M.m_NoName) B.b_isinstance (dv 0)))
  (dss_one (ds_app 1 (da_cons de_str da_nil)))
  dss_nil)
  (dss_cons (ds_if (dt_val (de_isi (c0 := .ref _) rfl (cls_own M.m_BadText) B.b_isinstance (dv 0)))
  (dss_one (ds_app 1 (da_cons de_str da_nil)))
  dss_nil)
  (dss_cons (ds_if (dt_val (de_isi (c0 := .ref _) rfl (cls_own M.m_NoRow) B.b_isinstance (dv 0)))
  (dss_one (ds_app 1 (da_cons de_str da_nil)))
  dss_nil)
  (dss_cons (ds_if (dt_val (de_isi (c0 := .ref _) rfl (cls_own M.m_NoTable) B.b_isinstance (dv 0)))
  (dss_one (ds_app 1 (da_cons de_str da_nil)))
  dss_nil)
  (dss_cons (ds_if (dt_val (de_isi (c0 := .ref _) rfl (cls_own M.m_UnlikeSizes) B.b_isinstance (dv 0)))
  (dss_one (ds_app 1 (da_cons de_str da_nil)))
  dss_nil)
  (dss_cons (ds_if (dt_w (dw_or (dt_val (de_isi (c0 := .ref _) rfl (cls_own M.m_TooGreat) B.b_isinstance (dv 0))) (dw_or (dt_val (de_isi (c0 := .ref _) rfl (cls_own M.m_NoMachine) B.b_isinstance (dv 0))) (dw_or1 (dt_val (de_isi (c0 := .ref _) rfl (cls_own M.m_BadSheet) B.b_isinstance (dv 0)))))))
  (dss_one (ds_app 1 (da_cons de_str da_nil)))
  dss_nil)
  (dss_cons (ds_if (dt_w (dw_and (dt_borrow fun _ => (dt_eq (room_eq hr) (de_lenV 1 B.b_len) de_int)) (dw_and1 (dt_val (de_isi (c0 := .ty _) rfl (cls_blt PyProof.Rows.Boot.«ValueError» B.b_ValueError) B.b_isinstance (dv 0))))))
  (dss_one (ds_ret (de_ixV 1 de_int)))
  dss_nil)
  (dss_one (ds_ret de_str)))))))))))
theorem l__law_class {K : PySem.W.Frag} {a : Adr} {n : Nat} {ws : List W} (h : run K a (n + 1) i__law_class ws ≠ .no) : ws.length = 1 /\ (d__law_class K a (run K a n) (init 2 ws)).fn = run K a (n + 1) i__law_class ws := by
 rw [run__law_class] at h |-; split at h
 ·rename_i hl; rw [if_pos hl]; exact ⟨hl, rfl⟩
 ·exact absurd rfl h
theorem ok__law_class {a : Adr} {n : Nat} (B : Blt mg) (M : Exs K mg a) (C : Cals P w K mg base a n) (CH : CalsH P w K mg base a n) (A : Ats K mg) : Cal P w K mg base (n + 1) "_law_class" ["_law_e"] (spF K (run K a (n + 1) i__law_class)) :=
 con A._law_class sc__law_class (fun ws hw => (l__law_class hw).1) fun ws hw f cdv A outer s H E Z hr => ⟨_, b__law_class B M C CH hr, (l__law_class hw).2⟩
theorem b__law_count {a : Adr} {n : Nat} (B : Blt mg) (M : Exs K mg a) (C : Cals P w K mg base a n) (CH : CalsH P w K mg base a n) {f : Addr} {cdv : Value} {A : Around} {outer : List Env} {s : Shared} {H : Hp} {E : XK} {Z : Zt} (hr : Room n (A.deeper (PyProof.Rows.envOfC "_law_count" (defScope s__law_count) s.heap.objs.size f cdv))) :
  DSs Z (cxOf (CX1 P w) P w K mg base ["_law_many_here", "_law_count_here", "_law_k"] "_law_count" (defScope s__law_count) f cdv A outer s H E) (fun _ => E) (defBody s__law_count) (d__law_count K a (run K a n)) :=
 (dss_cons (ds_set 1 sc__law_count.nd de_int)
  (dss_cons (ds_for1 2 sc__law_count.nd PassesOwn.leaving rfl B.b_range (da_cons (dv 0) da_nil)
  (dss_one (ds_set 1 sc__law_count.nd (de_mul de_int (dv 1)))))
  (dss_one (ds_ret (dv 1)))))
theorem l__law_count {K : PySem.W.Frag} {a : Adr} {n : Nat} {ws : List W} (h : run K a (n + 1) i__law_count ws ≠ .no) : ws.length = 1 /\ (d__law_count K a (run K a n) (init 3 ws)).fn = run K a (n + 1) i__law_count ws := by
 rw [run__law_count] at h |-; split at h
 ·rename_i hl; rw [if_pos hl]; exact ⟨hl, rfl⟩
 ·exact absurd rfl h
theorem ok__law_count {a : Adr} {n : Nat} (B : Blt mg) (M : Exs K mg a) (C : Cals P w K mg base a n) (CH : CalsH P w K mg base a n) (A : Ats K mg) : Cal P w K mg base (n + 1) "_law_count" ["_law_many_here"] (spF K (run K a (n + 1) i__law_count)) :=
 con A._law_count sc__law_count (fun ws hw => (l__law_count hw).1) fun ws hw f cdv A outer s H E Z hr => ⟨_, b__law_count B M C CH hr, (l__law_count hw).2⟩
theorem b__law_row_of {a : Adr} {n : Nat} (B : Blt mg) (M : Exs K mg a) (C : Cals P w K mg base a n) (CH : CalsH P w K mg base a n) {f : Addr} {cdv : Value} {A : Around} {outer : List Env} {s : Shared} {H : Hp} {E : XK} {Z : Zt} (hr : Room n (A.deeper (PyProof.Rows.envOfC "_law_row_of" (defScope s__law_row_of) s.heap.objs.size f cdv))) :
  DSs Z (cxOf (CX1 P w) P w K mg base ["_law_number", "_law_many_here", "_law_found", "_law_k"] "_law_row_of" (defScope s__law_row_of) f cdv A outer s H E) (fun _ => E) (defBody s__law_row_of) (d__law_row_of K a (run K a n)) :=
 (dss_cons (ds_own 2 sc__law_row_of.nd (df_lst da_nil))
  (dss_cons (ds_for1 3 sc__law_row_of.nd PassesOwn.leaving rfl B.b_range (da_cons (dv 1) da_nil)
  (dss_one (ds_app 2 (da_cons (de_eq (room_eq hr) (de_mod (de_fdiv (dv 0) (de_cal C._law_count hr pass1 (da_cons (de_sub (de_sub (dv 1) de_int) (dv 3)) da_nil))) de_int) de_int) da_nil))))
  (dss_one (ds_ret (de_tuple B.b_tuple (da_cons (dv 2) da_nil))))))
theorem l__law_row_of {K : PySem.W.Frag} {a : Adr} {n : Nat} {ws : List W} (h : run K a (n + 1) i__law_row_of ws ≠ .no) : ws.length = 2 /\ (d__law_row_of K a (run K a n) (init 4 ws)).fn = run K a (n + 1) i__law_row_of ws := by
 rw [run__law_row_of] at h |-; split at h
 ·rename_i hl; rw [if_pos hl]; exact ⟨hl, rfl⟩
 ·exact absurd rfl h
theorem ok__law_row_of {a : Adr} {n : Nat} (B : Blt mg) (M : Exs K mg a) (C : Cals P w K mg base a n) (CH : CalsH P w K mg base a n) (A : Ats K mg) : Cal P w K mg base (n + 1) "_law_row_of" ["_law_number", "_law_many_here"] (spF K (run K a (n + 1) i__law_row_of)) :=
 con A._law_row_of sc__law_row_of (fun ws hw => (l__law_row_of hw).1) fun ws hw f cdv A outer s H E Z hr => ⟨_, b__law_row_of B M C CH hr, (l__law_row_of hw).2⟩
theorem b__law_table_by {a : Adr} {n : Nat} (B : Blt mg) (M : Exs K mg a) (C : Cals P w K mg base a n) (CH : CalsH P w K mg base a n) {f : Addr} {cdv : Value} {A : Around} {outer : List Env} {s : Shared} {H : Hp} {E : XK} {Z : Zt} (hr : Room n (A.deeper (PyProof.Rows.envOfC "_law_table_by" (defScope s__law_table_by) s.heap.objs.size f cdv))) :
  DSs Z (cxOf (CX1 P w) P w K mg base ["_law_cells", "_law_many_here", "_law_found", "_law_k"] "_law_table_by" (defScope s__law_table_by) f cdv A outer s H E) (fun _ => E) (defBody s__law_table_by) (d__law_table_by K a (run K a n)) :=
 (dss_cons (ds_own 2 sc__law_table_by.nd (df_lst da_nil))
  (dss_cons (ds_for1 3 sc__law_table_by.nd PassesOwn.leaving rfl B.b_range (da_cons (de_cal C._law_count hr pass1 (da_cons (dv 1) da_nil)) da_nil)
  (dss_one (ds_if (dt_eq (room_eq hr) (de_len B.b_len (da_cons (dv 0) da_nil)) de_int)
  (dss_one (ds_app 2 (da_cons de_bl da_nil)))
  (dss_one (ds_if (dt_lt (dv 3) (de_len B.b_len (da_cons (dv 0) da_nil)))
  (dss_one (ds_app 2 (da_cons (de_eq (room_eq hr) (de_mod (de_ix (dv 0) (dv 3)) de_int) de_int) da_nil)))
  (dss_one (ds_app 2 (da_cons (de_eq (room_eq hr) (de_cal C._law_mixed hr pass1 (da_cons (de_addX (de_ix (dv 0) (de_mod (dv 3) (de_len B.b_len (da_cons (dv 0) da_nil)))) (dv 3)) (da_cons de_int (da_cons de_int da_nil)))) de_int) da_nil))))))))
  (dss_one (ds_retO 2))))
theorem l__law_table_by {K : PySem.W.Frag} {a : Adr} {n : Nat} {ws : List W} (h : run K a (n + 1) i__law_table_by ws ≠ .no) : ws.length = 2 /\ (d__law_table_by K a (run K a n) (init 4 ws)).fn = run K a (n + 1) i__law_table_by ws := by
 rw [run__law_table_by] at h |-; split at h
 ·rename_i hl; rw [if_pos hl]; exact ⟨hl, rfl⟩
 ·exact absurd rfl h
theorem ok__law_table_by {a : Adr} {n : Nat} (B : Blt mg) (M : Exs K mg a) (C : Cals P w K mg base a n) (CH : CalsH P w K mg base a n) (A : Ats K mg) : Cal P w K mg base (n + 1) "_law_table_by" ["_law_cells", "_law_many_here"] (spF K (run K a (n + 1) i__law_table_by)) :=
 con A._law_table_by sc__law_table_by (fun ws hw => (l__law_table_by hw).1) fun ws hw f cdv A outer s H E Z hr => ⟨_, b__law_table_by B M C CH hr, (l__law_table_by hw).2⟩
theorem b__law_is_form {a : Adr} {n : Nat} (B : Blt mg) (M : Exs K mg a) (C : Cals P w K mg base a n) (CH : CalsH P w K mg base a n) {f : Addr} {cdv : Value} {A : Around} {outer : List Env} {s : Shared} {H : Hp} {E : XK} {Z : Zt} (hr : Room n (A.deeper (PyProof.Rows.envOfC "_law_is_form" (defScope s__law_is_form) s.heap.objs.size f cdv))) :
  DSs Z (cxOf (CX1 P w) P w K mg base ["_law_form", "_law_deep"] "_law_is_form" (defScope s__law_is_form) f cdv A outer s H E) (fun _ => E) (defBody s__law_is_form) (d__law_is_form K a (run K a n)) :=
 (dss_cons (ds_if (dt_w (dw_or (dt_not (dt_val (de_isi (c0 := .ty _) rfl (cls_blt PyProof.Rows.Boot.«tuple» B.b_tuple) B.b_isinstance (dv 0)))) (dw_or (dt_lt (de_len B.b_len (da_cons (dv 0) da_nil)) de_int) (dw_or (dt_gt (dv 1) de_int) (dw_or1 (dt_not (dt_val (de_isi (c0 := .ty _) rfl (cls_blt PyProof.Rows.Boot.«str» B.b_str) B.b_isinstance (de_ix (dv 0) de_int)))))))))
  (dss_one (ds_ret de_bl))
  dss_nil)
  (dss_cons (ds_if (dt_eq (room_eq hr) (de_ix (dv 0) de_int) de_str)
  (dss_one (ds_ret (de_and (de_eq (room_eq hr) (de_len B.b_len (da_cons (dv 0) da_nil)) de_int) (de_one (de_isi (c0 := .ty _) rfl (cls_blt PyProof.Rows.Boot.«bool» B.b_bool) B.b_isinstance (de_ix (dv 0) de_int))))))
  dss_nil)
  (dss_cons (ds_if (dt_eq (room_eq hr) (de_ix (dv 0) de_int) de_str)
  (dss_one (ds_ret (de_and (de_eq (room_eq hr) (de_len B.b_len (da_cons (dv 0) da_nil)) de_int) (de_and (de_cal C._law_whole hr pass1 (da_cons (de_ix (dv 0) de_int) da_nil)) (de_one (de_le de_int (de_ix (dv 0) de_int)))))))
  dss_nil)
  (dss_cons (ds_if (dt_eq (room_eq hr) (de_ix (dv 0) de_int) de_str)
  (dss_one (ds_ret (de_and (de_eq (room_eq hr) (de_len B.b_len (da_cons (dv 0) da_nil)) de_int) (de_one (de_cal C._law_is_form hr pass1 (da_cons (de_ix (dv 0) de_int) (da_cons (de_addX (dv 1) de_int) da_nil)))))))
  dss_nil)
  (dss_cons (ds_if (dt_w (dw_or (dt_nin (room_eq hr) (de_ix (dv 0) de_int) (de_fz (df_lst (da_cons de_str (da_cons de_str (da_cons de_str da_nil)))))) (dw_or1 (dt_ne (room_eq hr) (de_len B.b_len (da_cons (dv 0) da_nil)) de_int))))
  (dss_one (ds_ret de_bl))
  dss_nil)
  (dss_one (ds_ret (de_and (de_cal C._law_is_form hr pass1 (da_cons (de_ix (dv 0) de_int) (da_cons (de_addX (dv 1) de_int) da_nil))) (de_one (de_cal C._law_is_form hr pass1 (da_cons (de_ix (dv 0) de_int) (da_cons (de_addX (dv 1) de_int) da_nil))))))))))))
theorem l__law_is_form {K : PySem.W.Frag} {a : Adr} {n : Nat} {ws : List W} (h : run K a (n + 1) i__law_is_form ws ≠ .no) : ws.length = 2 /\ (d__law_is_form K a (run K a n) (init 2 ws)).fn = run K a (n + 1) i__law_is_form ws := by
 rw [run__law_is_form] at h |-; split at h
 ·rename_i hl; rw [if_pos hl]; exact ⟨hl, rfl⟩
 ·exact absurd rfl h
theorem ok__law_is_form {a : Adr} {n : Nat} (B : Blt mg) (M : Exs K mg a) (C : Cals P w K mg base a n) (CH : CalsH P w K mg base a n) (A : Ats K mg) : Cal P w K mg base (n + 1) "_law_is_form" ["_law_form", "_law_deep"] (spF K (run K a (n + 1) i__law_is_form)) :=
 con A._law_is_form sc__law_is_form (fun ws hw => (l__law_is_form hw).1) fun ws hw f cdv A outer s H E Z hr => ⟨_, b__law_is_form B M C CH hr, (l__law_is_form hw).2⟩
theorem b__law_truth {a : Adr} {n : Nat} (B : Blt mg) (M : Exs K mg a) (C : Cals P w K mg base a n) (CH : CalsH P w K mg base a n) {f : Addr} {cdv : Value} {A : Around} {outer : List Env} {s : Shared} {H : Hp} {E : XK} {Z : Zt} (hr : Room n (A.deeper (PyProof.Rows.envOfC "_law_truth" (defScope s__law_truth) s.heap.objs.size f cdv))) :
  DSs Z (cxOf (CX1 P w) P w K mg base ["_law_form", "_law_row", "_law_one", "_law_other"] "_law_truth" (defScope s__law_truth) f cdv A outer s H E) (fun _ => E) (defBody s__law_truth) (d__law_truth K a (run K a n)) :=
 (dss_cons (ds_if (dt_eq (room_eq hr) (de_ix (dv 0) de_int) de_str)
  (dss_one (ds_ret (de_ix (dv 0) de_int)))
  dss_nil)
  (dss_cons (ds_if (dt_eq (room_eq hr) (de_ix (dv 0) de_int) de_str)
  (dss_one (ds_ret (de_ix (dv 1) (de_ix (dv 0) de_int))))
  dss_nil)
  (dss_cons (ds_set 2 sc__law_truth.nd (de_cal C._law_truth hr pass1 (da_cons (de_ix (dv 0) de_int) (da_cons (dv 1) da_nil))))
  (dss_cons (ds_if (dt_eq (room_eq hr) (de_ix (dv 0) de_int) de_str)
  (dss_one (ds_ret (de_not (dv 2))))
  dss_nil)
  (dss_cons (ds_if (dt_w (dw_or (dt_w (dw_and (dt_eq (room_eq hr) (de_ix (dv 0) de_int) de_str) (dw_and1 (dt_not (dt_val (dv 2)))))) (dw_or1 (dt_w (dw_and (dt_eq (room_eq hr) (de_ix (dv 0) de_int) de_str) (dw_and1 (dt_val (dv 2))))))))
  (dss_one (ds_ret (dv 2)))
  dss_nil)
  (dss_cons (ds_set 3 sc__law_truth.nd (de_cal C._law_truth hr pass1 (da_cons (de_ix (dv 0) de_int) (da_cons (dv 1) da_nil))))
  (dss_cons (ds_if (dt_eq (room_eq hr) (de_ix (dv 0) de_int) de_str)
  (dss_one (ds_ret (de_ne (room_eq hr) (dv 2) (dv 3))))
  dss_nil)
  (dss_one (ds_ret (dv 3))))))))))
theorem l__law_truth {K : PySem.W.Frag} {a : Adr} {n : Nat} {ws : List W} (h : run K a (n + 1) i__law_truth ws ≠ .no) : ws.length = 2 /\ (d__law_truth K a (run K a n) (init 4 ws)).fn = run K a (n + 1) i__law_truth ws := by
 rw [run__law_truth] at h |-; split at h
 ·rename_i hl; rw [if_pos hl]; exact ⟨hl, rfl⟩
 ·exact absurd rfl h
theorem ok__law_truth {a : Adr} {n : Nat} (B : Blt mg) (M : Exs K mg a) (C : Cals P w K mg base a n) (CH : CalsH P w K mg base a n) (A : Ats K mg) : Cal P w K mg base (n + 1) "_law_truth" ["_law_form", "_law_row"] (spF K (run K a (n + 1) i__law_truth)) :=
 con A._law_truth sc__law_truth (fun ws hw => (l__law_truth hw).1) fun ws hw f cdv A outer s H E Z hr => ⟨_, b__law_truth B M C CH hr, (l__law_truth hw).2⟩
theorem b__law_size {a : Adr} {n : Nat} (B : Blt mg) (M : Exs K mg a) (C : Cals P w K mg base a n) (CH : CalsH P w K mg base a n) {f : Addr} {cdv : Value} {A : Around} {outer : List Env} {s : Shared} {H : Hp} {E : XK} {Z : Zt} (hr : Room n (A.deeper (PyProof.Rows.envOfC "_law_size" (defScope s__law_size) s.heap.objs.size f cdv))) :
  DSs Z (cxOf (CX1 P w) P w K mg base ["_law_form"] "_law_size" (defScope s__law_size) f cdv A outer s H E) (fun _ => E) (defBody s__law_size) (d__law_size K a (run K a n)) :=
 (dss_cons (ds_if (dt_in (room_eq hr) (de_ix (dv 0) de_int) (de_fz (df_lst (da_cons de_str (da_cons de_str da_nil)))))
  (dss_one (ds_ret de_int))
  dss_nil)
  (dss_one (ds_ret (de_addX de_int (de_sum rfl B.b_sum (da_cons (de_fz (df_comp (x := "_law_part") (Nf := []) (js := []) (sc := defScope s__law_size) (N := ["_law_form"]) rfl (de_slice (dv 0) (do_some de_int) do_none) (by decide +kernel)
   (fun _ _ _ _ _ _ => dts_nil)
   (fun _ _ _ _ _ _ => (de_cal C._law_size hr passE (da_cons (dv 0) da_nil)))
   (fun _ _ _ _ _ => pg_nm 0 (show (["_law_part"] : List Str).Nodup by decide +kernel)))) da_nil))))))
theorem l__law_size {K : PySem.W.Frag} {a : Adr} {n : Nat} {ws : List W} (h : run K a (n + 1) i__law_size ws ≠ .no) : ws.length = 1 /\ (d__law_size K a (run K a n) (init 1 ws)).fn = run K a (n + 1) i__law_size ws := by
 rw [run__law_size] at h |-; split at h
 ·rename_i hl; rw [if_pos hl]; exact ⟨hl, rfl⟩
 ·exact absurd rfl h
theorem ok__law_size {a : Adr} {n : Nat} (B : Blt mg) (M : Exs K mg a) (C : Cals P w K mg base a n) (CH : CalsH P w K mg base a n) (A : Ats K mg) : Cal P w K mg base (n + 1) "_law_size" ["_law_form"] (spF K (run K a (n + 1) i__law_size)) :=
 con A._law_size sc__law_size (fun ws hw => (l__law_size hw).1) fun ws hw f cdv A outer s H E Z hr => ⟨_, b__law_size B M C CH hr, (l__law_size hw).2⟩
theorem b__law_places {a : Adr} {n : Nat} (B : Blt mg) (M : Exs K mg a) (C : Cals P w K mg base a n) (CH : CalsH P w K mg base a n) {f : Addr} {cdv : Value} {A : Around} {outer : List Env} {s : Shared} {H : Hp} {E : XK} {Z : Zt} (hr : Room n (A.deeper (PyProof.Rows.envOfC "_law_places" (defScope s__law_places) s.heap.objs.size f cdv))) :
  DSs Z (cxOf (CX1 P w) P w K mg base ["_law_form", "_law_found"] "_law_places" (defScope s__law_places) f cdv A outer s H E) (fun _ => E) (defBody s__law_places) (d__law_places K a (run K a n)) :=
 (dss_cons (ds_if (dt_eq (room_eq hr) (de_ix (dv 0) de_int) de_str)
  (dss_one (ds_retF (df_lst da_nil)))
  dss_nil)
  (dss_cons (ds_if (dt_eq (room_eq hr) (de_ix (dv 0) de_int) de_str)
  (dss_one (ds_retF (df_lst (da_cons (de_ix (dv 0) de_int) da_nil))))
  dss_nil)
  (dss_cons (ds_set 1 sc__law_places.nd (de_cal C._law_places hr pass1 (da_cons (de_ix (dv 0) de_int) da_nil)))
  (dss_cons (ds_if (dt_ne (room_eq hr) (de_ix (dv 0) de_int) de_str)
  (dss_one (ds_set 1 sc__law_places.nd (de_addX (dv 1) (de_cal C._law_places hr pass1 (da_cons (de_ix (dv 0) de_int) da_nil)))))
  dss_nil)
  (dss_one (ds_retF (df_sortset rfl B.b_sorted B.b_set (da_cons (dv 1) da_nil))))))))
theorem l__law_places {K : PySem.W.Frag} {a : Adr} {n : Nat} {ws : List W} (h : run K a (n + 1) i__law_places ws ≠ .no) : ws.length = 1 /\ (d__law_places K a (run K a n) (init 2 ws)).fn = run K a (n + 1) i__law_places ws := by
 rw [run__law_places] at h |-; split at h
 ·rename_i hl; rw [if_pos hl]; exact ⟨hl, rfl⟩
 ·exact absurd rfl h
theorem ok__law_places {a : Adr} {n : Nat} (B : Blt mg) (M : Exs K mg a) (C : Cals P w K mg base a n) (CH : CalsH P w K mg base a n) (A : Ats K mg) : Cal P w K mg base (n + 1) "_law_places" ["_law_form"] (spF K (run K a (n + 1) i__law_places)) :=
 con A._law_places sc__law_places (fun ws hw => (l__law_places hw).1) fun ws hw f cdv A outer s H E Z hr => ⟨_, b__law_places B M C CH hr, (l__law_places hw).2⟩
theorem b__law_open {a : Adr} {n : Nat} (B : Blt mg) (M : Exs K mg a) (C : Cals P w K mg base a n) (CH : CalsH P w K mg base a n) {f : Addr} {cdv : Value} {A : Around} {outer : List Env} {s : Shared} {H : Hp} {E : XK} {Z : Zt} (hr : Room n (A.deeper (PyProof.Rows.envOfC "_law_open" (defScope s__law_open) s.heap.objs.size f cdv))) :
  DSs Z (cxOf (CX1 P w) P w K mg base ["_law_form", "_law_least", "_law_own", "_law_most"] "_law_open" (defScope s__law_open) f cdv A outer s H E) (fun _ => E) (defBody s__law_open) (d__law_open K a (run K a n)) :=
 (dss_cons (ds_set 2 sc__law_open.nd (de_index (de_fz (df_lst (da_cons de_str (da_cons de_str (da_cons de_str (da_cons de_str (da_cons de_str (da_cons de_str da_nil)))))))) (da_cons (de_ix (dv 0) de_int) da_nil)))
  (dss_cons (ds_if (dt_gt (dv 2) de_int)
  (dss_one (ds_ret de_int))
  dss_nil)
  (dss_cons (ds_set 3 sc__law_open.nd de_int)
  (dss_cons (ds_if (dt_lt (dv 2) de_int)
  (dss_one (ds_set 3 sc__law_open.nd (de_max2 rfl B.b_max (da_cons (de_cal C._law_open hr pass1 (da_cons (de_ix (dv 0) de_int) (da_cons (dv 2) da_nil))) (da_cons (de_cal C._law_open hr pass1 (da_cons (de_ix (dv 0) de_int) (da_cons (de_addX (dv 2) de_int) da_nil))) da_nil)))))
  (dss_one (ds_set 3 sc__law_open.nd (de_cal C._law_open hr pass1 (da_cons (de_ix (dv 0) de_int) (da_cons de_int da_nil))))))
  (dss_one (ds_ret (de_addX (dv 3) (de_int1 B.b_int (da_cons (de_lt (dv 2) (dv 1)) da_nil)))))))))
theorem l__law_open {K : PySem.W.Frag} {a : Adr} {n : Nat} {ws : List W} (h : run K a (n + 1) i__law_open ws ≠ .no) : ws.length = 2 /\ (d__law_open K a (run K a n) (init 4 ws)).fn = run K a (n + 1) i__law_open ws := by
 rw [run__law_open] at h |-; split at h
 ·rename_i hl; rw [if_pos hl]; exact ⟨hl, rfl⟩
 ·exact absurd rfl h
theorem ok__law_open {a : Adr} {n : Nat} (B : Blt mg) (M : Exs K mg a) (C : Cals P w K mg base a n) (CH : CalsH P w K mg base a n) (A : Ats K mg) : Cal P w K mg base (n + 1) "_law_open" ["_law_form", "_law_least"] (spF K (run K a (n + 1) i__law_open)) :=
 con A._law_open sc__law_open (fun ws hw => (l__law_open hw).1) fun ws hw f cdv A outer s H E Z hr => ⟨_, b__law_open B M C CH hr, (l__law_open hw).2⟩
theorem b__law_refused {a : Adr} {n : Nat} (B : Blt mg) (M : Exs K mg a) (C : Cals P w K mg base a n) (CH : CalsH P w K mg base a n) {f : Addr} {cdv : Value} {A : Around} {outer : List Env} {s : Shared} {H : Hp} {E : XK} {Z : Zt} (hr : Room n (A.deeper (PyProof.Rows.envOfC "_law_refused" (defScope s__law_refused) s.heap.objs.size f cdv))) :
  DSs Z (cxOf (CX1 P w) P w K mg base ["_law_rows", "_law_e"] "_law_refused" (defScope s__law_refused) f cdv A outer s H E) (fun _ => E) (defBody s__law_refused) (d__law_refused K a (run K a n)) :=
 (dss_cons (ds_try M.m_CircuitError sc__law_refused.nd (i := 1) rfl rfl (fun EE pn xe hx1 => (dss_one (ds_expr (de_cal C.form_of_table hr hx1 (da_cons (dv 0) da_nil)))))
  (fun e => (dss_one (ds_ret (de_eq (roomH_eq (hr.hm _)) (de_calH CH._law_class (hr.hm _) (da_cons (dv 1) da_nil)) de_str)))))
  (dss_one (ds_ret de_bl)))
theorem l__law_refused {K : PySem.W.Frag} {a : Adr} {n : Nat} {ws : List W} (h : run K a (n + 1) i__law_refused ws ≠ .no) : ws.length = 1 /\ (d__law_refused K a (run K a n) (init 2 ws)).fn = run K a (n + 1) i__law_refused ws := by
 rw [run__law_refused] at h |-; split at h
 ·rename_i hl; rw [if_pos hl]; exact ⟨hl, rfl⟩
 ·exact absurd rfl h
theorem ok__law_refused {a : Adr} {n : Nat} (B : Blt mg) (M : Exs K mg a) (C : Cals P w K mg base a n) (CH : CalsH P w K mg base a n) (A : Ats K mg) : Cal P w K mg base (n + 1) "_law_refused" ["_law_rows"] (spF K (run K a (n + 1) i__law_refused)) :=
 con A._law_refused sc__law_refused (fun ws hw => (l__law_refused hw).1) fun ws hw f cdv A outer s H E Z hr => ⟨_, b__law_refused B M C CH hr, (l__law_refused hw).2⟩
theorem b__law_right {a : Adr} {n : Nat} (B : Blt mg) (M : Exs K mg a) (C : Cals P w K mg base a n) (CH : CalsH P w K mg base a n) {f : Addr} {cdv : Value} {A : Around} {outer : List Env} {s : Shared} {H : Hp} {E : XK} {Z : Zt} (hr : Room n (A.deeper (PyProof.Rows.envOfC "_law_right" (defScope s__law_right) s.heap.objs.size f cdv))) :
  DSs Z (cxOf (CX1 P w) P w K mg base ["_law_rows", "_law_many_here", "_law_form", "_law_cell", "_law_hangs", "_law_place", "_law_step", "_law_numbers"] "_law_right" (defScope s__law_right) f cdv A outer s H E) (fun _ => E) (defBody s__law_right) (d__law_right K a (run K a n)) :=
 (dss_cons (ds_if (dt_w (dw_or (dt_not (dt_val (de_cal C._law_is_form hr pass1 (da_cons (dv 2) (da_cons de_int da_nil))))) (dw_or1 (dt_w (dw_and (dt_lt (dv 1) de_int) (dw_and1 (dt_gt (de_cal C._law_size hr pass1 (da_cons (dv 2) da_nil)) de_int)))))))
  (dss_one (ds_ret de_bl))
  dss_nil)
  (dss_cons (ds_own 4 sc__law_right.nd (df_lst da_nil))
  (dss_cons (ds_for1 5 sc__law_right.nd PassesOwn.leaving rfl B.b_range (da_cons (dv 1) da_nil)
  (dss_cons (ds_set 6 sc__law_right.nd (de_cal C._law_count hr pass1 (da_cons (de_sub (de_sub (dv 1) de_int) (dv 5)) da_nil)))
  (dss_one (ds_if (dt_val (de_any rfl B.b_any (da_cons (de_fz (df_comp1 (x := "_law_k") (Nf := ["_law_rows", "_law_step"]) (js := [0, 6]) (sc := defScope s__law_right) (N := ["_law_rows", "_law_many_here", "_law_form", "_law_cell", "_law_hangs", "_law_place", "_law_step", "_law_numbers"]) rfl B.b_range (da_cons (de_len B.b_len (da_cons (dv 0) da_nil)) da_nil) (by decide +kernel)
   (fun _ _ _ _ _ _ => (dts_one (dt_eq (room_eq hr) (de_mod (de_fdiv (dv 0) (dv 2)) de_int) de_int)))
   (fun _ _ _ _ _ _ => (de_ne (room_eq hr) (de_ix (dv 1) (dv 0)) (de_ix (dv 1) (de_addX (dv 0) (dv 2)))))
   (fun _ _ _ _ _ => pg_nm 0 (show (["_law_k", "_law_rows", "_law_step"] : List Str).Nodup by decide +kernel)))) da_nil)))
  (dss_one (ds_app 4 (da_cons (dv 5) da_nil)))
  dss_nil))))
  (dss_cons (ds_if (dt_w (dw_or (dt_borrow fun _ => (dt_ne (room_eq hr) (de_cal C._law_places hr pass1 (da_cons (dv 2) da_nil)) (dv 4))) (dw_or1 (dt_gt (de_cal C._law_open hr pass1 (da_cons (dv 2) (da_cons de_int da_nil))) (dv 1)))))
  (dss_one (ds_ret de_bl))
  dss_nil)
  (dss_cons (ds_set 7 sc__law_right.nd (de_fz (df_listR rfl B.b_list B.b_range (da_cons (de_len B.b_len (da_cons (dv 0) da_nil)) da_nil))))
  (dss_cons (ds_if (dt_gt (dv 1) de_int)
  (dss_one (ds_setcomp1 7 sc__law_right.nd (x := "_law_k") (Nf := ["_law_rows", "_law_cell"]) (js := [0, 3]) (sc := defScope s__law_right) (N := ["_law_rows", "_law_many_here", "_law_form", "_law_cell", "_law_hangs", "_law_place", "_law_step", "_law_numbers"]) rfl B.b_range (da_cons de_int da_nil) (by decide +kernel)
   (fun _ _ _ _ _ _ => dts_nil)
   (fun _ _ _ _ _ _ => (de_cal C._law_mixed hr passE (da_cons (de_addX (dv 2) (de_fdiv (dv 0) de_int)) (da_cons (dv 0) (da_cons (de_len B.b_len (da_cons (dv 1) da_nil)) da_nil)))))
   (fun _ _ _ _ _ => pg_nm 0 (show (["_law_k", "_law_rows", "_law_cell"] : List Str).Nodup by decide +kernel))))
  dss_nil)
  (dss_one (ds_ret (de_all rfl B.b_all (da_cons (de_fz (df_comp (x := "_law_number") (Nf := ["_law_rows", "_law_many_here", "_law_form"]) (js := [0, 1, 2]) (sc := defScope s__law_right) (N := ["_law_rows", "_law_many_here", "_law_form", "_law_cell", "_law_hangs", "_law_place", "_law_step", "_law_numbers"]) rfl (dv 7) (by decide +kernel)
   (fun _ _ _ _ _ _ => dts_nil)
   (fun _ _ _ _ _ _ => (de_eq (room_eq hr) (de_cal C._law_truth hr passE (da_cons (dv 3) (da_cons (de_cal C._law_row_of hr passE (da_cons (dv 0) (da_cons (dv 2) da_nil))) da_nil))) (de_ix (dv 1) (dv 0))))
   (fun _ _ _ _ _ => pg_nm 0 (show (["_law_number", "_law_rows", "_law_many_here", "_law_form"] : List Str).Nodup by decide +kernel)))) da_nil))))))))))
theorem l__law_right {K : PySem.W.Frag} {a : Adr} {n : Nat} {ws : List W} (h : run K a (n + 1) i__law_right ws ≠ .no) : ws.length = 4 /\ (d__law_right K a (run K a n) (init 8 ws)).fn = run K a (n + 1) i__law_right ws := by
 rw [run__law_right] at h |-; split at h
 ·rename_i hl; rw [if_pos hl]; exact ⟨hl, rfl⟩
 ·exact absurd rfl h
theorem ok__law_right {a : Adr} {n : Nat} (B : Blt mg) (M : Exs K mg a) (C : Cals P w K mg base a n) (CH : CalsH P w K mg base a n) (A : Ats K mg) : Cal P w K mg base (n + 1) "_law_right" ["_law_rows", "_law_many_here", "_law_form", "_law_cell"] (spF K (run K a (n + 1) i__law_right)) :=
 con A._law_right sc__law_right (fun ws hw => (l__law_right hw).1) fun ws hw f cdv A outer s H E Z hr => ⟨_, b__law_right B M C CH hr, (l__law_right hw).2⟩
theorem b_law {a : Adr} {n : Nat} (B : Blt mg) (M : Exs K mg a) (C : Cals P w K mg base a n) (CH : CalsH P w K mg base a n) {f : Addr} {cdv : Value} {A : Around} {outer : List Env} {s : Shared} {H : Hp} {E : XK} {Z : Zt} (hr : Room n (A.deeper (PyProof.Rows.envOfC "law" (defScope s_law) s.heap.objs.size f cdv))) :
  DSs Z (cxOf (CX1 P w) P w K mg base ["_law_script", "_law_cell", "_law_far", "_law_many_here", "_law_rows", "_law_step", "_law_handed"] "law" (defScope s_law) f cdv A outer s H E) (fun _ => E) (defBody s_law) (d_law K a (run K a n)) :=
 (dss_cons (ds_set 1 sc_law.nd (de_cal C._law_cell_at hr pass1 (da_cons (dv 0) (da_cons de_int da_nil))))
  (dss_cons (ds_set 2 sc_law.nd (de_cal C._law_cell_at hr pass1 (da_cons (dv 0) (da_cons de_int da_nil))))
  (dss_cons (ds_set 3 sc_law.nd (de_ix (de_fz (df_lst (da_cons de_int (da_cons de_int (da_cons de_int (da_cons de_int (da_cons de_int (da_cons de_int (da_cons de_int (da_cons de_int da_nil)))))))))) (de_mod (dv 1) de_int)))
  (dss_cons (ds_if (dt_eq (room_eq hr) (de_mod (de_fdiv (dv 1) de_int) de_int) de_int)
  (dss_one (ds_set 3 sc_law.nd (de_addX de_int (de_ix (de_fz (df_lst (da_cons de_int (da_cons de_int (da_cons de_int (da_cons de_int (da_cons de_int (da_cons de_int (da_cons de_int (da_cons de_int da_nil)))))))))) (de_mod (de_fdiv (dv 1) de_int) de_int)))))
  dss_nil)
  (dss_cons (ds_set 4 sc_law.nd (de_cal C._law_table_by hr pass1 (da_cons (de_slice (dv 0) (do_some de_int) do_none) (da_cons (dv 3) da_nil))))
  (dss_cons (ds_if (dt_w (dw_and (dt_eq (room_eq hr) (de_mod (dv 2) de_int) de_int) (dw_and1 (dt_gt (dv 3) de_int))))
  (dss_cons (ds_set 5 sc_law.nd (de_cal C._law_count hr pass1 (da_cons (de_cal C._law_mixed hr pass1 (da_cons (dv 2) (da_cons de_int (da_cons (dv 3) da_nil)))) da_nil)))
  (dss_one (ds_set 4 sc_law.nd (de_fz (df_comp1 (x := "_law_k") (Nf := ["_law_rows", "_law_step"]) (js := [4, 5]) (sc := defScope s_law) (N := ["_law_script", "_law_cell", "_law_far", "_law_many_here", "_law_rows", "_law_step", "_law_handed"]) rfl B.b_range (da_cons (de_len B.b_len (da_cons (dv 4) da_nil)) da_nil) (by decide +kernel)
   (fun _ _ _ _ _ _ => dts_nil)
   (fun _ _ _ _ _ _ => (de_ix (dv 1) (de_sub (dv 0) (de_mul (de_mod (de_fdiv (dv 0) (dv 2)) de_int) (dv 2)))))
   (fun _ _ _ _ _ => pg_nm 0 (show (["_law_k", "_law_rows", "_law_step"] : List Str).Nodup by decide +kernel)))))))
  dss_nil)
  (dss_cons (ds_if (dt_eq (room_eq hr) (de_mod (de_fdiv (dv 2) de_int) de_int) de_int)
  (dss_cons (ds_set 4 sc_law.nd (de_slice (de_addX (dv 4) (de_rep (de_fz (df_lst (da_cons de_bl da_nil))) de_int)) do_none (do_some (de_ix (de_fz (df_lst (da_cons de_int (da_cons de_int (da_cons (de_mul (de_len B.b_len (da_cons (dv 4) da_nil)) de_int) (da_cons de_int da_nil)))))) (de_mod (de_fdiv (dv 2) de_int) de_int)))))
  (dss_one (ds_ret (de_cal C._law_refused hr pass1 (da_cons (dv 4) da_nil)))))
  dss_nil)
  (dss_cons (ds_own 6 sc_law.nd (df_list B.b_list (da_cons (dv 4) da_nil)))
  (dss_cons (ds_if (dt_w (dw_or (dt_not (dt_val (de_borrow fun _ => (de_cal C._law_right hr pass1 (da_cons (dv 4) (da_cons (dv 3) (da_cons (de_cal C.form_of_table hr pass1 (da_cons (dv 6) da_nil)) (da_cons (dv 1) da_nil)))))))) (dw_or1 (dt_borrow fun _ => (dt_ne (room_eq hr) (dv 6) (dv 4))))))
  (dss_one (ds_ret de_bl))
  dss_nil)
  (dss_cons (ds_put 6 (de_not (de_ix (dv 4) (de_sub (de_len B.b_len (da_cons (dv 4) da_nil)) de_int))) (de_sub (de_len B.b_len (da_cons (dv 4) da_nil)) de_int))
  (dss_cons (ds_if (dt_not (dt_val (de_borrow fun _ => (de_cal C._law_right hr pass1 (da_cons (dv 6) (da_cons (dv 3) (da_cons (de_cal C.form_of_table hr pass1 (da_cons (dv 6) da_nil)) (da_cons (dv 1) da_nil))))))))
  (dss_one (ds_ret de_bl))
  dss_nil)
  (dss_one (ds_ret (de_cal C._law_right hr pass1 (da_cons (dv 4) (da_cons (dv 3) (da_cons (de_cal C.form_of_table hr pass1 (da_cons (de_fz (df_list B.b_list (da_cons (dv 4) da_nil))) da_nil)) (da_cons (dv 1) da_nil))))))))))))))))))
theorem l_law {K : PySem.W.Frag} {a : Adr} {n : Nat} {ws : List W} (h : run K a (n + 1) i_law ws ≠ .no) : ws.length = 1 /\ (d_law K a (run K a n) (init 7 ws)).fn = run K a (n + 1) i_law ws := by
 rw [run_law] at h |-; split at h
 ·rename_i hl; rw [if_pos hl]; exact ⟨hl, rfl⟩
 ·exact absurd rfl h
theorem ok_law {a : Adr} {n : Nat} (B : Blt mg) (M : Exs K mg a) (C : Cals P w K mg base a n) (CH : CalsH P w K mg base a n) (A : Ats K mg) : Cal P w K mg base (n + 1) "law" ["_law_script"] (spF K (run K a (n + 1) i_law)) :=
 con A.law sc_law (fun ws hw => (l_law hw).1) fun ws hw f cdv A outer s H E Z hr => ⟨_, b_law B M C CH hr, (l_law hw).2⟩
theorem allH {a : Adr} (A : Ats K mg) (B : Blt mg) (M : Exs K mg a) : ∀ n, CalsH P w K mg base a n
 | 0 => ⟨trivial, con0H A._law_class⟩
 | n + 1 => ⟨trivial, okH__law_class A B M⟩
theorem all {a : Adr} (A : Ats K mg) (B : Blt mg) (M : Exs K mg a) : ∀ n, Cals P w K mg base a n
 | 0 => ⟨con0 A.eased_not, con0 A.eased, con0 A.with_truth, con0 A.chosen, con0 A.rows_many, con0 A.places_of, con0 A.form_of_table, con0 A.form_from, con0 A.is_one_truth, con0 A._law_cell_at, con0 A._law_whole, con0 A._law_mixed, con0 A._law_class, con0 A._law_count, con0 A._law_row_of, con0 A._law_table_by, con0 A._law_is_form, con0 A._law_truth, con0 A._law_size, con0 A._law_places, con0 A._law_open, con0 A._law_refused, con0 A._law_right, con0 A.law⟩
 | n + 1 => ⟨ok_eased_not B M (all A B M n) (allH A B M n) A, ok_eased B M (all A B M n) (allH A B M n) A, ok_with_truth B M (all A B M n) (allH A B M n) A, ok_chosen B M (all A B M n) (allH A B M n) A, ok_rows_many B M (all A B M n) (allH A B M n) A, ok_places_of B M (all A B M n) (allH A B M n) A, ok_form_of_table B M (all A B M n) (allH A B M n) A, ok_form_from B M (all A B M n) (allH A B M n) A, ok_is_one_truth B M (all A B M n) (allH A B M n) A, ok__law_cell_at B M (all A B M n) (allH A B M n) A, ok__law_whole B M (all A B M n) (allH A B M n) A, ok__law_mixed B M (all A B M n) (allH A B M n) A, ok__law_class B M (all A B M n) (allH A B M n) A, ok__law_count B M (all A B M n) (allH A B M n) A, ok__law_row_of B M (all A B M n) (allH A B M n) A, ok__law_table_by B M (all A B M n) (allH A B M n) A, ok__law_is_form B M (all A B M n) (allH A B M n) A, ok__law_truth B M (all A B M n) (allH A B M n) A, ok__law_size B M (all A B M n) (allH A B M n) A, ok__law_places B M (all A B M n) (allH A B M n) A, ok__law_open B M (all A B M n) (allH A B M n) A, ok__law_refused B M (all A B M n) (allH A B M n) A, ok__law_right B M (all A B M n) (allH A B M n) A, ok_law B M (all A B M n) (allH A B M n) A⟩
theorem law_fn {a : Adr} {f : Addr} {fd : FuncData} (A : Ats K mg) (B : Blt mg) (M : Exs K mg a) (F : Fun K "law" "law" s_law f fd) (n : Nat) : FnOk P w K mg base (CX1 P w) (n + 1) f fd ["_law_script"] (spF K (run K a (n + 1) i_law)) :=
 conF F sc_law (fun ws hw => (l_law hw).1) fun ws hw cdv A' outer s H E Z hr => ⟨_, b_law B M (all A B M n) (allH A B M n) hr, (l_law hw).2⟩
end
theorem mk {l : PySem.W.OpenLaw} {w : World} {K : PySem.W.Frag} {h : Heap} {mg : Str -> Option Value} {fa : Addr} (X : K.In h) (G : h.Ns mainGlobals mg) (hfa : mg "law" = some (.ref fa))
  {f0 : Addr} {od0 an0 : Option Addr} {sl0 : Array (Option Value)} {oc0 kV0 dc0 pm0 cd0 ct0 : Value}
  {f1 : Addr} {od1 an1 : Option Addr} {sl1 : Array (Option Value)} {oc1 kV1 dc1 pm1 cd1 ct1 : Value}
  {f2 : Addr} {od2 an2 : Option Addr} {sl2 : Array (Option Value)} {oc2 kV2 dc2 pm2 cd2 ct2 : Value}
  {f3 : Addr} {od3 an3 : Option Addr} {sl3 : Array (Option Value)} {oc3 kV3 dc3 pm3 cd3 ct3 : Value}
  {f4 : Addr} {od4 an4 : Option Addr} {sl4 : Array (Option Value)} {oc4 kV4 dc4 pm4 cd4 ct4 : Value}
  {f5 : Addr} {od5 an5 : Option Addr} {sl5 : Array (Option Value)} {oc5 kV5 dc5 pm5 cd5 ct5 : Value}
  {f6 : Addr} {od6 an6 : Option Addr} {sl6 : Array (Option Value)} {oc6 kV6 dc6 pm6 cd6 ct6 : Value}
  {f7 : Addr} {od7 an7 : Option Addr} {sl7 : Array (Option Value)} {oc7 kV7 dc7 pm7 cd7 ct7 : Value}
  {f8 : Addr} {od8 an8 : Option Addr} {sl8 : Array (Option Value)} {oc8 kV8 dc8 pm8 cd8 ct8 : Value}
  {f9 : Addr} {od9 an9 : Option Addr} {sl9 : Array (Option Value)} {oc9 kV9 dc9 pm9 cd9 ct9 : Value}
  {f10 : Addr} {od10 an10 : Option Addr} {sl10 : Array (Option Value)} {oc10 kV10 dc10 pm10 cd10 ct10 : Value}
  {f11 : Addr} {od11 an11 : Option Addr} {sl11 : Array (Option Value)} {oc11 kV11 dc11 pm11 cd11 ct11 : Value}
  {f12 : Addr} {od12 an12 : Option Addr} {sl12 : Array (Option Value)} {oc12 kV12 dc12 pm12 cd12 ct12 : Value}
  {f13 : Addr} {od13 an13 : Option Addr} {sl13 : Array (Option Value)} {oc13 kV13 dc13 pm13 cd13 ct13 : Value}
  {f14 : Addr} {od14 an14 : Option Addr} {sl14 : Array (Option Value)} {oc14 kV14 dc14 pm14 cd14 ct14 : Value}
  {f15 : Addr} {od15 an15 : Option Addr} {sl15 : Array (Option Value)} {oc15 kV15 dc15 pm15 cd15 ct15 : Value}
  {f16 : Addr} {od16 an16 : Option Addr} {sl16 : Array (Option Value)} {oc16 kV16 dc16 pm16 cd16 ct16 : Value}
  {f17 : Addr} {od17 an17 : Option Addr} {sl17 : Array (Option Value)} {oc17 kV17 dc17 pm17 cd17 ct17 : Value}
  {f18 : Addr} {od18 an18 : Option Addr} {sl18 : Array (Option Value)} {oc18 kV18 dc18 pm18 cd18 ct18 : Value}
  {f19 : Addr} {od19 an19 : Option Addr} {sl19 : Array (Option Value)} {oc19 kV19 dc19 pm19 cd19 ct19 : Value}
  {f20 : Addr} {od20 an20 : Option Addr} {sl20 : Array (Option Value)} {oc20 kV20 dc20 pm20 cd20 ct20 : Value}
  {f21 : Addr} {od21 an21 : Option Addr} {sl21 : Array (Option Value)} {oc21 kV21 dc21 pm21 cd21 ct21 : Value}
  {f22 : Addr} {od22 an22 : Option Addr} {sl22 : Array (Option Value)} {oc22 kV22 dc22 pm22 cd22 ct22 : Value}
  {f23 : Addr} {od23 an23 : Option Addr} {sl23 : Array (Option Value)} {oc23 kV23 dc23 pm23 cd23 ct23 : Value}
  {A_CircuitError : Addr}
  {A_NoPlace : Addr}
  {A_NoName : Addr}
  {A_BadText : Addr}
  {A_NoRow : Addr}
  {A_NoTable : Addr}
  {A_UnlikeSizes : Addr}
  {A_TooGreat : Addr}
  {A_NoMachine : Addr}
  {A_BadSheet : Addr}
  {A_MOST_PLACES : Value}
  (a0 : PySem.W.nsIn K mainGlobals "eased_not" = some (some (.ref f0)))
  (l0 : K.lookup f0 = some ⟨oc0, od0, .func (PySem.W.fnOf "eased_not" "eased_not" (defArgs s_eased_not) (defBody s_eased_not) (defScope s_eased_not) .none kV0 dc0 pm0 an0 cd0 ct0), sl0⟩)
  (c0 : PySem.W.codeIn K cd0 "eased_not" = true)
  (k0 : PySem.W.keepIn K (.ref f0) = true)
  (a1 : PySem.W.nsIn K mainGlobals "eased" = some (some (.ref f1)))
  (l1 : K.lookup f1 = some ⟨oc1, od1, .func (PySem.W.fnOf "eased" "eased" (defArgs s_eased) (defBody s_eased) (defScope s_eased) .none kV1 dc1 pm1 an1 cd1 ct1), sl1⟩)
  (c1 : PySem.W.codeIn K cd1 "eased" = true)
  (k1 : PySem.W.keepIn K (.ref f1) = true)
  (a2 : PySem.W.nsIn K mainGlobals "with_truth" = some (some (.ref f2)))
  (l2 : K.lookup f2 = some ⟨oc2, od2, .func (PySem.W.fnOf "with_truth" "with_truth" (defArgs s_with_truth) (defBody s_with_truth) (defScope s_with_truth) .none kV2 dc2 pm2 an2 cd2 ct2), sl2⟩)
  (c2 : PySem.W.codeIn K cd2 "with_truth" = true)
  (k2 : PySem.W.keepIn K (.ref f2) = true)
  (a3 : PySem.W.nsIn K mainGlobals "chosen" = some (some (.ref f3)))
  (l3 : K.lookup f3 = some ⟨oc3, od3, .func (PySem.W.fnOf "chosen" "chosen" (defArgs s_chosen) (defBody s_chosen) (defScope s_chosen) .none kV3 dc3 pm3 an3 cd3 ct3), sl3⟩)
  (c3 : PySem.W.codeIn K cd3 "chosen" = true)
  (k3 : PySem.W.keepIn K (.ref f3) = true)
  (a4 : PySem.W.nsIn K mainGlobals "rows_many" = some (some (.ref f4)))
  (l4 : K.lookup f4 = some ⟨oc4, od4, .func (PySem.W.fnOf "rows_many" "rows_many" (defArgs s_rows_many) (defBody s_rows_many) (defScope s_rows_many) .none kV4 dc4 pm4 an4 cd4 ct4), sl4⟩)
  (c4 : PySem.W.codeIn K cd4 "rows_many" = true)
  (k4 : PySem.W.keepIn K (.ref f4) = true)
  (a5 : PySem.W.nsIn K mainGlobals "places_of" = some (some (.ref f5)))
  (l5 : K.lookup f5 = some ⟨oc5, od5, .func (PySem.W.fnOf "places_of" "places_of" (defArgs s_places_of) (defBody s_places_of) (defScope s_places_of) .none kV5 dc5 pm5 an5 cd5 ct5), sl5⟩)
  (c5 : PySem.W.codeIn K cd5 "places_of" = true)
  (k5 : PySem.W.keepIn K (.ref f5) = true)
  (a6 : PySem.W.nsIn K mainGlobals "form_of_table" = some (some (.ref f6)))
  (l6 : K.lookup f6 = some ⟨oc6, od6, .func (PySem.W.fnOf "form_of_table" "form_of_table" (defArgs s_form_of_table) (defBody s_form_of_table) (defScope s_form_of_table) .none kV6 dc6 pm6 an6 cd6 ct6), sl6⟩)
  (c6 : PySem.W.codeIn K cd6 "form_of_table" = true)
  (k6 : PySem.W.keepIn K (.ref f6) = true)
  (a7 : PySem.W.nsIn K mainGlobals "form_from" = some (some (.ref f7)))
  (l7 : K.lookup f7 = some ⟨oc7, od7, .func (PySem.W.fnOf "form_from" "form_from" (defArgs s_form_from) (defBody s_form_from) (defScope s_form_from) .none kV7 dc7 pm7 an7 cd7 ct7), sl7⟩)
  (c7 : PySem.W.codeIn K cd7 "form_from" = true)
  (k7 : PySem.W.keepIn K (.ref f7) = true)
  (a8 : PySem.W.nsIn K mainGlobals "is_one_truth" = some (some (.ref f8)))
  (l8 : K.lookup f8 = some ⟨oc8, od8, .func (PySem.W.fnOf "is_one_truth" "is_one_truth" (defArgs s_is_one_truth) (defBody s_is_one_truth) (defScope s_is_one_truth) .none kV8 dc8 pm8 an8 cd8 ct8), sl8⟩)
  (c8 : PySem.W.codeIn K cd8 "is_one_truth" = true)
  (k8 : PySem.W.keepIn K (.ref f8) = true)
  (a9 : PySem.W.nsIn K mainGlobals "_law_cell_at" = some (some (.ref f9)))
  (l9 : K.lookup f9 = some ⟨oc9, od9, .func (PySem.W.fnOf "_law_cell_at" "_law_cell_at" (defArgs s__law_cell_at) (defBody s__law_cell_at) (defScope s__law_cell_at) .none kV9 dc9 pm9 an9 cd9 ct9), sl9⟩)
  (c9 : PySem.W.codeIn K cd9 "_law_cell_at" = true)
  (k9 : PySem.W.keepIn K (.ref f9) = true)
  (a10 : PySem.W.nsIn K mainGlobals "_law_whole" = some (some (.ref f10)))
  (l10 : K.lookup f10 = some ⟨oc10, od10, .func (PySem.W.fnOf "_law_whole" "_law_whole" (defArgs s__law_whole) (defBody s__law_whole) (defScope s__law_whole) .none kV10 dc10 pm10 an10 cd10 ct10), sl10⟩)
  (c10 : PySem.W.codeIn K cd10 "_law_whole" = true)
  (k10 : PySem.W.keepIn K (.ref f10) = true)
  (a11 : PySem.W.nsIn K mainGlobals "_law_mixed" = some (some (.ref f11)))
  (l11 : K.lookup f11 = some ⟨oc11, od11, .func (PySem.W.fnOf "_law_mixed" "_law_mixed" (defArgs s__law_mixed) (defBody s__law_mixed) (defScope s__law_mixed) .none kV11 dc11 pm11 an11 cd11 ct11), sl11⟩)
  (c11 : PySem.W.codeIn K cd11 "_law_mixed" = true)
  (k11 : PySem.W.keepIn K (.ref f11) = true)
  (a12 : PySem.W.nsIn K mainGlobals "_law_class" = some (some (.ref f12)))
  (l12 : K.lookup f12 = some ⟨oc12, od12, .func (PySem.W.fnOf "_law_class" "_law_class" (defArgs s__law_class) (defBody s__law_class) (defScope s__law_class) .none kV12 dc12 pm12 an12 cd12 ct12), sl12⟩)
  (c12 : PySem.W.codeIn K cd12 "_law_class" = true)
  (k12 : PySem.W.keepIn K (.ref f12) = true)
  (a13 : PySem.W.nsIn K mainGlobals "_law_count" = some (some (.ref f13)))
  (l13 : K.lookup f13 = some ⟨oc13, od13, .func (PySem.W.fnOf "_law_count" "_law_count" (defArgs s__law_count) (defBody s__law_count) (defScope s__law_count) .none kV13 dc13 pm13 an13 cd13 ct13), sl13⟩)
  (c13 : PySem.W.codeIn K cd13 "_law_count" = true)
  (k13 : PySem.W.keepIn K (.ref f13) = true)
  (a14 : PySem.W.nsIn K mainGlobals "_law_row_of" = some (some (.ref f14)))
  (l14 : K.lookup f14 = some ⟨oc14, od14, .func (PySem.W.fnOf "_law_row_of" "_law_row_of" (defArgs s__law_row_of) (defBody s__law_row_of) (defScope s__law_row_of) .none kV14 dc14 pm14 an14 cd14 ct14), sl14⟩)
  (c14 : PySem.W.codeIn K cd14 "_law_row_of" = true)
  (k14 : PySem.W.keepIn K (.ref f14) = true)
  (a15 : PySem.W.nsIn K mainGlobals "_law_table_by" = some (some (.ref f15)))
  (l15 : K.lookup f15 = some ⟨oc15, od15, .func (PySem.W.fnOf "_law_table_by" "_law_table_by" (defArgs s__law_table_by) (defBody s__law_table_by) (defScope s__law_table_by) .none kV15 dc15 pm15 an15 cd15 ct15), sl15⟩)
  (c15 : PySem.W.codeIn K cd15 "_law_table_by" = true)
  (k15 : PySem.W.keepIn K (.ref f15) = true)
  (a16 : PySem.W.nsIn K mainGlobals "_law_is_form" = some (some (.ref f16)))
  (l16 : K.lookup f16 = some ⟨oc16, od16, .func (PySem.W.fnOf "_law_is_form" "_law_is_form" (defArgs s__law_is_form) (defBody s__law_is_form) (defScope s__law_is_form) .none kV16 dc16 pm16 an16 cd16 ct16), sl16⟩)
  (c16 : PySem.W.codeIn K cd16 "_law_is_form" = true)
  (k16 : PySem.W.keepIn K (.ref f16) = true)
  (a17 : PySem.W.nsIn K mainGlobals "_law_truth" = some (some (.ref f17)))
  (l17 : K.lookup f17 = some ⟨oc17, od17, .func (PySem.W.fnOf "_law_truth" "_law_truth" (defArgs s__law_truth) (defBody s__law_truth) (defScope s__law_truth) .none kV17 dc17 pm17 an17 cd17 ct17), sl17⟩)
  (c17 : PySem.W.codeIn K cd17 "_law_truth" = true)
  (k17 : PySem.W.keepIn K (.ref f17) = true)
  (a18 : PySem.W.nsIn K mainGlobals "_law_size" = some (some (.ref f18)))
  (l18 : K.lookup f18 = some ⟨oc18, od18, .func (PySem.W.fnOf "_law_size" "_law_size" (defArgs s__law_size) (defBody s__law_size) (defScope s__law_size) .none kV18 dc18 pm18 an18 cd18 ct18), sl18⟩)
  (c18 : PySem.W.codeIn K cd18 "_law_size" = true)
  (k18 : PySem.W.keepIn K (.ref f18) = true)
  (a19 : PySem.W.nsIn K mainGlobals "_law_places" = some (some (.ref f19)))
  (l19 : K.lookup f19 = some ⟨oc19, od19, .func (PySem.W.fnOf "_law_places" "_law_places" (defArgs s__law_places) (defBody s__law_places) (defScope s__law_places) .none kV19 dc19 pm19 an19 cd19 ct19), sl19⟩)
  (c19 : PySem.W.codeIn K cd19 "_law_places" = true)
  (k19 : PySem.W.keepIn K (.ref f19) = true)
  (a20 : PySem.W.nsIn K mainGlobals "_law_open" = some (some (.ref f20)))
  (l20 : K.lookup f20 = some ⟨oc20, od20, .func (PySem.W.fnOf "_law_open" "_law_open" (defArgs s__law_open) (defBody s__law_open) (defScope s__law_open) .none kV20 dc20 pm20 an20 cd20 ct20), sl20⟩)
  (c20 : PySem.W.codeIn K cd20 "_law_open" = true)
  (k20 : PySem.W.keepIn K (.ref f20) = true)
  (a21 : PySem.W.nsIn K mainGlobals "_law_refused" = some (some (.ref f21)))
  (l21 : K.lookup f21 = some ⟨oc21, od21, .func (PySem.W.fnOf "_law_refused" "_law_refused" (defArgs s__law_refused) (defBody s__law_refused) (defScope s__law_refused) .none kV21 dc21 pm21 an21 cd21 ct21), sl21⟩)
  (c21 : PySem.W.codeIn K cd21 "_law_refused" = true)
  (k21 : PySem.W.keepIn K (.ref f21) = true)
  (a22 : PySem.W.nsIn K mainGlobals "_law_right" = some (some (.ref f22)))
  (l22 : K.lookup f22 = some ⟨oc22, od22, .func (PySem.W.fnOf "_law_right" "_law_right" (defArgs s__law_right) (defBody s__law_right) (defScope s__law_right) .none kV22 dc22 pm22 an22 cd22 ct22), sl22⟩)
  (c22 : PySem.W.codeIn K cd22 "_law_right" = true)
  (k22 : PySem.W.keepIn K (.ref f22) = true)
  (a23 : PySem.W.nsIn K mainGlobals "law" = some (some (.ref f23)))
  (l23 : K.lookup f23 = some ⟨oc23, od23, .func (PySem.W.fnOf "law" "law" (defArgs s_law) (defBody s_law) (defScope s_law) .none kV23 dc23 pm23 an23 cd23 ct23), sl23⟩)
  (c23 : PySem.W.codeIn K cd23 "law" = true)
  (k23 : PySem.W.keepIn K (.ref f23) = true)
  (n_CircuitError : PySem.W.nsIn K mainGlobals "CircuitError" = some (some (.ref A_CircuitError)))
  (n_NoPlace : PySem.W.nsIn K mainGlobals "NoPlace" = some (some (.ref A_NoPlace)))
  (n_NoName : PySem.W.nsIn K mainGlobals "NoName" = some (some (.ref A_NoName)))
  (n_BadText : PySem.W.nsIn K mainGlobals "BadText" = some (some (.ref A_BadText)))
  (n_NoRow : PySem.W.nsIn K mainGlobals "NoRow" = some (some (.ref A_NoRow)))
  (n_NoTable : PySem.W.nsIn K mainGlobals "NoTable" = some (some (.ref A_NoTable)))
  (n_UnlikeSizes : PySem.W.nsIn K mainGlobals "UnlikeSizes" = some (some (.ref A_UnlikeSizes)))
  (n_TooGreat : PySem.W.nsIn K mainGlobals "TooGreat" = some (some (.ref A_TooGreat)))
  (n_NoMachine : PySem.W.nsIn K mainGlobals "NoMachine" = some (some (.ref A_NoMachine)))
  (n_BadSheet : PySem.W.nsIn K mainGlobals "BadSheet" = some (some (.ref A_BadSheet)))
  (n_MOST_PLACES : PySem.W.nsIn K mainGlobals "MOST_PLACES" = some (some A_MOST_PLACES))
  (z_ValueError : PySem.W.nsIn K mainGlobals "ValueError" = some none)
  (z_all : PySem.W.nsIn K mainGlobals "all" = some none)
  (z_any : PySem.W.nsIn K mainGlobals "any" = some none)
  (z_bool : PySem.W.nsIn K mainGlobals "bool" = some none)
  (z_int : PySem.W.nsIn K mainGlobals "int" = some none)
  (z_isinstance : PySem.W.nsIn K mainGlobals "isinstance" = some none)
  (z_len : PySem.W.nsIn K mainGlobals "len" = some none)
  (z_list : PySem.W.nsIn K mainGlobals "list" = some none)
  (z_max : PySem.W.nsIn K mainGlobals "max" = some none)
  (z_range : PySem.W.nsIn K mainGlobals "range" = some none)
  (z_set : PySem.W.nsIn K mainGlobals "set" = some none)
  (z_sorted : PySem.W.nsIn K mainGlobals "sorted" = some none)
  (z_str : PySem.W.nsIn K mainGlobals "str" = some none)
  (z_sum : PySem.W.nsIn K mainGlobals "sum" = some none)
  (z_tuple : PySem.W.nsIn K mainGlobals "tuple" = some none)
  (g_MOST_PLACES : conIn K (.int 10) A_MOST_PLACES = true)
  (e_NoTable : excIn K A_NoTable A_CircuitError = true)
  (c_NoTable : excClsIn K A_NoTable = true)
  (x_NoTable_CircuitError : PySem.W.exmOne K (.ref A_NoTable) (.ref A_CircuitError) = some true)
  (k_NoTable_NoPlace : PySem.W.kitOne K (.ref A_NoTable) (.ref A_NoPlace) = some false)
  (k_NoTable_NoName : PySem.W.kitOne K (.ref A_NoTable) (.ref A_NoName) = some false)
  (k_NoTable_BadText : PySem.W.kitOne K (.ref A_NoTable) (.ref A_BadText) = some false)
  (k_NoTable_NoRow : PySem.W.kitOne K (.ref A_NoTable) (.ref A_NoRow) = some false)
  (k_NoTable_NoTable : PySem.W.kitOne K (.ref A_NoTable) (.ref A_NoTable) = some true)
  (k_NoTable_UnlikeSizes : PySem.W.kitOne K (.ref A_NoTable) (.ref A_UnlikeSizes) = some false)
  (k_NoTable_TooGreat : PySem.W.kitOne K (.ref A_NoTable) (.ref A_TooGreat) = some false)
  (k_NoTable_NoMachine : PySem.W.kitOne K (.ref A_NoTable) (.ref A_NoMachine) = some false)
  (k_NoTable_BadSheet : PySem.W.kitOne K (.ref A_NoTable) (.ref A_BadSheet) = some false)
  (k_NoTable_ValueError : PySem.W.kitOne K (.ref A_NoTable) (.type "ValueError") = some true)
  (t_NoneType_int : PySem.W.kitOne K (.type "NoneType") (.type "int") = some false)
  (t_bool_int : PySem.W.kitOne K (.type "bool") (.type "int") = some true)
  (t_int_int : PySem.W.kitOne K (.type "int") (.type "int") = some true)
  (t_str_int : PySem.W.kitOne K (.type "str") (.type "int") = some false)
  (t_tuple_int : PySem.W.kitOne K (.type "tuple") (.type "int") = some false)
  (t_list_int : PySem.W.kitOne K (.type "list") (.type "int") = some false)
  (t_NoneType_bool : PySem.W.kitOne K (.type "NoneType") (.type "bool") = some false)
  (t_bool_bool : PySem.W.kitOne K (.type "bool") (.type "bool") = some true)
  (t_int_bool : PySem.W.kitOne K (.type "int") (.type "bool") = some false)
  (t_str_bool : PySem.W.kitOne K (.type "str") (.type "bool") = some false)
  (t_tuple_bool : PySem.W.kitOne K (.type "tuple") (.type "bool") = some false)
  (t_list_bool : PySem.W.kitOne K (.type "list") (.type "bool") = some false)
  (t_NoneType_tuple : PySem.W.kitOne K (.type "NoneType") (.type "tuple") = some false)
  (t_bool_tuple : PySem.W.kitOne K (.type "bool") (.type "tuple") = some false)
  (t_int_tuple : PySem.W.kitOne K (.type "int") (.type "tuple") = some false)
  (t_str_tuple : PySem.W.kitOne K (.type "str") (.type "tuple") = some false)
  (t_tuple_tuple : PySem.W.kitOne K (.type "tuple") (.type "tuple") = some true)
  (t_list_tuple : PySem.W.kitOne K (.type "list") (.type "tuple") = some false)
  (t_NoneType_str : PySem.W.kitOne K (.type "NoneType") (.type "str") = some false)
  (t_bool_str : PySem.W.kitOne K (.type "bool") (.type "str") = some false)
  (t_int_str : PySem.W.kitOne K (.type "int") (.type "str") = some false)
  (t_str_str : PySem.W.kitOne K (.type "str") (.type "str") = some true)
  (t_tuple_str : PySem.W.kitOne K (.type "tuple") (.type "str") = some false)
  (t_list_str : PySem.W.kitOne K (.type "list") (.type "str") = some false)
  (n : Nat) (hL : ∀ a : Adr, Exs K mg a -> ∀ ns : List Int, ns.length <= 63 -> run K a (n + 1) i_law [.lst (ns.map .int)] = .ok (.fr (.bl true))) :
  ∃ fd : FuncData, (∀ (s : Shared) (v : Value), BindsTo s fd ⟨[v], []⟩ [("_law_script", v)]) /\ ∀ base : Heap, K.In base -> base.Ns mainGlobals mg -> FnOk l.prog w K mg base (CX1 l.prog w) (n + 1) fa fd ["_law_script"] (spLaw K) := by
 have e := hfa.symm.trans (PySem.W.mg_of X G a23)
 cases e
 have A : Ats K mg := ⟨⟨⟨_, _, fun_mk (st := s_eased_not) l0 c0 k0, PySem.W.mg_of X G a0, (fun_mk (st := s_eased_not) l0 c0 k0).binds (ps := ["form"]) fun _ _ _ _ _ _ => us1 fun _ => rfl⟩⟩,
  ⟨⟨_, _, fun_mk (st := s_eased) l1 c1 k1, PySem.W.mg_of X G a1, (fun_mk (st := s_eased) l1 c1 k1).binds (ps := ["word", "form", "other"]) fun _ _ _ _ _ _ => us3 fun _ _ _ => rfl⟩⟩,
  ⟨⟨_, _, fun_mk (st := s_with_truth) l2 c2 k2, PySem.W.mg_of X G a2, (fun_mk (st := s_with_truth) l2 c2 k2).binds (ps := ["word", "truth", "form"]) fun _ _ _ _ _ _ => us3 fun _ _ _ => rfl⟩⟩,
  ⟨⟨_, _, fun_mk (st := s_chosen) l3 c3 k3, PySem.W.mg_of X G a3, (fun_mk (st := s_chosen) l3 c3 k3).binds (ps := ["place", "low", "high"]) fun _ _ _ _ _ _ => us3 fun _ _ _ => rfl⟩⟩,
  ⟨⟨_, _, fun_mk (st := s_rows_many) l4 c4 k4, PySem.W.mg_of X G a4, (fun_mk (st := s_rows_many) l4 c4 k4).binds (ps := ["many"]) fun _ _ _ _ _ _ => us1 fun _ => rfl⟩⟩,
  ⟨⟨_, _, fun_mk (st := s_places_of) l5 c5 k5, PySem.W.mg_of X G a5, (fun_mk (st := s_places_of) l5 c5 k5).binds (ps := ["table"]) fun _ _ _ _ _ _ => us1 fun _ => rfl⟩⟩,
  ⟨⟨_, _, fun_mk (st := s_form_of_table) l6 c6 k6, PySem.W.mg_of X G a6, (fun_mk (st := s_form_of_table) l6 c6 k6).binds (ps := ["table"]) fun _ _ _ _ _ _ => us1 fun _ => rfl⟩⟩,
  ⟨⟨_, _, fun_mk (st := s_form_from) l7 c7 k7, PySem.W.mg_of X G a7, (fun_mk (st := s_form_from) l7 c7 k7).binds (ps := ["truths", "place"]) fun _ _ _ _ _ _ => us2 fun _ _ => rfl⟩⟩,
  ⟨⟨_, _, fun_mk (st := s_is_one_truth) l8 c8 k8, PySem.W.mg_of X G a8, (fun_mk (st := s_is_one_truth) l8 c8 k8).binds (ps := ["truths"]) fun _ _ _ _ _ _ => us1 fun _ => rfl⟩⟩,
  ⟨⟨_, _, fun_mk (st := s__law_cell_at) l9 c9 k9, PySem.W.mg_of X G a9, (fun_mk (st := s__law_cell_at) l9 c9 k9).binds (ps := ["_law_script", "_law_k"]) fun _ _ _ _ _ _ => us2 fun _ _ => rfl⟩⟩,
  ⟨⟨_, _, fun_mk (st := s__law_whole) l10 c10 k10, PySem.W.mg_of X G a10, (fun_mk (st := s__law_whole) l10 c10 k10).binds (ps := ["_law_found"]) fun _ _ _ _ _ _ => us1 fun _ => rfl⟩⟩,
  ⟨⟨_, _, fun_mk (st := s__law_mixed) l11 c11 k11, PySem.W.mg_of X G a11, (fun_mk (st := s__law_mixed) l11 c11 k11).binds (ps := ["_law_cell", "_law_k", "_law_many_here"]) fun _ _ _ _ _ _ => us3 fun _ _ _ => rfl⟩⟩,
  ⟨⟨_, _, fun_mk (st := s__law_class) l12 c12 k12, PySem.W.mg_of X G a12, (fun_mk (st := s__law_class) l12 c12 k12).binds (ps := ["_law_e"]) fun _ _ _ _ _ _ => us1 fun _ => rfl⟩⟩,
  ⟨⟨_, _, fun_mk (st := s__law_count) l13 c13 k13, PySem.W.mg_of X G a13, (fun_mk (st := s__law_count) l13 c13 k13).binds (ps := ["_law_many_here"]) fun _ _ _ _ _ _ => us1 fun _ => rfl⟩⟩,
  ⟨⟨_, _, fun_mk (st := s__law_row_of) l14 c14 k14, PySem.W.mg_of X G a14, (fun_mk (st := s__law_row_of) l14 c14 k14).binds (ps := ["_law_number", "_law_many_here"]) fun _ _ _ _ _ _ => us2 fun _ _ => rfl⟩⟩,
  ⟨⟨_, _, fun_mk (st := s__law_table_by) l15 c15 k15, PySem.W.mg_of X G a15, (fun_mk (st := s__law_table_by) l15 c15 k15).binds (ps := ["_law_cells", "_law_many_here"]) fun _ _ _ _ _ _ => us2 fun _ _ => rfl⟩⟩,
  ⟨⟨_, _, fun_mk (st := s__law_is_form) l16 c16 k16, PySem.W.mg_of X G a16, (fun_mk (st := s__law_is_form) l16 c16 k16).binds (ps := ["_law_form", "_law_deep"]) fun _ _ _ _ _ _ => us2 fun _ _ => rfl⟩⟩,
  ⟨⟨_, _, fun_mk (st := s__law_truth) l17 c17 k17, PySem.W.mg_of X G a17, (fun_mk (st := s__law_truth) l17 c17 k17).binds (ps := ["_law_form", "_law_row"]) fun _ _ _ _ _ _ => us2 fun _ _ => rfl⟩⟩,
  ⟨⟨_, _, fun_mk (st := s__law_size) l18 c18 k18, PySem.W.mg_of X G a18, (fun_mk (st := s__law_size) l18 c18 k18).binds (ps := ["_law_form"]) fun _ _ _ _ _ _ => us1 fun _ => rfl⟩⟩,
  ⟨⟨_, _, fun_mk (st := s__law_places) l19 c19 k19, PySem.W.mg_of X G a19, (fun_mk (st := s__law_places) l19 c19 k19).binds (ps := ["_law_form"]) fun _ _ _ _ _ _ => us1 fun _ => rfl⟩⟩,
  ⟨⟨_, _, fun_mk (st := s__law_open) l20 c20 k20, PySem.W.mg_of X G a20, (fun_mk (st := s__law_open) l20 c20 k20).binds (ps := ["_law_form", "_law_least"]) fun _ _ _ _ _ _ => us2 fun _ _ => rfl⟩⟩,
  ⟨⟨_, _, fun_mk (st := s__law_refused) l21 c21 k21, PySem.W.mg_of X G a21, (fun_mk (st := s__law_refused) l21 c21 k21).binds (ps := ["_law_rows"]) fun _ _ _ _ _ _ => us1 fun _ => rfl⟩⟩,
  ⟨⟨_, _, fun_mk (st := s__law_right) l22 c22 k22, PySem.W.mg_of X G a22, (fun_mk (st := s__law_right) l22 c22 k22).binds (ps := ["_law_rows", "_law_many_here", "_law_form", "_law_cell"]) fun _ _ _ _ _ _ => us4 fun _ _ _ _ => rfl⟩⟩,
  ⟨⟨_, _, fun_mk (st := s_law) l23 c23 k23, PySem.W.mg_of X G a23, (fun_mk (st := s_law) l23 c23 k23).binds (ps := ["_law_script"]) fun _ _ _ _ _ _ => us1 fun _ => rfl⟩⟩⟩
 have B : Blt mg := ⟨PySem.W.mg_none_of X G z_ValueError, PySem.W.mg_none_of X G z_all, PySem.W.mg_none_of X G z_any, PySem.W.mg_none_of X G z_bool, PySem.W.mg_none_of X G z_int, PySem.W.mg_none_of X G z_isinstance, PySem.W.mg_none_of X G z_len, PySem.W.mg_none_of X G z_list, PySem.W.mg_none_of X G z_max, PySem.W.mg_none_of X G z_range, PySem.W.mg_none_of X G z_set, PySem.W.mg_none_of X G z_sorted, PySem.W.mg_none_of X G z_str, PySem.W.mg_none_of X G z_sum, PySem.W.mg_none_of X G z_tuple⟩
 have M : Exs K mg ⟨A_CircuitError, A_NoPlace, A_NoName, A_BadText, A_NoRow, A_NoTable, A_UnlikeSizes, A_TooGreat, A_NoMachine, A_BadSheet, A_MOST_PLACES⟩ := ⟨trivial, PySem.W.mg_of X G n_CircuitError, PySem.W.mg_of X G n_NoPlace, PySem.W.mg_of X G n_NoName, PySem.W.mg_of X G n_BadText, PySem.W.mg_of X G n_NoRow, PySem.W.mg_of X G n_NoTable, PySem.W.mg_of X G n_UnlikeSizes, PySem.W.mg_of X G n_TooGreat, PySem.W.mg_of X G n_NoMachine, PySem.W.mg_of X G n_BadSheet, PySem.W.mg_of X G n_MOST_PLACES, g_MOST_PLACES, e_NoTable, c_NoTable, x_NoTable_CircuitError, k_NoTable_NoPlace, k_NoTable_NoName, k_NoTable_BadText, k_NoTable_NoRow, k_NoTable_NoTable, k_NoTable_UnlikeSizes, k_NoTable_TooGreat, k_NoTable_NoMachine, k_NoTable_BadSheet, k_NoTable_ValueError, t_NoneType_int, t_bool_int, t_int_int, t_str_int, t_tuple_int, t_list_int, t_NoneType_bool, t_bool_bool, t_int_bool, t_str_bool, t_tuple_bool, t_list_bool, t_NoneType_tuple, t_bool_tuple, t_int_tuple, t_str_tuple, t_tuple_tuple, t_list_tuple, t_NoneType_str, t_bool_str, t_int_str, t_str_str, t_tuple_str, t_list_str⟩
 exact ⟨_, fun s v => .of_eq rfl, fun base _ _ => (law_fn A B M (fun_mk (st := s_law) l23 c23 k23) n).imp fun vs H Q E q => spLaw_of (hL _ M) q⟩
end Q
set_option Elab.async false
set_option linter.all false
set_option maxRecDepth 100000
set_option maxHeartbeats 1000000
namespace Q
open PySem L2 D
local macro_rules | `(tactic| walk_at "den") => `(tactic| try simp only [dListR_s, addX_tt, addX_ii, addX_ll, addX_ss, dSS_s, compKX_s, compXR_ok, compXR_ex, dBorrow_s, dBorrowT_s, borrow_ok, borrow_ex, borrowT_ok, borrowT_ex, borrow_ite, borrowT_ite, hide_nil, hide_cons, hide_own, hide_fr, hide_no, dPut_s, putA_own, putB_own, putC_some, dMeth_s, kind_s, kind_l, dSeq_s, seq_nx, seq_rt, seq_ex, seq_bk, seq_ct, seq_no, seq_ite, bind_ok, bind_ex, bind_no, bind_ite, stm_ok, stm_ex, stm_no, stm_ite, fn_nx, fn_rt, fn_ex, fn_no, fn_ite, ofOpt_some, ofOpt_none, ofOpt_ite, dVar_s, var_fr, var_own, dC_s, dOp_s, dTest_s, test_bl, dTru_s, dAnd_s, dOr_s, dNot_s, dAndV_s, and_bl, dNotV_s, not_bl, dIf_s, dNil_s, dCons_s, dTup_s, dLst_s, dFz_s, dFn_s, dList_s, dNx_s, dDrop_s, dRet_s, dRetF_s, dRetO_s, ret_own, ret_fr, dIfS_s, dSet_s, dSetO_s, dCall_s, call_fr, call_own, call_ex, call_no, call_ite, dCallF_s, callF_own, callF_ex, callF_ite, dCallH_s, callH_fr, callH_own, dFor_s, dForR_s, forW_some, turn_nx, turn_ct, turn_bk, turn_rt, turn_ex, turn_no, turn_ite, dIxV_s, look_some, lk_fr, lk_own, dFnV_s, fnV_fr, fnV_own, dApp_s, own_q, app_k, dRaise_s, dSl_s, dNoPart_s, dPart_s, part_int, dIsi_s, isi_bl, dTry_s, try_nx, try_rt, tryH_rt, tryH_nx, compK_s, dComp_s, dCompR_s, compW_some, compR_some, dYes_s, frzs_nil, frzs_cons, pjS_nil, pjS_cons, add_ii, add_ss, add_ll, sub_ii, mul_ii, fdiv_ii, mod_ii, lt_ii, le_ii, gt_ii, neg_i, eq_ii, eq_ss, eq_bb, ne_ii, ne_ss, ne_bb, ix_t, ix_l, len_t, len_l, tup_l, tup_t, lst_l, lst_t, tru_b, tru_i, tru_n, tru_t, tru_l, seq_t, seq_l, sc_i, sc_b, sc_s, sc_n, sl_l, at0, at1, at2, str_eq, rng1, rng2, init, Option.map_some, Option.bind_some, List.map_cons, List.map_nil, List.length_cons, List.length_nil, List.replicate_succ, List.replicate_zero, List.cons_append, List.nil_append, List.getElem?_cons_zero, List.getElem?_cons_succ, List.set_cons_zero, List.set_cons_succ, if_true, if_false, decide_eq_true_eq, reduceIte, Bool.false_eq_true, ite_true, ite_false, Nat.reduceSub, Nat.reduceAdd, Nat.reduceLeDiff, Nat.zero_add, Nat.le_refl, Int.reduceLT, Int.reduceLE, Int.reduceNeg, true_and, and_true, true_or, or_true, false_and, and_false, false_or, or_false, not_true_eq_false, not_false_eq_true, decide_true, decide_false, Bool.not_true, Bool.not_false, String.reduceEq, Nat.reduceEqDiff, max_ii, int_i, int_b, Int.reduceToNat, Int.reducePow, Nat.reduceLT, cast0, cast1, Int.reduceEq, Int.reduceMod, Int.reduceDiv, Int.reduceAdd, Int.reduceSub, Int.reduceMul])
noncomputable def someAt (j : Int) : Int := if j = 0 then 99991 else if j = 1 then 99989 else if j = 2 then 99971 else if j = 3 then 99961 else if j = 4 then 99929 else if j = 5 then 99923 else if j = 6 then 99907 else if j = 7 then 99901 else if j = 8 then 99881 else if j = 9 then 99877 else 99871
noncomputable def made (c k : Int) : Int := (c + 7 * k) * 48271 % someAt (k % 11)
noncomputable def mixed (c k m : Int) : Int := (made c k * made c k * 7 + made c k + k) % 1000003 % m
theorem someAt_pos (j : Int) : 0 < someAt j /\ someAt j <= 99991 := by
 unfold someAt
 repeat (split; · omega)
 omega
theorem made_bd (c k : Int) : 0 <= made c k /\ made c k < 99991 := by
 have h := someAt_pos (k % 11)
 have h1 := Int.emod_nonneg ((c + 7 * k) * 48271) (show someAt (k % 11) ≠ 0 by omega)
 have h2 := Int.emod_lt_of_pos ((c + 7 * k) * 48271) h.1
 unfold made
 omega
theorem mixed_bd {c k m : Int} (h : 0 < m) : 0 <= mixed c k m /\ mixed c k m < m := ⟨Int.emod_nonneg _ (by omega), Int.emod_lt_of_pos _ h⟩
theorem some_at {j : Int} (h0 : 0 <= j) (h1 : j < 11) : atI [W.int 99991, .int 99989, .int 99971, .int 99961, .int 99929, .int 99923, .int 99907, .int 99901, .int 99881, .int 99877, .int 99871] j = some (.int (someAt j)) := by
 have : j = 0 \/ j = 1 \/ j = 2 \/ j = 3 \/ j = 4 \/ j = 5 \/ j = 6 \/ j = 7 \/ j = 8 \/ j = 9 \/ j = 10 := by omega
 rcases this with h | h | h | h | h | h | h | h | h | h | h <;> (subst h; rfl)
section
variable {K : PySem.W.Frag} {a : Adr} {mg : Str -> Option Value}
theorem mixed_run (n : Nat) (c k : Int) {m : Int} (hm : 0 < m) : run K a (n + 1) i__law_mixed [.int c, .int k, .int m] = .ok (.fr (.int (mixed c k m))) := by
 rw [run__law_mixed]
 unfold d__law_mixed
 walk_at "den"
 rw [some_at (Int.emod_nonneg _ (by decide)) (Int.emod_lt_of_pos _ (by decide))]
 walk_at "den"
 rw [if_pos (someAt_pos _).1]
 have b := made_bd c k
 have e : (c + 7 * k) * 48271 % someAt (k % 11) = made c k := rfl
 walk_at "den"
 rw [e, if_pos (by omega), if_pos hm]
 rfl
theorem cell_run (n : Nat) (ns : List Int) {k : Int} (hk : 0 <= k) : run K a (n + 1) i__law_cell_at [.lst (ns.map .int), .int k] = .ok (.fr (.int (ns.getD k.toNat 0))) := by
 rw [run__law_cell_at]
 unfold d__law_cell_at
 walk_at "den"
 by_cases h : k < ns.length
 ·rw [if_pos (by simpa using h), at_pos hk]
  have e : (ns.map W.int)[k.toNat]? = some (.int (ns.getD k.toNat 0)) := by
   have : k.toNat < ns.length := by omega
   simp [List.getD, this]
  rw [e]
  walk_at "den"
 ·rw [if_neg (by simpa using h)]
  have : ns.getD k.toNat 0 = 0 := by
   have : ¬ k.toNat < ns.length := by omega
   simp [List.getD, this]
  rw [this]
inductive Fm where
 | is (b : Bool) | at (p : Nat) | not (f : Fm) | and (f g : Fm) | or (f g : Fm) | odd (f g : Fm)
noncomputable def enc : Fm -> W
 | .is b => .tup [.str "is", .bl b]
 | .at p => .tup [.str "at", .int p]
 | .not f => .tup [.str "not", enc f]
 | .and f g => .tup [.str "and", enc f, enc g]
 | .or f g => .tup [.str "or", enc f, enc g]
 | .odd f g => .tup [.str "odd", enc f, enc g]
noncomputable def Fm.depth : Fm -> Nat
 | .is _ => 1
 | .at _ => 1
 | .not f => f.depth + 1
 | .and f g => max f.depth g.depth + 1
 | .or f g => max f.depth g.depth + 1
 | .odd f g => max f.depth g.depth + 1
def Fm.inb (m : Nat) : Fm -> Prop
 | .is _ => True
 | .at p => p < m
 | .not f => f.inb m
 | .and f g => f.inb m /\ g.inb m
 | .or f g => f.inb m /\ g.inb m
 | .odd f g => f.inb m /\ g.inb m
noncomputable def Fm.val (row : List Bool) : Fm -> Bool
 | .is b => b
 | .at p => row.getD p false
 | .not f => !f.val row
 | .and f g => f.val row && g.val row
 | .or f g => f.val row || g.val row
 | .odd f g => f.val row != g.val row
theorem Fm.depth_pos : ∀ f : Fm, 1 <= f.depth
 | .is _ => Nat.le_refl _
 | .at _ => Nat.le_refl _
 | .not f => by simp only [Fm.depth]; omega
 | .and f g => by simp only [Fm.depth]; omega
 | .or f g => by simp only [Fm.depth]; omega
 | .odd f g => by simp only [Fm.depth]; omega
theorem row_at {row : List Bool} {p : Nat} (h : p < row.length) : atI (row.map W.bl) (p : Int) = some (.bl (row.getD p false)) := by
 refine atI_nat ?_
 simp [List.getD, h]
inductive O3 where
 | a | o | d
noncomputable def wd : O3 -> Str
 | .a => "and"
 | .o => "or"
 | .d => "odd"
noncomputable def mk3 : O3 -> Fm -> Fm -> Fm
 | .a => .and
 | .o => .or
 | .d => .odd
noncomputable def Fm.eNot : Fm -> Fm
 | .is b => .is (!b)
 | f => .not f
noncomputable def withT : O3 -> Bool -> Fm -> Fm
 | .a, true, f => f
 | .a, false, _ => .is false
 | .o, true, _ => .is true
 | .o, false, f => f
 | .d, true, f => f.eNot
 | .d, false, f => f
noncomputable def Fm.ease (o : O3) (f g : Fm) : Fm := match f with
 | .is b => withT o b g
 | f => match g with
  | .is b => withT o b f
  | g => mk3 o f g
theorem enot_run (n : Nat) (f : Fm) : run K a (n + 1) i_eased_not [enc f] = .ok (.fr (enc f.eNot)) := by
 rw [run_eased_not]
 unfold d_eased_not
 cases f <;> simp only [enc, Fm.eNot] <;> walk_at "den"
theorem with_run (n : Nat) (o : O3) (b : Bool) (f : Fm) : run K a (n + 2) i_with_truth [.str (wd o), .bl b, enc f] = .ok (.fr (enc (withT o b f))) := by
 rw [run_with_truth]
 unfold d_with_truth
 have h := enot_run (K := K) (a := a) n f
 cases o <;> cases b <;> simp only [wd, withT] <;> walk_at "den" <;> first | rfl | (rw [h]; walk_at "den")
noncomputable def Fm.hd : Fm -> Str
 | .is _ => "is"
 | .at _ => "at"
 | .not _ => "not"
 | .and _ _ => "and"
 | .or _ _ => "or"
 | .odd _ _ => "odd"
theorem enc_ix0 (f : Fm) : ixW (enc f) (.int 0) = some (.str f.hd) := by cases f <;> rfl
theorem hd_is (f : Fm) : f.hd = "is" ↔ ∃ b, f = .is b := by
 cases f with
 | is b => exact ⟨fun _ => ⟨b, rfl⟩, fun _ => rfl⟩
 | _ => exact ⟨fun h => absurd h (by simp only [Fm.hd]; decide), fun ⟨b, h⟩ => by cases h⟩
theorem ease_is {o : O3} {b : Bool} {g : Fm} : Fm.ease o (.is b) g = withT o b g := rfl
theorem ease_is2 {o : O3} {b : Bool} {f : Fm} (hf : ¬ ∃ b, f = .is b) : Fm.ease o f (.is b) = withT o b f := by
 cases f with
 | is b => exact absurd ⟨b, rfl⟩ hf
 | _ => rfl
theorem ease_no {o : O3} {f g : Fm} (hf : ¬ ∃ b, f = .is b) (hg : ¬ ∃ b, g = .is b) : Fm.ease o f g = mk3 o f g := by
 cases f with
 | is b => exact absurd ⟨b, rfl⟩ hf
 | _ => cases g with
  | is b => exact absurd ⟨b, rfl⟩ hg
  | _ => rfl
theorem enc_mk3 {o : O3} {f g : Fm} : enc (mk3 o f g) = .tup [.str (wd o), enc f, enc g] := by cases o <;> rfl
theorem ease_run (n : Nat) (o : O3) (f g : Fm) : run K a (n + 3) i_eased [.str (wd o), enc f, enc g] = .ok (.fr (enc (f.ease o g))) := by
 rw [run_eased]
 unfold d_eased
 walk_at "den"
 rw [enc_ix0]
 walk_at "den"
 by_cases hf : ∃ b, f = .is b
 ·obtain ⟨b, rfl⟩ := hf
  rw [if_pos ((hd_is (.is b)).mpr ⟨b, rfl⟩), ease_is]
  simp only [enc]
  walk_at "den"
  rw [with_run n o b g]
  walk_at "den"
 ·rw [if_neg (by rw [hd_is]; exact hf), enc_ix0]
  walk_at "den"
  by_cases hg : ∃ b, g = .is b
  ·obtain ⟨b, rfl⟩ := hg
   rw [if_pos ((hd_is (.is b)).mpr ⟨b, rfl⟩), ease_is2 hf]
   simp only [enc]
   walk_at "den"
   rw [with_run n o b f]
   walk_at "den"
  ·rw [if_neg (by rw [hd_is]; exact hg), ease_no hf hg, enc_mk3]
noncomputable def Fm.size : Fm -> Nat
 | .is _ => 1
 | .at _ => 1
 | .not f => f.size + 1
 | .and f g => f.size + g.size + 1
 | .or f g => f.size + g.size + 1
 | .odd f g => f.size + g.size + 1
theorem str_ne {a b : String} (h : a ≠ b) : Str.ofString a ≠ Str.ofString b := fun z => h (ofString_inj z)
noncomputable def Fm.has (p : Nat) : Fm -> Bool
 | .is _ => false
 | .at q => decide (q = p)
 | .not f => f.has p
 | .and f g => f.has p || g.has p
 | .or f g => f.has p || g.has p
 | .odd f g => f.has p || g.has p
noncomputable def nW (p : Nat) : W := .int (p : Int)
noncomputable def pl (f : Fm) : List Nat := (List.range 12).filter f.has
noncomputable def plW (f : Fm) : List W := (pl f).map nW
theorem pl_at {p : Nat} (h : p < 12) : pl (.at p) = [p] := by
 have : p = 0 \/ p = 1 \/ p = 2 \/ p = 3 \/ p = 4 \/ p = 5 \/ p = 6 \/ p = 7 \/ p = 8 \/ p = 9 \/ p = 10 \/ p = 11 := by omega
 rcases this with h | h | h | h | h | h | h | h | h | h | h | h <;> (subst h; decide)
theorem pl_len (f : Fm) : (pl f).length <= 12 := by
 unfold pl
 exact Nat.le_trans (List.length_filter_le _ _) (by simp)
theorem inb_has : ∀ (f : Fm) (m : Nat), f.inb m ↔ ∀ p, f.has p = true -> p < m
 | .is b, m => ⟨fun _ p h => (by cases h), fun _ => trivial⟩
 | .at q, m => ⟨fun h p e => (of_decide_eq_true e) ▸ h, fun h => h q (by simp [Fm.has])⟩
 | .not f, m => inb_has f m
 | .and f g, m => by
  show f.inb m /\ g.inb m ↔ ∀ p, (f.has p || g.has p) = true -> p < m
  rw [inb_has f m, inb_has g m]
  exact ⟨fun h p e => ((Bool.or_eq_true _ _).mp e).elim (h.1 p) (h.2 p), fun h => ⟨fun p e => h p (by rw [e]; rfl), fun p e => h p (by rw [e, Bool.or_true])⟩⟩
 | .or f g, m => by
  show f.inb m /\ g.inb m ↔ ∀ p, (f.has p || g.has p) = true -> p < m
  rw [inb_has f m, inb_has g m]
  exact ⟨fun h p e => ((Bool.or_eq_true _ _).mp e).elim (h.1 p) (h.2 p), fun h => ⟨fun p e => h p (by rw [e]; rfl), fun p e => h p (by rw [e, Bool.or_true])⟩⟩
 | .odd f g, m => by
  show f.inb m /\ g.inb m ↔ ∀ p, (f.has p || g.has p) = true -> p < m
  rw [inb_has f m, inb_has g m]
  exact ⟨fun h p e => ((Bool.or_eq_true _ _).mp e).elim (h.1 p) (h.2 p), fun h => ⟨fun p e => h p (by rw [e]; rfl), fun p e => h p (by rw [e, Bool.or_true])⟩⟩
theorem depW_enc : ∀ (f : Fm), depW (enc f) <= f.depth
 | .is b => by simp [enc, depW, depWs, Fm.depth]
 | .at p => by simp [enc, depW, depWs, Fm.depth]
 | .not f => by have := depW_enc f; simp [enc, depW, depWs, Fm.depth]; omega
 | .and f g => by have := depW_enc f; have := depW_enc g; simp [enc, depW, depWs, Fm.depth]; omega
 | .or f g => by have := depW_enc f; have := depW_enc g; simp [enc, depW, depWs, Fm.depth]; omega
 | .odd f g => by have := depW_enc f; have := depW_enc g; simp [enc, depW, depWs, Fm.depth]; omega
theorem cut_take (ws : List W) (k : Nat) : cutW ws none (some (k : Int)) = ws.take k := by
 unfold cutW
 rw [HT.sIx_nat]
 simp [HT.sIx]
theorem cut_drop (ws : List W) (k : Nat) (h : k <= ws.length) : cutW ws (some (k : Int)) none = ws.drop k := by
 unfold cutW
 rw [HT.sIx_nat]
 have e : min k ws.length = k := by omega
 simp only [HT.sIx, e]
 rw [List.take_of_length_le (by simp)]
theorem for_first {i : Nat} {b : List S -> SR} (st : S -> List S) (p : W -> Bool) (rt : W -> S) : ∀ (ws : List W) (z : S), (∀ w ∈ ws, ∀ z, (p w = true -> ∃ e', b ((st z).set i (.fr w)) = .rt (rt w) e') /\ (p w = false -> ∃ z', b ((st z).set i (.fr w)) = .nx (st z'))) ->
  (∀ w, ws.find? p = some w -> ∃ e', forD i b ws (st z) = .rt (rt w) e') /\ (ws.find? p = none -> ∃ z', forD i b ws (st z) = .nx (st z'))
 | [], z, h => ⟨fun w q => by simp at q, fun _ => ⟨z, rfl⟩⟩
 | w :: ws, z, h => by
  obtain ⟨h1, h2⟩ := h w (by simp) z
  cases q : p w with
  | true =>
   obtain ⟨e', h3⟩ := h1 q
   refine ⟨fun u hu => ?_, fun hu => ?_⟩
   ·rw [List.find?_cons_of_pos q] at hu
    cases hu
    exact ⟨e', by rw [for_cons, h3, turn_rt]⟩
   ·rw [List.find?_cons_of_pos q] at hu
    cases hu
  | false =>
   obtain ⟨z', h3⟩ := h2 q
   have ih := for_first st p rt ws z' fun u hu => h u (by simp [hu])
   rw [List.find?_cons_of_neg (by simp [q]), for_cons, h3, turn_nx]
   exact ih
theorem count_run (n : Nat) (m : Int) (h0 : 0 <= m) (h1 : m < 1000) : run K a (n + 1) i__law_count [.int m] = .ok (.fr (.int (2 ^ m.toNat))) := by
 rw [run__law_count]
 unfold d__law_count
 walk_at "den"
 rw [if_pos (okI_of (by omega) (by omega))]
 walk_at "den"
 obtain ⟨e', h2, z, rfl⟩ := for_rangeI (b := l__law_count_0 K a (run K a n)) (i := 2) (lo := 0) (hi := m) m.toNat (by omega) (fun j e => ∃ z, e = [.fr (.int m), .fr (.int (2 ^ j)), z]) [.fr (.int m), .fr (.int 1), .no] ⟨_, rfl⟩ (by
  rintro j e hj ⟨z, rfl⟩
  unfold l__law_count_0
  walk_at "den"
  exact ⟨_, rfl, _, by rw [Int.pow_succ, Int.mul_comm]⟩)
 rw [h2]
 walk_at "den"
theorem rows_many_run (n : Nat) (m : Int) (h0 : 0 <= m) (h1 : m < 1000) : run K a (n + 1) i_rows_many [.int m] = .ok (.fr (.int (2 ^ m.toNat))) := by
 rw [run_rows_many]
 unfold d_rows_many
 walk_at "den"
 rw [if_pos (okI_of (by omega) (by omega))]
 walk_at "den"
 obtain ⟨e', h2, z, rfl⟩ := for_rangeI (b := l_rows_many_0 K a (run K a n)) (i := 2) (lo := 0) (hi := m) m.toNat (by omega) (fun j e => ∃ z, e = [.fr (.int m), .fr (.int (2 ^ j)), z]) [.fr (.int m), .fr (.int 1), .no] ⟨_, rfl⟩ (by
  rintro j e hj ⟨z, rfl⟩
  unfold l_rows_many_0
  walk_at "den"
  exact ⟨_, rfl, _, by rw [Int.pow_succ, Int.mul_comm]⟩)
 rw [h2]
 walk_at "den"
noncomputable def lg (n : Nat) : Option Nat := (List.range 11).find? fun m => decide (2 ^ m = n)
noncomputable def placesR (a : Adr) : Option Nat -> FR
 | some m => .ok (.fr (.int m))
 | none => .ex (.ref a.NoTable)
theorem places_of_run (n : Nat) (ws : List W) : run K a (n + 2) i_places_of [.lst ws] = placesR a (lg ws.length) := by
 rw [run_places_of]
 unfold d_places_of
 walk_at "den"
 rw [if_pos (okI_of (by omega) (by omega))]
 walk_at "den"
 have e : rangeW 0 11 = (List.range 11).map fun (k : Nat) => W.int (0 + (k : Int)) := rfl
 have h := for_first (i := 1) (b := l_places_of_0 K a (run K a (n + 1))) (fun z => [.fr (.lst ws), z]) (fun w => match w with | .int k => decide ((ws.length : Int) = 2 ^ k.toNat) | _ => false) (fun w => .fr w) (rangeW 0 11) .no (by
  intro w hw z
  rw [e] at hw
  obtain ⟨k, hk, rfl⟩ := List.mem_map.mp hw
  rw [List.mem_range] at hk
  unfold l_places_of_0
  walk_at "den"
  rw [rows_many_run n _ (by omega) (by omega)]
  walk_at "den"
  constructor
  ·intro hp
   have hp : (ws.length : Int) = 2 ^ (0 + (k : Int)).toNat := by simpa using hp
   rw [if_pos hp]
   exact ⟨_, rfl⟩
  ·intro hp
   have hp : ¬ (ws.length : Int) = 2 ^ (0 + (k : Int)).toNat := by simpa using hp
   rw [if_neg hp]
   exact ⟨_, rfl⟩)
 have e2 : (rangeW 0 11).find? (fun w => match w with | .int k => decide ((ws.length : Int) = 2 ^ k.toNat) | _ => false) = (lg ws.length).map fun (k : Nat) => W.int (0 + (k : Int)) := by
  rw [e, List.find?_map]
  unfold lg
  congr 2
  funext k
  simp only [Function.comp]
  rw [show (0 + (k : Int)).toNat = k by omega]
  have : ((ws.length : Int) = 2 ^ k) ↔ 2 ^ k = ws.length := by
   constructor
   ·intro h; exact_mod_cast h.symm
   ·intro h; exact_mod_cast h.symm
  simp only [this]
 rw [e2] at h
 cases q : lg ws.length with
 | some m =>
  rw [q] at h
  obtain ⟨e', h1⟩ := h.1 _ rfl
  rw [h1]
  walk_at "den"
  simp [placesR]
 | none =>
  rw [q] at h
  obtain ⟨z', h1⟩ := h.2 rfl
  rw [h1]
  walk_at "den"
  rfl
theorem tableby_run (n : Nat) (cs : List Int) (m : Int) (h0 : 0 <= m) (h1 : m < 20) : ∃ bs : List Bool, run K a (n + 2) i__law_table_by [.lst (cs.map .int), .int m] = .ok (.own false (bs.map .bl)) /\ bs.length = 2 ^ m.toNat := by
 rw [run__law_table_by]
 unfold d__law_table_by
 walk_at "den"
 rw [count_run n m h0 (by omega)]
 walk_at "den"
 have hp : (2 : Int) ^ m.toNat <= 2 ^ 20 := by
  have : (2 : Nat) ^ m.toNat <= 2 ^ 20 := Nat.pow_le_pow_right (by decide) (by omega)
  exact_mod_cast this
 have hp0 : (0 : Int) <= 2 ^ m.toNat := by exact_mod_cast Nat.zero_le _
 generalize hq : (2 : Int) ^ m.toNat = q at hp hp0
 rw [if_pos (okI_of (by omega) (by omega))]
 walk_at "den"
 obtain ⟨e', h2, bs, z, rfl, h3⟩ := for_rangeI (b := l__law_table_by_0 K a (run K a (n + 1))) (i := 3) (lo := 0) (hi := q) q.toNat (by omega) (fun j e => ∃ (bs : List Bool) (z : S), e = [.fr (.lst (cs.map .int)), .fr (.int m), .own false (bs.map .bl), z] /\ bs.length = j) [.fr (.lst (cs.map .int)), .fr (.int m), .own false [], .no] ⟨[], _, rfl, rfl⟩ (by
  rintro j e hj ⟨bs, z, rfl, hb⟩
  unfold l__law_table_by_0
  walk_at "den"
  have app : ∀ b : Bool, ∃ e', (if (bs.map W.bl).length < 16777216 then SR.nx [.fr (.lst (cs.map .int)), .fr (.int m), .own false (bs.map .bl ++ [.bl b]), .fr (.int (0 + (j : Int)))] else SR.no) = .nx e' /\ ∃ (bs : List Bool) (z : S), e' = [.fr (.lst (cs.map .int)), .fr (.int m), .own false (bs.map .bl), z] /\ bs.length = j + 1 := fun b => by
   rw [if_pos (by rw [List.length_map]; omega)]
   exact ⟨_, rfl, bs ++ [b], _, by rw [List.map_append]; rfl, by simp [hb]⟩
  by_cases hc : cs.length = 0
  ·rw [if_pos (by rw [List.length_map]; omega)]
   exact app false
  ·rw [if_neg (by rw [List.length_map]; omega)]
   by_cases hk : j < cs.length
   ·rw [if_pos (by rw [List.length_map]; omega)]
    have hx : atI (cs.map W.int) (0 + (j : Int)) = some (.int cs[j]) := by
     rw [Int.zero_add]
     refine atI_nat ?_
     simp [hk]
    rw [hx]
    walk_at "den"
    exact app _
   ·rw [if_neg (by rw [List.length_map]; omega), if_pos (by rw [List.length_map]; omega)]
    walk_at "den"
    have hm1 := Int.emod_nonneg (0 + (j : Int)) (show ((cs.map W.int).length : Int) ≠ 0 by rw [List.length_map]; omega)
    have hm2 := Int.emod_lt_of_pos (0 + (j : Int)) (show (0 : Int) < ((cs.map W.int).length : Int) by rw [List.length_map]; omega)
    generalize (0 + (j : Int)) % ((cs.map W.int).length : Int) = r at hm1 hm2
    rw [List.length_map] at hm2
    have hx : atI (cs.map W.int) r = some (.int (cs[r.toNat]'(by omega))) := by
     rw [at_pos hm1]
     simp [show r.toNat < cs.length by omega]
    rw [hx]
    walk_at "den"
    rw [mixed_run n _ _ (by decide)]
    walk_at "den"
    exact app _)
 rw [h2]
 walk_at "den"
 refine ⟨bs, rfl, ?_⟩
 have : ((2 ^ m.toNat : Nat) : Int) = q := by rw [<- hq]; exact_mod_cast rfl
 omega
theorem whole_run (M : Exs K mg a) (n : Nat) (i : Int) : run K a (n + 1) i__law_whole [.int i] = .ok (.fr (.bl true)) := by
 rw [run__law_whole]
 unfold d__law_whole
 walk_at "den"
 rw [isi_int M.t_int_int]
 walk_at "den"
 rw [isi_int M.t_int_bool]
 walk_at "den"
theorem sl_two (w x : W) : slW (.tup [w, x]) (some (1 : Int)) none = some (.tup [x]) := rfl
theorem sl_three (w x y : W) : slW (.tup [w, x, y]) (some (1 : Int)) none = some (.tup [x, y]) := rfl
noncomputable def cst (bs : List Bool) : Bool := bs.all fun b => b == bs.getD 0 false
noncomputable def Fm.isT : Fm -> Bool
 | .is true => true
 | _ => false
noncomputable def choF (p : Nat) (l h : Fm) : Fm :=
 if l.isT = true then Fm.ease .o (.not (.at p)) h
 else if h.isT = true then Fm.ease .o (.at p) l
 else Fm.ease .o (Fm.ease .a (.not (.at p)) l) (Fm.ease .a (.at p) h)
noncomputable def ff : Nat -> Nat -> List Bool -> Fm
 | 0, _, bs => .is (bs.getD 0 false)
 | m + 1, p, bs =>
  if cst bs = true then .is (bs.getD 0 false)
  else if bs.take (2 ^ m) = bs.drop (2 ^ m) then ff m (p + 1) (bs.take (2 ^ m))
  else if cst (bs.take (2 ^ m)) = false /\ bs.drop (2 ^ m) = (bs.take (2 ^ m)).map not then .odd (ff m (p + 1) (bs.take (2 ^ m))) (.at p)
  else choF p (ff m (p + 1) (bs.take (2 ^ m))) (ff m (p + 1) (bs.drop (2 ^ m)))
def NonIs (f : Fm) : Prop := ¬ ∃ b, f = .is b
theorem cst_is {bs : List Bool} (h : cst bs = true) : ∀ b ∈ bs, b = bs.getD 0 false := fun b hb => by
 have := List.all_eq_true.mp h b hb
 simpa using this
theorem is_cst {bs : List Bool} {c : Bool} (h : ∀ b ∈ bs, b = c) : cst bs = true := by
 unfold cst
 rw [List.all_eq_true]
 intro b hb
 cases bs with
 | nil => cases hb
 | cons x xs =>
  have h1 := h x (by simp)
  have h2 := h b hb
  simp [h1, h2]
theorem cho_shape (p : Nat) (l h : Fm) (hn : ∀ b, ¬ (l = .is b /\ h = .is b)) :
  (l = .is true /\ h = .is false /\ choF p l h = .not (.at p)) \/ (l = .is true /\ NonIs h /\ choF p l h = .or (.not (.at p)) h) \/
  (l = .is false /\ h = .is true /\ choF p l h = .at p) \/ (NonIs l /\ h = .is true /\ choF p l h = .or (.at p) l) \/
  (l = .is false /\ NonIs h /\ choF p l h = .and (.at p) h) \/ (NonIs l /\ h = .is false /\ choF p l h = .and (.not (.at p)) l) \/
  (NonIs l /\ NonIs h /\ choF p l h = .or (.and (.not (.at p)) l) (.and (.at p) h)) := by
 have nt : NonIs (.not (.at p)) := fun ⟨b, e⟩ => by cases e
 have at' : NonIs (.at p) := fun ⟨b, e⟩ => by cases e
 have isT_non : ∀ f : Fm, NonIs f -> f.isT = false := fun f hf => by
  cases f with
  | is b => exact absurd ⟨b, rfl⟩ hf
  | _ => rfl
 by_cases hl : ∃ b, l = .is b
 ·obtain ⟨b, rfl⟩ := hl
  by_cases hh : ∃ c, h = .is c
  ·obtain ⟨c, rfl⟩ := hh
   cases b <;> cases c
   ·exact absurd ⟨rfl, rfl⟩ (hn false)
   ·exact .inr (.inr (.inl ⟨rfl, rfl, rfl⟩))
   ·exact .inl ⟨rfl, rfl, rfl⟩
   ·exact absurd ⟨rfl, rfl⟩ (hn true)
  ·have hT := isT_non h hh
   cases b with
   | true =>
    refine .inr (.inl ⟨rfl, hh, ?_⟩)
    unfold choF
    rw [if_pos (show (Fm.is true).isT = true from rfl), ease_no nt hh]
    rfl
   | false =>
    refine .inr (.inr (.inr (.inr (.inl ⟨rfl, hh, ?_⟩))))
    unfold choF
    rw [if_neg (by decide), if_neg (by rw [hT]; decide), ease_is2 nt, ease_no at' hh]
    rfl
 ·have lT := isT_non l hl
  by_cases hh : ∃ c, h = .is c
  ·obtain ⟨c, rfl⟩ := hh
   cases c with
   | true =>
    refine .inr (.inr (.inr (.inl ⟨hl, rfl, ?_⟩)))
    unfold choF
    rw [if_neg (by rw [lT]; decide), if_pos (show (Fm.is true).isT = true from rfl), ease_no at' hl]
    rfl
   | false =>
    refine .inr (.inr (.inr (.inr (.inr (.inl ⟨hl, rfl, ?_⟩)))))
    unfold choF
    rw [if_neg (by rw [lT]; decide), if_neg (by decide), ease_is2 at', ease_no nt hl]
    rfl
  ·have hT := isT_non h hh
   refine .inr (.inr (.inr (.inr (.inr (.inr ⟨hl, hh, ?_⟩)))))
   unfold choF
   rw [if_neg (by rw [lT]; decide), if_neg (by rw [hT]; decide), ease_no nt hl, ease_no at' hh]
   rfl
theorem tk_len {m : Nat} {bs : List Bool} (h : bs.length = 2 ^ (m + 1)) : (bs.take (2 ^ m)).length = 2 ^ m /\ (bs.drop (2 ^ m)).length = 2 ^ m := by
 rw [Nat.pow_succ] at h
 constructor
 ·rw [List.length_take]; omega
 ·rw [List.length_drop]; omega
theorem pow_ne (m : Nat) : 0 < 2 ^ m := Nat.two_pow_pos m
theorem ff_is : ∀ (m p : Nat) (bs : List Bool), bs.length = 2 ^ m -> ∀ b, ff m p bs = .is b -> ∀ x ∈ bs, x = b
 | 0, p, bs, hl, b, h, x, hx => by
  have : bs.getD 0 false = b := by injection h
  obtain ⟨y, rfl⟩ : ∃ y, bs = [y] := by
   match bs, hl with
   | [y], _ => exact ⟨y, rfl⟩
  simp at hx this
  rw [hx, this]
 | m + 1, p, bs, hl, b, h, x, hx => by
  obtain ⟨t1, t2⟩ := tk_len hl
  unfold ff at h
  by_cases c1 : cst bs = true
  ·rw [if_pos c1] at h
   have e : bs.getD 0 false = b := by injection h
   rw [<- e]
   exact cst_is c1 x hx
  ·rw [if_neg c1] at h
   by_cases c2 : bs.take (2 ^ m) = bs.drop (2 ^ m)
   ·rw [if_pos c2] at h
    have ih := ff_is m (p + 1) _ t1 b h
    have hx' : x ∈ bs.take (2 ^ m) ++ bs.drop (2 ^ m) := by rw [List.take_append_drop]; exact hx
    rcases List.mem_append.mp hx' with z | z
    ·exact ih x z
    ·rw [<- c2] at z; exact ih x z
   ·rw [if_neg c2] at h
    exfalso
    by_cases c3 : cst (bs.take (2 ^ m)) = false /\ bs.drop (2 ^ m) = (bs.take (2 ^ m)).map not
    ·rw [if_pos c3] at h; cases h
    ·rw [if_neg c3] at h
     have nn : ∀ b, ¬ (ff m (p + 1) (bs.take (2 ^ m)) = .is b /\ ff m (p + 1) (bs.drop (2 ^ m)) = .is b) := fun b ⟨z1, z2⟩ => by
      have q1 := ff_is m (p + 1) _ t1 b z1
      have q2 := ff_is m (p + 1) _ t2 b z2
      refine c1 (is_cst (c := b) fun y hy => ?_)
      have hy' : y ∈ bs.take (2 ^ m) ++ bs.drop (2 ^ m) := by rw [List.take_append_drop]; exact hy
      rcases List.mem_append.mp hy' with z | z
      ·exact q1 y z
      ·exact q2 y z
     rcases cho_shape p _ _ nn with ⟨_, _, e⟩ | ⟨_, _, e⟩ | ⟨_, _, e⟩ | ⟨_, _, e⟩ | ⟨_, _, e⟩ | ⟨_, _, e⟩ | ⟨_, _, e⟩ <;> (rw [e] at h; cases h)
theorem ff_nn {m p : Nat} {bs : List Bool} (hl : bs.length = 2 ^ (m + 1)) (c1 : ¬ cst bs = true) : ∀ b, ¬ (ff m (p + 1) (bs.take (2 ^ m)) = .is b /\ ff m (p + 1) (bs.drop (2 ^ m)) = .is b) := fun b ⟨z1, z2⟩ => by
 obtain ⟨t1, t2⟩ := tk_len hl
 have q1 := ff_is m (p + 1) _ t1 b z1
 have q2 := ff_is m (p + 1) _ t2 b z2
 refine c1 (is_cst (c := b) fun y hy => ?_)
 have hy' : y ∈ bs.take (2 ^ m) ++ bs.drop (2 ^ m) := by rw [List.take_append_drop]; exact hy
 rcases List.mem_append.mp hy' with z | z
 ·exact q1 y z
 ·exact q2 y z
theorem ff_ind {C : Nat -> Nat -> List Bool -> Fm -> Prop} (h0 : ∀ m p bs, bs.length = 2 ^ m -> (∀ x ∈ bs, x = bs.getD 0 false) -> C m p bs (.is (bs.getD 0 false)))
  (h1 : ∀ m p (bs l : List Bool), bs = l ++ l -> l.length = 2 ^ m -> C m (p + 1) l (ff m (p + 1) l) -> C (m + 1) p bs (ff m (p + 1) l))
  (h2 : ∀ m p (bs l : List Bool), bs = l ++ l.map not -> l.length = 2 ^ m -> cst l = false -> C m (p + 1) l (ff m (p + 1) l) -> C (m + 1) p bs (.odd (ff m (p + 1) l) (.at p)))
  (h3 : ∀ m p (bs l h : List Bool), bs = l ++ h -> l.length = 2 ^ m -> h.length = 2 ^ m -> l ≠ h -> C m (p + 1) l (ff m (p + 1) l) -> C m (p + 1) h (ff m (p + 1) h) -> (∀ b, ¬ (ff m (p + 1) l = .is b /\ ff m (p + 1) h = .is b)) -> C (m + 1) p bs (choF p (ff m (p + 1) l) (ff m (p + 1) h))) :
  ∀ (m p : Nat) (bs : List Bool), bs.length = 2 ^ m -> C m p bs (ff m p bs)
 | 0, p, bs, hl => by
  refine h0 0 p bs hl fun x hx => ?_
  match bs, hl with
  | [y], _ => simpa using hx
 | m + 1, p, bs, hl => by
  obtain ⟨t1, t2⟩ := tk_len hl
  have e : bs = bs.take (2 ^ m) ++ bs.drop (2 ^ m) := (List.take_append_drop _ _).symm
  have i1 := ff_ind h0 h1 h2 h3 m (p + 1) _ t1
  have i2 := ff_ind h0 h1 h2 h3 m (p + 1) _ t2
  unfold ff
  by_cases c1 : cst bs = true
  ·rw [if_pos c1]
   exact h0 _ _ _ hl (cst_is c1)
  ·rw [if_neg c1]
   by_cases c2 : bs.take (2 ^ m) = bs.drop (2 ^ m)
   ·rw [if_pos c2]
    exact h1 m p bs _ (by rw [<- c2] at e; exact e) t1 i1
   ·rw [if_neg c2]
    by_cases c3 : cst (bs.take (2 ^ m)) = false /\ bs.drop (2 ^ m) = (bs.take (2 ^ m)).map not
    ·rw [if_pos c3]
     exact h2 m p bs _ (by rw [<- c3.2]; exact e) t1 c3.1 i1
    ·rw [if_neg c3]
     exact h3 m p bs _ _ e t1 t2 c2 i1 i2 (ff_nn hl c1)
noncomputable def Fm.opn : Fm -> Nat -> Nat
 | .is _, _ => 0
 | .at _, _ => 0
 | .not f, l => f.opn 3 + (if 3 < l then 1 else 0)
 | .and f g, l => max (f.opn 2) (g.opn 3) + (if 2 < l then 1 else 0)
 | .or f g, l => max (f.opn 0) (g.opn 1) + (if 0 < l then 1 else 0)
 | .odd f g, l => max (f.opn 1) (g.opn 2) + (if 1 < l then 1 else 0)
theorem opn_le (f : Fm) (l : Nat) : f.opn l <= f.opn 0 + 1 := by
 cases f <;> simp only [Fm.opn] <;> first | omega | (split <;> simp <;> omega)
structure Fine (m p : Nat) (F : Fm) : Prop where
 d : F.depth <= 3 * m + 1
 z : (∃ b, F = .is b) \/ (F.size + 6 <= 4 * 2 ^ m)
 o : F.opn 0 <= m
 i : ∀ q, F.has q = true -> p <= q /\ q < p + m
theorem ff_fine (m p : Nat) (bs : List Bool) (hl : bs.length = 2 ^ m) : Fine m p (ff m p bs) := by
 refine ff_ind (C := fun m p bs F => Fine m p F) ?_ ?_ ?_ ?_ m p bs hl
 ·intro m p bs _ _
  exact ⟨by simp [Fm.depth], .inl ⟨_, rfl⟩, by simp [Fm.opn], fun q h => by cases h⟩
 ·intro m p bs l _ _ ih
  have := pow_ne m
  refine ⟨by have := ih.d; omega, ih.z.imp id fun h => by rw [Nat.pow_succ]; omega, by have := ih.o; omega, fun q h => by have := ih.i q h; omega⟩
 ·intro m p bs l _ hl2 hc ih
  have h0 := pow_ne m
  have h1 := opn_le (ff m (p + 1) l) 1
  refine ⟨by have := ih.d; simp only [Fm.depth]; omega, .inr ?_, by have := ih.o; simp (config := {decide := true}) only [Fm.opn, if_true, if_false]; omega, fun q h => ?_⟩
  ·rw [Nat.pow_succ]
   simp only [Fm.size]
   rcases ih.z with ⟨b, hb⟩ | hz
   ·have := is_cst (ff_is m (p + 1) l hl2 b hb)
    rw [hc] at this
    cases this
   ·omega
  ·have h : ((ff m (p + 1) l).has q || decide (p = q)) = true := h
   rcases Bool.or_eq_true _ _ ▸ h with z | z
   ·have := ih.i q z; omega
   ·have := of_decide_eq_true z; omega
 ·intro m p bs l h _ _ _ _ il ih nn
  have h0 := pow_ne m
  have a1 := opn_le (ff m (p + 1) l) 1
  have a3 := opn_le (ff m (p + 1) l) 3
  have b1 := opn_le (ff m (p + 1) h) 1
  have b3 := opn_le (ff m (p + 1) h) 3
  have dl := il.d
  have dh := ih.d
  have ol := il.o
  have oh := ih.o
  have zl : NonIs (ff m (p + 1) l) -> (ff m (p + 1) l).size + 6 <= 4 * 2 ^ m := fun n => il.z.resolve_left n
  have zh : NonIs (ff m (p + 1) h) -> (ff m (p + 1) h).size + 6 <= 4 * 2 ^ m := fun n => ih.z.resolve_left n
  have kl := il.i
  have kh := ih.i
  rcases cho_shape p _ _ nn with ⟨e1, e2, e⟩ | ⟨e1, e2, e⟩ | ⟨e1, e2, e⟩ | ⟨e1, e2, e⟩ | ⟨e1, e2, e⟩ | ⟨e1, e2, e⟩ | ⟨e1, e2, e⟩ <;> rw [e]
  ·refine ⟨by simp only [Fm.depth]; omega, .inr (by simp only [Fm.size]; rw [Nat.pow_succ]; omega), by simp (config := {decide := true}) only [Fm.opn, if_true, if_false]; omega, fun q hq => ?_⟩
   have := of_decide_eq_true (show decide (p = q) = true from hq); omega
  ·have := zh e2
   refine ⟨by simp only [Fm.depth]; omega, .inr (by simp only [Fm.size]; rw [Nat.pow_succ]; omega), by simp (config := {decide := true}) only [Fm.opn, if_true, if_false]; omega, fun q hq => ?_⟩
   rcases Bool.or_eq_true _ _ ▸ (show (decide (p = q) || (ff m (p + 1) h).has q) = true from hq) with z | z
   ·have := of_decide_eq_true z; omega
   ·have := kh q z; omega
  ·refine ⟨by simp only [Fm.depth]; omega, .inr (by simp only [Fm.size]; rw [Nat.pow_succ]; omega), by simp (config := {decide := true}) only [Fm.opn, if_true, if_false]; omega, fun q hq => ?_⟩
   have := of_decide_eq_true (show decide (p = q) = true from hq); omega
  ·have := zl e1
   refine ⟨by simp only [Fm.depth]; omega, .inr (by simp only [Fm.size]; rw [Nat.pow_succ]; omega), by simp (config := {decide := true}) only [Fm.opn, if_true, if_false]; omega, fun q hq => ?_⟩
   rcases Bool.or_eq_true _ _ ▸ (show (decide (p = q) || (ff m (p + 1) l).has q) = true from hq) with z | z
   ·have := of_decide_eq_true z; omega
   ·have := kl q z; omega
  ·have := zh e2
   refine ⟨by simp only [Fm.depth]; omega, .inr (by simp only [Fm.size]; rw [Nat.pow_succ]; omega), by simp (config := {decide := true}) only [Fm.opn, if_true, if_false]; omega, fun q hq => ?_⟩
   rcases Bool.or_eq_true _ _ ▸ (show (decide (p = q) || (ff m (p + 1) h).has q) = true from hq) with z | z
   ·have := of_decide_eq_true z; omega
   ·have := kh q z; omega
  ·have := zl e1
   refine ⟨by simp only [Fm.depth]; omega, .inr (by simp only [Fm.size]; rw [Nat.pow_succ]; omega), by simp (config := {decide := true}) only [Fm.opn, if_true, if_false]; omega, fun q hq => ?_⟩
   rcases Bool.or_eq_true _ _ ▸ (show (decide (p = q) || (ff m (p + 1) l).has q) = true from hq) with z | z
   ·have := of_decide_eq_true z; omega
   ·have := kl q z; omega
  ·have := zl e1
   have := zh e2
   refine ⟨by simp only [Fm.depth]; omega, .inr (by simp only [Fm.size]; rw [Nat.pow_succ]; omega), by simp (config := {decide := true}) only [Fm.opn, if_true, if_false]; omega, fun q hq => ?_⟩
   rcases Bool.or_eq_true _ _ ▸ (show ((decide (p = q) || (ff m (p + 1) l).has q) || (decide (p = q) || (ff m (p + 1) h).has q)) = true from hq) with z | z
   ·rcases Bool.or_eq_true _ _ ▸ z with z | z
    ·have := of_decide_eq_true z; omega
    ·have := kl q z; omega
   ·rcases Bool.or_eq_true _ _ ▸ z with z | z
    ·have := of_decide_eq_true z; omega
    ·have := kh q z; omega
noncomputable def nm (row : List Bool) : Nat -> Nat -> Nat
 | 0, _ => 0
 | m + 1, p => (if row.getD p false = true then 2 ^ m else 0) + nm row m (p + 1)
theorem nm_succ (row : List Bool) (m p : Nat) : nm row (m + 1) p = (if row.getD p false = true then 2 ^ m else 0) + nm row m (p + 1) := rfl
theorem nm_lt (row : List Bool) : ∀ m p, nm row m p < 2 ^ m
 | 0, p => by simp [nm]
 | m + 1, p => by
  have := nm_lt row m (p + 1)
  rw [nm_succ]
  rw [Nat.pow_succ]
  split <;> omega
theorem app_lo {l h : List Bool} {k : Nat} (hk : k < l.length) : (l ++ h).getD k false = l.getD k false := by
 simp [List.getD, List.getElem?_append_left hk]
theorem app_hi {l h : List Bool} {k : Nat} : (l ++ h).getD (l.length + k) false = h.getD k false := by
 simp [List.getD, List.getElem?_append_right]
theorem app_nm {l h : List Bool} {m p : Nat} (row : List Bool) (hl : l.length = 2 ^ m) : (l ++ h).getD (nm row (m + 1) p) false = if row.getD p false = true then h.getD (nm row m (p + 1)) false else l.getD (nm row m (p + 1)) false := by
 have hn := nm_lt row m (p + 1)
 rw [nm_succ]
 split
 ·rw [<- hl, app_hi]
 ·rw [Nat.zero_add, app_lo (by omega)]
theorem ff_val (row : List Bool) (m p : Nat) (bs : List Bool) (hl : bs.length = 2 ^ m) : (ff m p bs).val row = bs.getD (nm row m p) false := by
 refine ff_ind (C := fun m p bs F => F.val row = bs.getD (nm row m p) false) ?_ ?_ ?_ ?_ m p bs hl
 ·intro m p bs h0 hc
  have hn := nm_lt row m p
  have : bs.getD (nm row m p) false ∈ bs := by
   have hk : nm row m p < bs.length := by omega
   rw [show bs.getD (nm row m p) false = bs[nm row m p] by simp [List.getD, hk]]
   exact List.getElem_mem hk
  exact (hc _ this).symm
 ·intro m p bs l e h1 ih
  rw [ih, e, app_nm row h1, ite_self]
 ·intro m p bs l e h1 _ ih
  show ((ff m (p + 1) l).val row != row.getD p false) = _
  have hn := nm_lt row m (p + 1)
  have hk : nm row m (p + 1) < l.length := by omega
  have en : (l.map not).getD (nm row m (p + 1)) false = !l.getD (nm row m (p + 1)) false := by simp [List.getD, hk]
  rw [ih, e, app_nm row h1, en]
  cases row.getD p false <;> cases l.getD (nm row m (p + 1)) false <;> rfl
 ·intro m p bs l h e h1 h2 hne il ih nn
  rw [e, app_nm row h1, <- il, <- ih]
  rcases cho_shape p _ _ nn with ⟨e1, e2, e⟩ | ⟨e1, e2, e⟩ | ⟨e1, e2, e⟩ | ⟨e1, e2, e⟩ | ⟨e1, e2, e⟩ | ⟨e1, e2, e⟩ | ⟨e1, e2, e⟩ <;> rw [e]
  ·rw [e1, e2]; simp only [Fm.val]; cases row.getD p false <;> rfl
  ·rw [e1]; simp only [Fm.val]; cases row.getD p false <;> cases (ff m (p + 1) h).val row <;> rfl
  ·rw [e1, e2]; simp only [Fm.val]; cases row.getD p false <;> rfl
  ·rw [e2]; simp only [Fm.val]; cases row.getD p false <;> cases (ff m (p + 1) l).val row <;> rfl
  ·rw [e1]; simp only [Fm.val]; cases row.getD p false <;> cases (ff m (p + 1) h).val row <;> rfl
  ·rw [e2]; simp only [Fm.val]; cases row.getD p false <;> cases (ff m (p + 1) l).val row <;> rfl
  ·simp only [Fm.val]; cases row.getD p false <;> cases (ff m (p + 1) l).val row <;> cases (ff m (p + 1) h).val row <;> rfl
noncomputable def hang : Nat -> Nat -> List Bool -> Nat -> Bool
 | 0, _, _, _ => false
 | m + 1, p, bs, q => if q = p then !decide (bs.take (2 ^ m) = bs.drop (2 ^ m)) else hang m (p + 1) (bs.take (2 ^ m)) q || hang m (p + 1) (bs.drop (2 ^ m)) q
theorem hang_succ (m p : Nat) (bs : List Bool) (q : Nat) : hang (m + 1) p bs q = if q = p then !decide (bs.take (2 ^ m) = bs.drop (2 ^ m)) else hang m (p + 1) (bs.take (2 ^ m)) q || hang m (p + 1) (bs.drop (2 ^ m)) q := rfl
theorem tk_app {l h : List Bool} {n : Nat} (e : l.length = n) : (l ++ h).take n = l /\ (l ++ h).drop n = h := by
 subst e; simp
theorem hang_app {m p q : Nat} {l h : List Bool} (e : l.length = 2 ^ m) : hang (m + 1) p (l ++ h) q = if q = p then !decide (l = h) else hang m (p + 1) l q || hang m (p + 1) h q := by
 obtain ⟨t1, t2⟩ := tk_app (h := h) e
 rw [hang_succ, t1, t2]
theorem hang_lt : ∀ (m p : Nat) (bs : List Bool) (q : Nat), q < p -> hang m p bs q = false
 | 0, _, _, _, _ => rfl
 | m + 1, p, bs, q, h => by
  rw [hang_succ, if_neg (by omega), hang_lt m (p + 1) _ q (by omega), hang_lt m (p + 1) _ q (by omega)]
  rfl
theorem hang_cst : ∀ (m p : Nat) (bs : List Bool) (q : Nat) (c : Bool), bs.length = 2 ^ m -> (∀ x ∈ bs, x = c) -> hang m p bs q = false
 | 0, _, _, _, _, _, _ => rfl
 | m + 1, p, bs, q, c, hl, h => by
  obtain ⟨t1, t2⟩ := tk_len hl
  have i1 := hang_cst m (p + 1) (bs.take (2 ^ m)) q c t1 fun x hx => h x (List.mem_of_mem_take hx)
  have i2 := hang_cst m (p + 1) (bs.drop (2 ^ m)) q c t2 fun x hx => h x (List.mem_of_mem_drop hx)
  have e1 : bs.take (2 ^ m) = List.replicate (2 ^ m) c := List.eq_replicate_iff.mpr ⟨t1, fun x hx => h x (List.mem_of_mem_take hx)⟩
  have e2 : bs.drop (2 ^ m) = List.replicate (2 ^ m) c := List.eq_replicate_iff.mpr ⟨t2, fun x hx => h x (List.mem_of_mem_drop hx)⟩
  rw [hang_succ, i1, i2, e1, e2]
  simp
theorem not_inj {l h : List Bool} : l.map not = h.map not ↔ l = h := by
 constructor
 ·intro e
  have := congrArg (List.map not) e
  rw [List.map_map, List.map_map] at this
  have en : (not ∘ not) = (id : Bool -> Bool) := by funext b; cases b <;> rfl
  rw [en, List.map_id, List.map_id] at this
  exact this
 ·rintro rfl; rfl
theorem hang_not : ∀ (m p : Nat) (bs : List Bool) (q : Nat), hang m p (bs.map not) q = hang m p bs q
 | 0, _, _, _ => rfl
 | m + 1, p, bs, q => by
  rw [hang_succ, <- List.map_take, <- List.map_drop, hang_not m, hang_not m]
  congr 2
  simp only [not_inj]
theorem ff_has (q m p : Nat) (bs : List Bool) (hl : bs.length = 2 ^ m) : (ff m p bs).has q = hang m p bs q := by
 refine ff_ind (C := fun m p bs F => F.has q = hang m p bs q) ?_ ?_ ?_ ?_ m p bs hl
 ·intro m p bs h0 hc
  rw [hang_cst m p bs q _ h0 hc]
  rfl
 ·intro m p bs l e h1 ih
  rw [e, hang_app h1, ih]
  by_cases c : q = p
  ·rw [if_pos c, hang_lt m (p + 1) l q (by omega)]
   simp
  ·rw [if_neg c, Bool.or_self]
 ·intro m p bs l e h1 _ ih
  show ((ff m (p + 1) l).has q || decide (p = q)) = _
  rw [e, hang_app h1, ih, hang_not]
  by_cases c : q = p
  ·subst c
   have hne : ¬ l = l.map not := fun z => by
    have h0 := pow_ne m
    cases l with
    | nil => simp at h1; omega
    | cons x xs => simp at z
   rw [if_pos rfl, decide_eq_false hne, decide_eq_true rfl, Bool.or_true]
   rfl
  ·rw [if_neg c, Bool.or_self, decide_eq_false (fun z => c z.symm), Bool.or_false]
 ·intro m p bs l h e h1 h2 hne il ih nn
  rw [e, hang_app h1, <- il, <- ih]
  have key : (choF p (ff m (p + 1) l) (ff m (p + 1) h)).has q = (decide (p = q) || ((ff m (p + 1) l).has q || (ff m (p + 1) h).has q)) := by
   rcases cho_shape p _ _ nn with ⟨e1, e2, e⟩ | ⟨e1, e2, e⟩ | ⟨e1, e2, e⟩ | ⟨e1, e2, e⟩ | ⟨e1, e2, e⟩ | ⟨e1, e2, e⟩ | ⟨e1, e2, e⟩ <;> rw [e]
   ·rw [e1, e2]; simp [Fm.has]
   ·rw [e1]; simp [Fm.has]
   ·rw [e1, e2]; simp [Fm.has]
   ·rw [e2]; simp [Fm.has]
   ·rw [e1]; simp [Fm.has]
   ·rw [e2]; simp [Fm.has]
   ·simp only [Fm.has]; cases decide (p = q) <;> cases (ff m (p + 1) l).has q <;> cases (ff m (p + 1) h).has q <;> rfl
  rw [key]
  by_cases c : q = p
  ·rw [if_pos c, decide_eq_true c.symm, decide_eq_false hne]
   rfl
  ·rw [if_neg c, decide_eq_false (fun z => c z.symm), Bool.false_or]
theorem list_ne {l h : List Bool} (e : l.length = h.length) : l ≠ h ↔ ∃ k, k < l.length /\ l.getD k false ≠ h.getD k false := by
 constructor
 ·intro hne
  by_cases c : ∃ k, k < l.length /\ l.getD k false ≠ h.getD k false
  ·exact c
  ·exfalso
   refine hne (List.ext_getElem e fun k h1 h2 => ?_)
   have : ¬ l.getD k false ≠ h.getD k false := fun z => c ⟨k, h1, z⟩
   simp [List.getD, h1, h2] at this
   exact this
 ·rintro ⟨k, hk, hne⟩ rfl
  exact hne rfl
theorem hang_is : ∀ (m p : Nat) (bs : List Bool) (j : Nat), bs.length = 2 ^ m -> j < m -> (hang m p bs (p + j) = true ↔ ∃ k, k < 2 ^ m /\ k / 2 ^ (m - 1 - j) % 2 = 0 /\ bs.getD k false ≠ bs.getD (k + 2 ^ (m - 1 - j)) false)
 | 0, _, _, _, _, h => by omega
 | m + 1, p, bs, 0, hl, _ => by
  obtain ⟨t1, t2⟩ := tk_len hl
  have e : bs = bs.take (2 ^ m) ++ bs.drop (2 ^ m) := (List.take_append_drop _ _).symm
  generalize bs.take (2 ^ m) = l at *
  generalize bs.drop (2 ^ m) = h at *
  subst e
  rw [hang_app t1, if_pos (by omega)]
  have hp := pow_ne m
  simp only [Nat.add_zero, Nat.add_sub_cancel, Nat.sub_zero]
  rw [Bool.not_eq_true', decide_eq_false_iff_not]
  rw [show (¬ l = h) ↔ l ≠ h from Iff.rfl, list_ne (by omega)]
  constructor
  ·rintro ⟨k, hk, hne⟩
   refine ⟨k, by rw [Nat.pow_succ]; omega, by rw [Nat.div_eq_of_lt (by omega)], ?_⟩
   rw [app_lo (by omega), show k + 2 ^ m = l.length + k by omega, app_hi]
   exact hne
  ·rintro ⟨k, hk, hz, hne⟩
   have hk2 : k < 2 ^ m := by
    rcases Nat.lt_or_ge k (2 ^ m) with q | q
    ·exact q
    ·exfalso
     have : k / 2 ^ m = 1 := by
      rw [Nat.pow_succ] at hk
      exact Nat.div_eq_of_lt_le (by omega) (by omega)
     rw [this] at hz
     omega
   refine ⟨k, by omega, ?_⟩
   rw [app_lo (by omega), show k + 2 ^ m = l.length + k by omega, app_hi] at hne
   exact hne
 | m + 1, p, bs, j + 1, hl, hj => by
  obtain ⟨t1, t2⟩ := tk_len hl
  have e : bs = bs.take (2 ^ m) ++ bs.drop (2 ^ m) := (List.take_append_drop _ _).symm
  generalize bs.take (2 ^ m) = l at *
  generalize bs.drop (2 ^ m) = h at *
  subst e
  have i1 := hang_is m (p + 1) l j t1 (by omega)
  have i2 := hang_is m (p + 1) h j t2 (by omega)
  rw [show p + 1 + j = p + (j + 1) by omega] at i1 i2
  rw [hang_app t1, if_neg (by omega), Bool.or_eq_true, i1, i2, show m + 1 - 1 - (j + 1) = m - 1 - j by omega]
  obtain ⟨s, hs⟩ : ∃ s, m = (m - 1 - j) + (s + 1) := ⟨j, by omega⟩
  generalize m - 1 - j = t at *
  have e2 : 2 ^ m = 2 ^ t * (2 * 2 ^ s) := by rw [hs, Nat.pow_add, Nat.pow_succ]; rw [Nat.mul_comm (2 ^ s) 2]
  have hp := pow_ne t
  have hle : ∀ k, k < 2 ^ m -> k / 2 ^ t % 2 = 0 -> k + 2 ^ t < 2 ^ m := fun k hk hz => by
   have q1 : k / 2 ^ t < 2 * 2 ^ s := Nat.div_lt_of_lt_mul (by rw [<- e2]; exact hk)
   have q2 : k / 2 ^ t + 1 + 1 <= 2 * 2 ^ s := by omega
   have q3 := Nat.div_add_mod k (2 ^ t)
   have q4 := Nat.mod_lt k hp
   have q5 : 2 ^ t * (k / 2 ^ t + 1 + 1) <= 2 ^ t * (2 * 2 ^ s) := Nat.mul_le_mul_left _ q2
   rw [e2]
   rw [Nat.mul_add, Nat.mul_add] at q5
   omega
  constructor
  ·rintro (⟨k, hk, hz, hne⟩ | ⟨k, hk, hz, hne⟩)
   ·have := hle k hk hz
    refine ⟨k, by rw [Nat.pow_succ]; omega, hz, ?_⟩
    rw [app_lo (by omega), app_lo (by omega)]
    exact hne
   ·refine ⟨2 ^ m + k, by rw [Nat.pow_succ]; omega, ?_, ?_⟩
    ·rw [e2, Nat.mul_add_div hp, Nat.mul_add_mod]
     exact hz
    ·rw [<- t1, app_hi, Nat.add_assoc, app_hi]
     exact hne
  ·rintro ⟨k, hk, hz, hne⟩
   rcases Nat.lt_or_ge k (2 ^ m) with q | q
   ·have := hle k q hz
    rw [app_lo (by omega), app_lo (by omega)] at hne
    exact .inl ⟨k, q, hz, hne⟩
   ·obtain ⟨k', rfl⟩ : ∃ k', k = 2 ^ m + k' := ⟨k - 2 ^ m, by omega⟩
    rw [<- t1, app_hi, Nat.add_assoc, app_hi] at hne
    refine .inr ⟨k', by rw [Nat.pow_succ] at hk; omega, ?_, hne⟩
    rw [e2, Nat.mul_add_div hp, Nat.mul_add_mod] at hz
    exact hz
open M10
theorem comp_g {d : Den W} {pe : List S} (g : W -> W) : ∀ (ws : List W), (∀ w ∈ ws, ∃ e, d (.fr w :: pe) = .ok (g w) e) -> compD dYes d pe ws = some (ws.map g)
 | [], _ => rfl
 | w :: ws, h => by
  obtain ⟨e, h1⟩ := h w (by simp)
  rw [comp_cons]
  show (match d (.fr w :: pe) with | .ok y _ => (compD dYes d pe ws).map (y :: ·) | _ => none) = _
  rw [h1, comp_g g ws fun u hu => h u (by simp [hu])]
  rfl
theorem eqWs_bl : ∀ as bs : List Bool, eqWs (as.map .bl) (bs.map .bl) = some (decide (as = bs))
 | [], [] => rfl
 | [], b :: bs => by simp [eqWs]
 | x :: as, [] => by simp [eqWs]
 | x :: as, b :: bs => by
  rw [List.map_cons, List.map_cons]
  show (match eqW (.bl x) (.bl b), eqWs (as.map .bl) (bs.map .bl) with | some a, some b => some (a && b) | _, _ => none) = _
  rw [eqWs_bl as bs]
  show some ((x == b) && decide (as = bs)) = _
  congr 1
  rw [Bool.eq_iff_iff]
  simp
theorem depWs_bl : ∀ r : List Bool, depWs (r.map .bl) = 0
 | [] => rfl
 | b :: r => by show max 0 (depWs (r.map .bl)) = 0; rw [depWs_bl r]; rfl
theorem eq_bl (as bs : List Bool) : eq2 (.lst (as.map .bl)) (.lst (bs.map .bl)) = some (.bl (decide (as = bs))) := by
 show (if depWs (as.map .bl) + 1 <= 150 then (eqWs (as.map .bl) (bs.map .bl)).map W.bl else none) = _
 rw [depWs_bl, if_pos (by omega), eqWs_bl]
 rfl
theorem cst_run (n : Nat) (bs : List Bool) (hl : bs.length <= 100000) : run K a (n + 1) i_is_one_truth [.lst (bs.map .bl)] = .ok (.fr (.bl (cst bs))) := by
 rw [run_is_one_truth]
 unfold d_is_one_truth
 walk_at "den"
 rw [if_pos (by rw [List.length_map]; omega)]
 simp only [frz1, pj1, List.getElem?_cons_succ, List.getElem?_cons_zero]
 rw [comp_g (fun w => .bl (match w with | .bl b => b == bs.getD 0 false | _ => false))]
 ·walk_at "den"
  have e : (bs.map W.bl).map (fun w => W.bl (match w with | .bl b => b == bs.getD 0 false | _ => false)) = (bs.map fun b => b == bs.getD 0 false).map W.bl := by rw [List.map_map, List.map_map]; rfl
  rw [e, all_l]
  walk_at "den"
  unfold cst
  rw [List.all_map]
  rfl
 ·intro w hw
  obtain ⟨b, hb, rfl⟩ := List.mem_map.mp hw
  unfold e_is_one_truth_0
  walk_at "den"
  have h0 : 0 < bs.length := List.length_pos_of_mem hb
  have hx : (bs.map W.bl)[0]? = some (.bl (bs.getD 0 false)) := by simp [List.getD, h0]
  rw [hx]
  walk_at "den"
  refine ⟨_, congrArg (fun z => R.ok (W.bl z) _) ?_⟩
  cases b <;> cases bs.getD 0 false <;> rfl
theorem eqT : ∀ f : Fm, eqW (enc f) (.tup [.str "is", .bl true]) = some f.isT := by
 intro f
 match f with
 | .is b => cases b <;> rfl
 | .at p => rfl
 | .not f => cases f <;> rfl
 | .and f g => cases f <;> rfl
 | .or f g => cases f <;> rfl
 | .odd f g => cases f <;> rfl
theorem eq_T (f : Fm) (hd : f.depth <= 149) : eq2 (enc f) (.tup [.str "is", .bl true]) = some (.bl f.isT) := by
 have := depW_enc f
 show (if depW (enc f) <= 150 then (eqW (enc f) (.tup [.str "is", .bl true])).map W.bl else none) = _
 rw [if_pos (by omega), eqT]
 rfl
theorem cho_run (n : Nat) (p : Nat) (l h : Fm) (hd : l.depth <= 149) (hd2 : h.depth <= 149) : run K a (n + 4) i_chosen [.int (p : Int), enc l, enc h] = .ok (.fr (enc (choF p l h))) := by
 rw [run_chosen]
 unfold d_chosen
 walk_at "den"
 rw [eq_T l hd]
 walk_at "den"
 unfold choF
 have eo := fun f g => ease_run (K := K) (a := a) n .o f g
 have ea := fun f g => ease_run (K := K) (a := a) n .a f g
 simp only [wd] at eo ea
 have ent : (W.tup [.str "not", .tup [.str "at", .int (p : Int)]]) = enc (.not (.at p)) := rfl
 have eat : (W.tup [.str "at", .int (p : Int)]) = enc (.at p) := rfl
 cases l.isT with
 | true =>
  rw [if_pos rfl]
  walk_at "den"
  rw [ent, eo]
  walk_at "den"
 | false =>
  rw [if_neg (by decide)]
  walk_at "den"
  rw [eq_T h hd2]
  walk_at "den"
  cases h.isT with
  | true =>
   rw [if_pos rfl]
   walk_at "den"
   rw [eat, eo]
   walk_at "den"
  | false =>
   rw [if_neg (by decide)]
   walk_at "den"
   rw [ent, ea]
   walk_at "den"
   rw [eat, ea]
   walk_at "den"
   rw [eo]
   walk_at "den"
theorem ffrom_run : ∀ (m n p : Nat) (bs : List Bool), bs.length = 2 ^ m -> m <= 10 -> run K a (n + m + 6) i_form_from [.lst (bs.map .bl), .int (p : Int)] = .ok (.fr (enc (ff m p bs)))
 | 0, n, p, bs, hl, hm => by
  rw [show n + 0 + 6 = n + 5 + 1 by omega, run_form_from]
  unfold d_form_from
  walk_at "den"
  obtain ⟨y, rfl⟩ : ∃ y, bs = [y] := by
   match bs, hl with
   | [y], _ => exact ⟨y, rfl⟩
  rw [cst_run (n + 4) [y] (by simp), show cst [y] = true by cases y <;> rfl]
  walk_at "den"
  rfl
 | m + 1, n, p, bs, hl, hm => by
  have h10 : 2 ^ (m + 1) <= 2 ^ 10 := Nat.pow_le_pow_right (by decide) hm
  obtain ⟨t1, t2⟩ := tk_len hl
  have hp := pow_ne m
  rw [show n + (m + 1) + 6 = n + m + 6 + 1 by omega, run_form_from]
  unfold d_form_from
  walk_at "den"
  rw [cst_run (n + m + 5) bs (by omega)]
  walk_at "den"
  unfold ff
  cases hc : cst bs with
  | true =>
   rw [if_pos rfl]
   walk_at "den"
   have h0 : 0 < bs.length := by omega
   have hx : (bs.map W.bl)[0]? = some (.bl (bs.getD 0 false)) := by simp [List.getD, h0]
   rw [hx]
   walk_at "den"
   rfl
  | false =>
   rw [if_neg (by decide)]
   walk_at "den"
   rw [List.length_map, hl]
   rw [show ((2 ^ (m + 1) : Nat) : Int) / 2 = ((2 ^ m : Nat) : Int) by rw [Nat.pow_succ]; omega]
   rw [cut_take, cut_drop _ _ (by rw [List.length_map]; omega), <- List.map_take, <- List.map_drop]
   walk_at "den"
   have i1 := ffrom_run m n (p + 1) (bs.take (2 ^ m)) t1 (by omega)
   have i2 := ffrom_run m n (p + 1) (bs.drop (2 ^ m)) t2 (by omega)
   rw [show ((p + 1 : Nat) : Int) = (p : Int) + 1 by omega] at i1 i2
   rw [i1]
   walk_at "den"
   rw [eq_bl]
   walk_at "den"
   by_cases c2 : bs.take (2 ^ m) = bs.drop (2 ^ m)
   ·rw [if_pos c2, if_pos c2]
   ·rw [if_neg c2, if_neg c2]
    walk_at "den"
    rw [cst_run (n + m + 5) _ (by omega)]
    have d1 := (ff_fine m (p + 1) _ t1).d
    have d2 := (ff_fine m (p + 1) _ t2).d
    have last : ((((dRet (dCall (run K a (n + m + 6) i_chosen) (dCons (dVar 1) (dCons (dVar 5) (dCons (dCall (run K a (n + m + 6) i_form_from) (dCons (dVar 4) (dCons (dOp addX (dVar 1) (dC (.int 1))) dNil))) dNil)))))) : List S -> SR) [.fr (.lst (bs.map .bl)), .fr (.int (p : Int)), .fr (.int ((2 ^ m : Nat) : Int)), .fr (.lst ((bs.take (2 ^ m)).map .bl)), .fr (.lst ((bs.drop (2 ^ m)).map .bl)), .fr (enc (ff m (p + 1) (bs.take (2 ^ m))))]).fn = .ok (.fr (enc (choF p (ff m (p + 1) (bs.take (2 ^ m))) (ff m (p + 1) (bs.drop (2 ^ m)))))) := by
     walk_at "den"
     rw [i2]
     walk_at "den"
     rw [cho_run (n + m + 2) p _ _ (by omega) (by omega)]
     walk_at "den"
    cases c3 : cst (bs.take (2 ^ m)) with
    | true =>
     rw [if_neg (fun z => by cases z.1)]
     revert last
     walk_at "den"
     exact id
    | false =>
     walk_at "den"
     rw [if_pos (by rw [List.length_map]; omega)]
     rw [comp_g (fun w => match w with | .bl b => .bl (!b) | w => w)]
     ·walk_at "den"
      have e : ((bs.take (2 ^ m)).map W.bl).map (fun w => match w with | .bl b => W.bl (!b) | w => w) = ((bs.take (2 ^ m)).map not).map W.bl := by rw [List.map_map, List.map_map]; rfl
      rw [e, eq_bl]
      walk_at "den"
      by_cases c4 : bs.drop (2 ^ m) = (bs.take (2 ^ m)).map not
      ·rw [if_pos c4, if_pos (by first | exact c4 | exact ⟨rfl, c4⟩)]
       walk_at "den"
       rfl
      ·rw [if_neg c4, if_neg (by first | exact c4 | exact fun z => c4 z.2)]
       revert last
       walk_at "den"
       exact id
     ·intro w hw
      obtain ⟨b, hb, rfl⟩ := List.mem_map.mp hw
      unfold e_form_from_0
      walk_at "den"
      exact ⟨_, rfl⟩
theorem ftab_run (n : Nat) {m : Nat} {bs : List Bool} (hl : bs.length = 2 ^ m) (hm : m <= 10) : run K a (n + 17) i_form_of_table [.lst (bs.map .bl)] = .ok (.fr (enc (ff m 0 bs))) := by
 rw [run_form_of_table]
 unfold d_form_of_table
 walk_at "den"
 have e : lg (bs.map W.bl).length = some m := by
  rw [List.length_map, hl]
  have : m = 0 \/ m = 1 \/ m = 2 \/ m = 3 \/ m = 4 \/ m = 5 \/ m = 6 \/ m = 7 \/ m = 8 \/ m = 9 \/ m = 10 := by omega
  rcases this with rfl | rfl | rfl | rfl | rfl | rfl | rfl | rfl | rfl | rfl | rfl <;> decide
 rw [places_of_run (n + 14), e]
 simp only [placesR]
 walk_at "den"
 have z := ffrom_run (K := K) (a := a) m (n + (10 - m)) 0 bs hl hm
 rw [show n + (10 - m) + m + 6 = n + 16 by omega] at z
 have z : run K a (n + 16) i_form_from [.lst (bs.map .bl), .int 0] = _ := z
 rw [z]
 walk_at "den"
theorem ftab_ex (n : Nat) {ws : List W} (h : lg ws.length = none) : run K a (n + 17) i_form_of_table [.lst ws] = .ex (.ref a.NoTable) := by
 rw [run_form_of_table]
 unfold d_form_of_table
 walk_at "den"
 rw [places_of_run (n + 14), h]
 rfl
theorem isform_bin (M : Exs K mg a) {w : Str} {f g : Fm} (n : Nat) (d : Int) (h1 : w ≠ "is") (h2 : w ≠ "at") (h3 : w ≠ "not") (e : ninW (.str w) (.lst [.str "and", .str "or", .str "odd"]) = some (.bl false)) (hd : d <= 60)
  (i1 : run K a (n + 1) i__law_is_form [enc f, .int (d + 1)] = .ok (.fr (.bl true))) (i2 : run K a (n + 1) i__law_is_form [enc g, .int (d + 1)] = .ok (.fr (.bl true))) : run K a (n + 2) i__law_is_form [.tup [.str w, enc f, enc g], .int d] = .ok (.fr (.bl true)) := by
 rw [run__law_is_form]; unfold d__law_is_form
 walk_at "den"
 rw [isi_tup M.t_tuple_tuple]
 walk_at "den"
 rw [if_neg (by simp), if_neg (by omega), isi_str M.t_str_str]
 walk_at "den"
 rw [if_neg h1, if_neg h2, if_neg h3, e]
 walk_at "den"
 rw [i1]
 walk_at "den"
 rw [i2]
 walk_at "den"
 try rfl
theorem isform_run (M : Exs K mg a) : ∀ (f : Fm) (n : Nat) (d : Int), f.depth <= n -> d + f.depth <= 61 -> run K a (n + 1) i__law_is_form [enc f, .int d] = .ok (.fr (.bl true))
 | .is b, n, d, hn, hd => by
  simp only [Fm.depth] at hd
  rw [run__law_is_form]; unfold d__law_is_form; simp only [enc]
  walk_at "den"
  rw [isi_tup M.t_tuple_tuple]
  walk_at "den"
  rw [if_neg (by simp), if_neg (by omega), isi_str M.t_str_str]
  walk_at "den"
  rw [isi_bool M.t_bool_bool]
  walk_at "den"
  try rfl
 | .at p, n, d, hn, hd => by
  obtain ⟨n, rfl⟩ : ∃ k, n = k + 1 := ⟨n - 1, by simp only [Fm.depth] at hn; omega⟩
  simp only [Fm.depth] at hd
  rw [run__law_is_form]; unfold d__law_is_form; simp only [enc]
  walk_at "den"
  rw [isi_tup M.t_tuple_tuple]
  walk_at "den"
  rw [if_neg (by simp), if_neg (by omega), isi_str M.t_str_str]
  walk_at "den"
  rw [whole_run M n]
  walk_at "den"
  try rfl
 | .not f, n, d, hn, hd => by
  obtain ⟨n, rfl⟩ : ∃ k, n = k + 1 := ⟨n - 1, by simp only [Fm.depth] at hn; omega⟩
  simp only [Fm.depth] at hd hn
  have hp := f.depth_pos
  rw [run__law_is_form]; unfold d__law_is_form; simp only [enc]
  walk_at "den"
  rw [isi_tup M.t_tuple_tuple]
  walk_at "den"
  rw [if_neg (by simp), if_neg (by omega), isi_str M.t_str_str]
  walk_at "den"
  rw [isform_run M f n (d + 1) (by omega) (by omega)]
  walk_at "den"
  try rfl
 | .and f g, n, d, hn, hd => by
  obtain ⟨n, rfl⟩ : ∃ k, n = k + 1 := ⟨n - 1, by simp only [Fm.depth] at hn; omega⟩
  simp only [Fm.depth] at hd hn
  have hp := f.depth_pos
  exact isform_bin M (w := "and") n d (str_ne (by decide)) (str_ne (by decide)) (str_ne (by decide)) rfl (by omega) (isform_run M f n (d + 1) (by omega) (by omega)) (isform_run M g n (d + 1) (by omega) (by omega))
 | .or f g, n, d, hn, hd => by
  obtain ⟨n, rfl⟩ : ∃ k, n = k + 1 := ⟨n - 1, by simp only [Fm.depth] at hn; omega⟩
  simp only [Fm.depth] at hd hn
  have hp := f.depth_pos
  exact isform_bin M (w := "or") n d (str_ne (by decide)) (str_ne (by decide)) (str_ne (by decide)) rfl (by omega) (isform_run M f n (d + 1) (by omega) (by omega)) (isform_run M g n (d + 1) (by omega) (by omega))
 | .odd f g, n, d, hn, hd => by
  obtain ⟨n, rfl⟩ : ∃ k, n = k + 1 := ⟨n - 1, by simp only [Fm.depth] at hn; omega⟩
  simp only [Fm.depth] at hd hn
  have hp := f.depth_pos
  exact isform_bin M (w := "odd") n d (str_ne (by decide)) (str_ne (by decide)) (str_ne (by decide)) rfl (by omega) (isform_run M f n (d + 1) (by omega) (by omega)) (isform_run M g n (d + 1) (by omega) (by omega))
theorem truthL_run : ∀ (f : Fm) (n : Nat) {row : List Bool}, f.depth <= n -> f.inb row.length -> run K a n i__law_truth [enc f, .tup (row.map .bl)] = .ok (.fr (.bl (f.val row)))
  | .is b, n, row, hd, hb => by
    obtain ⟨n, rfl⟩ : ∃ k, n = k + 1 := ⟨n - 1, by simp only [Fm.depth] at hd; omega⟩
    rw [run__law_truth]; unfold d__law_truth; simp only [enc]
    walk_at "den"
    rfl
  | .at p, n, row, hd, hb => by
    obtain ⟨n, rfl⟩ : ∃ k, n = k + 1 := ⟨n - 1, by simp only [Fm.depth] at hd; omega⟩
    rw [run__law_truth]; unfold d__law_truth; simp only [enc]
    walk_at "den"
    rw [row_at hb]
    walk_at "den"
    rfl
  | .not f, n, row, hd, hb => by
    obtain ⟨n, rfl⟩ : ∃ k, n = k + 1 := ⟨n - 1, by simp only [Fm.depth] at hd; omega⟩
    rw [run__law_truth]; unfold d__law_truth; simp only [enc]
    walk_at "den"
    rw [truthL_run f n (by simp only [Fm.depth] at hd; omega) hb]
    walk_at "den"
    rfl
  | .and f g, n, row, hd, hb => by
    obtain ⟨n, rfl⟩ : ∃ k, n = k + 1 := ⟨n - 1, by simp only [Fm.depth] at hd; omega⟩
    simp only [Fm.depth] at hd
    rw [run__law_truth]; unfold d__law_truth; simp only [enc]
    walk_at "den"
    rw [truthL_run f n (by omega) hb.1]
    have ig := truthL_run g n (by omega) hb.2
    simp only [Fm.val]
    cases f.val row
    . walk_at "den"
      first
        | done
        | rfl
        | (rw [ig]
           walk_at "den"
           cases g.val row <;> rfl)
        | (rw [ig]
           walk_at "den")
    . walk_at "den"
      first
        | done
        | rfl
        | (rw [ig]
           walk_at "den"
           cases g.val row <;> rfl)
        | (rw [ig]
           walk_at "den")
  | .or f g, n, row, hd, hb => by
    obtain ⟨n, rfl⟩ : ∃ k, n = k + 1 := ⟨n - 1, by simp only [Fm.depth] at hd; omega⟩
    simp only [Fm.depth] at hd
    rw [run__law_truth]; unfold d__law_truth; simp only [enc]
    walk_at "den"
    rw [truthL_run f n (by omega) hb.1]
    have ig := truthL_run g n (by omega) hb.2
    simp only [Fm.val]
    cases f.val row
    . walk_at "den"
      first
        | done
        | rfl
        | (rw [ig]
           walk_at "den"
           cases g.val row <;> rfl)
        | (rw [ig]
           walk_at "den")
    . walk_at "den"
      first
        | done
        | rfl
        | (rw [ig]
           walk_at "den"
           cases g.val row <;> rfl)
        | (rw [ig]
           walk_at "den")
  | .odd f g, n, row, hd, hb => by
    obtain ⟨n, rfl⟩ : ∃ k, n = k + 1 := ⟨n - 1, by simp only [Fm.depth] at hd; omega⟩
    simp only [Fm.depth] at hd
    rw [run__law_truth]; unfold d__law_truth; simp only [enc]
    walk_at "den"
    rw [truthL_run f n (by omega) hb.1]
    have ig := truthL_run g n (by omega) hb.2
    simp only [Fm.val]
    cases f.val row
    . walk_at "den"
      first
        | done
        | rfl
        | (rw [ig]
           walk_at "den"
           cases g.val row <;> rfl)
        | (rw [ig]
           walk_at "den")
    . walk_at "den"
      first
        | done
        | rfl
        | (rw [ig]
           walk_at "den"
           cases g.val row <;> rfl)
        | (rw [ig]
           walk_at "den")
theorem lsize_bin (n : Nat) {w : Str} {f g : Fm} (e : inW (.str w) (.lst [.str "is", .str "at"]) = some (.bl false)) (hz : f.size + g.size + 1 <= 100000) (i1 : run K a n i__law_size [enc f] = .ok (.fr (.int (f.size : Int)))) (i2 : run K a n i__law_size [enc g] = .ok (.fr (.int (g.size : Int)))) : run K a (n + 1) i__law_size [.tup [.str w, enc f, enc g]] = .ok (.fr (.int ((f.size + g.size + 1 : Nat) : Int))) := by
 rw [run__law_size]; unfold d__law_size
 walk_at "den"
 rw [e]
 walk_at "den"
 rw [sl_three]
 walk_at "den"
 have e1 : ∀ h : Fm, run K a n i__law_size [enc h] = .ok (.fr (.int (h.size : Int))) -> e__law_size_0 K a (run K a n) [.fr (enc h)] = .ok (.int (h.size : Int)) [.fr (enc h)] := fun h ih => by
  unfold e__law_size_0
  walk_at "den"
  rw [ih]
  walk_at "den"
 have f1 := e1 f i1
 have g1 := e1 g i2
 have k1 : compD dYes (e__law_size_0 K a (run K a n)) [] [enc g] = some [.int (g.size : Int)] := by
  rw [comp_cons]
  show (match e__law_size_0 K a (run K a n) [.fr (enc g)] with | .ok y _ => (compD dYes (e__law_size_0 K a (run K a n)) [] []).map (y :: ·) | _ => none) = _
  rw [g1]
  rfl
 have k2 : compD dYes (e__law_size_0 K a (run K a n)) [] [enc f, enc g] = some [.int (f.size : Int), .int (g.size : Int)] := by
  rw [comp_cons]
  show (match e__law_size_0 K a (run K a n) [.fr (enc f)] with | .ok y _ => (compD dYes (e__law_size_0 K a (run K a n)) [] [enc g]).map (y :: ·) | _ => none) = _
  rw [f1, k1]
  rfl
 rw [k2]
 walk_at "den"
 have s1 := sum1_l (ns := [(f.size : Int), (g.size : Int)]) (by simp) (fun n hn => by simp at hn; omega)
 have s1 : sum1 [.lst [.int (f.size : Int), .int (g.size : Int)]] = _ := s1
 rw [s1]
 walk_at "den"
 congr 3
 simp
 omega
theorem lsize_run : ∀ (f : Fm) (n : Nat), f.depth <= n -> f.size <= 100000 -> run K a n i__law_size [enc f] = .ok (.fr (.int (f.size : Int)))
 | .is b, n, hd, hz => by
  obtain ⟨n, rfl⟩ : ∃ k, n = k + 1 := ⟨n - 1, by simp only [Fm.depth] at hd; omega⟩
  rw [run__law_size]; unfold d__law_size; simp only [enc]
  walk_at "den"
  have e : inW (.str "is") (.lst [.str "is", .str "at"]) = some (.bl true) := rfl
  rw [e]
  walk_at "den"
  rfl
 | .at p, n, hd, hz => by
  obtain ⟨n, rfl⟩ : ∃ k, n = k + 1 := ⟨n - 1, by simp only [Fm.depth] at hd; omega⟩
  rw [run__law_size]; unfold d__law_size; simp only [enc]
  walk_at "den"
  have e : inW (.str "at") (.lst [.str "is", .str "at"]) = some (.bl true) := rfl
  rw [e]
  walk_at "den"
  rfl
 | .not f, n, hd, hz => by
  obtain ⟨n, rfl⟩ : ∃ k, n = k + 1 := ⟨n - 1, by simp only [Fm.depth] at hd; omega⟩
  simp only [Fm.depth] at hd
  simp only [Fm.size] at hz
  rw [run__law_size]; unfold d__law_size; simp only [enc]
  walk_at "den"
  have e : inW (.str "not") (.lst [.str "is", .str "at"]) = some (.bl false) := rfl
  rw [e]
  walk_at "den"
  rw [sl_two]
  walk_at "den"
  have i1 := lsize_run f n (by omega) (by omega)
  have k1 : compD dYes (e__law_size_0 K a (run K a n)) [] [enc f] = some [.int (f.size : Int)] := by
   rw [comp_cons]
   show (match e__law_size_0 K a (run K a n) [.fr (enc f)] with | .ok y _ => (compD dYes (e__law_size_0 K a (run K a n)) [] []).map (y :: ·) | _ => none) = _
   have e1 : e__law_size_0 K a (run K a n) [.fr (enc f)] = .ok (.int (f.size : Int)) [.fr (enc f)] := by
    unfold e__law_size_0
    walk_at "den"
    rw [i1]
    walk_at "den"
   rw [e1]
   rfl
  rw [k1]
  walk_at "den"
  have s1 := sum1_l (ns := [(f.size : Int)]) (by simp) (fun n hn => by simp at hn; omega)
  have s1 : sum1 [.lst [.int (f.size : Int)]] = _ := s1
  rw [s1]
  walk_at "den"
  simp only [Fm.size]
  congr 3
  simp
  omega
 | .and f g, n, hd, hz => by
  obtain ⟨n, rfl⟩ : ∃ k, n = k + 1 := ⟨n - 1, by simp only [Fm.depth] at hd; omega⟩
  simp only [Fm.depth] at hd
  simp only [Fm.size] at hz
  exact lsize_bin n (w := "and") rfl hz (lsize_run f n (by omega) (by omega)) (lsize_run g n (by omega) (by omega))
 | .or f g, n, hd, hz => by
  obtain ⟨n, rfl⟩ : ∃ k, n = k + 1 := ⟨n - 1, by simp only [Fm.depth] at hd; omega⟩
  simp only [Fm.depth] at hd
  simp only [Fm.size] at hz
  exact lsize_bin n (w := "or") rfl hz (lsize_run f n (by omega) (by omega)) (lsize_run g n (by omega) (by omega))
 | .odd f g, n, hd, hz => by
  obtain ⟨n, rfl⟩ : ∃ k, n = k + 1 := ⟨n - 1, by simp only [Fm.depth] at hd; omega⟩
  simp only [Fm.depth] at hd
  simp only [Fm.size] at hz
  exact lsize_bin n (w := "odd") rfl hz (lsize_run f n (by omega) (by omega)) (lsize_run g n (by omega) (by omega))
theorem pl_sorted (f : Fm) : ((pl f).map fun (p : Nat) => (p : Int)).Pairwise (· < ·) := by
 rw [List.pairwise_map]
 unfold pl
 refine List.Pairwise.imp (fun h => by omega) (List.Pairwise.filter _ (List.pairwise_lt_range (n := 12)))
theorem nW_ints (l : List Nat) : l.map nW = (l.map fun (p : Nat) => (p : Int)).map W.int := by
 rw [List.map_map]
 rfl
theorem mem_pl {f : Fm} {p : Nat} (h12 : p < 12) : p ∈ pl f ↔ f.has p = true := by
 unfold pl
 rw [List.mem_filter, List.mem_range]
 exact ⟨fun h => h.2, fun h => ⟨h12, h⟩⟩
theorem pl_lt {f : Fm} {p : Nat} (h : p ∈ pl f) : p < 12 := List.mem_range.mp (List.mem_filter.mp h).1
theorem ss_pl (f : Fm) (l : List Nat) (hl : l.length <= 60) (h : ∀ p, p ∈ pl f ↔ p ∈ l) : sortset1 [.lst (l.map nW)] = some (plW f) := by
 have e := sortset_is (pl_sorted f) (ns := l.map fun (p : Nat) => (p : Int)) (fun x => by
  simp only [List.mem_map]
  constructor
  ·rintro ⟨p, hp, rfl⟩; exact ⟨p, (h p).mp hp, rfl⟩
  ·rintro ⟨p, hp, rfl⟩; exact ⟨p, (h p).mpr hp, rfl⟩)
 rw [nW_ints, sortset_l (by rw [List.length_map]; omega) (by rw [<- (sortI_perm _).length_eq, e, List.length_map]; have := pl_len f; omega), e]
 unfold plW
 rw [nW_ints]
theorem lplaces_bin (n : Nat) {w : Str} {f g h : Fm} (h1 : w ≠ "is") (h2 : w ≠ "at") (h3 : w ≠ "not") (hh : ∀ p, h.has p = (f.has p || g.has p)) (i1 : run K a n i__law_places [enc f] = .ok (.own false (plW f))) (i2 : run K a n i__law_places [enc g] = .ok (.own false (plW g))) : run K a (n + 1) i__law_places [.tup [.str w, enc f, enc g]] = .ok (.own false (plW h)) := by
 rw [run__law_places]; unfold d__law_places
 walk_at "den"
 rw [if_neg h1, if_neg h2, i1]
 walk_at "den"
 rw [if_pos (by rw [decide_eq_false h3]; rfl), i2]
 walk_at "den"
 have l1 := pl_len f
 have l2 := pl_len g
 rw [if_pos (by simp only [plW, List.length_map]; omega)]
 walk_at "den"
 have z := ss_pl h (pl f ++ pl g) (by rw [List.length_append]; omega) (fun p => by
  rw [List.mem_append]
  by_cases q : p < 12
  ·rw [mem_pl q, mem_pl q, mem_pl q, hh p, Bool.or_eq_true]
  ·exact ⟨fun z => absurd (pl_lt z) q, fun z => z.elim (fun z => absurd (pl_lt z) q) fun z => absurd (pl_lt z) q⟩)
 rw [List.map_append] at z
 have z : sortset1 [.lst (plW f ++ plW g)] = _ := z
 rw [z]
 walk_at "den"
theorem lplaces_run : ∀ (f : Fm) (n : Nat), f.depth <= n -> f.inb 12 -> run K a n i__law_places [enc f] = .ok (.own false (plW f))
 | .is b, n, hd, hb => by
  obtain ⟨n, rfl⟩ : ∃ k, n = k + 1 := ⟨n - 1, by simp only [Fm.depth] at hd; omega⟩
  rw [run__law_places]; unfold d__law_places; simp only [enc]
  walk_at "den"
  rfl
 | .at p, n, hd, hb => by
  obtain ⟨n, rfl⟩ : ∃ k, n = k + 1 := ⟨n - 1, by simp only [Fm.depth] at hd; omega⟩
  rw [run__law_places]; unfold d__law_places; simp only [enc]
  walk_at "den"
  unfold plW
  rw [pl_at hb]
  rfl
 | .not f, n, hd, hb => by
  obtain ⟨n, rfl⟩ : ∃ k, n = k + 1 := ⟨n - 1, by simp only [Fm.depth] at hd; omega⟩
  rw [run__law_places]; unfold d__law_places; simp only [enc]
  walk_at "den"
  rw [lplaces_run f n (by simp only [Fm.depth] at hd; omega) hb]
  walk_at "den"
  have l1 := pl_len f
  have z := ss_pl (.not f) (pl f) (by omega) (fun p => Iff.rfl)
  have z : sortset1 [.lst (plW f)] = _ := z
  rw [z]
  walk_at "den"
 | .and f g, n, hd, hb => by
  obtain ⟨n, rfl⟩ : ∃ k, n = k + 1 := ⟨n - 1, by simp only [Fm.depth] at hd; omega⟩
  simp only [Fm.depth] at hd
  exact lplaces_bin n (w := "and") (str_ne (by decide)) (str_ne (by decide)) (str_ne (by decide)) (fun p => rfl) (lplaces_run f n (by omega) hb.1) (lplaces_run g n (by omega) hb.2)
 | .or f g, n, hd, hb => by
  obtain ⟨n, rfl⟩ : ∃ k, n = k + 1 := ⟨n - 1, by simp only [Fm.depth] at hd; omega⟩
  simp only [Fm.depth] at hd
  exact lplaces_bin n (w := "or") (str_ne (by decide)) (str_ne (by decide)) (str_ne (by decide)) (fun p => rfl) (lplaces_run f n (by omega) hb.1) (lplaces_run g n (by omega) hb.2)
 | .odd f g, n, hd, hb => by
  obtain ⟨n, rfl⟩ : ∃ k, n = k + 1 := ⟨n - 1, by simp only [Fm.depth] at hd; omega⟩
  simp only [Fm.depth] at hd
  exact lplaces_bin n (w := "odd") (str_ne (by decide)) (str_ne (by decide)) (str_ne (by decide)) (fun p => rfl) (lplaces_run f n (by omega) hb.1) (lplaces_run g n (by omega) hb.2)
theorem max_nat (x y : Nat) : (if (y : Int) > (x : Int) then (y : Int) else (x : Int)) = ((max x y : Nat) : Int) := by
 split <;> omega
theorem lopen_run : ∀ (f : Fm) (n l : Nat), f.depth <= n -> run K a n i__law_open [enc f, .int (l : Int)] = .ok (.fr (.int (f.opn l : Int)))
 | .is b, n, l, hd => by
  obtain ⟨n, rfl⟩ : ∃ k, n = k + 1 := ⟨n - 1, by simp only [Fm.depth] at hd; omega⟩
  rw [run__law_open]; unfold d__law_open; simp only [enc]
  walk_at "den"
  have e : indexW (.lst [.str "or", .str "odd", .str "and", .str "not", .str "is", .str "at"]) [.str "is"] = some (.int 4) := rfl
  rw [e]
  walk_at "den"
  rfl
 | .at p, n, l, hd => by
  obtain ⟨n, rfl⟩ : ∃ k, n = k + 1 := ⟨n - 1, by simp only [Fm.depth] at hd; omega⟩
  rw [run__law_open]; unfold d__law_open; simp only [enc]
  walk_at "den"
  have e : indexW (.lst [.str "or", .str "odd", .str "and", .str "not", .str "is", .str "at"]) [.str "at"] = some (.int 5) := rfl
  rw [e]
  walk_at "den"
  rfl
 | .not f, n, l, hd => by
  obtain ⟨n, rfl⟩ : ∃ k, n = k + 1 := ⟨n - 1, by simp only [Fm.depth] at hd; omega⟩
  simp only [Fm.depth] at hd
  rw [run__law_open]; unfold d__law_open; simp only [enc]
  walk_at "den"
  have e : indexW (.lst [.str "or", .str "odd", .str "and", .str "not", .str "is", .str "at"]) [.str "not"] = some (.int 3) := rfl
  rw [e]
  walk_at "den"
  have i1 := lopen_run f n 3 (by omega)
  have i1 : run K a n i__law_open [enc f, .int 3] = _ := i1
  rw [i1]
  walk_at "den"
  simp only [Fm.opn]
  by_cases h : 3 < l
  ·rw [if_pos h]
   first | (rw [decide_eq_true (show (3 : Int) < (l : Int) by omega)]; walk_at "den"; push_cast; rfl) | (rw [if_pos (show (3 : Int) < (l : Int) by omega)]; push_cast; rfl)
  ·rw [if_neg h]
   first | (rw [decide_eq_false (show ¬ (3 : Int) < (l : Int) by omega)]; walk_at "den"; push_cast; rfl) | (rw [if_neg (show ¬ (3 : Int) < (l : Int) by omega)]; push_cast; rfl)
 | .and f g, n, l, hd => by
  obtain ⟨n, rfl⟩ : ∃ k, n = k + 1 := ⟨n - 1, by simp only [Fm.depth] at hd; omega⟩
  simp only [Fm.depth] at hd
  rw [run__law_open]; unfold d__law_open; simp only [enc]
  walk_at "den"
  have e : indexW (.lst [.str "or", .str "odd", .str "and", .str "not", .str "is", .str "at"]) [.str "and"] = some (.int 2) := rfl
  rw [e]
  walk_at "den"
  have i1 := lopen_run f n 2 (by omega)
  have i1 : run K a n i__law_open [enc f, .int 2] = _ := i1
  rw [i1]
  walk_at "den"
  have i2 := lopen_run g n 3 (by omega)
  have i2 : run K a n i__law_open [enc g, .int 3] = _ := i2
  rw [i2]
  walk_at "den"
  rw [max_nat]
  simp only [Fm.opn]
  by_cases h : 2 < l
  ·rw [if_pos h]
   first | (rw [decide_eq_true (show (2 : Int) < (l : Int) by omega)]; walk_at "den"; push_cast; rfl) | (rw [if_pos (show (2 : Int) < (l : Int) by omega)]; push_cast; rfl)
  ·rw [if_neg h]
   first | (rw [decide_eq_false (show ¬ (2 : Int) < (l : Int) by omega)]; walk_at "den"; push_cast; rfl) | (rw [if_neg (show ¬ (2 : Int) < (l : Int) by omega)]; push_cast; rfl)
 | .or f g, n, l, hd => by
  obtain ⟨n, rfl⟩ : ∃ k, n = k + 1 := ⟨n - 1, by simp only [Fm.depth] at hd; omega⟩
  simp only [Fm.depth] at hd
  rw [run__law_open]; unfold d__law_open; simp only [enc]
  walk_at "den"
  have e : indexW (.lst [.str "or", .str "odd", .str "and", .str "not", .str "is", .str "at"]) [.str "or"] = some (.int 0) := rfl
  rw [e]
  walk_at "den"
  have i1 := lopen_run f n 0 (by omega)
  have i1 : run K a n i__law_open [enc f, .int 0] = _ := i1
  rw [i1]
  walk_at "den"
  have i2 := lopen_run g n 1 (by omega)
  have i2 : run K a n i__law_open [enc g, .int 1] = _ := i2
  rw [i2]
  walk_at "den"
  rw [max_nat]
  simp only [Fm.opn]
  by_cases h : 0 < l
  ·rw [if_pos h]
   first | (rw [decide_eq_true (show (0 : Int) < (l : Int) by omega)]; walk_at "den"; push_cast; rfl) | (rw [if_pos (show (0 : Int) < (l : Int) by omega)]; push_cast; rfl)
  ·rw [if_neg h]
   first | (rw [decide_eq_false (show ¬ (0 : Int) < (l : Int) by omega)]; walk_at "den"; push_cast; rfl) | (rw [if_neg (show ¬ (0 : Int) < (l : Int) by omega)]; push_cast; rfl)
 | .odd f g, n, l, hd => by
  obtain ⟨n, rfl⟩ : ∃ k, n = k + 1 := ⟨n - 1, by simp only [Fm.depth] at hd; omega⟩
  simp only [Fm.depth] at hd
  rw [run__law_open]; unfold d__law_open; simp only [enc]
  walk_at "den"
  have e : indexW (.lst [.str "or", .str "odd", .str "and", .str "not", .str "is", .str "at"]) [.str "odd"] = some (.int 1) := rfl
  rw [e]
  walk_at "den"
  have i1 := lopen_run f n 1 (by omega)
  have i1 : run K a n i__law_open [enc f, .int 1] = _ := i1
  rw [i1]
  walk_at "den"
  have i2 := lopen_run g n 2 (by omega)
  have i2 : run K a n i__law_open [enc g, .int 2] = _ := i2
  rw [i2]
  walk_at "den"
  rw [max_nat]
  simp only [Fm.opn]
  by_cases h : 1 < l
  ·rw [if_pos h]
   first | (rw [decide_eq_true (show (1 : Int) < (l : Int) by omega)]; walk_at "den"; push_cast; rfl) | (rw [if_pos (show (1 : Int) < (l : Int) by omega)]; push_cast; rfl)
  ·rw [if_neg h]
   first | (rw [decide_eq_false (show ¬ (1 : Int) < (l : Int) by omega)]; walk_at "den"; push_cast; rfl) | (rw [if_neg (show ¬ (1 : Int) < (l : Int) by omega)]; push_cast; rfl)
theorem mem_range {w : W} {lo hi : Int} (h : w ∈ rangeW lo hi) : ∃ k : Nat, w = .int (lo + k) /\ (k : Int) < hi - lo := by
 unfold rangeW at h
 obtain ⟨k, h1, rfl⟩ := List.mem_map.mp h
 rw [List.mem_range] at h1
 exact ⟨k, rfl, by omega⟩
theorem len_range {lo hi : Int} : (rangeW lo hi).length = (hi - lo).toNat := by simp [rangeW]
theorem bits_get : ∀ (m : Nat) (n : Int) (j : Nat), j < m -> (bits m n)[j]? = some (decide (n / 2 ^ j % 2 = 1))
 | 0, n, j, h => by omega
 | m + 1, n, 0, h => by simp [bits]
 | m + 1, n, j + 1, h => by
  rw [bits, List.getElem?_cons_succ, bits_get m (n / 2) j (by omega)]
  rw [Int.ediv_ediv_of_nonneg (by decide), Int.pow_succ, Int.mul_comm (2 ^ j) 2]
noncomputable def rowB (m : Nat) (k : Nat) : List Bool := (bits m (k : Int)).reverse
theorem rowB_len (m k : Nat) : (rowB m k).length = m := by unfold rowB; rw [List.length_reverse, bits_len]
theorem pow_nat (m : Nat) : (2 : Int) ^ m = ((2 ^ m : Nat) : Int) := by exact_mod_cast rfl
theorem lawrow_run (n : Nat) {k m : Nat} (hm : m <= 10) : run K a (n + 2) i__law_row_of [.int (k : Int), .int (m : Int)] = .ok (.fr (.tup ((rowB m k).map .bl))) := by
 rw [run__law_row_of]
 unfold d__law_row_of
 walk_at "den"
 rw [if_pos (okI_of (by omega) (by omega))]
 walk_at "den"
 obtain ⟨e', h2, z, rfl⟩ := for_rangeI (b := l__law_row_of_0 K a (run K a (n + 1))) (i := 3) (lo := 0) (hi := (m : Int)) m (by omega) (fun j e => ∃ z, e = [.fr (.int k), .fr (.int m), .own false (((rowB m k).take j).map .bl), z]) [.fr (.int k), .fr (.int m), .own false [], .no] ⟨_, rfl⟩ (by
  rintro j e hj ⟨z, rfl⟩
  unfold l__law_row_of_0
  walk_at "den"
  rw [count_run n _ (by omega) (by omega)]
  walk_at "den"
  have hp : (0 : Int) < 2 ^ ((m : Int) - 1 - (0 + (j : Int))).toNat /\ (2 : Int) ^ ((m : Int) - 1 - (0 + (j : Int))).toNat < 1073741824 := by
   have h1 : (2 : Nat) ^ ((m : Int) - 1 - (0 + (j : Int))).toNat <= 2 ^ 10 := Nat.pow_le_pow_right (by decide) (by omega)
   have h2 : 0 < (2 : Nat) ^ ((m : Int) - 1 - (0 + (j : Int))).toNat := Nat.pow_pos (by decide)
   have h4 : (2 : Nat) ^ 10 = 1024 := by decide
   rw [pow_nat]
   omega
  rw [if_pos hp]
  walk_at "den"
  rw [if_pos (by rw [List.length_map, List.length_take, rowB_len]; omega)]
  refine ⟨_, rfl, .fr (.int (0 + (j : Int))), ?_⟩
  have hg : (rowB m k)[j]? = some (decide ((k : Int) / 2 ^ (m - 1 - j) % 2 = 1)) := by
   unfold rowB
   rw [List.getElem?_reverse (by rw [bits_len]; exact hj), bits_len, bits_get _ _ _ (by omega)]
  rw [List.take_add_one, hg, List.map_append]
  rw [show ((m : Int) - 1 - (0 + (j : Int))).toNat = m - 1 - j by omega]
  rfl)
 rw [h2]
 walk_at "den"
 rw [List.take_of_length_le (by rw [rowB_len]; exact Nat.le_refl _)]
theorem rowB_bit {m k p : Nat} (h : p < m) : (rowB m k).getD p false = decide (k / 2 ^ (m - 1 - p) % 2 = 1) := by
 have hg : (rowB m k)[p]? = some (decide ((k : Int) / 2 ^ (m - 1 - p) % 2 = 1)) := by
  unfold rowB
  rw [List.getElem?_reverse (by rw [bits_len]; exact h), bits_len, bits_get _ _ _ (by omega)]
 unfold List.getD
 rw [hg]
 show decide ((k : Int) / 2 ^ (m - 1 - p) % 2 = 1) = _
 have e : (k : Int) / 2 ^ (m - 1 - p) % 2 = ((k / 2 ^ (m - 1 - p) % 2 : Nat) : Int) := by push_cast; rfl
 rw [e]
 congr 1
 exact propext ⟨fun z => by omega, fun z => by omega⟩
theorem nm_row (M k : Nat) : ∀ (m p : Nat), p + m = M -> nm (rowB M k) m p = k % 2 ^ m
 | 0, p, _ => by simp [nm, Nat.mod_one]
 | m + 1, p, h => by
  rw [nm_succ, nm_row M k m (p + 1) (by omega), rowB_bit (by omega), show M - 1 - p = m by omega]
  have e : k % 2 ^ (m + 1) = k % 2 ^ m + 2 ^ m * (k / 2 ^ m % 2) := by rw [Nat.pow_succ, Nat.mod_mul]
  rw [e]
  have : k / 2 ^ m % 2 = 0 \/ k / 2 ^ m % 2 = 1 := by omega
  rcases this with z | z
  ·rw [z]; simp
  ·rw [z]; simp; omega
theorem val_row {m k : Nat} {bs : List Bool} (hl : bs.length = 2 ^ m) (hk : k < 2 ^ m) : (ff m 0 bs).val (rowB m k) = bs.getD k false := by
 rw [ff_val _ _ _ _ hl, nm_row m k m 0 (by omega), Nat.mod_eq_of_lt hk]
theorem comp_f {cc : Den Bool} {d : Den W} {pe : List S} {q : W -> Bool} {g : W -> W} : ∀ (ws : List W), (∀ w ∈ ws, ∃ e1, cc (.fr w :: pe) = .ok (q w) e1 /\ (q w = true -> ∃ e2, d e1 = .ok (g w) e2)) -> compD cc d pe ws = some ((ws.filter q).map g)
 | [], _ => rfl
 | w :: ws, h => by
  obtain ⟨e1, h1, h2⟩ := h w (by simp)
  have ih := comp_f ws fun u hu => h u (by simp [hu])
  rw [comp_cons, h1]
  cases hq : q w with
  | true =>
   obtain ⟨e2, h3⟩ := h2 hq
   dsimp only
   rw [h3, ih, List.filter_cons, if_pos hq]
   rfl
  | false =>
   dsimp only
   rw [ih, List.filter_cons, if_neg (by rw [hq]; decide)]
noncomputable def nq (m j k : Nat) : Bool := decide (k / 2 ^ (m - 1 - j) % 2 = 0)
noncomputable def ndf (bs : List Bool) (m j k : Nat) : Bool := bs.getD k false != bs.getD (k + 2 ^ (m - 1 - j)) false
noncomputable def wN : W -> Nat
 | .int i => i.toNat
 | _ => 0
theorem any_is (m : Nat) (bs : List Bool) (j : Nat) (hl : bs.length = 2 ^ m) (hj : j < m) : (((List.range (2 ^ m)).filter (nq m j)).map (ndf bs m j)).any id = hang m 0 bs j := by
 have h := hang_is m 0 bs j hl hj
 rw [Nat.zero_add] at h
 rw [Bool.eq_iff_iff, h, List.any_map, List.any_eq_true]
 constructor
 ·rintro ⟨k, hk, hd⟩
  obtain ⟨k1, k2⟩ := List.mem_filter.mp hk
  exact ⟨k, List.mem_range.mp k1, of_decide_eq_true k2, by simpa [ndf] using hd⟩
 ·rintro ⟨k, h1, h2, h3⟩
  exact ⟨k, List.mem_filter.mpr ⟨List.mem_range.mpr h1, decide_eq_true h2⟩, by simpa [ndf] using h3⟩
theorem step_lt {m j k : Nat} (hj : j < m) (hk : k < 2 ^ m) (hz : k / 2 ^ (m - 1 - j) % 2 = 0) : k + 2 ^ (m - 1 - j) < 2 ^ m := by
 obtain ⟨s, hs⟩ : ∃ s, m = (m - 1 - j) + (s + 1) := ⟨j, by omega⟩
 generalize m - 1 - j = t at *
 have e2 : 2 ^ m = 2 ^ t * (2 * 2 ^ s) := by rw [hs, Nat.pow_add, Nat.pow_succ]; rw [Nat.mul_comm (2 ^ s) 2]
 have hp := pow_ne t
 have q1 : k / 2 ^ t < 2 * 2 ^ s := Nat.div_lt_of_lt_mul (by rw [<- e2]; exact hk)
 have q2 : k / 2 ^ t + 1 + 1 <= 2 * 2 ^ s := by omega
 have q3 := Nat.div_add_mod k (2 ^ t)
 have q4 := Nat.mod_lt k hp
 have q5 : 2 ^ t * (k / 2 ^ t + 1 + 1) <= 2 ^ t * (2 * 2 ^ s) := Nat.mul_le_mul_left _ q2
 rw [e2]
 rw [Nat.mul_add, Nat.mul_add] at q5
 omega
theorem any_bl (bs : List Bool) : any1 [.lst (bs.map .bl)] = some (.bl (bs.any id)) := any_l
theorem eqWs_int : ∀ l : List Nat, eqWs (l.map nW) (l.map nW) = some true
 | [] => rfl
 | p :: l => by
  rw [List.map_cons]
  show (match eqW (nW p) (nW p), eqWs (l.map nW) (l.map nW) with | some a, some b => some (a && b) | _, _ => none) = _
  rw [eqWs_int l]
  show some (((p : Int) == (p : Int)) && true) = _
  simp
theorem depWs_int : ∀ l : List Nat, depWs (l.map nW) = 0
 | [] => rfl
 | p :: l => by show max 0 (depWs (l.map nW)) = 0; rw [depWs_int l]; rfl
theorem ne_int (l : List Nat) : ne2 (.lst (l.map nW)) (.lst (l.map nW)) = some (.bl false) := by
 show (if depWs (l.map nW) + 1 <= 150 then (eqWs (l.map nW) (l.map nW)).map (fun b => W.bl (!b)) else none) = _
 rw [depWs_int, if_pos (by omega), eqWs_int]
 rfl
theorem pl_hang {m : Nat} {bs : List Bool} (hl : bs.length = 2 ^ m) (hm : m <= 10) : pl (ff m 0 bs) = (List.range m).filter (hang m 0 bs) := by
 unfold pl
 have e : (ff m 0 bs).has = hang m 0 bs := funext fun q => ff_has q m 0 bs hl
 have e : (fun p => (ff m 0 bs).has p) = hang m 0 bs := e
 rw [show (List.range 12).filter (fun p => (ff m 0 bs).has p) = (List.range 12).filter (hang m 0 bs) by rw [e]]
 obtain ⟨d, hd⟩ : ∃ d, 12 = m + d := ⟨12 - m, by omega⟩
 rw [hd, List.range_add, List.filter_append]
 have : ((List.range d).map (m + ·)).filter (hang m 0 bs) = [] := by
  rw [List.filter_eq_nil_iff]
  intro q hq
  obtain ⟨i, _, rfl⟩ := List.mem_map.mp hq
  rw [<- ff_has _ m 0 bs hl]
  intro z
  have := (ff_fine m 0 bs hl).i _ z
  omega
 rw [this, List.append_nil]
theorem allT (bs : List Bool) (h : ∀ b ∈ bs, b = true) : bs.all id = true := List.all_eq_true.mpr fun b hb => by rw [h b hb]; rfl
theorem right_run (M : Exs K mg a) (n : Nat) {m : Nat} {bs : List Bool} (hl : bs.length = 2 ^ m) (hm : m <= 10) (c : Int) : run K a (n + 60) i__law_right [.lst (bs.map .bl), .int (m : Int), enc (ff m 0 bs), .int c] = .ok (.fr (.bl true)) := by
 have fine := ff_fine m 0 bs hl
 have hd := fine.d
 have h10 : 2 ^ m <= 2 ^ 10 := Nat.pow_le_pow_right (by decide) hm
 have hp := pow_ne m
 have hsz : (ff m 0 bs).size <= 4 * 2 ^ m := by
  rcases fine.z with ⟨b, hb⟩ | z
  ·rw [hb]; simp only [Fm.size]; omega
  ·omega
 have hsz7 : m < 8 -> (ff m 0 bs).size <= 1000 := fun h => by
  have h7 : 2 ^ m <= 2 ^ 7 := Nat.pow_le_pow_right (by decide) (by omega)
  omega
 have hin : ∀ M, m <= M -> (ff m 0 bs).inb M := fun M hM => (inb_has _ M).mpr fun q hq => by have := fine.i q hq; omega
 rw [run__law_right]
 unfold d__law_right
 walk_at "den"
 rw [isform_run M _ (n + 58) 1 (by omega) (by omega)]
 walk_at "den"
 have szt : (if ((m : Int) < 8) then (R.ok true [] : R Bool) else .ok false []) = (if ((m : Int) < 8) then (R.ok true [] : R Bool) else .ok false []) := rfl
 clear szt
 have rest : ((((dSeq (dSetO 4 (dLst dNil))
  (dSeq (dForR 5 rng1 (dCons (dVar 1) dNil)
  (l__law_right_0 K a (run K a (n + 59))))
  (dSeq (dIfS (dOr (dBorrowT (dTest (dOp ne2 (dCall (run K a (n + 59) i__law_places) (dCons (dVar 2) dNil)) (dVar 4)))) (dTest (dOp gtW (dCall (run K a (n + 59) i__law_open) (dCons (dVar 2) (dCons (dC (.int 0)) dNil))) (dVar 1))))
  (dRet (dC (.bl false)))
  dNx)
  (dSeq (dSet 7 (dFz (dListR (dCons (dFn len1 (dCons (dVar 0) dNil)) dNil))))
  (dSeq (dIfS (dTest (dOp gtW (dVar 1) (dC (.int 5))))
  (dSet 7 (dFz (dCompR rng1 [0, 3] (dCons (dC (.int 30)) dNil) dYes (e__law_right_1 K a (run K a (n + 59))))))
  dNx)
  (dRet (dFn all1 (dCons (dFz (dComp [0, 1, 2] (dVar 7) dYes (e__law_right_0 K a (run K a (n + 59))))) dNil))))))))) : List S -> SR) [.fr (.lst (bs.map .bl)), .fr (.int (m : Int)), .fr (enc (ff m 0 bs)), .fr (.int c), .no, .no, .no, .no]).fn = .ok (.fr (.bl true)) := by
  walk_at "den"
  rw [if_pos (okI_of (by omega) (by omega))]
  walk_at "den"
  obtain ⟨e', k1, z5, z6, rfl⟩ := for_rangeI (b := l__law_right_0 K a (run K a (n + 59))) (i := 5) (lo := 0) (hi := (m : Int)) m (by omega) (fun j e => ∃ z5 z6 : S, e = [.fr (.lst (bs.map .bl)), .fr (.int (m : Int)), .fr (enc (ff m 0 bs)), .fr (.int c), .own false (((List.range j).filter (hang m 0 bs)).map nW), z5, z6, .no]) [.fr (.lst (bs.map .bl)), .fr (.int (m : Int)), .fr (enc (ff m 0 bs)), .fr (.int c), .own false [], .no, .no, .no] ⟨_, _, rfl⟩ (by
   rintro j e hj ⟨z5, z6, rfl⟩
   unfold l__law_right_0
   walk_at "den"
   rw [count_run (n + 58) _ (by omega) (by omega)]
   walk_at "den"
   have e2 : (2 : Int) ^ ((m : Int) - 1 - (0 + (j : Int))).toNat = ((2 ^ (m - 1 - j) : Nat) : Int) := by
    rw [show ((m : Int) - 1 - (0 + (j : Int))).toNat = m - 1 - j by omega]
    push_cast; rfl
   rw [e2, List.length_map, hl]
   have hs10 : 2 ^ (m - 1 - j) <= 2 ^ 10 := Nat.pow_le_pow_right (by decide) (by omega)
   have hsp := pow_ne (m - 1 - j)
   rw [if_pos (okI_of (by omega) (by omega))]
   walk_at "den"
   rw [if_pos (by rw [len_range]; omega)]
   simp only [frz1, pj1, List.getElem?_cons_succ, List.getElem?_cons_zero]
   rw [comp_f (q := fun w => nq m j (wN w)) (g := fun w => .bl (ndf bs m j (wN w)))]
   ·walk_at "den"
    have er : rangeW 0 ((2 ^ m : Nat) : Int) = (List.range (2 ^ m)).map nW := by
     unfold rangeW
     rw [show (((2 ^ m : Nat) : Int) - 0).toNat = 2 ^ m by omega]
     refine List.map_congr_left fun k _ => ?_
     show W.int (0 + (k : Int)) = W.int (k : Int)
     rw [Int.zero_add]
    have ew : (((List.range (2 ^ m)).map nW).filter (fun w => nq m j (wN w))).map (fun w => W.bl (ndf bs m j (wN w))) = (((List.range (2 ^ m)).filter (nq m j)).map (ndf bs m j)).map W.bl := by
     rw [List.filter_map, List.map_map, List.map_map]
     have e3 : ((fun w => nq m j (wN w)) ∘ nW) = nq m j := by funext k; simp [nW, wN]
     rw [e3]
     refine List.map_congr_left fun k _ => ?_
     simp [nW, wN]
    rw [er, ew, any_bl, any_is m bs j hl hj]
    walk_at "den"
    have er2 : (List.range (j + 1)).filter (hang m 0 bs) = (List.range j).filter (hang m 0 bs) ++ (if hang m 0 bs j = true then [j] else []) := by
     rw [List.range_succ, List.filter_append]
     congr 1
     simp only [List.filter_cons, List.filter_nil]
    have hlen : ((List.range j).filter (hang m 0 bs)).length <= j := by
     have := List.length_filter_le (hang m 0 bs) (List.range j)
     rw [List.length_range] at this
     exact this
    rw [er2]
    cases hang m 0 bs j with
    | true =>
     rw [if_pos rfl]
     walk_at "den"
     rw [if_pos (by rw [List.length_map]; omega)]
     refine ⟨_, rfl, .fr (.int (0 + (j : Int))), .fr (.int ((2 ^ (m - 1 - j) : Nat) : Int)), ?_⟩
     rw [List.map_append, Int.zero_add]
     rfl
    | false =>
     rw [if_neg (by decide)]
     walk_at "den"
     exact ⟨_, rfl, .fr (.int (0 + (j : Int))), .fr (.int ((2 ^ (m - 1 - j) : Nat) : Int)), by rw [List.append_nil]⟩
   ·intro w hw
    obtain ⟨k, rfl, hk⟩ := mem_range hw
    unfold t__law_right_0 e__law_right_2
    walk_at "den"
    rw [if_pos (by omega)]
    walk_at "den"
    have e5 : decide ((0 + (k : Int)) / ((2 ^ (m - 1 - j) : Nat) : Int) % 2 = 0) = nq m j k := by
     unfold nq
     rw [Int.zero_add]
     have : (k : Int) / ((2 ^ (m - 1 - j) : Nat) : Int) % 2 = ((k / 2 ^ (m - 1 - j) % 2 : Nat) : Int) := by push_cast; rfl
     rw [this]
     congr 1
     exact propext ⟨fun z => by omega, fun z => by omega⟩
    have ek : (0 + (k : Int)).toNat = k := by omega
    simp only [wN, ek, e5]
    refine ⟨_, rfl, fun hq => ?_⟩
    have hq' := of_decide_eq_true hq
    have hk' : k < 2 ^ m := by omega
    have hlt := step_lt hj hk' hq'
    rw [Int.zero_add]
    walk_at "den"
    rw [row_at (row := bs) (p := k) (by omega)]
    walk_at "den"
    rw [show (k : Int) + ((2 ^ (m - 1 - j) : Nat) : Int) = ((k + 2 ^ (m - 1 - j) : Nat) : Int) by omega, row_at (row := bs) (p := k + 2 ^ (m - 1 - j)) (by omega)]
    walk_at "den"
    refine ⟨_, congrArg (fun z => R.ok (W.bl z) _) ?_⟩
    unfold ndf
    cases bs.getD k false <;> cases bs.getD (k + 2 ^ (m - 1 - j)) false <;> rfl)
  rw [k1]
  walk_at "den"
  rw [<- pl_hang hl hm, lplaces_run _ (n + 59) (by omega) (hin 12 (by omega))]
  walk_at "den"
  have ne := ne_int (pl (ff m 0 bs))
  have ne : ne2 (.lst (plW (ff m 0 bs))) (.lst ((pl (ff m 0 bs)).map nW)) = _ := ne
  rw [ne]
  walk_at "den"
  have op := lopen_run (K := K) (a := a) (ff m 0 bs) (n + 59) 0 (by omega)
  have op : run K a (n + 59) i__law_open [enc (ff m 0 bs), .int 0] = _ := op
  rw [op]
  walk_at "den"
  rw [if_neg (by have := fine.o; omega)]
  walk_at "den"
  rw [List.length_map, hl, listR_i (by omega)]
  walk_at "den"
  have last : ∀ qs : List Nat, qs.length <= 100000 -> (∀ q ∈ qs, q < 2 ^ m) -> ((((dRet (dFn all1 (dCons (dFz (dComp [0, 1, 2] (dVar 7) dYes (e__law_right_0 K a (run K a (n + 59))))) dNil)))) : List S -> SR) [.fr (.lst (bs.map .bl)), .fr (.int (m : Int)), .fr (enc (ff m 0 bs)), .fr (.int c), .own false ((pl (ff m 0 bs)).map nW), z5, z6, .fr (.lst (qs.map nW))]).fn = .ok (.fr (.bl true)) := by
   intro qs hql hq
   walk_at "den"
   rw [if_pos (by rw [List.length_map]; omega)]
   simp only [frz1, pj1, List.getElem?_cons_succ, List.getElem?_cons_zero]
   rw [comp_g (fun _ => .bl true)]
   ·walk_at "den"
    have e : (qs.map nW).map (fun _ => W.bl true) = (qs.map fun _ => true).map W.bl := by rw [List.map_map, List.map_map]; rfl
    rw [e, all_l, allT _ (fun b hb => by obtain ⟨_, _, rfl⟩ := List.mem_map.mp hb; rfl)]
    walk_at "den"
   ·intro w hw
    obtain ⟨q, hqm, rfl⟩ := List.mem_map.mp hw
    have hq2 := hq q hqm
    unfold e__law_right_0 nW
    walk_at "den"
    rw [lawrow_run (n + 57) hm]
    walk_at "den"
    have rl : (rowB m q).length = m := by unfold rowB; rw [List.length_reverse, bits_len]
    rw [truthL_run _ (n + 59) (by omega) (by rw [rl]; exact hin m (Nat.le_refl _)), val_row hl hq2]
    walk_at "den"
    rw [row_at (row := bs) (p := q) (by omega)]
    walk_at "den"
    refine ⟨_, congrArg (fun z => R.ok (W.bl z) _) ?_⟩
    simp
  by_cases h5 : (5 : Int) < (m : Int)
  ·rw [if_pos h5]
   have key : ∃ qs : List Nat, compD dYes (e__law_right_1 K a (run K a (n + 59))) [.fr (.lst (bs.map .bl)), .fr (.int c)] (rangeW 0 30) = some (qs.map nW) /\ qs.length = 30 /\ ∀ q ∈ qs, q < 2 ^ m := by
    have er : rangeW 0 30 = (List.range 30).map nW := rfl
    refine ⟨(List.range 30).map fun (k : Nat) => (mixed (c + (k : Int) / 11) (k : Int) ((2 ^ m : Nat) : Int)).toNat, ?_, by simp, fun q hq => ?_⟩
    ·rw [er, comp_g (fun w => .int (mixed (c + (wN w : Int) / 11) (wN w : Int) ((2 ^ m : Nat) : Int)))]
     ·rw [List.map_map, List.map_map]
      congr 1
      refine List.map_congr_left fun k _ => ?_
      have b := mixed_bd (c := c + (k : Int) / 11) (k := (k : Int)) (m := ((2 ^ m : Nat) : Int)) (by omega)
      simp only [Function.comp, nW, wN, Int.toNat_natCast]
      congr 1
      omega
     ·intro w hw
      obtain ⟨k, _, rfl⟩ := List.mem_map.mp hw
      unfold e__law_right_1 nW
      walk_at "den"
      rw [List.length_map, hl, mixed_run (n + 58) _ _ (by omega)]
      walk_at "den"
      exact ⟨_, rfl⟩
    ·obtain ⟨k, _, rfl⟩ := List.mem_map.mp hq
     have b := mixed_bd (c := c + (k : Int) / 11) (k := (k : Int)) (m := ((2 ^ m : Nat) : Int)) (by omega)
     omega
   obtain ⟨qs, q1, q2, q3⟩ := key
   walk_at "den"
   rw [if_pos (okI_of (by omega) (by omega))]
   walk_at "den"
   rw [if_pos (by rw [len_range]; decide)]
   simp only [frz1, pj1, List.getElem?_cons_succ, List.getElem?_cons_zero]
   rw [q1]
   have z := last qs (by omega) q3
   revert z
   walk_at "den"
   exact id
  ·rw [if_neg h5]
   have z := last (List.range (2 ^ m)) (by rw [List.length_range]; omega) (fun q hq => List.mem_range.mp hq)
   revert z
   walk_at "den"
   exact id
 by_cases h8 : (m : Int) < 8
 ·rw [if_pos h8, lsize_run _ (n + 59) (by omega) (by omega)]
  walk_at "den"
  rw [if_neg (by have := hsz7 (by omega); omega)]
  revert rest
  walk_at "den"
  exact id
 ·rw [if_neg h8]
  revert rest
  walk_at "den"
  exact id
theorem class_NoTable (M : Exs K mg a) (n : Nat) : run K a (n + 1) i__law_class [.exc (.ref a.NoTable)] = .ok (.fr (.str "table")) := by
 rw [run__law_class]
 unfold d__law_class
 walk_at "den"
 rw [isi_exc M.c_NoTable M.k_NoTable_NoPlace]
 walk_at "den"
 rw [isi_exc M.c_NoTable M.k_NoTable_NoName]
 walk_at "den"
 rw [isi_exc M.c_NoTable M.k_NoTable_BadText]
 walk_at "den"
 rw [isi_exc M.c_NoTable M.k_NoTable_NoRow]
 walk_at "den"
 rw [isi_exc M.c_NoTable M.k_NoTable_NoTable]
 walk_at "den"
 rw [isi_exc M.c_NoTable M.k_NoTable_UnlikeSizes]
 walk_at "den"
 rw [isi_exc M.c_NoTable M.k_NoTable_TooGreat]
 walk_at "den"
 rw [isi_exc M.c_NoTable M.k_NoTable_NoMachine]
 walk_at "den"
 rw [isi_exc M.c_NoTable M.k_NoTable_BadSheet]
 walk_at "den"
 rw [isi_exc M.c_NoTable M.k_NoTable_ValueError]
 walk_at "den"
theorem mul_3 (x : Int) : mulW (.int x) (.int 3) = some (.int (x * 3)) := by
 rw [mul_ii, if_pos (.inr ⟨by decide, by decide⟩)]
noncomputable def endR (K : PySem.W.Frag) (a : Adr) : List S -> SR :=
 (dSeq (dSetO 6 (dList (dCons (dVar 4) dNil)))
  (dSeq (dIfS (dOr (dNot (dTru (dBorrow (dCall (run K a 150 i__law_right) (dCons (dVar 4) (dCons (dVar 3) (dCons (dCall (run K a 150 i_form_of_table) (dCons (dVar 6) dNil)) (dCons (dVar 1) dNil)))))))) (dBorrowT (dTest (dOp ne2 (dVar 6) (dVar 4)))))
  (dRet (dC (.bl false)))
  dNx)
  (dSeq (dPut 6 (dNotV (dOp ixW (dVar 4) (dOp subW (dFn len1 (dCons (dVar 4) dNil)) (dC (.int 1))))) (dOp subW (dFn len1 (dCons (dVar 4) dNil)) (dC (.int 1))))
  (dSeq (dIfS (dNot (dTru (dBorrow (dCall (run K a 150 i__law_right) (dCons (dVar 6) (dCons (dVar 3) (dCons (dCall (run K a 150 i_form_of_table) (dCons (dVar 6) dNil)) (dCons (dVar 1) dNil))))))))
  (dRet (dC (.bl false)))
  dNx)
  (dRet (dCall (run K a 150 i__law_right) (dCons (dVar 4) (dCons (dVar 3) (dCons (dCall (run K a 150 i_form_of_table) (dCons (dFz (dList (dCons (dVar 4) dNil))) dNil)) (dCons (dVar 1) dNil))))))))))
noncomputable def endQ (K : PySem.W.Frag) (a : Adr) : List S -> SR :=
 (dSeq (dIfS (dTest (dOp eq2 (dOp modW (dOp fdivW (dVar 2) (dC (.int 2))) (dC (.int 6))) (dC (.int 1))))
  (dSeq (dSet 4 (dSl (dOp addX (dVar 4) (dOp repW (dFz (dLst (dCons (dC (.bl true)) dNil))) (dC (.int 2048)))) dNoPart (dPart (dOp ixW (dFz (dLst (dCons (dC (.int 0)) (dCons (dC (.int 3)) (dCons (dOp mulW (dFn len1 (dCons (dVar 4) dNil)) (dC (.int 3))) (dCons (dC (.int 2048)) dNil)))))) (dOp modW (dOp fdivW (dVar 2) (dC (.int 12))) (dC (.int 4)))))))
  (dRet (dCall (run K a 150 i__law_refused) (dCons (dVar 4) dNil))))
  dNx)
  (dSeq (dSetO 6 (dList (dCons (dVar 4) dNil)))
  (dSeq (dIfS (dOr (dNot (dTru (dBorrow (dCall (run K a 150 i__law_right) (dCons (dVar 4) (dCons (dVar 3) (dCons (dCall (run K a 150 i_form_of_table) (dCons (dVar 6) dNil)) (dCons (dVar 1) dNil)))))))) (dBorrowT (dTest (dOp ne2 (dVar 6) (dVar 4)))))
  (dRet (dC (.bl false)))
  dNx)
  (dSeq (dPut 6 (dNotV (dOp ixW (dVar 4) (dOp subW (dFn len1 (dCons (dVar 4) dNil)) (dC (.int 1))))) (dOp subW (dFn len1 (dCons (dVar 4) dNil)) (dC (.int 1))))
  (dSeq (dIfS (dNot (dTru (dBorrow (dCall (run K a 150 i__law_right) (dCons (dVar 6) (dCons (dVar 3) (dCons (dCall (run K a 150 i_form_of_table) (dCons (dVar 6) dNil)) (dCons (dVar 1) dNil))))))))
  (dRet (dC (.bl false)))
  dNx)
  (dRet (dCall (run K a 150 i__law_right) (dCons (dVar 4) (dCons (dVar 3) (dCons (dCall (run K a 150 i_form_of_table) (dCons (dFz (dList (dCons (dVar 4) dNil))) dNil)) (dCons (dVar 1) dNil)))))))))))
noncomputable def pickD (q : Int) : Den W :=
 (dOp ixW (dFz (dLst (dCons (dC (.int 0)) (dCons (dC (.int 3)) (dCons (dOp mulW (dFn len1 (dCons (dVar 4) dNil)) (dC (.int 3))) (dCons (dC (.int q)) dNil)))))) (dOp modW (dOp fdivW (dVar 2) (dC (.int 12))) (dC (.int 4))))
theorem pA (z0 z1 z3 z5 : S) (far : Int) (ws : List W) : (dFn len1 (dCons (dVar 4) dNil)) [z0, z1, .fr (.int far), z3, .fr (.lst ws), z5, .no] = .ok (.int (ws.length : Int)) [z0, z1, .fr (.int far), z3, .fr (.lst ws), z5, .no] := by
 walk_at "den"
theorem pA2 (d : Den W) (e : List S) (x : Int) (h : d e = .ok (.int x) e) : (dOp mulW d (dC (.int 3))) e = .ok (.int (x * 3)) e := by
 rw [dOp_s, h, bind_ok, dC_s, bind_ok, mul_3, ofOpt_some]
theorem pB (z0 z1 z3 z5 : S) (far : Int) (ws : List W) : (dOp modW (dOp fdivW (dVar 2) (dC (.int 12))) (dC (.int 4))) [z0, z1, .fr (.int far), z3, .fr (.lst ws), z5, .no] = .ok (.int (far / 12 % 4)) [z0, z1, .fr (.int far), z3, .fr (.lst ws), z5, .no] := by
 walk_at "den"
theorem pC (d : Den W) (e : List S) (x q : Int) (h : d e = .ok (.int x) e) : (dFz (dLst (dCons (dC (.int 0)) (dCons (dC (.int 3)) (dCons d (dCons (dC (.int q)) dNil)))))) e = .ok (.lst [.int 0, .int 3, .int x, .int q]) e := by
 walk_at "den"
 rw [h]
 walk_at "den"
theorem pD (d d2 : Den W) (e : List S) (ws : List W) (j : Int) (h : d e = .ok (.lst ws) e) (h2 : d2 e = .ok (.int j) e) : (dOp ixW d d2) e = ofOpt (atI ws j) e := by
 walk_at "den"
 rw [h]
 walk_at "den"
 rw [h2]
 walk_at "den"
theorem pickL (z0 z1 z3 z5 : S) (far q : Int) (ws : List W) : pickD q [z0, z1, .fr (.int far), z3, .fr (.lst ws), z5, .no] = ofOpt (atI [.int 0, .int 3, .int ((ws.length : Int) * 3), .int q] (far / 12 % 4)) [z0, z1, .fr (.int far), z3, .fr (.lst ws), z5, .no] := by
 unfold pickD
 exact pD _ _ _ _ _ (pC _ _ _ _ (pA2 _ _ _ (pA z0 z1 z3 z5 far ws))) (pB z0 z1 z3 z5 far ws)
noncomputable def endQ2 (q : Int) (K : PySem.W.Frag) (a : Adr) : List S -> SR :=
 (dSeq (dIfS (dTest (dOp eq2 (dOp modW (dOp fdivW (dVar 2) (dC (.int 2))) (dC (.int 6))) (dC (.int 1))))
  (dSeq (dSet 4 (dSl (dOp addX (dVar 4) (dOp repW (dFz (dLst (dCons (dC (.bl true)) dNil))) (dC (.int q)))) dNoPart (dPart (pickD q))))
  (dRet (dCall (run K a 150 i__law_refused) (dCons (dVar 4) dNil))))
  dNx)
  (dSeq (dSetO 6 (dList (dCons (dVar 4) dNil)))
  (dSeq (dIfS (dOr (dNot (dTru (dBorrow (dCall (run K a 150 i__law_right) (dCons (dVar 4) (dCons (dVar 3) (dCons (dCall (run K a 150 i_form_of_table) (dCons (dVar 6) dNil)) (dCons (dVar 1) dNil)))))))) (dBorrowT (dTest (dOp ne2 (dVar 6) (dVar 4)))))
  (dRet (dC (.bl false)))
  dNx)
  (dSeq (dPut 6 (dNotV (dOp ixW (dVar 4) (dOp subW (dFn len1 (dCons (dVar 4) dNil)) (dC (.int 1))))) (dOp subW (dFn len1 (dCons (dVar 4) dNil)) (dC (.int 1))))
  (dSeq (dIfS (dNot (dTru (dBorrow (dCall (run K a 150 i__law_right) (dCons (dVar 6) (dCons (dVar 3) (dCons (dCall (run K a 150 i_form_of_table) (dCons (dVar 6) dNil)) (dCons (dVar 1) dNil))))))))
  (dRet (dC (.bl false)))
  dNx)
  (dRet (dCall (run K a 150 i__law_right) (dCons (dVar 4) (dCons (dVar 3) (dCons (dCall (run K a 150 i_form_of_table) (dCons (dFz (dList (dCons (dVar 4) dNil))) dNil)) (dCons (dVar 1) dNil)))))))))))
noncomputable def endP (K : PySem.W.Frag) (a : Adr) : List S -> SR :=
 (dSeq (dIfS (dAnd (dTest (dOp eq2 (dOp modW (dVar 2) (dC (.int 2))) (dC (.int 1)))) (dTest (dOp gtW (dVar 3) (dC (.int 0)))))
  (dSeq (dSet 5 (dCall (run K a 150 i__law_count) (dCons (dCall (run K a 150 i__law_mixed) (dCons (dVar 2) (dCons (dC (.int 1)) (dCons (dVar 3) dNil)))) dNil)))
  (dSet 4 (dFz (dCompR rng1 [4, 5] (dCons (dFn len1 (dCons (dVar 4) dNil)) dNil) dYes (e_law_0 K a (run K a 150))))))
  dNx)
  (dSeq (dIfS (dTest (dOp eq2 (dOp modW (dOp fdivW (dVar 2) (dC (.int 2))) (dC (.int 6))) (dC (.int 1))))
  (dSeq (dSet 4 (dSl (dOp addX (dVar 4) (dOp repW (dFz (dLst (dCons (dC (.bl true)) dNil))) (dC (.int 2048)))) dNoPart (dPart (dOp ixW (dFz (dLst (dCons (dC (.int 0)) (dCons (dC (.int 3)) (dCons (dOp mulW (dFn len1 (dCons (dVar 4) dNil)) (dC (.int 3))) (dCons (dC (.int 2048)) dNil)))))) (dOp modW (dOp fdivW (dVar 2) (dC (.int 12))) (dC (.int 4)))))))
  (dRet (dCall (run K a 150 i__law_refused) (dCons (dVar 4) dNil))))
  dNx)
  (dSeq (dSetO 6 (dList (dCons (dVar 4) dNil)))
  (dSeq (dIfS (dOr (dNot (dTru (dBorrow (dCall (run K a 150 i__law_right) (dCons (dVar 4) (dCons (dVar 3) (dCons (dCall (run K a 150 i_form_of_table) (dCons (dVar 6) dNil)) (dCons (dVar 1) dNil)))))))) (dBorrowT (dTest (dOp ne2 (dVar 6) (dVar 4)))))
  (dRet (dC (.bl false)))
  dNx)
  (dSeq (dPut 6 (dNotV (dOp ixW (dVar 4) (dOp subW (dFn len1 (dCons (dVar 4) dNil)) (dC (.int 1))))) (dOp subW (dFn len1 (dCons (dVar 4) dNil)) (dC (.int 1))))
  (dSeq (dIfS (dNot (dTru (dBorrow (dCall (run K a 150 i__law_right) (dCons (dVar 6) (dCons (dVar 3) (dCons (dCall (run K a 150 i_form_of_table) (dCons (dVar 6) dNil)) (dCons (dVar 1) dNil))))))))
  (dRet (dC (.bl false)))
  dNx)
  (dRet (dCall (run K a 150 i__law_right) (dCons (dVar 4) (dCons (dVar 3) (dCons (dCall (run K a 150 i_form_of_table) (dCons (dFz (dList (dCons (dVar 4) dNil))) dNil)) (dCons (dVar 1) dNil))))))))))))
noncomputable def endO (K : PySem.W.Frag) (a : Adr) : List S -> SR :=
 (dSeq (dSet 4 (dCall (run K a 150 i__law_table_by) (dCons (dSl (dVar 0) (dPart (dC (.int 2))) dNoPart) (dCons (dVar 3) dNil))))
  (dSeq (dIfS (dAnd (dTest (dOp eq2 (dOp modW (dVar 2) (dC (.int 2))) (dC (.int 1)))) (dTest (dOp gtW (dVar 3) (dC (.int 0)))))
  (dSeq (dSet 5 (dCall (run K a 150 i__law_count) (dCons (dCall (run K a 150 i__law_mixed) (dCons (dVar 2) (dCons (dC (.int 1)) (dCons (dVar 3) dNil)))) dNil)))
  (dSet 4 (dFz (dCompR rng1 [4, 5] (dCons (dFn len1 (dCons (dVar 4) dNil)) dNil) dYes (e_law_0 K a (run K a 150))))))
  dNx)
  (dSeq (dIfS (dTest (dOp eq2 (dOp modW (dOp fdivW (dVar 2) (dC (.int 2))) (dC (.int 6))) (dC (.int 1))))
  (dSeq (dSet 4 (dSl (dOp addX (dVar 4) (dOp repW (dFz (dLst (dCons (dC (.bl true)) dNil))) (dC (.int 2048)))) dNoPart (dPart (dOp ixW (dFz (dLst (dCons (dC (.int 0)) (dCons (dC (.int 3)) (dCons (dOp mulW (dFn len1 (dCons (dVar 4) dNil)) (dC (.int 3))) (dCons (dC (.int 2048)) dNil)))))) (dOp modW (dOp fdivW (dVar 2) (dC (.int 12))) (dC (.int 4)))))))
  (dRet (dCall (run K a 150 i__law_refused) (dCons (dVar 4) dNil))))
  dNx)
  (dSeq (dSetO 6 (dList (dCons (dVar 4) dNil)))
  (dSeq (dIfS (dOr (dNot (dTru (dBorrow (dCall (run K a 150 i__law_right) (dCons (dVar 4) (dCons (dVar 3) (dCons (dCall (run K a 150 i_form_of_table) (dCons (dVar 6) dNil)) (dCons (dVar 1) dNil)))))))) (dBorrowT (dTest (dOp ne2 (dVar 6) (dVar 4)))))
  (dRet (dC (.bl false)))
  dNx)
  (dSeq (dPut 6 (dNotV (dOp ixW (dVar 4) (dOp subW (dFn len1 (dCons (dVar 4) dNil)) (dC (.int 1))))) (dOp subW (dFn len1 (dCons (dVar 4) dNil)) (dC (.int 1))))
  (dSeq (dIfS (dNot (dTru (dBorrow (dCall (run K a 150 i__law_right) (dCons (dVar 6) (dCons (dVar 3) (dCons (dCall (run K a 150 i_form_of_table) (dCons (dVar 6) dNil)) (dCons (dVar 1) dNil))))))))
  (dRet (dC (.bl false)))
  dNx)
  (dRet (dCall (run K a 150 i__law_right) (dCons (dVar 4) (dCons (dVar 3) (dCons (dCall (run K a 150 i_form_of_table) (dCons (dFz (dList (dCons (dVar 4) dNil))) dNil)) (dCons (dVar 1) dNil)))))))))))))
theorem ne_bl (as : List Bool) : ne2 (.lst (as.map .bl)) (.lst (as.map .bl)) = some (.bl false) := by
 show (if depWs (as.map .bl) + 1 <= 150 then (eqWs (as.map .bl) (as.map .bl)).map (fun b => W.bl (!b)) else none) = _
 rw [depWs_bl, if_pos (by omega), eqWs_bl]
 simp
theorem endR_run (M : Exs K mg a) (z0 z2 z5 : S) (c : Int) {m : Nat} {bs : List Bool} (hl : bs.length = 2 ^ m) (hm : m <= 10) :
  (endR K a [z0, .fr (.int c), z2, .fr (.int (m : Int)), .fr (.lst (bs.map .bl)), z5, .no]).fn = .ok (.fr (.bl true)) := by
 have h10 : 2 ^ m <= 2 ^ 10 := Nat.pow_le_pow_right (by decide) hm
 have hp := pow_ne m
 unfold endR
 walk_at "den"
 rw [ftab_run 133 hl hm]
 walk_at "den"
 rw [right_run M 90 hl hm c]
 walk_at "den"
 rw [ne_bl]
 walk_at "den"
 rw [List.length_map, hl]
 have e1 : ((2 ^ m : Nat) : Int) - 1 = ((2 ^ m - 1 : Nat) : Int) := by omega
 rw [e1, row_at (row := bs) (p := 2 ^ m - 1) (by omega)]
 walk_at "den"
 rw [List.length_map, hl, e1]
 have e3 : ixN (2 ^ m) ((2 ^ m - 1 : Nat) : Int) = some (2 ^ m - 1) := by
  unfold ixN
  rw [if_pos (by omega), if_pos (by omega), Int.toNat_natCast]
 rw [e3]
 walk_at "den"
 have e4 : (bs.map W.bl).set (2 ^ m - 1) (.bl (!bs.getD (2 ^ m - 1) false)) = (bs.set (2 ^ m - 1) (!bs.getD (2 ^ m - 1) false)).map .bl := by rw [List.map_set]
 rw [e4]
 have hl2 : (bs.set (2 ^ m - 1) (!bs.getD (2 ^ m - 1) false)).length = 2 ^ m := by rw [List.length_set]; exact hl
 generalize bs.set (2 ^ m - 1) (!bs.getD (2 ^ m - 1) false) = cs at hl2
 walk_at "den"
 rw [ftab_run 133 hl2 hm]
 walk_at "den"
 rw [right_run M 90 hl2 hm c]
 walk_at "den"
 rw [ftab_run 133 hl hm]
 walk_at "den"
 rw [right_run M 90 hl hm c]
 walk_at "den"
theorem lg_no {L : Nat} (h : ∀ m, m <= 10 -> 2 ^ m ≠ L) : lg L = none := by
 unfold lg
 rw [List.find?_eq_none]
 intro m hm
 have := h m (by have := List.mem_range.mp hm; omega)
 simp [this]
theorem refused_run (M : Exs K mg a) (n : Nat) {ws : List W} (h : lg ws.length = none) : run K a (n + 20) i__law_refused [.lst ws] = .ok (.fr (.bl true)) := by
 rw [run__law_refused]
 unfold d__law_refused
 walk_at "den"
 rw [ftab_ex (n + 2) h]
 walk_at "den"
 rw [try_ex M.x_NoTable_CircuitError]
 walk_at "den"
 rw [class_NoTable M (n + 18)]
 walk_at "den"
theorem no3 {m j : Nat} (h : 2 ^ j = 3 * 2 ^ m) : False := by
 rcases Nat.lt_or_ge j m with q | q
 ·have : 2 ^ j <= 2 ^ m := Nat.pow_le_pow_right (by decide) (by omega)
  have := pow_ne m
  omega
 ·obtain ⟨d, rfl⟩ : ∃ d, j = m + d := ⟨j - m, by omega⟩
  rw [Nat.pow_add, Nat.mul_comm] at h
  have h3 : 2 ^ d = 3 := Nat.eq_of_mul_eq_mul_right (pow_ne m) h
  have : d = 0 \/ d = 1 \/ 2 <= d := by omega
  rcases this with rfl | rfl | hd
  ·omega
  ·omega
  ·have : 2 ^ 2 <= 2 ^ d := Nat.pow_le_pow_right (by decide) hd
   omega
theorem rep_true (k : Nat) (h : k <= 100000) : repW (.lst [.bl true]) (.int (k : Int)) = some (.lst ((List.replicate k true).map W.bl)) := by
 show (if okI (k : Int) = true /\ [W.bl true].length * (k : Int).toNat <= 16777216 then some (W.lst (List.replicate (k : Int).toNat [W.bl true]).flatten) else none) = _
 rw [if_pos ⟨okI_of (by omega) (by omega), by simp; omega⟩, Int.toNat_natCast]
 have : ∀ k : Nat, (List.replicate k [W.bl true]).flatten = (List.replicate k true).map W.bl := fun k => by
  induction k with
  | zero => rfl
  | succ k ih => rw [List.replicate_succ, List.flatten_cons, ih, List.replicate_succ]; rfl
 rw [this]
theorem endQ2_run (N : Nat) (hN2 : N = 2048) (M : Exs K mg a) (z0 z5 : S) (c far : Int) {m : Nat} {bs : List Bool} (hl : bs.length = 2 ^ m) (hm : m <= 10) :
  (endQ2 (N : Int) K a [z0, .fr (.int c), .fr (.int far), .fr (.int (m : Int)), .fr (.lst (bs.map .bl)), z5, .no]).fn = .ok (.fr (.bl true)) := by
 have h10 : 2 ^ m <= 2 ^ 10 := Nat.pow_le_pow_right (by decide) hm
 have hp := pow_ne m
 unfold endQ2
 walk_at "den"
 by_cases h1 : far / 2 % 6 = 1
 ·rw [if_pos h1]
  obtain ⟨ts, er, tl⟩ : ∃ ts : List Bool, repW (.lst [.bl true]) (.int (N : Int)) = some (.lst (ts.map W.bl)) /\ ts.length = N := ⟨List.replicate N true, rep_true N (by omega), List.length_replicate ..⟩
  walk_at "den"
  rw [er]
  rw [ofOpt_some, bind_ok, addX_ll, if_pos (by simp only [List.length_map]; omega)]
  rw [ofOpt_some, bind_ok]
  rw [pickL]
  have e5 : ((bs.map W.bl).length : Int) * 3 = ((2 ^ m * 3 : Nat) : Int) := by rw [List.length_map, hl]; omega
  generalize ((bs.map W.bl).length : Int) * 3 = X3 at e5 |-
  have fin : ∀ L : Nat, L <= 2 ^ m + 2048 -> (∀ j, j <= 10 -> 2 ^ j ≠ L) -> run K a 150 i__law_refused [.lst (cutW (bs.map W.bl ++ ts.map W.bl) none (some (L : Int)))] = .ok (.fr (.bl true)) := fun L hL hn => by
   rw [cut_take]
   refine refused_run M 130 (lg_no fun j hj => ?_)
   rw [List.length_take, List.length_append, List.length_map, List.length_map, tl, hl]
   have := hn j hj
   omega
  have : far / 12 % 4 = 0 \/ far / 12 % 4 = 1 \/ far / 12 % 4 = 2 \/ far / 12 % 4 = 3 := by omega
  rcases this with z | z | z | z
  ·rw [z]
   have f := fin 0 (by omega) (fun j _ => by have := pow_ne j; omega)
   have f : run K a 150 i__law_refused [.lst (cutW (bs.map W.bl ++ ts.map W.bl) none (some 0))] = _ := f
   walk_at "den"
   rw [f]
   walk_at "den"
  ·rw [z]
   have f := fin 3 (by omega) (fun j _ => fun q => no3 (m := 0) (j := j) (by omega))
   have f : run K a 150 i__law_refused [.lst (cutW (bs.map W.bl ++ ts.map W.bl) none (some 3))] = _ := f
   walk_at "den"
   rw [f]
   walk_at "den"
  ·rw [z]
   have f := fin (2 ^ m * 3) (by omega) (fun j _ => fun q => no3 (m := m) (j := j) (by omega))
   rw [<- e5] at f
   walk_at "den"
   rw [f]
   walk_at "den"
  ·rw [z]
   have f := fin N (by omega) (fun j hj => fun q => by
    have : 2 ^ j <= 2 ^ 10 := Nat.pow_le_pow_right (by decide) hj
    omega)
   rw [show atI [W.int 0, .int 3, .int X3, .int (N : Int)] 3 = some (.int (N : Int)) from rfl]
   walk_at "den"
   rw [f]
   walk_at "den"
 ·rw [if_neg h1]
  have z := endR_run M z0 (.fr (.int far)) z5 c hl hm
  revert z
  unfold endR
  walk_at "den"
  exact id
theorem endQ_run (M : Exs K mg a) (z0 z5 : S) (c far : Int) {m : Nat} {bs : List Bool} (hl : bs.length = 2 ^ m) (hm : m <= 10) :
  (endQ K a [z0, .fr (.int c), .fr (.int far), .fr (.int (m : Int)), .fr (.lst (bs.map .bl)), z5, .no]).fn = .ok (.fr (.bl true)) := by
 have h := endQ2_run 2048 rfl M z0 z5 c far hl hm
 rw [show ((2048 : Nat) : Int) = 2048 by omega] at h
 exact h
theorem elaw0 (n : Nat) (ws : List W) (x T : Int) (h0 : 0 < T) (h1 : T < 1073741824) : e_law_0 K a (run K a n) [.fr (.int x), .fr (.lst ws), .fr (.int T)] = ofOpt (atI ws (x - x / T % 2 * T)) [.fr (.int x), .fr (.lst ws), .fr (.int T)] := by
 unfold e_law_0
 walk_at "den"
 rw [if_pos ⟨h0, h1⟩, if_pos (.inr ⟨by omega, by omega⟩)]
theorem endP_run (M : Exs K mg a) (z0 : S) (c far : Int) {m : Nat} {bs : List Bool} (hl : bs.length = 2 ^ m) (hm : m <= 10) :
  (endP K a [z0, .fr (.int c), .fr (.int far), .fr (.int (m : Int)), .fr (.lst (bs.map .bl)), .no, .no]).fn = .ok (.fr (.bl true)) := by
 have h10 : 2 ^ m <= 2 ^ 10 := Nat.pow_le_pow_right (by decide) hm
 have hp := pow_ne m
 have go : ∀ (z5 : S) (bs : List Bool), bs.length = 2 ^ m -> (endQ K a [z0, .fr (.int c), .fr (.int far), .fr (.int (m : Int)), .fr (.lst (bs.map .bl)), z5, .no]).fn = .ok (.fr (.bl true)) := fun z5 bs h => endQ_run M z0 z5 c far h hm
 unfold endP
 walk_at "den"
 have plain := go .no bs hl
 by_cases h1 : far % 2 = 1
 ·rw [if_pos h1]
  by_cases h2 : (0 : Int) < (m : Int)
  ·rw [if_pos h2]
   walk_at "den"
   rw [mixed_run 149 _ _ h2]
   walk_at "den"
   have b := mixed_bd (c := far) (k := 1) (m := (m : Int)) h2
   obtain ⟨t, ht⟩ : ∃ t : Nat, mixed far 1 (m : Int) = (t : Int) := ⟨(mixed far 1 (m : Int)).toNat, by omega⟩
   rw [ht] at b |-
   rw [count_run 149 _ (by omega) (by omega)]
   walk_at "den"
   have e2 : (2 : Int) ^ (t : Int).toNat = ((2 ^ t : Nat) : Int) := by rw [Int.toNat_natCast]; push_cast; rfl
   rw [e2, List.length_map, hl, if_pos (okI_of (by omega) (by omega))]
   walk_at "den"
   rw [if_pos (by rw [len_range]; omega)]
   simp only [frz1, pj1, List.getElem?_cons_succ, List.getElem?_cons_zero]
   have ht10 : 2 ^ t <= 2 ^ 10 := Nat.pow_le_pow_right (by decide) (by omega)
   have htp := pow_ne t
   generalize 2 ^ t = T at ht10 htp
   rw [comp_g (fun w => .bl (bs.getD (wN w - wN w / T % 2 * T) false))]
   ·walk_at "den"
    have ew : (rangeW 0 ((2 ^ m : Nat) : Int)).map (fun w => W.bl (bs.getD (wN w - wN w / T % 2 * T) false)) = ((rangeW 0 ((2 ^ m : Nat) : Int)).map (fun w => bs.getD (wN w - wN w / T % 2 * T) false)).map W.bl := by rw [List.map_map]; rfl
    rw [ew]
    have q := go (.fr (.int (T : Int))) ((rangeW 0 ((2 ^ m : Nat) : Int)).map (fun w => bs.getD (wN w - wN w / T % 2 * T) false)) (by rw [List.length_map, len_range]; omega)
    revert q
    unfold endQ
    walk_at "den"
    exact id
   ·intro w hw
    obtain ⟨k, rfl, hk⟩ := mem_range hw
    rw [elaw0 150 _ _ _ (by omega) (by omega)]
    have ek : (0 + (k : Int)).toNat = k := by omega
    simp only [wN, ek]
    have hle : k / T % 2 * T <= k := by
     have q3 := Nat.div_add_mod k (T)
     have : k / T % 2 <= k / T := Nat.mod_le _ _
     have := Nat.mul_le_mul_right (T) this
     rw [Nat.mul_comm (T)] at q3
     omega
    have e6 : (0 + (k : Int)) - (0 + (k : Int)) / (T : Int) % 2 * (T : Int) = ((k - k / T % 2 * T : Nat) : Int) := by
     rw [Int.zero_add]
     have : (k : Int) / (T : Int) % 2 * (T : Int) = ((k / T % 2 * T : Nat) : Int) := by push_cast; rfl
     rw [this]
     omega
    rw [e6, row_at (row := bs) (p := k - k / T % 2 * T) (by omega)]
    walk_at "den"
    exact ⟨_, rfl⟩
  ·rw [if_neg h2]
   revert plain
   unfold endQ
   walk_at "den"
   exact id
 ·rw [if_neg h1]
  revert plain
  unfold endQ
  walk_at "den"
  exact id
theorem endO_run (M : Exs K mg a) (ns : List Int) (c far : Int) {m : Nat} (hm : m <= 10) : (endO K a [.fr (.lst (ns.map .int)), .fr (.int c), .fr (.int far), .fr (.int (m : Int)), .no, .no, .no]).fn = .ok (.fr (.bl true)) := by
 unfold endO
 walk_at "den"
 have ec : ∃ cs : List Int, cutW (ns.map .int) (some 2) none = cs.map .int := by
  unfold cutW
  rw [<- List.map_drop, <- List.map_take]
  exact ⟨_, rfl⟩
 obtain ⟨cs, ec⟩ := ec
 rw [ec]
 obtain ⟨bs, t1, t2⟩ := tableby_run (K := K) (a := a) 148 cs (m : Int) (by omega) (by omega)
 rw [t1]
 rw [Int.toNat_natCast] at t2
 have z := endP_run M (.fr (.lst (ns.map .int))) c far t2 hm
 revert z
 unfold endP
 walk_at "den"
 exact id
theorem eight {j : Int} (h0 : 0 <= j) (h1 : j < 8) : j = 0 \/ j = 1 \/ j = 2 \/ j = 3 \/ j = 4 \/ j = 5 \/ j = 6 \/ j = 7 := by omega
theorem pick1 {j : Int} (h0 : 0 <= j) (h1 : j < 8) : ∃ m : Nat, atI [W.int 0, .int 1, .int 2, .int 3, .int 4, .int 2, .int 3, .int 5] j = some (.int (m : Int)) /\ m <= 5 := by
 rcases eight h0 h1 with rfl | rfl | rfl | rfl | rfl | rfl | rfl | rfl
 ·exact ⟨0, rfl, by omega⟩
 ·exact ⟨1, rfl, by omega⟩
 ·exact ⟨2, rfl, by omega⟩
 ·exact ⟨3, rfl, by omega⟩
 ·exact ⟨4, rfl, by omega⟩
 ·exact ⟨2, rfl, by omega⟩
 ·exact ⟨3, rfl, by omega⟩
 ·exact ⟨5, rfl, by omega⟩
theorem pick2 {j : Int} (h0 : 0 <= j) (h1 : j < 8) : ∃ m : Nat, atI [W.int 0, .int 1, .int 1, .int 0, .int 2, .int 0, .int 1, .int 4] j = some (.int (m : Int)) /\ m <= 4 := by
 rcases eight h0 h1 with rfl | rfl | rfl | rfl | rfl | rfl | rfl | rfl
 ·exact ⟨0, rfl, by omega⟩
 ·exact ⟨1, rfl, by omega⟩
 ·exact ⟨1, rfl, by omega⟩
 ·exact ⟨0, rfl, by omega⟩
 ·exact ⟨2, rfl, by omega⟩
 ·exact ⟨0, rfl, by omega⟩
 ·exact ⟨1, rfl, by omega⟩
 ·exact ⟨4, rfl, by omega⟩
theorem law_true {mg : Str -> Option Value} (M : Exs K mg a) (ns : List Int) (hl : ns.length <= 63) : run K a 151 i_law [.lst (ns.map .int)] = .ok (.fr (.bl true)) := by
 rw [run_law]
 unfold d_law
 walk_at "den"
 rw [cell_run 149 ns (by decide)]
 walk_at "den"
 rw [cell_run 149 ns (by decide)]
 walk_at "den"
 obtain ⟨m1, p1, p2⟩ := pick1 (j := ns.getD 0 0 % 8) (by omega) (by omega)
 rw [p1]
 walk_at "den"
 by_cases h : ns.getD 0 0 / 8 % 3 = 1
 ·rw [if_pos h]
  obtain ⟨m2, p3, p4⟩ := pick2 (j := ns.getD 0 0 / 24 % 8) (by omega) (by omega)
  walk_at "den"
  rw [p3]
  walk_at "den"
  rw [show (6 : Int) + (m2 : Int) = ((6 + m2 : Nat) : Int) by omega]
  have z := endO_run M ns (ns.getD 0 0) (ns.getD 1 0) (m := 6 + m2) (by omega)
  revert z
  unfold endO
  walk_at "den"
  exact id
 ·rw [if_neg h]
  have z := endO_run M ns (ns.getD 0 0) (ns.getD 1 0) (m := m1) (by omega)
  revert z
  unfold endO
  walk_at "den"
  exact id
end
theorem walk {l : PySem.W.OpenLaw} {q : Program} {loose : List Str} {XP : (Str -> Option Value) -> Heap -> Prop} {YP : World -> Heap -> Prop} {d : DefRec} {K : Params -> PySem.W.Frag} (hn : l.most = some 63) (hdf : d.params.defaults = [])
  (hY : ∀ (w : World) (h : Heap), YP w h -> (K w.params).In h)
  (F : ∀ (w : World) (mg : Str -> Option Value) (fa : Addr) (h : Heap), (K w.params).In h -> h.Ns mainGlobals mg -> mg d.name = some (.ref fa) ->
   ∃ fd : FuncData, (∀ (s : Shared) (u : Value), BindsTo s fd ⟨[u], []⟩ [("_law_script", u)]) /\ ∀ base : Heap, (K w.params).In base -> base.Ns mainGlobals mg -> FnOk l.prog w (K w.params) mg base (CX1 l.prog w) 151 fa fd ["_law_script"] (spLaw (K w.params))) :
  PySem.W.WalkO q loose XP YP l.row.toRowW d [] (fun f vs => PySem.call f vs) :=
 L2.walk_of (n := 63) (k := 151) (x := "_law_script") (CX := fun w => CX1 l.prog w) (sp := fun w => spLaw (K w.params)) hn (by decide) hdf ⟨rfl, by decide, by decide, rfl⟩ hY F (fun _ _ a ns hl _ hS => ⟨a, ns, rfl, hS, hl, fun _ => rfl⟩) fun _ _ _ _ _ z => cx1_no z
end Q
open PySem PySem.W PyProof.Rows
set_option maxRecDepth 100000 in
set_option maxHeartbeats 0 in
theorem PySem.Challenge.cw_circuits_k14_forms_of_tables_holds : PySem.Challenge.rw_circuits_k14_forms_of_tables.Holds := by
 w_on; o_law; k_head; (case hw => w_witness2)
 k_fill
 refine Q.walk (l := PySem.Challenge.rw_circuits_k14_forms_of_tables) rfl rfl (fun w h Y => PySem.W.kIn_of Y) ?F
 case F =>
  intro w mg fa h KX G hmg
  refine' Q.mk KX G hmg ?a0 ?l0 ?c0 ?k0 ?a1 ?l1 ?c1 ?k1 ?a2 ?l2 ?c2 ?k2 ?a3 ?l3 ?c3 ?k3 ?a4 ?l4 ?c4 ?k4 ?a5 ?l5 ?c5 ?k5 ?a6 ?l6 ?c6 ?k6 ?a7 ?l7 ?c7 ?k7 ?a8 ?l8 ?c8 ?k8 ?a9 ?l9 ?c9 ?k9 ?a10 ?l10 ?c10 ?k10 ?a11 ?l11 ?c11 ?k11 ?a12 ?l12 ?c12 ?k12 ?a13 ?l13 ?c13 ?k13 ?a14 ?l14 ?c14 ?k14 ?a15 ?l15 ?c15 ?k15 ?a16 ?l16 ?c16 ?k16 ?a17 ?l17 ?c17 ?k17 ?a18 ?l18 ?c18 ?k18 ?a19 ?l19 ?c19 ?k19 ?a20 ?l20 ?c20 ?k20 ?a21 ?l21 ?c21 ?k21 ?a22 ?l22 ?c22 ?k22 ?a23 ?l23 ?c23 ?k23 ?n_CircuitError ?n_NoPlace ?n_NoName ?n_BadText ?n_NoRow ?n_NoTable ?n_UnlikeSizes ?n_TooGreat ?n_NoMachine ?n_BadSheet ?n_MOST_PLACES ?z_ValueError ?z_all ?z_any ?z_bool ?z_int ?z_isinstance ?z_len ?z_list ?z_max ?z_range ?z_set ?z_sorted ?z_str ?z_sum ?z_tuple ?g_MOST_PLACES ?e_NoTable ?c_NoTable ?x_NoTable_CircuitError ?k_NoTable_NoPlace ?k_NoTable_NoName ?k_NoTable_BadText ?k_NoTable_NoRow ?k_NoTable_NoTable ?k_NoTable_UnlikeSizes ?k_NoTable_TooGreat ?k_NoTable_NoMachine ?k_NoTable_BadSheet ?k_NoTable_ValueError ?t_NoneType_int ?t_bool_int ?t_int_int ?t_str_int ?t_tuple_int ?t_list_int ?t_NoneType_bool ?t_bool_bool ?t_int_bool ?t_str_bool ?t_tuple_bool ?t_list_bool ?t_NoneType_tuple ?t_bool_tuple ?t_int_tuple ?t_str_tuple ?t_tuple_tuple ?t_list_tuple ?t_NoneType_str ?t_bool_str ?t_int_str ?t_str_str ?t_tuple_str ?t_list_str 150 ?hL
  (case a0 => k_is)
  (case l0 => k_is)
  (case c0 => k_is)
  (case k0 => k_is)
  (case a1 => k_is)
  (case l1 => k_is)
  (case c1 => k_is)
  (case k1 => k_is)
  (case a2 => k_is)
  (case l2 => k_is)
  (case c2 => k_is)
  (case k2 => k_is)
  (case a3 => k_is)
  (case l3 => k_is)
  (case c3 => k_is)
  (case k3 => k_is)
  (case a4 => k_is)
  (case l4 => k_is)
  (case c4 => k_is)
  (case k4 => k_is)
  (case a5 => k_is)
  (case l5 => k_is)
  (case c5 => k_is)
  (case k5 => k_is)
  (case a6 => k_is)
  (case l6 => k_is)
  (case c6 => k_is)
  (case k6 => k_is)
  (case a7 => k_is)
  (case l7 => k_is)
  (case c7 => k_is)
  (case k7 => k_is)
  (case a8 => k_is)
  (case l8 => k_is)
  (case c8 => k_is)
  (case k8 => k_is)
  (case a9 => k_is)
  (case l9 => k_is)
  (case c9 => k_is)
  (case k9 => k_is)
  (case a10 => k_is)
  (case l10 => k_is)
  (case c10 => k_is)
  (case k10 => k_is)
  (case a11 => k_is)
  (case l11 => k_is)
  (case c11 => k_is)
  (case k11 => k_is)
  (case a12 => k_is)
  (case l12 => k_is)
  (case c12 => k_is)
  (case k12 => k_is)
  (case a13 => k_is)
  (case l13 => k_is)
  (case c13 => k_is)
  (case k13 => k_is)
  (case a14 => k_is)
  (case l14 => k_is)
  (case c14 => k_is)
  (case k14 => k_is)
  (case a15 => k_is)
  (case l15 => k_is)
  (case c15 => k_is)
  (case k15 => k_is)
  (case a16 => k_is)
  (case l16 => k_is)
  (case c16 => k_is)
  (case k16 => k_is)
  (case a17 => k_is)
  (case l17 => k_is)
  (case c17 => k_is)
  (case k17 => k_is)
  (case a18 => k_is)
  (case l18 => k_is)
  (case c18 => k_is)
  (case k18 => k_is)
  (case a19 => k_is)
  (case l19 => k_is)
  (case c19 => k_is)
  (case k19 => k_is)
  (case a20 => k_is)
  (case l20 => k_is)
  (case c20 => k_is)
  (case k20 => k_is)
  (case a21 => k_is)
  (case l21 => k_is)
  (case c21 => k_is)
  (case k21 => k_is)
  (case a22 => k_is)
  (case l22 => k_is)
  (case c22 => k_is)
  (case k22 => k_is)
  (case a23 => k_is)
  (case l23 => k_is)
  (case c23 => k_is)
  (case k23 => k_is)
  (case n_CircuitError => k_is)
  (case n_NoPlace => k_is)
  (case n_NoName => k_is)
  (case n_BadText => k_is)
  (case n_NoRow => k_is)
  (case n_NoTable => k_is)
  (case n_UnlikeSizes => k_is)
  (case n_TooGreat => k_is)
  (case n_NoMachine => k_is)
  (case n_BadSheet => k_is)
  (case n_MOST_PLACES => k_is)
  (case z_ValueError => k_is)
  (case z_all => k_is)
  (case z_any => k_is)
  (case z_bool => k_is)
  (case z_int => k_is)
  (case z_isinstance => k_is)
  (case z_len => k_is)
  (case z_list => k_is)
  (case z_max => k_is)
  (case z_range => k_is)
  (case z_set => k_is)
  (case z_sorted => k_is)
  (case z_str => k_is)
  (case z_sum => k_is)
  (case z_tuple => k_is)
  (case g_MOST_PLACES => kernel_rfl)
  (case e_NoTable => kernel_rfl)
  (case c_NoTable => kernel_rfl)
  (case x_NoTable_CircuitError => kernel_rfl)
  (case k_NoTable_NoPlace => kernel_rfl)
  (case k_NoTable_NoName => kernel_rfl)
  (case k_NoTable_BadText => kernel_rfl)
  (case k_NoTable_NoRow => kernel_rfl)
  (case k_NoTable_NoTable => kernel_rfl)
  (case k_NoTable_UnlikeSizes => kernel_rfl)
  (case k_NoTable_TooGreat => kernel_rfl)
  (case k_NoTable_NoMachine => kernel_rfl)
  (case k_NoTable_BadSheet => kernel_rfl)
  (case k_NoTable_ValueError => kernel_rfl)
  (case t_NoneType_int => kernel_rfl)
  (case t_bool_int => kernel_rfl)
  (case t_int_int => kernel_rfl)
  (case t_str_int => kernel_rfl)
  (case t_tuple_int => kernel_rfl)
  (case t_list_int => kernel_rfl)
  (case t_NoneType_bool => kernel_rfl)
  (case t_bool_bool => kernel_rfl)
  (case t_int_bool => kernel_rfl)
  (case t_str_bool => kernel_rfl)
  (case t_tuple_bool => kernel_rfl)
  (case t_list_bool => kernel_rfl)
  (case t_NoneType_tuple => kernel_rfl)
  (case t_bool_tuple => kernel_rfl)
  (case t_int_tuple => kernel_rfl)
  (case t_str_tuple => kernel_rfl)
  (case t_tuple_tuple => kernel_rfl)
  (case t_list_tuple => kernel_rfl)
  (case t_NoneType_str => kernel_rfl)
  (case t_bool_str => kernel_rfl)
  (case t_int_str => kernel_rfl)
  (case t_str_str => kernel_rfl)
  (case t_tuple_str => kernel_rfl)
  (case t_list_str => kernel_rfl)
  (case hL => exact fun a M ns hl => Q.law_true M ns hl)

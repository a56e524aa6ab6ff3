import PyProof.Rows.All
import Wide.All
import OpenK.AllK
import Wide.FinOn
import PyProof.TupleKey
import PyProof.EqAt
import PyProof.EqKinds
import Wide.Seal
import Lean
import PyProof.TupleCall
import KE.KTryMore
import KE.KRevIter
import PyProof.CollectIter
import PyProof.ConsumeWalk
import PyProof.TupleOfStr
import KE.KIsAll
import PyProof.ExcArgs
import PyProof.ExcAttrAll.ValueError
import PyProof.CompUse
import PyProof.NeKinds
import PyProof.EnumIter
import PyProof.EnumFor
import PyProof.EnumMake
import PyProof.EnumStmt
import PyProof.ListMulRoad
import PyProof.ZipIter
import PyProof.TupleIter
import PyProof.Rows.SortWalk
import PyProof.SetKind
import PyProof.Rows.SetFrom
import PyProof.FactsAll.set_1
import KE.KDictSum
import PyProof.FactsAll.set_2
import PyProof.FactsAll.tuple_2
import PyProof.ReprRoads
import PyProof.Rows.SeqMore
import PyProof.ReprLen
import PyProof.WalkInts
import PyProof.SeqI3
import PyProof.Rows.TupIter
import PyProof.ListRange
import PyProof.SumWalk
import PyProof.DictIter
import PyProof.DictWalks
import PyProof.DictRoadsH
import PyProof.DictTruth
import PyProof.Rows.TupDisplay
import KE.KDictList
import PySem.Challenge.RW_circuits_k53_small_fewest
set_option Elab.async false
set_option linter.all false
set_option maxRecDepth 100000
set_option maxHeartbeats 1000000
local macro_rules | `(tactic| omega) => `(tactic| first | with_reducible assumption | decide | with_reducible exact Nat.le_refl _ | with_reducible exact Nat.zero_le _ | lia)
set_option genSizeOf false
set_option genInjectivity false
local macro_rules | `(tactic| walk_at "1") => `(tactic| (first | exact Or.inl rfl | exact Or.inr (Or.inl rfl) | exact Or.inr (Or.inr rfl)))
local macro_rules | `(tactic| walk_at "2") => `(tactic| (first | exact .inl rfl | exact .inr rfl | assumption))
local macro_rules | `(tactic| walk_at "3") => `(tactic| (first | exact Or.inl rfl | exact Or.inr rfl))
namespace L2
open PySem PySem.Spec PyProof.Rows
set_option genInjectivity true in
inductive Kx where
 | bl (b : Bool) | int (i : Int) | str (x : Str) | tup (ks : List Kx)
inductive Sh where
 | bl | int | str | tup (ss : List Sh) | many (s : Sh)
noncomputable instance : DecidableEq Kx := fun _ _ => Classical.propDecidable _
mutual
noncomputable def Kx.depth : Kx -> Nat
 | .tup ks => Kx.depths ks + 1
 | _ => 0
noncomputable def Kx.depths : List Kx -> Nat
 | [] => 0
 | k :: ks => max k.depth (Kx.depths ks)
end
mutual
def Conf : Kx -> Sh -> Prop
 | .bl _, .bl => True
 | .int _, .int => True
 | .str _, .str => True
 | .tup ks, .tup ss => Confs ks ss
 | .tup ks, .many s => ConfM ks s
 | _, _ => False
def Confs : List Kx -> List Sh -> Prop
 | [], [] => True
 | k :: ks, s :: ss => Conf k s /\ Confs ks ss
 | _, _ => False
def ConfM : List Kx -> Sh -> Prop
 | [], _ => True
 | k :: ks, s => Conf k s /\ ConfM ks s
end
mutual
def KIs (h : Heap) : Kx -> Value -> Prop
 | .bl b, v => v = .bool b
 | .int i, v => ∃ t, v = .int i t
 | .str x, v => ∃ t, v = .str x t
 | .tup ks, v => ∃ a o items n, v = .ref a /\ h.get? a = some o /\ o.cls = .type "tuple" /\ o.data = .seq items n /\ KAre h ks items.toList
def KAre (h : Heap) : List Kx -> List Value -> Prop
 | [], vs => vs = []
 | k :: ks, vs => ∃ v r, vs = v :: r /\ KIs h k v /\ KAre h ks r
end
mutual
theorem kis_inj {h : Heap} : ∀ (k k' : Kx) {v : Value}, KIs h k v -> KIs h k' v -> k = k'
 | .bl b, k', v, x, y => by
  cases (show v = .bool b from x)
  cases k' with
  | bl c => cases (show Value.bool b = .bool c from y); rfl
  | int i => obtain ⟨t, e⟩ := y; cases e
  | str i => obtain ⟨t, e⟩ := y; cases e
  | tup ks => obtain ⟨_, _, _, _, e, _⟩ := y; cases e
 | .int b, k', v, x, y => by
  obtain ⟨t, rfl⟩ := x
  cases k' with
  | bl c => cases y
  | int i => obtain ⟨t, e⟩ := y; cases e; rfl
  | str i => obtain ⟨t, e⟩ := y; cases e
  | tup ks => obtain ⟨_, _, _, _, e, _⟩ := y; cases e
 | .str b, k', v, x, y => by
  obtain ⟨t, rfl⟩ := x
  cases k' with
  | bl c => cases y
  | int i => obtain ⟨t, e⟩ := y; cases e
  | str i => obtain ⟨t, e⟩ := y; cases e; rfl
  | tup ks => obtain ⟨_, _, _, _, e, _⟩ := y; cases e
 | .tup ks, k', v, x, y => by
  obtain ⟨a, o, it, n, rfl, h1, h2, h3, h4⟩ := x
  cases k' with
  | bl c => cases y
  | int i => obtain ⟨t, e⟩ := y; cases e
  | str i => obtain ⟨t, e⟩ := y; cases e
  | tup ks' =>
   obtain ⟨a', o', it', n', e, g1, g2, g3, g4⟩ := y
   cases e
   rw [h1] at g1
   cases g1
   rw [h3] at g3
   injection g3 with e1 _
   subst e1
   rw [kare_inj ks ks' h4 g4]
theorem kare_inj {h : Heap} : ∀ (ks ks' : List Kx) {vs : List Value}, KAre h ks vs -> KAre h ks' vs -> ks = ks'
 | [], ks', vs, x, y => by
  cases (show vs = [] from x)
  cases ks' with
  | nil => rfl
  | cons k ks' => obtain ⟨v, r, e, _⟩ := y; cases e
 | k :: ks, ks', vs, x, y => by
  obtain ⟨v, r, rfl, h1, h2⟩ := x
  cases ks' with
  | nil => cases (show v :: r = [] from y)
  | cons k' ks' =>
   obtain ⟨v', r', e, g1, g2⟩ := y
   cases e
   rw [kis_inj k k' h1 g1, kare_inj ks ks' h2 g2]
end
mutual
theorem kis_keeps {h h' : Heap} (hk : ∀ a o, h.get? a = some o -> o.cls = .type "tuple" -> (∃ it n, o.data = .seq it n) -> h'.get? a = some o) : ∀ (k : Kx) {v : Value}, KIs h k v -> KIs h' k v
 | .bl b, v, x => x
 | .int b, v, x => x
 | .str b, v, x => x
 | .tup ks, v, x => by
  obtain ⟨a, o, it, n, rfl, h1, h2, h3, h4⟩ := x
  exact ⟨a, o, it, n, rfl, hk a o h1 h2 ⟨it, n, h3⟩, h2, h3, kare_keeps hk ks h4⟩
theorem kare_keeps {h h' : Heap} (hk : ∀ a o, h.get? a = some o -> o.cls = .type "tuple" -> (∃ it n, o.data = .seq it n) -> h'.get? a = some o) : ∀ (ks : List Kx) {vs : List Value}, KAre h ks vs -> KAre h' ks vs
 | [], vs, x => x
 | k :: ks, vs, x => by
  obtain ⟨v, r, rfl, h1, h2⟩ := x
  exact ⟨v, r, rfl, kis_keeps hk k h1, kare_keeps hk ks h2⟩
end
theorem KAre.length {h : Heap} : ∀ (ks : List Kx) {vs : List Value}, KAre h ks vs -> vs.length = ks.length
 | [], vs, x => by cases (show vs = [] from x); rfl
 | k :: ks, vs, x => by
  obtain ⟨v, r, rfl, h1, h2⟩ := x
  rw [List.length_cons, List.length_cons, KAre.length ks h2]
mutual
noncomputable def kHash (w : World) : Kx -> Int
 | .bl b => reduceHash (if b = true then 1 else 0)
 | .int i => hashInt i
 | .str x => hashStr w x
 | .tup ks => reduceHash (Builtin.Tuple.tupleHashOf (kHashes w ks))
noncomputable def kHashes (w : World) : List Kx -> List Int
 | [] => []
 | k :: ks => kHash w k :: kHashes w ks
end
mutual
noncomputable def kDraws : Kx -> Nat
 | .tup ks => kDrawss ks + 1
 | _ => 1
noncomputable def kDrawss : List Kx -> Nat
 | [] => 0
 | k :: ks => kDraws k + kDrawss ks
end
section
variable {prog : Program} {w : World} {E : Value -> Shared -> Prop}
mutual
theorem kt_hash : ∀ (k : Kx) (v : Value) (A : Around) (s : Shared) (Q : Int -> Shared -> Prop), KIs s.heap k v -> A.units + k.depth < cLine -> Q (kHash w k) { s with toks := s.toks + kDraws k } -> wpAny (model prog w) A (pyHash v) Q E s
 | .bl b, v, A, s, Q, x, hu, h => by
  cases (show v = .bool b from x)
  refine PySem.W.pyHash_slot (T := "bool") rfl F.slot_bool_hash entry_int_hash (args_int_hash _) (beq_builtin_none _) (.inr (by omega)) ?_
  cases b
  ·exact (show wpAny _ _ (do ret (<- mkInt 0)) _ _ s from wpAny_bind (wpAny_mkInt (wpAny_pure ⟨_, _, rfl, h⟩)))
  ·exact (show wpAny _ _ (do ret (<- mkInt 1)) _ _ s from wpAny_bind (wpAny_mkInt (wpAny_pure ⟨_, _, rfl, h⟩)))
 | .int i, v, A, s, Q, x, hu, h => by
  obtain ⟨t, rfl⟩ := x
  exact wpAny_pyHash_int h
 | .str i, v, A, s, Q, x, hu, h => by
  obtain ⟨t, rfl⟩ := x
  exact wpAny_pyHash_str h
 | .tup ks, v, A, s, Q, x, hu, h => by
  obtain ⟨a, o, it, n, rfl, h1, h2, h3, h4⟩ := x
  refine PySem.W.pyHash_slot (T := "tuple") ⟨_, h1, h2⟩ F.slot_tuple_hash F.entry_tuple_hash (F.args_tuple_hash_1 _) (beq_builtin_none _) (.inr (by omega)) ?_
  show wpAny _ _ (Builtin.Tuple.tupleItemsOf (.ref a) >>= _) _ _ s
  refine wpAny_bind (wpAny_tupleItemsOf h1 h3 ?_)
  refine wpAny_bind ?_
  rw [<- Array.forIn_toList]
  refine kt_hashes ks it.toList A.in1 s #[] _ h4 (by simp only [Kx.depth, Around.in1_units] at hu |-; omega) fun b hb => ?_
  show wpAny _ _ (retInt (Builtin.Tuple.tupleHashOf b.toList)) _ _ _
  rw [hb]
  exact wpAny_bind (wpAny_mkInt (wpAny_pure ⟨_, _, rfl, by simpa [kHash, kDraws, Nat.add_assoc] using h⟩))
theorem kt_hashes : ∀ (ks : List Kx) (vs : List Value) (A : Around) (s : Shared) (b : Array Int) (Q : Array Int -> Shared -> Prop), KAre s.heap ks vs -> A.units + Kx.depths ks < cLine ->
  (∀ b', b'.toList = b.toList ++ kHashes w ks -> Q b' { s with toks := s.toks + kDrawss ks }) ->
  wpAny (model prog w) A (forIn vs b fun x r => do let h <- pyHash x; pure PUnit.unit; pure (ForInStep.yield (r.push h))) Q E s
 | [], vs, A, s, b, Q, x, hu, h => by
  cases (show vs = [] from x)
  exact wpAny_pure (h b (by simp [kHashes]))
 | k :: ks, vs, A, s, b, Q, x, hu, h => by
  obtain ⟨v, r, rfl, h1, h2⟩ := x
  simp only [Kx.depths] at hu
  rw [List.forIn_cons]
  refine wpAny_bind (wpAny_bind (kt_hash k v A s _ h1 (by omega) ?_))
  refine wpAny_bind (wpAny_pure (wpAny_pure ?_))
  exact kt_hashes ks r A _ _ Q h2 (by omega) fun b' hb => by
   have := h b' (by simp [hb, kHashes])
   simpa [kDrawss, Nat.add_assoc] using this
end
end
theorem kdec_bl (a b : Bool) : decide (Kx.bl a = Kx.bl b) = (a == b) := by
 by_cases e : a = b
 ·subst e; simp
 ·rw [decide_eq_false (fun z => e (by injection z))]; exact (beq_eq_false_iff_ne.mpr e).symm
theorem kdec_int (a b : Int) : decide (Kx.int a = Kx.int b) = (a == b) := by
 by_cases e : a = b
 ·subst e; simp
 ·rw [decide_eq_false (fun z => e (by injection z))]; exact (beq_eq_false_iff_ne.mpr e).symm
theorem kdec_str (a b : Str) : decide (Kx.str a = Kx.str b) = (a == b) := by
 by_cases e : a = b
 ·subst e; simp
 ·rw [decide_eq_false (fun z => e (by injection z))]; exact (beq_eq_false_iff_ne.mpr e).symm
noncomputable def sameAt (ks ks' : List Kx) (j : Nat) : Bool := decide (ks[j]? = ks'[j]?)
theorem all_same : ∀ ks ks' : List Kx, ((List.range (min ks.length ks'.length)).all (sameAt ks ks') && ks.length == ks'.length) = decide (Kx.tup ks = Kx.tup ks') := by
 intro ks ks'
 by_cases e : ks = ks'
 ·subst e
  rw [decide_eq_true rfl]
  simp [sameAt]
 ·rw [decide_eq_false (fun z => e (by injection z))]
  rw [Bool.and_eq_false_iff]
  by_cases hl : ks.length = ks'.length
  ·left
   rw [Bool.eq_false_iff]
   intro ha
   refine e (List.ext_getElem? fun j => ?_)
   by_cases hj : j < ks.length
   ·have := List.all_eq_true.mp ha j (List.mem_range.mpr (by omega))
    exact of_decide_eq_true this
   ·rw [List.getElem?_eq_none (by omega), List.getElem?_eq_none (by omega)]
  ·right
   simpa using hl
theorem kare_get {h : Heap} : ∀ (ks : List Kx) {vs : List Value}, KAre h ks vs -> ∀ (j : Nat) (v : Value), vs[j]? = some v -> ∃ k, ks[j]? = some k /\ KIs h k v
 | [], vs, x, j, v, e => by cases (show vs = [] from x); simp at e
 | k :: ks, vs, x, j, v, e => by
  obtain ⟨u, r, rfl, h1, h2⟩ := x
  cases j with
  | zero => cases e; exact ⟨k, rfl, h1⟩
  | succ j => exact kare_get ks h2 j v (by simpa using e)
theorem depth_get : ∀ (ks : List Kx) (j : Nat) (k : Kx), ks[j]? = some k -> k.depth <= Kx.depths ks
 | [], j, k, e => by simp at e
 | x :: ks, j, k, e => by
  simp only [Kx.depths]
  cases j with
  | zero => cases e; omega
  | succ j => have := depth_get ks j k (by simpa using e); omega
theorem confs_get : ∀ (ks : List Kx) (ss : List Sh), Confs ks ss -> ∀ (j : Nat) (k : Kx), ks[j]? = some k -> ∃ s, ss[j]? = some s /\ Conf k s
 | [], ss, _, j, k, e => by simp at e
 | x :: ks, [], c, j, k, e => c.elim
 | x :: ks, s :: ss, c, j, k, e => by
  cases j with
  | zero => cases e; exact ⟨s, rfl, c.1⟩
  | succ j => exact confs_get ks ss c.2 j k (by simpa using e)
theorem confM_get : ∀ (ks : List Kx) (s : Sh), ConfM ks s -> ∀ (j : Nat) (k : Kx), ks[j]? = some k -> Conf k s
 | [], s, _, j, k, e => by simp at e
 | x :: ks, s, c, j, k, e => by
  cases j with
  | zero => cases e; exact c.1
  | succ j => exact confM_get ks s c.2 j k (by simpa using e)
theorem kt_eq (s : Shared) : ∀ (n : Nat) (k k' : Kx) (sh : Sh) (v v' : Value) (A : Around), k.depth <= n -> Conf k sh -> Conf k' sh -> KIs s.heap k v -> KIs s.heap k' v' -> A.units + n < cLine -> SeqAt.EqAt A s v v' (decide (k = k')) := by
 intro n
 induction n with
 | zero =>
  intro k k' sh v v' A hd c c' x y hu
  cases k with
  | bl a =>
   cases sh with
   | bl =>
    cases k' with
    | bl b => cases (show v = .bool a from x); cases (show v' = .bool b from y); rw [kdec_bl]; exact .bool_bool a b
    | _ => exact c'.elim
   | _ => exact c.elim
  | int a =>
   cases sh with
   | int =>
    cases k' with
    | int b => obtain ⟨t, rfl⟩ := x; obtain ⟨u, rfl⟩ := y; rw [kdec_int]; exact .int_int a t b u
    | _ => exact c'.elim
   | _ => exact c.elim
  | str a =>
   cases sh with
   | str =>
    cases k' with
    | str b => obtain ⟨t, rfl⟩ := x; obtain ⟨u, rfl⟩ := y; rw [kdec_str]; exact .str_str a t b u
    | _ => exact c'.elim
   | _ => exact c.elim
  | tup ks => simp only [Kx.depth] at hd; omega
 | succ n ih =>
  intro k k' sh v v' A hd c c' x y hu
  cases k with
  | bl a => exact ih (.bl a) k' sh v v' A (Nat.zero_le _) c c' x y (by omega)
  | int a => exact ih (.int a) k' sh v v' A (Nat.zero_le _) c c' x y (by omega)
  | str a => exact ih (.str a) k' sh v v' A (Nat.zero_le _) c c' x y (by omega)
  | tup ks =>
   obtain ⟨a, o, it, m, rfl, h1, h2, h3, h4⟩ := x
   have tail : ∀ ks', k' = .tup ks' -> (∀ (j : Nat) (u u' : Kx), ks[j]? = some u -> ks'[j]? = some u' -> ∃ s, Conf u s /\ Conf u' s) -> SeqAt.EqAt A s (.ref a) v' (decide (Kx.tup ks = k')) := by
    rintro ks' rfl hc
    obtain ⟨b, o', it', m', rfl, g1, g2, g3, g4⟩ := y
    by_cases hab : a = b
    ·subst hab
     rw [h1] at g1
     cases g1
     rw [h3] at g3
     injection g3 with e1 _
     subst e1
     rw [kare_inj ks ks' h4 g4, decide_eq_true rfl]
     exact .same _
    ·have l1 := KAre.length ks h4
     have l2 := KAre.length ks' g4
     rw [<- all_same]
     have := SeqAt.RcAt.tuples (A := A) (s := s) (e := sameAt ks ks') (show s.heap.IsTuple a it from ⟨o, h1, h2, m, h3⟩) (show s.heap.IsTuple b it' from ⟨o', g1, g2, m', g3⟩) (by omega) (fun j j1 j2 => by
      obtain ⟨u, u1, u2⟩ := kare_get ks h4 j it[j] (by simp [j1])
      obtain ⟨u', u1', u2'⟩ := kare_get ks' g4 j it'[j] (by simp [j2])
      obtain ⟨sh', c1, c2⟩ := hc j u u' u1 u1'
      have hdj := depth_get ks j u u1
      simp only [Kx.depth] at hd
      have z := ih u u' sh' _ _ A.in1 (by omega) c1 c2 u2 u2' (by rw [Around.in1_units]; omega)
      have e : sameAt ks ks' j = decide (u = u') := by
       unfold sameAt
       rw [u1, u1']
       by_cases q : u = u'
       ·rw [q]; simp
       ·rw [decide_eq_false q, decide_eq_false (fun z => q (Option.some.inj z))]
      rw [e]
      exact z)
     rw [show it.size = ks.length by simpa using l1, show it'.size = ks'.length by simpa using l2] at this
     exact .of_refs hab this
   cases sh with
   | tup ss =>
    cases k' with
    | tup ks' =>
     refine tail ks' rfl fun j u u' e1 e2 => ?_
     obtain ⟨s1, q1, q2⟩ := confs_get ks ss c j u e1
     obtain ⟨s2, q3, q4⟩ := confs_get ks' ss c' j u' e2
     rw [q1] at q3
     cases q3
     exact ⟨s1, q2, q4⟩
    | _ => exact c'.elim
   | many s1 =>
    cases k' with
    | tup ks' => exact tail ks' rfl fun j u u' e1 e2 => ⟨s1, confM_get ks s1 c j u e1, confM_get ks' s1 c' j u' e2⟩
    | _ => exact c'.elim
   | _ => exact c.elim
section
variable {prog : Program} {w : World} {E : Value -> Shared -> Prop} {A : Around}
theorem kt_quiet : ∀ (n : Nat) (k : Kx) (v : Value) (s : Shared) (Q : Bool -> Shared -> Prop), k.depth <= n -> KIs s.heap k v -> Q true s -> wpAny (model prog w) A (eqIsQuiet n v) Q E s := by
 intro n
 induction n with
 | zero =>
  intro k v s Q hd x h
  cases k with
  | bl b => cases (show v = .bool b from x); rw [eqIsQuiet_byValue _ rfl]; exact wpAny_pure h
  | int i => obtain ⟨t, rfl⟩ := x; rw [eqIsQuiet_byValue _ rfl]; exact wpAny_pure h
  | str i => obtain ⟨t, rfl⟩ := x; rw [eqIsQuiet_byValue _ rfl]; exact wpAny_pure h
  | tup ks => simp only [Kx.depth] at hd; omega
 | succ n ih =>
  intro k v s Q hd x h
  cases k with
  | bl b => cases (show v = .bool b from x); rw [eqIsQuiet_byValue _ rfl]; exact wpAny_pure h
  | int i => obtain ⟨t, rfl⟩ := x; rw [eqIsQuiet_byValue _ rfl]; exact wpAny_pure h
  | str i => obtain ⟨t, rfl⟩ := x; rw [eqIsQuiet_byValue _ rfl]; exact wpAny_pure h
  | tup ks =>
   obtain ⟨a, o, it, m, rfl, h1, h2, h3, h4⟩ := x
   have hT : s.TypeIs (.ref a) "tuple" := ⟨o, h1, h2⟩
   unfold eqIsQuiet
   refine wpAny_bind (wpAny_specialOf hT F.slot_tuple_eq.lookup ?_)
   show wpAny _ _ (isInstance (.ref a) (.type "tuple") >>= _) _ _ s
   refine wpAny_bind (wpAny_isInstance hT isSubtype_tuple_tuple ?_)
   simp only [Bool.not_true, Bool.false_eq_true, if_false]
   refine wpAny_bind (wpAny_seqItems h1 h3 ?_)
   refine wpAny_bind ?_
   show wpAny _ _ (forIn it _ _) _ _ s
   rw [<- Array.forIn_toList]
   refine wpAny_forIn_list _ (fun rest r s' => r.1 = none /\ s' = s /\ ∀ v ∈ rest, ∃ k : Kx, k.depth <= n /\ KIs s.heap k v) _ ?_ ?_ _ _ ⟨rfl, rfl, fun v hv => ?_⟩
   ·rintro v rest r s' ⟨hr, rfl, hall⟩
    obtain ⟨k, k1, k2⟩ := hall v List.mem_cons_self
    refine wpAny_bind (ih k v _ _ k1 k2 ?_)
    simp only [Bool.not_true, Bool.false_eq_true, if_false]
    exact wpAny_pure ⟨rfl, rfl, fun u hu' => hall u (List.mem_cons_of_mem _ hu')⟩
   ·rintro ⟨r1, r2⟩ s' ⟨hr, rfl, _⟩
    simp only at hr
    subst hr
    exact wpAny_pure h
   ·obtain ⟨j, hj, e⟩ := List.mem_iff_getElem.mp hv
    obtain ⟨k, k1, k2⟩ := kare_get ks h4 j v (by rw [List.getElem?_eq_getElem hj, e])
    have := depth_get ks j k k1
    simp only [Kx.depth] at hd
    exact ⟨k, by omega, k2⟩
end
noncomputable def treeKind (prog : Program) (w : World) (sh : Sh) : HeapKind prog w Kx where
 is := fun h k a => KIs h k (.ref a) /\ Conf k sh /\ k.depth <= 7
 hash := kHash w
 draws := kDraws
 room := fun A => A.units + 8 < cLine
 inj := fun hx hy => kis_inj _ _ hx.1 hy.1
 keeps := fun {h h' k a d o es ep} x ho hd hs => ⟨kis_keeps (fun b ob e1 e2 e3 => by
  have hne : b ≠ d := by
   rintro rfl
   rw [ho] at e1
   cases e1
   obtain ⟨it, n, e⟩ := e3
   rw [hd] at e; cases e
  exact (hs.2 b hne).trans e1) _ x.1, x.2⟩
 pyHash := fun {A E s k a Q} hu hk h => kt_hash k _ A s Q hk.1 (by have := hk.2.2; omega) h
 eqBool := fun {A E s x y a b Q} hu hx hy h => kt_eq s 7 x y sh _ _ A hx.2.2 hx.2.1 hy.2.1 hx.1 hy.1 (by omega) prog w E Q h
 quiet := fun {A E s k a Q} hk h => kt_quiet 8 k _ s Q (by have := hk.2.2; omega) hk.1 h
end L2
set_option Elab.async false
set_option linter.all false
set_option maxRecDepth 100000
namespace L2
open PySem PySem.Spec PyProof.Rows
noncomputable abbrev Key := Sum Int Str
noncomputable def keyIs : Key -> Value -> Bool
 | .inl k, v => Value.isInt k v
 | .inr x, v => Value.isStrOf x v
noncomputable def keyH (w : World) : Key -> Int
 | .inl k => hashInt k
 | .inr x => hashStr w x
theorem keyIs_shape : ∀ {k : Key} {v : Value}, keyIs k v = true -> (∃ i t, k = Sum.inl i /\ v = Value.int i t) \/ (∃ x t, k = Sum.inr x /\ v = Value.str x t)
 | .inl i, v, h => by
  obtain ⟨t, e⟩ := Value.isInt_shape (k := i) (v := v) h
  exact .inl ⟨i, t, rfl, e⟩
 | .inr x, v, h => by
  obtain ⟨t, e⟩ := Value.isStrOf_shape (x := x) (v := v) h
  exact .inr ⟨x, t, rfl, e⟩
theorem keyIs_int (i : Int) (t : Tok) : keyIs (.inl i) (.int i t) = true := by simp [keyIs, Value.isInt]
theorem keyIs_str (x : Str) (t : Tok) : keyIs (.inr x) (.str x t) = true := by simp [keyIs, Value.isStrOf]
theorem key_ll (a b : Int) : decide ((Sum.inl a : Key) = Sum.inl b) = (a == b) := by
 by_cases e : a = b
 ·subst e; simp
 ·have h : ¬ (Sum.inl a : Key) = Sum.inl b := fun q => e (Sum.inl.inj q)
  rw [decide_eq_false h]
  exact (beq_eq_false_iff_ne.mpr e).symm
theorem key_rr (a b : Str) : decide ((Sum.inr a : Key) = Sum.inr b) = decide (a = b) := by
 by_cases e : a = b
 ·subst e; simp
 ·have h : ¬ (Sum.inr a : Key) = Sum.inr b := fun q => e (Sum.inr.inj q)
  rw [decide_eq_false h, decide_eq_false e]
theorem key_lr (a : Int) (b : Str) : decide ((Sum.inl a : Key) = Sum.inr b) = false := decide_eq_false (fun q => nomatch q)
theorem key_rl (a : Str) (b : Int) : decide ((Sum.inr a : Key) = Sum.inl b) = false := decide_eq_false (fun q => nomatch q)
noncomputable def mixKind (prog : Program) (w : World) : PySem.KeyKind prog w Key where
 is := keyIs
 hash := keyH w
 inj := fun v a b ha hb => by
  rcases keyIs_shape ha with ⟨i, t, rfl, rfl⟩ | ⟨x, t, rfl, rfl⟩
  ·rcases keyIs_shape hb with ⟨j, u, rfl, e⟩ | ⟨y, u, rfl, e⟩
   ·injection e with e1 _; rw [e1]
   ·exact nomatch e
  ·rcases keyIs_shape hb with ⟨j, u, rfl, e⟩ | ⟨y, u, rfl, e⟩
   ·exact nomatch e
   ·injection e with e1 _; rw [e1]
 byValue := fun k v h => by
  rcases keyIs_shape h with ⟨i, t, rfl, rfl⟩ | ⟨x, t, rfl, rfl⟩ <;> rfl
 pyHash := fun hv h => by
  rcases keyIs_shape hv with ⟨i, t, rfl, rfl⟩ | ⟨x, t, rfl, rfl⟩
  ·exact wpAny_pyHash_int h
  ·exact wpAny_pyHash_str h
 eqBool := fun hu hv h => by
  rcases keyIs_shape hu with ⟨i, t, rfl, rfl⟩ | ⟨x, t, rfl, rfl⟩
  ·rcases keyIs_shape hv with ⟨j, u, rfl, rfl⟩ | ⟨y, u, rfl, rfl⟩
   ·rw [key_ll] at h; exact wpAny_eqBool_int h
   ·rw [key_lr] at h; exact SeqAt.EqAt.int_str i t y u _ _ _ _ h
  ·rcases keyIs_shape hv with ⟨j, u, rfl, rfl⟩ | ⟨y, u, rfl, rfl⟩
   ·rw [key_rl] at h; exact SeqAt.EqAt.str_int x t j u _ _ _ _ h
   ·rw [key_rr] at h; exact wpAny_eqBool_str h
 «strs» := fun k x t v h => by
  rcases keyIs_shape h with ⟨i, u, rfl, e⟩ | ⟨y, u, rfl, e⟩
  ·exact nomatch e
  ·injection e with e1 _
   subst e1
   cases v <;> rfl
theorem mixKind_int (prog : Program) (w : World) (i : Int) (t : Tok) : (mixKind prog w).is (.inl i) (.int i t) = true := keyIs_int i t
theorem mixKind_str (prog : Program) (w : World) (x : Str) (t : Tok) : (mixKind prog w).is (.inr x) (.str x t) = true := keyIs_str x t
end L2
namespace L2
open PySem PySem.Spec PyProof.Rows
set_option genInjectivity true in
inductive V where
 | non | bl (b : Bool) | int (i : Int) | str (x : Str) | byt (b : Array UInt8) | flt (b : UInt64) | ref (a : Addr) | ty (n : String)
 deriving DecidableEq
def RelV : V -> Value -> Prop
 | .non, u => u = Value.none
 | .bl b, u => u = Value.bool b
 | .int i, u => ∃ t, u = Value.int i t
 | .str x, u => ∃ t, u = Value.str x t
 | .byt b, u => ∃ t, u = Value.bytes b t
 | .flt b, u => ∃ t, u = Value.float b t
 | .ref a, u => u = Value.ref a
 | .ty n, u => u = Value.type n
abbrev Vals : List V -> List Value -> Prop := Paired RelV
theorem Vals.length {xs : List V} {us : List Value} (r : Vals xs us) : xs.length = us.length := Paired.length r
theorem Vals.get : ∀ {xs : List V} {us : List Value} {i : Nat} {x : V}, Vals xs us -> xs[i]? = some x -> ∃ u, us[i]? = some u /\ RelV x u
 | _, _, _, _, .nil, e => by simp at e
 | _, _, 0, _, .cons r _, e => by simp at e; subst e; exact ⟨_, rfl, r⟩
 | _, _, i + 1, x, .cons _ t, e => by
  obtain ⟨u, h1, h2⟩ := Vals.get (i := i) (x := x) t (by simpa using e)
  exact ⟨u, by simpa using h1, h2⟩
theorem Vals.set {x : V} {u : Value} (r : RelV x u) : ∀ {xs : List V} {us : List Value} (i : Nat), Vals xs us -> Vals (xs.set i x) (us.set i u)
 | _, _, _, .nil => .nil
 | _, _, 0, .cons _ t => .cons r t
 | _, _, i + 1, .cons q t => .cons q (Vals.set r i t)
theorem Vals.append : ∀ {xs ys : List V} {us ws : List Value}, Vals xs us -> Vals ys ws -> Vals (xs ++ ys) (us ++ ws)
 | _, _, _, _, .nil, s => s
 | _, _, _, _, .cons r t, s => .cons r (Vals.append t s)
def RelO : Option V -> Option Value -> Prop
 | some v, some u => RelV v u
 | none, none => True
 | _, _ => False
def KV {κ : Type} : List (κ × V) -> List (κ × Value) -> Prop := Paired fun (p : κ × V) (q : κ × Value) => p.1 = q.1 /\ RelV p.2 q.2
noncomputable def kV : Key -> V
 | .inl i => .int i
 | .inr x => .str x
inductive HO where
 /-- a list -/
 | lst (xs : List V)
 /-- a tuple (never changes) -/
 | tup (xs : List V)
 /-- a dict whose keys are ints and texts; one whose keys are tuples of ints and texts (the empty one is both) -/
 | dK (kvs : List (Key × V)) | dT (sh : Sh) (kvs : List (Kx × V)) (kas : List Addr)
 /-- a set of ints: its members, its size -/
 | set (S : Int -> Bool) (n : Nat)
 /-- an instance of the class at C, its dict at dx, its attributes -/
 | ins (C dx : Addr) (fs : List (Str × V))
 /-- the dict of the instance at x -/
 | own (x : Addr)
 /-- the dict of an exception -/
 | xd (fs : List (Str × V))
 /-- a bound method, f of x -/
 | met (f x : Addr)
 /-- a range object lo, lo + 1, .. below hi -/
 | rng (lo hi : Int)
 /-- a thing that is known to the object (the script; a dict while a loop walks it): read, never written while it is so -/
 | frz (o : Obj) (u : HO)
 /-- a code object's table -/
 | tbl (ps : Array Value)
 /-- any other thing, by what is true of its one object (a def of one's own: SetO a S n := HO.ext fun h => ..) -/
 | ext (φ : Heap -> Prop)
noncomputable abbrev Hp := Addr -> Option HO
def TupLike : HO -> Prop
 | .tup _ => True
 | .frz _ (.tup _) => True
 | .frz _ (.own _) => True
 | _ => False
mutual
def KRep (H : Hp) : Kx -> V -> Prop
 | .bl b, v => v = .bl b
 | .int i, v => v = .int i
 | .str x, v => v = .str x
 | .tup ks, v => ∃ a xs, v = .ref a /\ (H a = some (.tup xs) \/ ∃ o, H a = some (.frz o (.tup xs))) /\ KReps H ks xs
def KReps (H : Hp) : List Kx -> List V -> Prop
 | [], vs => vs = []
 | k :: ks, vs => ∃ v r, vs = v :: r /\ KRep H k v /\ KReps H ks r
end
mutual
theorem KRep.keeps {H H' : Hp} (ht : ∀ b u, TupLike u -> H b = some u -> H' b = some u) : ∀ (k : Kx) {v : V}, KRep H k v -> KRep H' k v
 | .bl _, _, x => x
 | .int _, _, x => x
 | .str _, _, x => x
 | .tup ks, _, x => by
  obtain ⟨a, xs, e, q, r⟩ := x
  refine ⟨a, xs, e, ?_, KReps.keeps ht ks r⟩
  rcases q with q | ⟨o, q⟩
  ·exact .inl (ht _ _ True.intro q)
  ·exact .inr ⟨o, ht _ _ True.intro q⟩
theorem KReps.keeps {H H' : Hp} (ht : ∀ b u, TupLike u -> H b = some u -> H' b = some u) : ∀ (ks : List Kx) {vs : List V}, KReps H ks vs -> KReps H' ks vs
 | [], _, x => x
 | k :: ks, _, x => by
  obtain ⟨v, r, e, h1, h2⟩ := x
  exact ⟨v, r, e, KRep.keeps ht k h1, KReps.keeps ht ks h2⟩
end
noncomputable def upd (H : Hp) (a : Addr) (o : HO) : Hp := fun b => if b = a then some o else H b
theorem upd_same {H : Hp} {a : Addr} {o : HO} : upd H a o a = some o := by unfold upd; rw [if_pos rfl]
theorem upd_ne {H : Hp} {a b : Addr} {o : HO} (h : b ≠ a) : upd H a o b = H b := by unfold upd; rw [if_neg h]
theorem upd_upd {H : Hp} {a : Addr} {o u : HO} : upd (upd H a o) a u = upd H a u := by
 funext b; unfold upd; split <;> rfl
theorem ne_of {H : Hp} {a b : Addr} {o u : HO} (h : H a = some o) (h' : H b = some u) (d : o ≠ u) : a ≠ b := by
 intro e; subst e; rw [h] at h'; exact d (Option.some.inj h')
theorem ne_of_none {H : Hp} {a b : Addr} {o : HO} (h : H a = some o) (h' : H b = none) : a ≠ b := by
 intro e; subst e; rw [h] at h'; cases h'
section
variable (P : Program) (w : World)
def BareT (h : Heap) (a : Addr) : Prop := ∃ o, h.get? a = some o /\ o.dict = none
def ObjOk (H : Hp) (h : Heap) (a : Addr) : HO -> Prop
 | .lst xs => xs.length <= sizeLine /\ ∃ (its : List Value) (n : Nat), Vals xs its /\ h.get? a = some { cls := .type "list", data := .seq its.toArray n }
 | .tup xs => xs.length <= sizeLine /\ ∃ its : List Value, Vals xs its /\ IsTup h a its.toArray /\ BareT h a
 | .dK kvs => kvs.length <= sizeLine /\ (a == sysModules) = false /\ ∃ vs, KV kvs vs /\ h.DictOf (mixKind P w) a vs
 | .dT sh kvs kas => kvs.length <= sizeLine /\ (a == sysModules) = false /\ ∃ xs : List (Kx × Addr × Value),
   Paired (fun (p : Kx × V) (q : Kx × Addr × Value) => p.1 = q.1 /\ (KRep H p.1 (.ref q.2.1) /\ Conf p.1 sh /\ p.1.depth <= 7) /\ RelV p.2 q.2.2) kvs xs /\ xs.map (·.2.1) = kas /\
   ∃ o es ep, h.get? a = some o /\ o.ExactDict /\ o.data = .dict es ep /\ es.toList = xs.map (entryOfKey (treeKind P w sh)) /\ (xs.map (·.1)).Nodup
 | .set S n => h.SetOf (intKind P w) a S n
 | .ins C dx fs => H dx = some (.own a) /\ fs.length <= 1000 /\ dx ≠ a /\ h.get? a = some (PySem.W.instObj C dx) /\
   ∃ mA, h.Ns1 dx mA /\ (∀ f, RelO (fs.lookup f) (mA f)) /\ PySem.Within mA (fs.map (·.1))
 | .own _ => ∃ o, h.get? a = some o
 | .xd fs => ∃ mA, h.Ns1 a mA /\ ∀ f, RelO (fs.lookup f) (mA f)
 | .rng lo hi => ∃ t u v, h.get? a = some { cls := .type "range", data := .fields #[.int lo t, .int hi u, .int 1 v] }
 | .frz o u => h.get? a = some o /\ ObjOk H h a u
 | .tbl ps => (∃ (q : Str) (qs : Array Value), ps[0]? = some (.bool true) /\ ps[1]? = some (.str q 0) /\ h.get? a = some { cls := .none, data := .fields qs } /\ TriplesOk qs.toList /\ ∀ (pos : Pos) (cv : Value), codeAmong pos qs.toList = some cv ->
   ∃ (c : Addr) (oc : Obj) (vs : Array Value) (t : Tok), cv = .ref c /\ H c = some (.frz oc (.own 0)) /\ oc.data = .fields vs /\ vs[1]? = some (.str q t)) \/
   ∃ (q : Str) (c : Addr) (oc ob : Obj) (vs : Array Value) (t : Tok), ps[0]? = some (.bool false) /\ ps[1]? = some (.str q 0) /\ ps[2]? = some (.ref c) /\ H c = some (.frz oc (.own 0)) /\ oc.data = .fields vs /\ vs[1]? = some (.str q t) /\ h.get? a = some ob
 | .met f x => h.get? a = some (PySem.W.methodObj (.ref f) (.ref x))
 | .ext φ => φ h /\ (∃ o, h.get? a = some o) /\ ∀ h1 h2 : Heap, φ h1 -> (∀ o, h1.get? a = some o -> h2.get? a = some o) -> φ h2
def HOk (H : Hp) (h : Heap) : Prop := ∀ a o, H a = some o -> ObjOk P w H h a o
end
section
variable {P : Program} {w : World} {H H' : Hp} {h h' : Heap} {a : Addr} {o : HO}
theorem ObjOk.lt (x : ObjOk P w H h a o) : a < h.objs.size := by
 cases o with
 | lst xs => obtain ⟨_, _, _, _, e⟩ := x; exact Heap.lt_size e
 | tup xs => obtain ⟨_, _, _, p, _⟩ := x; exact p.lt
 | dK kvs => obtain ⟨_, _, _, _, o, _, _, e, _⟩ := x; exact Heap.lt_size e
 | dT sh kvs kas => obtain ⟨_, _, _, _, _, o, _, _, e, _⟩ := x; exact Heap.lt_size e
 | set S n => obtain ⟨o, _, _, _, e, _⟩ := x; exact Heap.lt_size e
 | ins C dx fs => obtain ⟨_, _, _, e, _⟩ := x; exact Heap.lt_size e
 | own y => obtain ⟨_, e⟩ := x; exact Heap.lt_size e
 | xd fs => obtain ⟨_, ⟨_, _, _, e, _⟩, _⟩ := x; exact Heap.lt_size e
 | rng lo hi => obtain ⟨_, _, _, e⟩ := x; exact Heap.lt_size e
 | frz ob u => obtain ⟨e, _⟩ := x; exact Heap.lt_size e
 | tbl ps => rcases x with ⟨_, _, _, _, e, _⟩ | ⟨_, _, _, _, _, _, _, _, _, _, _, _, e⟩ <;> exact Heap.lt_size e
 | met f y => exact Heap.lt_size (show h.get? a = some _ from x)
 | ext φ => obtain ⟨_, ⟨_, e⟩, _⟩ := x; exact Heap.lt_size e
theorem Paired.mapP {α β : Type} {F G : α -> β -> Prop} : ∀ {l₁ : List α} {l₂ : List β}, Paired F l₁ l₂ -> (∀ a b, F a b -> G a b) -> Paired G l₁ l₂
 | _, _, .nil, _ => .nil
 | _, _, .cons r t, f => .cons (f _ _ r) (Paired.mapP t f)
theorem ObjOk.stay (x : ObjOk P w H h a o) (k : ∀ b u, (b = a \/ H b = some (.own a)) -> h.get? b = some u -> h'.get? b = some u)
  (ho : ∀ b, H b = some (.own a) -> H' b = some (.own a)) (ht : ∀ b u, TupLike u -> H b = some u -> H' b = some u) : ObjOk P w H' h' a o := by
 induction o with
 | lst xs => obtain ⟨z, its, n, r, e⟩ := x; exact ⟨z, its, n, r, k _ _ (.inl rfl) e⟩
 | tup xs => obtain ⟨z, its, r, ⟨ob, e, c⟩, ⟨o2, e2, c2⟩⟩ := x; exact ⟨z, its, r, ⟨ob, k _ _ (.inl rfl) e, c⟩, ⟨o2, k _ _ (.inl rfl) e2, c2⟩⟩
 | dK kvs => obtain ⟨z, y, vs, r, ob, es, ep, e, c⟩ := x; exact ⟨z, y, vs, r, ob, es, ep, k _ _ (.inl rfl) e, c⟩
 | dT sh kvs kas =>
  obtain ⟨z, y, xs, r, ka, ob, es, ep, e, c⟩ := x
  exact ⟨z, y, xs, Paired.mapP r fun p q z => ⟨z.1, ⟨KRep.keeps ht _ z.2.1.1, z.2.1.2⟩, z.2.2⟩, ka, ob, es, ep, k _ _ (.inl rfl) e, c⟩
 | set S n => obtain ⟨ob, es, ep, t, e, c⟩ := x; exact ⟨ob, es, ep, t, k _ _ (.inl rfl) e, c⟩
 | ins C dx fs =>
  obtain ⟨d, z, ne, e, mA, ⟨od, es, ep, e2, c⟩, r⟩ := x
  exact ⟨ho _ d, z, ne, k _ _ (.inl rfl) e, mA, ⟨od, es, ep, k _ _ (.inr d) e2, c⟩, r⟩
 | own y => obtain ⟨ob, e⟩ := x; exact ⟨ob, k _ _ (.inl rfl) e⟩
 | xd fs => obtain ⟨mA, ⟨od, es, ep, e, c⟩, r⟩ := x; exact ⟨mA, ⟨od, es, ep, k _ _ (.inl rfl) e, c⟩, r⟩
 | rng lo hi => obtain ⟨t, u, v, e⟩ := x; exact ⟨t, u, v, k _ _ (.inl rfl) e⟩
 | frz ob u ih => obtain ⟨e, q⟩ := x; exact ⟨k _ _ (.inl rfl) e, ih q⟩
 | tbl ps =>
  rcases x with ⟨q, qs, p0, p1, e, tr, cd⟩ | ⟨q, c, oc, ob, vs, t, p0, p1, p2, h3, h4, h5, e⟩
  ·refine .inl ⟨q, qs, p0, p1, k _ _ (.inl rfl) e, tr, fun pos cv z => ?_⟩
   obtain ⟨c, oc, vs, t, h1, h3, h4, h5⟩ := cd pos cv z
   exact ⟨c, oc, vs, t, h1, ht _ _ True.intro h3, h4, h5⟩
  ·exact .inr ⟨q, c, oc, ob, vs, t, p0, p1, p2, ht _ _ True.intro h3, h4, h5, k _ _ (.inl rfl) e⟩
 | met f y =>
  have e : h.get? a = some (PySem.W.methodObj (.ref f) (.ref y)) := x
  show h'.get? a = some (PySem.W.methodObj (.ref f) (.ref y))
  exact k a _ (.inl rfl) e
 | ext φ => obtain ⟨p, ⟨o, e⟩, st⟩ := x; exact ⟨st _ _ p fun o q => k _ _ (.inl rfl) q, ⟨o, k _ _ (.inl rfl) e⟩, st⟩
theorem HOk.lt (x : HOk P w H h) (e : H a = some o) : a < h.objs.size := (x a o e).lt
theorem HOk.fresh (x : HOk P w H h) (e : h.objs.size <= a) : H a = none := by
 cases q : H a with
 | none => rfl
 | some u => exact absurd (Nat.lt_of_lt_of_le (x.lt q) e) (Nat.lt_irrefl _)
theorem HOk.kept (x : HOk P w H h) (k : ∀ b u, h.get? b = some u -> h'.get? b = some u) : HOk P w H h' := fun a o e =>
 (x a o e).stay (fun b u _ q => k b u q) (fun _ q => q) fun _ _ _ q => q
theorem HOk.laid (x : HOk P w H h) (k : ∀ b u, h.get? b = some u -> h'.get? b = some u) (hp : h.objs.size <= a) (new : ObjOk P w (upd H a o) h' a o) : HOk P w (upd H a o) h' := fun b u e => by
 have hn := x.fresh hp
 by_cases hb : b = a
 ·subst hb; rw [upd_same] at e; cases e; exact new
 ·rw [upd_ne hb] at e
  exact (x b u e).stay (fun c v _ q => k c v q) (fun c q => by rw [upd_ne (ne_of_none q hn)]; exact q) fun c xs _ q => by rw [upd_ne (ne_of_none q hn)]; exact q
end
def Rd (H : Hp) (a : Addr) (u : HO) : Prop := H a = some u \/ ∃ o, H a = some (.frz o u)
theorem Rd.ok {P : Program} {w : World} {H : Hp} {h : Heap} {a : Addr} {u : HO} (r : Rd H a u) (x : HOk P w H h) : ObjOk P w H h a u := by
 rcases r with r | ⟨o, r⟩
 ·exact x a u r
 ·obtain ⟨_, q⟩ := x a _ r
  exact q
def Mut : Option HO -> Prop
 | some (.lst _) => True
 | some (.dK _) => True
 | some (.dT _ _ _) => True
 | some (.set _ _) => True
 | some (.ins _ _ _) => True
 | some (.ext _) => True
 | _ => False
section
variable {P : Program} {w : World} {H : Hp} {h h' : Heap} {x e : Addr} {o' : HO}
theorem HOk.write (ok : HOk P w H h) (mu : Mut (H x)) (he : e = x \/ H e = some (.own x)) (k : ∀ b u, b ≠ e -> h.get? b = some u -> h'.get? b = some u) (heo : ∃ u, h'.get? e = some u)
  (new : ObjOk P w (upd H x o') h' x o') : HOk P w (upd H x o') h' := fun b u q => by
 have nown : ∀ c y, H c = some (.own y) -> c ≠ x := fun c y r z => by subst z; rw [r] at mu; exact mu
 have ntup : ∀ c u, TupLike u -> H c = some u -> c ≠ x := fun c u t r z => by
  subst z; rw [r] at mu
  cases u <;> first | exact mu | exact t
 by_cases hb : b = x
 ·subst hb; rw [upd_same] at q; cases q; exact new
 ·rw [upd_ne hb] at q
  by_cases hbe : b = e
  ·have q' : H b = some (.own x) := by
    rcases he with z | z
    ·exact absurd (hbe.trans z) hb
    ·rw [hbe]; exact z
   rw [q] at q'; cases q'
   obtain ⟨v, hv⟩ := heo
   exact ⟨v, by rw [hbe]; exact hv⟩
  ·refine (ok b u q).stay (fun c v hc r => k c v ?_ r) (fun c r => by rw [upd_ne (nown c b r)]; exact r) fun c xs t r => by rw [upd_ne (ntup c xs t r)]; exact r
   rcases hc with rfl | hc
   ·exact hbe
   ·rintro rfl
    rcases he with z | z
    ·exact nown c b hc z
    ·rw [hc] at z; cases z; exact hb rfl
end
structure Un (fs ex : List Addr) (H H' : Hp) (h h' : Heap) : Prop where
 keep : ∀ b o, h.get? b = some o -> H b = none -> b ∉ fs -> b ∉ ex -> h'.get? b = some o
 slot : ∀ b o, h.get? b = some o -> H b = none -> b ∈ fs -> b ∉ ex -> ∃ sl, h'.get? b = some { o with slots := sl }
 free : ∀ b o, h.get? b = some o -> H b = none -> b ∉ ex -> H' b = none
 there : ∀ b o, h.get? b = some o -> b ∉ ex -> ∃ o', h'.get? b = some o'
 tups : ∀ b xs, H b = some (.tup xs) -> H' b = some (.tup xs)
 frzs : ∀ b o u, H b = some (.frz o u) -> H' b = some (.frz o u)
 tbls : ∀ b ps, H b = some (.tbl ps) -> ∃ more, H' b = some (.tbl (ps ++ more))
section
variable {fs fs' ex ex' : List Addr} {H H1 H2 : Hp} {h h1 h2 h' : Heap} {a x e : Addr} {o : HO}
theorem Un.any (u : Un fs ex H H1 h h1) {b : Addr} {ob : Obj} (q : h.get? b = some ob) (n : H b = none) (hx : b ∉ ex) : ∃ sl, h1.get? b = some { ob with slots := sl } := by
 by_cases hb : b ∈ fs
 ·exact u.slot b ob q n hb hx
 ·exact ⟨ob.slots, u.keep b ob q n hb hx⟩
theorem Un.kept (k : ∀ b u, h.get? b = some u -> h'.get? b = some u) : Un fs ex H H h h' :=
 ⟨fun b ob q _ _ _ => k b ob q, fun b ob q _ _ _ => ⟨ob.slots, k b ob q⟩, fun _ _ _ n _ => n, fun b ob q _ => ⟨ob, k b ob q⟩, fun _ _ q => q, fun _ _ _ q => q, fun _ ps q => ⟨#[], by rw [q]; simp⟩⟩
theorem Un.refl : Un fs ex H H h h := Un.kept fun _ _ q => q
theorem Un.laid (k : ∀ b u, h.get? b = some u -> h'.get? b = some u) (hp : h.objs.size <= a) (hn : H a = none) : Un fs ex H (upd H a o) h h' where
 keep := fun b u q _ _ _ => k b u q
 slot := fun b u q _ _ _ => ⟨u.slots, k b u q⟩
 free := fun b u q n _ => by rw [upd_ne (Nat.ne_of_lt (Nat.lt_of_lt_of_le (Heap.lt_size q) hp))]; exact n
 there := fun b u q _ => ⟨u, k b u q⟩
 tups := fun b xs q => by rw [upd_ne (ne_of_none q hn)]; exact q
 frzs := fun b u xs q => by rw [upd_ne (ne_of_none q hn)]; exact q
 tbls := fun b ps q => ⟨#[], by rw [upd_ne (ne_of_none q hn), q]; simp⟩
theorem Un.write (mu : Mut (H x)) (he : e = x \/ H e = some (.own x)) (k : ∀ b u, b ≠ e -> h.get? b = some u -> h'.get? b = some u) (heo : ∃ u, h'.get? e = some u) : Un fs ex H (upd H x o) h h' := by
 have hx : ∀ b, H b = none -> b ≠ x := fun b n z => by subst z; rw [n] at mu; exact mu
 have hb : ∀ b, H b = none -> b ≠ e := fun b n z => by
  subst z
  rcases he with r | r
  ·exact hx b n r
  ·rw [n] at r; cases r
 have hm : ∀ b u, H b = some u -> ¬ Mut (some u) -> b ≠ x := fun b u q nm z => by subst z; rw [q] at mu; exact nm mu
 refine ⟨fun b u q n _ _ => k b u (hb b n) q, fun b u q n _ _ => ⟨u.slots, k b u (hb b n) q⟩, fun b u q n _ => by rw [upd_ne (hx b n)]; exact n, fun b u q _ => ?_,
  fun b xs q => by rw [upd_ne (hm b _ q fun z => z)]; exact q, fun b u xs q => by rw [upd_ne (hm b _ q fun z => z)]; exact q, fun b ps q => ⟨#[], by rw [upd_ne (hm b _ q fun z => z), q]; simp⟩⟩
 by_cases hbe : b = e
 ·subst hbe; exact heo
 ·exact ⟨u, k b u hbe q⟩
end
noncomputable def trk (h : Heap) (H : Hp) : List Addr := (List.range h.objs.size).filter fun a => (H a).isSome
noncomputable def hidT (h : Heap) (H : Hp) : Heap := PySem.W.hideAll h (trk h H)
theorem hidT_size (h : Heap) (H : Hp) : (hidT h H).objs.size = h.objs.size := PySem.W.hideAll_size _ _
theorem hidT_get {h : Heap} {H : Hp} {b : Addr} {o : Obj} (e : h.get? b = some o) (n : H b = none) : (hidT h H).get? b = some o :=
 PySem.W.hideAll_get _ e fun hm => by
  have q : (H b).isSome = true := (List.mem_filter.mp hm).2
  rw [n] at q; simp at q
theorem of_hidT {h : Heap} {H : Hp} {b : Addr} {o : Obj} (e : (hidT h H).get? b = some o) : h.get? b = some o /\ H b = none := by
 have e' : h.get? b = some o := PySem.W.of_hideAll (trk h H) e
 refine ⟨e', ?_⟩
 cases q : H b with
 | none => rfl
 | some x =>
  have hm : b ∈ trk h H := List.mem_filter.mpr ⟨List.mem_range.mpr (Heap.lt_size e'), by simp [q]⟩
  have z : (hidT h H).get? b = none := PySem.W.hideAll_none (trk h H) hm
  rw [z] at e; cases e
noncomputable def allNews (g h : Heap) (L : Addr) : List (Addr × Obj) := (List.range h.objs.size).filterMap fun a => if a = L \/ (g.get? a).isSome = true then none else (h.get? a).map fun o => (a, o)
noncomputable def rest (g h : Heap) (L d : Addr) : List (Addr × Obj) := (allNews g h L).filter fun p => decide (p.1 ≠ d)
end L2
namespace L2
open PySem PySem.Spec PyProof.Rows
structure Mod (K : PySem.W.Frag) (mg : Str -> Option Value) (base : Heap) : Prop where
 kin : K.In base
 glob : base.Ns mainGlobals mg
 blt : ∃ mb, base.Ns builtinsNs mb /\ ∀ x : Str, x ≠ "__name__" -> mb x = bootBuiltins x
 nolimit : base.NoLimit
structure Cx where
 prog : Program
 w : World
 K : PySem.W.Frag
 mg : Str -> Option Value
 base : Heap
 A : Around
 N : List Str
 s₀ : Shared
 H₀ : Hp
 env : Env
 outer : List Env
 stack : List Env
 ex : List Addr
 fn : Str -> Bool
 calm : Bool
 pn : List (Addr × Obj)
 xe : Value -> Shared -> Prop
noncomputable def frs (l : List Env) : List Addr := l.filterMap (·.frame)
noncomputable abbrev Cx.fs (X : Cx) : List Addr := frs X.outer
def Vis (sc : Scope) (x : Str) : Prop := sc.names.lookup x = some .local \/ sc.names.lookup x = some .cell \/ sc.names.lookup x = some .free
def Loc (sc : Scope) (x : Str) : Prop := sc.names.lookup x = some .local \/ sc.names.lookup x = some .cell
def Look (env : Env) (h : Heap) (m : Str -> Option Value) (x : Str) (u : Value) : Prop :=
 (env.kindOf x = some .local /\ m x = some u) \/ ((env.kindOf x = some .cell \/ env.kindOf x = some .free) /\ ∃ c, env.cells.lookup x = some c /\ h.IsCell c (some u))
noncomputable abbrev markO (P : Addr) (q : Str) : Obj := { cls := .str q 0, data := .fields #[.ref P] }
def TabOk (K : PySem.W.Frag) (H : Hp) : Prop := ∀ (a : Addr) (q : Str) (P : Addr), (a, markO P q) ∈ K -> ∃ ps : Array Value, H P = some (.tbl ps) /\ ps[0]? = some (.bool true) /\ ps[1]? = some (.str q 0)
noncomputable def noMark (K : PySem.W.Frag) : Bool := K.all fun p => match p.2.cls with
 | .str _ _ => false
 | _ => true
theorem TabOk.vac {K : PySem.W.Frag} {H : Hp} (h : noMark K = true) : TabOk K H := fun a q P m => by
 have := List.all_eq_true.mp h _ m
 cases this
theorem TabOk.un {K : PySem.W.Frag} {fs ex : List Addr} {H H' : Hp} {h h' : Heap} (t : TabOk K H) (u : Un fs ex H H' h h') : TabOk K H' := fun a q P m => by
 obtain ⟨ps, e, p0, p1⟩ := t a q P m
 obtain ⟨more, e'⟩ := u.tbls P ps e
 refine ⟨_, e', ?_, ?_⟩
 ·rw [Array.getElem?_append_left (by obtain ⟨z, _⟩ := Array.getElem?_eq_some_iff.mp p0; exact z)]; exact p0
 ·rw [Array.getElem?_append_left (by obtain ⟨z, _⟩ := Array.getElem?_eq_some_iff.mp p1; exact z)]; exact p1
theorem TabOk.laid {K : PySem.W.Frag} {H : Hp} {D : Addr} {o : HO} (t : TabOk K H) (hn : H D = none) : TabOk K (upd H D o) := fun a q P m => by
 obtain ⟨ps, e, p⟩ := t a q P m
 exact ⟨ps, by rw [upd_ne (ne_of_none e hn)]; exact e, p⟩
structure Cx.Ok (X : Cx) : Prop where
 mod : Mod X.K X.mg X.base
 kind : X.env.scope.kind = .function
 glob : X.env.globals = mainGlobals
 blt : X.env.builtins = builtinsNs
 above : X.s₀.heap.objs.size <= X.env.locals
 inj : ∀ x y c, X.env.cells.lookup x = some c -> X.env.cells.lookup y = some c -> x = y
 has : ∀ x, (X.env.kindOf x = some .cell \/ X.env.kindOf x = some .free) -> ∃ c, X.env.cells.lookup x = some c
 cab : ∀ x c, X.fn x = true -> X.env.cells.lookup x = some c -> X.s₀.heap.objs.size <= c
 hd : X.calm = true -> X.A.handled = none
 frames : X.A.frames = some X.stack
 stk : X.stack = X.outer \/ (X.stack = X.env :: X.outer /\ X.env.frame = some X.env.locals)
 exf : ∀ b ∈ X.ex, b ≠ X.env.locals /\ ∀ x c, X.env.cells.lookup x = some c -> c ≠ b
 bs : ∀ b o, X.base.get? b = some o -> X.s₀.heap.get? b = some o /\ X.H₀ b = none
 bsz : X.base.objs.size <= X.s₀.heap.objs.size
 noex : ∀ b o, X.base.get? b = some o -> b ∉ X.ex
 exfs : ∀ b ∈ X.ex, b ∉ X.fs
 funs : X.s₀.heap.FunFrames X.base X.outer
 frf : ∀ b ∈ X.fs, X.H₀ b = none
 tab : TabOk X.K X.H₀
structure Inv (X : Cx) (pins : List (Addr × Obj)) (σ : List (Option V)) (H : Hp) (s : Shared) : Prop where
 ok : X.Ok
 os : s.os = X.s₀.os
 bare : AllBare s.gens
 base : Un X.fs X.ex X.H₀ H X.s₀.heap s.heap
 loc : ∃ m, s.heap.Ns X.env.locals m /\ ∀ (i : Nat) (x : Str) (v : V), X.N[i]? = some x -> σ[i]? = some (some v) -> Vis X.env.scope x -> ∃ u, RelV v u /\ Look X.env s.heap m x u
 cell : ∀ x c, X.env.cells.lookup x = some c -> ∃ v, s.heap.IsCell c v
 free : H X.env.locals = none
 freeC : ∀ x c, X.env.cells.lookup x = some c -> H c = none
 pin : ∀ p ∈ X.pn ++ pins, s.heap.get? p.1 = some p.2 /\ H p.1 = none /\ p.1 ≠ X.env.locals /\ p.1 ∉ X.fs /\ ∀ v, p.2.data ≠ .cell v
 hok : HOk X.prog X.w H s.heap
 len : σ.length = X.N.length
section
variable {X : Cx} {pins : List (Addr × Obj)} {σ : List (Option V)} {H H' : Hp} {s : Shared} {h' : Heap}
theorem Cx.Ok.nofr (ok : X.Ok) {b : Addr} {o : Obj} (e : X.base.get? b = some o) : b ∉ X.fs := fun hb => by
 have := (ok.funs.mem hb).1
 rw [e] at this; cases this
theorem Inv.bs (I : Inv X pins σ H s) : ∀ b o, X.base.get? b = some o -> s.heap.get? b = some o /\ H b = none := fun b o e =>
 ⟨I.base.keep b o (I.ok.bs b o e).1 (I.ok.bs b o e).2 (I.ok.nofr e) (I.ok.noex b o e), I.base.free b o (I.ok.bs b o e).1 (I.ok.bs b o e).2 (I.ok.noex b o e)⟩
theorem Inv.bk (I : Inv X pins σ H s) : ∀ b o, X.base.get? b = some o -> s.heap.get? b = some o := fun b o e => (I.bs b o e).1
theorem Inv.mod (I : Inv X pins σ H s) : Mod X.K X.mg X.base := I.ok.mod
theorem Inv.kIn (I : Inv X pins σ H s) : X.K.In s.heap := I.ok.mod.kin.keeps I.bk
theorem Inv.fr (I : Inv X pins σ H s) : ∃ m, Fr X.base X.env.locals s.heap m :=
 let ⟨m, hn, _⟩ := I.loc
 ⟨m, hn, I.bk, Nat.le_trans I.ok.bsz I.ok.above⟩
theorem Inv.lt (I : Inv X pins σ H s) : X.env.locals < s.heap.objs.size := let ⟨_, hn, _⟩ := I.loc; hn.lt
theorem Inv.sz (I : Inv X pins σ H s) : X.s₀.heap.objs.size <= s.heap.objs.size := Nat.le_trans I.ok.above (Nat.le_of_lt I.lt)
theorem Inv.nofs (I : Inv X pins σ H s) {a : Addr} (h : s.heap.objs.size <= a) : a ∉ X.fs := fun hb => by
 obtain ⟨_, o, ho, _⟩ := I.ok.funs.mem hb
 exact absurd (Nat.lt_of_lt_of_le (Heap.lt_size ho) (Nat.le_trans I.sz h)) (Nat.lt_irrefl _)
theorem Inv.cne (I : Inv X pins σ H s) : ∀ x c, X.env.cells.lookup x = some c -> c ≠ X.env.locals := fun x c e z => by
 obtain ⟨v, o, ho, hd⟩ := I.cell x c e
 obtain ⟨m, ⟨o', es, ep, ho', hd', _⟩, _⟩ := I.loc
 rw [z, ho'] at ho; cases ho; rw [hd'] at hd; cases hd
theorem Inv.funs (I : Inv X pins σ H s) : s.heap.FunFrames X.base X.outer := by
 have all : ∀ (l : List Env), (∀ b ∈ frs l, b ∈ X.fs) -> X.s₀.heap.FunFrames X.base l -> s.heap.FunFrames X.base l := by
  intro l
  induction l with
  | nil => intro _ _; trivial
  | cons env r ih =>
   intro hs hl
   obtain ⟨hk, ⟨L, o, hf, hn, ho, hd⟩, hr⟩ := hl
   have hL : L ∈ X.fs := hs L (by unfold frs; rw [List.filterMap_cons, hf]; exact List.mem_cons_self)
   obtain ⟨sl, e⟩ := I.base.slot L o ho (I.ok.frf L hL) hL fun z => I.ok.exfs L z hL
   exact ⟨hk, ⟨L, _, hf, hn, e, hd⟩, ih (fun b hb => hs b (by unfold frs; rw [List.filterMap_cons, hf]; exact List.mem_cons_of_mem _ hb)) hr⟩
 exact all X.outer (fun _ hb => hb) I.ok.funs
theorem Inv.stack (I : Inv X pins σ H s) : s.heap.FunFrames X.base X.stack := by
 rcases I.ok.stk with e | ⟨e, hf⟩
 ·rw [e]; exact I.funs
 ·rw [e]
  obtain ⟨m, hn, _⟩ := I.loc
  refine .cons (by rw [I.ok.kind]; decide) hf hn ?_ I.funs
  exact Heap.get?_none_of_le (Nat.le_trans I.ok.bsz I.ok.above)
theorem Inv.stkSub (I : Inv X pins σ H s) : ∀ b ∈ frs X.stack, b ∈ X.env.locals :: X.fs := fun b hb => by
 rcases I.ok.stk with e | ⟨e, hf⟩
 ·rw [e] at hb; exact List.mem_cons_of_mem _ hb
 ·rw [e] at hb
  unfold frs at hb
  rw [List.filterMap_cons, hf] at hb
  exact hb
theorem Inv.stkFree (I : Inv X pins σ H s) : ∀ b ∈ frs X.stack, H b = none := fun b hb => by
 rcases List.mem_cons.mp (I.stkSub b hb) with e | hb
 ·rw [e]; exact I.free
 ·obtain ⟨_, o, ho, _⟩ := I.ok.funs.mem hb
  exact I.base.free b o ho (I.ok.frf b hb) fun z => I.ok.exfs b z hb
theorem Inv.step {g' : Array GenState} {t' : Nat} {d' : Drawn} {ch : List Addr} (I : Inv X pins σ H s)
  (hch : ∀ b ∈ ch, (b ∈ X.ex \/ X.s₀.heap.objs.size <= b) /\ b ≠ X.env.locals /\ (∀ x c, X.env.cells.lookup x = some c -> c ≠ b) /\ ∀ p ∈ X.pn ++ pins, p.1 ≠ b)
  (keep : ∀ b o, b ≠ X.env.locals -> b ∉ X.fs -> b ∉ ch -> s.heap.get? b = some o -> H b = none -> h'.get? b = some o)
  (slot : ∀ b o, b ≠ X.env.locals -> b ∈ X.fs -> b ∉ ch -> s.heap.get? b = some o -> H b = none -> ∃ sl, h'.get? b = some { o with slots := sl }) (free : ∀ b o, b ∉ ch -> s.heap.get? b = some o -> H b = none -> H' b = none)
  (there : ∀ b o, b ∉ ch -> s.heap.get? b = some o -> ∃ o', h'.get? b = some o')
  (tups : ∀ b xs, H b = some (.tup xs) -> H' b = some (.tup xs)) (frzs : ∀ b o u, H b = some (.frz o u) -> H' b = some (.frz o u)) (tbls : ∀ b ps, H b = some (.tbl ps) -> ∃ more, H' b = some (.tbl (ps ++ more)))
  (ns : ∀ m, s.heap.Ns X.env.locals m -> h'.Ns X.env.locals m) (hok : HOk X.prog X.w H' h') (hg : AllBare g') :
  Inv X pins σ H' { s with heap := h', gens := g', drawn := d', toks := t' } := by
 have neL : ∀ b o, X.s₀.heap.get? b = some o -> b ≠ X.env.locals := fun b o e => Nat.ne_of_lt (Nat.lt_of_lt_of_le (Heap.lt_size e) I.ok.above)
 have neC : ∀ b o, X.s₀.heap.get? b = some o -> b ∉ X.ex -> b ∉ ch := fun b o e hx hb => by
  rcases (hch b hb).1 with z | z
  ·exact hx z
  ·exact absurd (Nat.lt_of_lt_of_le (Heap.lt_size e) z) (Nat.lt_irrefl _)
 have cellK : ∀ x c, X.env.cells.lookup x = some c -> ∀ v, s.heap.IsCell c v -> h'.IsCell c v := fun x c e v ⟨o, ho, hd⟩ => by
  have nch : c ∉ ch := fun z => (hch c z).2.2.1 x c e rfl
  by_cases hc : c ∈ X.fs
  ·obtain ⟨sl, q⟩ := slot c o (I.cne x c e) hc nch ho (I.freeC x c e)
   exact ⟨_, q, hd⟩
  ·exact ⟨o, keep c o (I.cne x c e) hc nch ho (I.freeC x c e), hd⟩
 refine ⟨I.ok, I.os, hg, ⟨fun b o e n hb hx => ?_, fun b o e n hb hx => ?_, fun b o e n hx => ?_, fun b o e hx => ?_, fun b xs e => tups b xs (I.base.tups b xs e), fun b o xs e => frzs b o xs (I.base.frzs b o xs e), fun b ps e => ?_⟩, ?_, fun x c e => ?_, ?_, fun x c e => ?_, fun p hp => ?_, hok, I.len⟩
 ·exact keep b o (neL b o e) hb (neC b o e hx) (I.base.keep b o e n hb hx) (I.base.free b o e n hx)
 ·obtain ⟨sl, e1⟩ := I.base.slot b o e n hb hx
  obtain ⟨sl', e2⟩ := slot b _ (neL b o e) hb (neC b o e hx) e1 (I.base.free b o e n hx)
  exact ⟨sl', e2⟩
 ·obtain ⟨o', e1⟩ := I.base.there b o e hx
  exact free b o' (neC b o e hx) e1 (I.base.free b o e n hx)
 ·obtain ⟨o', e1⟩ := I.base.there b o e hx
  exact there b o' (neC b o e hx) e1
 ·obtain ⟨m1, e1⟩ := I.base.tbls b ps e
  obtain ⟨m2, e2⟩ := tbls b _ e1
  exact ⟨m1 ++ m2, by rw [e2, Array.append_assoc]⟩
 ·obtain ⟨m, hn, hl⟩ := I.loc
  refine ⟨m, ns m hn, fun i x v e1 e2 e3 => ?_⟩
  obtain ⟨u, r, l⟩ := hl i x v e1 e2 e3
  refine ⟨u, r, ?_⟩
  rcases l with l | ⟨k, c, e, z⟩
  ·exact .inl l
  ·exact .inr ⟨k, c, e, cellK x c e _ z⟩
 ·obtain ⟨v, z⟩ := I.cell x c e
  exact ⟨v, cellK x c e v z⟩
 ·obtain ⟨m, ⟨o, _, _, ho, _⟩, _⟩ := I.loc
  exact free _ o (fun z => (hch _ z).2.1 rfl) ho I.free
 ·obtain ⟨v, o, ho, hd⟩ := I.cell x c e
  exact free c o (fun z => (hch c z).2.2.1 x c e rfl) ho (I.freeC x c e)
 ·obtain ⟨e, n, ne, nf, d⟩ := I.pin p hp
  have nch : p.1 ∉ ch := fun z => (hch p.1 z).2.2.2 p hp rfl
  exact ⟨keep p.1 p.2 ne nf nch e n, free p.1 p.2 nch e n, ne, nf, d⟩
theorem Inv.un {t' : Nat} (I : Inv X pins σ H s) (u : Un X.fs [] H H' s.heap h') (hok : HOk X.prog X.w H' h') : Inv X pins σ H' { s with heap := h', toks := t' } := by
 obtain ⟨m, ⟨o, es, ep, ho, r⟩, _⟩ := id I.loc
 obtain ⟨sl, hL⟩ := u.any ho I.free (by simp)
 exact I.step (g' := s.gens) (d' := s.drawn) (ch := []) (fun _ z => nomatch z) (fun b o _ hb _ e n => u.keep b o e n hb (by simp)) (fun b o _ hb _ e n => u.slot b o e n hb (by simp)) (fun b o _ e n => u.free b o e n (by simp)) (fun b o _ e => u.there b o e (by simp)) u.tups u.frzs u.tbls (fun m' hm => by
  obtain ⟨o', es', ep', ho', r'⟩ := hm
  rw [ho] at ho'; cases ho'
  exact ⟨_, es', ep', hL, r'⟩) hok I.bare
theorem Inv.call {g' : Array GenState} {t' : Nat} {d' : Drawn} {ch : List Addr} (I : Inv X pins σ H s) (u : Un (frs X.stack) ch H H' s.heap h') (hok : HOk X.prog X.w H' h') (hg : AllBare g')
  (hch : ∀ b ∈ ch, (b ∈ X.ex \/ X.s₀.heap.objs.size <= b) /\ b ≠ X.env.locals /\ (∀ x c, X.env.cells.lookup x = some c -> c ≠ b) /\ ∀ p ∈ X.pn ++ pins, p.1 ≠ b) :
  Inv X pins σ H' { s with heap := h', gens := g', drawn := d', toks := t' } := by
 obtain ⟨m, ⟨o, es, ep, ho, r⟩, _⟩ := id I.loc
 obtain ⟨sl, hL⟩ := u.any ho I.free fun z => (hch _ z).2.1 rfl
 exact I.step (ch := ch) hch (fun b o hL hb hc e n => u.keep b o e n (fun z => (List.mem_cons.mp (I.stkSub b z)).elim hL hb) hc) (fun b o _ _ hc e n => u.any e n hc) (fun b o hc e n => u.free b o e n hc) (fun b o hc e => u.there b o e hc) u.tups u.frzs u.tbls (fun m' hm => by
  obtain ⟨o', es', ep', ho', r'⟩ := hm
  rw [ho] at ho'; cases ho'
  exact ⟨_, es', ep', hL, r'⟩) hok hg
theorem Inv.turned {t' : Nat} {it : Addr} (I : Inv X pins σ H s) (k : ∀ b o, b ≠ it -> s.heap.get? b = some o -> h'.get? b = some o) (hn : H it = none) (hL : it ≠ X.env.locals)
  (h1 : it ∈ X.ex \/ X.s₀.heap.objs.size <= it) (h2 : ∀ x c, X.env.cells.lookup x = some c -> c ≠ it) (h3 : ∀ p ∈ X.pn ++ pins, p.1 ≠ it) : Inv X pins σ H { s with heap := h', toks := t' } := by
 have nit : ∀ b u, H b = some u -> b ≠ it := fun b u e z => by rw [z, hn] at e; cases e
 refine I.step (g' := s.gens) (d' := s.drawn) (ch := [it]) (fun b hb => ?_) (fun b o _ _ hc e _ => k b o (fun z => hc (by simp [z])) e) (fun b o _ _ hc e _ => ⟨o.slots, k b o (fun z => hc (by simp [z])) e⟩) (fun _ _ _ _ n => n)
  (fun b o hc e => ⟨o, k b o (fun z => hc (by simp [z])) e⟩) (fun _ _ e => e) (fun _ _ _ e => e) (fun b ps e => ⟨#[], by rw [e]; simp⟩) (fun m hm => ?_) (fun b u e => ?_) I.bare
 ·have e : b = it := by simpa using hb
  subst e
  exact ⟨h1, hL, h2, h3⟩
 ·obtain ⟨o, es, ep, ho, r⟩ := hm
  exact ⟨o, es, ep, k _ o (Ne.symm hL) ho, r⟩
 ·refine (I.hok b u e).stay (fun c v hc q => k c v ?_ q) (fun _ q => q) fun _ _ _ q => q
  rcases hc with z | z
  ·rw [z]; exact nit b u e
  ·exact nit c _ z
theorem Inv.tok (I : Inv X pins σ H s) (t : Nat) : Inv X pins σ H { s with toks := t } := I.un (h' := s.heap) (t' := t) Un.refl I.hok
theorem Inv.kept {t' : Nat} (I : Inv X pins σ H s) (k : ∀ b u, s.heap.get? b = some u -> h'.get? b = some u) : Inv X pins σ H { s with heap := h', toks := t' } := I.un (Un.kept k) (I.hok.kept k)
theorem Inv.laid {a : Addr} {o : HO} {t' : Nat} (I : Inv X pins σ H s) (k : ∀ b u, s.heap.get? b = some u -> h'.get? b = some u) (hp : s.heap.objs.size <= a) (new : ObjOk X.prog X.w (upd H a o) h' a o) :
  Inv X pins σ (upd H a o) { s with heap := h', toks := t' } := I.un (Un.laid k hp (I.hok.fresh hp)) (I.hok.laid k hp new)
theorem Inv.write {x e : Addr} {o : HO} {t' : Nat} (I : Inv X pins σ H s) (mu : Mut (H x)) (he : e = x \/ H e = some (.own x)) (k : ∀ b u, b ≠ e -> s.heap.get? b = some u -> h'.get? b = some u) (heo : ∃ u, h'.get? e = some u)
  (new : ObjOk X.prog X.w (upd H x o) h' x o) : Inv X pins σ (upd H x o) { s with heap := h', toks := t' } := I.un (Un.write mu he k heo) (I.hok.write mu he k heo new)
theorem Inv.weak {σ' : List (Option V)} (I : Inv X pins σ H s) (hl : σ'.length = σ.length) (w : ∀ (i : Nat) v, σ'[i]? = some (some v) -> σ[i]? = some (some v)) : Inv X pins σ' H s :=
 ⟨I.ok, I.os, I.bare, I.base, let ⟨m, hn, hl'⟩ := I.loc; ⟨m, hn, fun i x v e1 e2 e3 => hl' i x v e1 (w i v e2) e3⟩, I.cell, I.free, I.freeC, I.pin, I.hok, hl.trans I.len⟩
theorem Inv.pins_of {pins' : List (Addr × Obj)} (I : Inv X pins σ H s) (h : ∀ p ∈ pins', s.heap.get? p.1 = some p.2 /\ H p.1 = none /\ p.1 ≠ X.env.locals /\ p.1 ∉ X.fs /\ ∀ v, p.2.data ≠ .cell v) : Inv X pins' σ H s :=
 ⟨I.ok, I.os, I.bare, I.base, I.loc, I.cell, I.free, I.freeC, fun p hp => (List.mem_append.mp hp).elim (fun z => I.pin p (List.mem_append_left _ z)) (h p), I.hok, I.len⟩
theorem nodup_ix {N : List Str} (hN : N.Nodup) {i j : Nat} {x : Str} (a : N[i]? = some x) (b : N[j]? = some x) : i = j := by
 obtain ⟨h1, e1⟩ := List.getElem?_eq_some_iff.mp a
 obtain ⟨h2, e2⟩ := List.getElem?_eq_some_iff.mp b
 exact (List.getElem_inj hN).mp (e1.trans e2.symm)
theorem store_ok2 {M : Model} {A : Around} {E : Value -> Shared -> Prop} {i : Nat} {x : Str} {v : V} {u : Value} {Q : Unit -> Shared -> Prop} (I : Inv X pins σ H s) (hN : X.N.Nodup) (hi : X.N[i]? = some x) (hx : Loc X.env.scope x) (r : RelV v u)
  (h : ∀ s', Inv X pins (σ.set i (some v)) H s' -> (∃ a, Heap.SameBut a s.heap s'.heap /\ (a = X.env.locals \/ X.env.cells.lookup x = some a)) -> Q () s') (hf : X.fn x = true \/ X.env.scope.names.lookup x = some .local := by walk_at "2") : wpAny M A (storeName X.env x u) Q E s := by
 obtain ⟨m, hn, hl⟩ := id I.loc
 have hcls : (X.env.scope.kind == .class || (X.env.scope.kind == .module && X.env.locals != X.env.globals)) = false := by rw [I.ok.kind]; rfl
 have hiσ : i < σ.length := by rw [I.len]; exact (List.getElem?_eq_some_iff.mp hi).1
 have cne := I.cne
 have tracked : ∀ {a : Addr} {h' : Heap}, (∃ o, s.heap.get? a = some o /\ H a = none) -> Heap.SameBut a s.heap h' -> HOk X.prog X.w H h' := fun {a h'} ha hs b ob e => by
  obtain ⟨_, _, hfree⟩ := ha
  refine (I.hok b ob e).stay (fun c w' hc q => (hs.2 c ?_).trans q) (fun _ q => q) fun _ _ _ q => q
  rintro rfl
  rcases hc with rfl | hc
  ·rw [hfree] at e; cases e
  ·rw [hfree] at hc; cases hc
 rcases hx with hk | hk
 ·refine wpAny_storeName_local hk hn (fun h' hn' hs => ?_) hcls
  obtain ⟨oL, _, _, hoL, _⟩ := id hn
  refine h _ ⟨I.ok, I.os, I.bare, ⟨fun b o e n hb hx => ?_, fun b o e n hb hx => ?_, I.base.free, fun b o e hx => ?_, I.base.tups, I.base.frzs, I.base.tbls⟩, ⟨_, hn', fun j y v' e1 e2 e3 => ?_⟩, fun y c e => ?_, I.free, I.freeC, fun p hp => ?_, tracked ⟨oL, hoL, I.free⟩ hs, by simpa using I.len⟩ ⟨_, hs, .inl rfl⟩
  ·exact (hs.2 b (Nat.ne_of_lt (Nat.lt_of_lt_of_le (Heap.lt_size e) I.ok.above))).trans (I.base.keep b o e n hb hx)
  ·obtain ⟨sl, e1⟩ := I.base.slot b o e n hb hx
   exact ⟨sl, (hs.2 b (Nat.ne_of_lt (Nat.lt_of_lt_of_le (Heap.lt_size e) I.ok.above))).trans e1⟩
  ·obtain ⟨o', e1⟩ := I.base.there b o e hx
   exact ⟨o', (hs.2 b (Nat.ne_of_lt (Nat.lt_of_lt_of_le (Heap.lt_size e) I.ok.above))).trans e1⟩
  ·by_cases hj : j = i
   ·subst hj
    rw [hi] at e1; cases e1
    rw [List.getElem?_set_self hiσ] at e2
    cases e2
    exact ⟨u, r, .inl ⟨hk, by simp⟩⟩
   ·rw [List.getElem?_set_ne (Ne.symm hj)] at e2
    obtain ⟨u', r', q⟩ := hl j y v' e1 e2 e3
    refine ⟨u', r', ?_⟩
    rcases q with ⟨k, e⟩ | ⟨k, c, e, z⟩
    ·refine .inl ⟨k, ?_⟩
     have : y ≠ x := fun e => hj (nodup_ix hN e1 (e ▸ hi))
     simp [this, e]
    ·exact .inr ⟨k, c, e, z.sameBut hs (cne y c e)⟩
  ·obtain ⟨w', z⟩ := I.cell y c e
   exact ⟨w', z.sameBut hs (cne y c e)⟩
  ·obtain ⟨e, n, ne, nf, d⟩ := I.pin p hp
   exact ⟨(hs.2 p.1 ne).trans e, n, ne, nf, d⟩
 ·have hfn : X.fn x = true := by
   rcases hf with z | z
   ·exact z
   ·rw [z] at hk; cases hk
  obtain ⟨c, hc⟩ := I.ok.has x (.inl hk)
  obtain ⟨w', z⟩ := I.cell x c hc
  refine wpAny_storeName_cell I.ok.kind hk hc z (fun h' hc' hs => ?_)
  obtain ⟨oc, hoc, hocd⟩ := id z
  refine h { s with heap := h' } ⟨I.ok, I.os, I.bare, ⟨fun b o e n hb hx => ?_, fun b o e n hb hx => ?_, I.base.free, fun b o e hx => ?_, I.base.tups, I.base.frzs, I.base.tbls⟩, ⟨m, hn.sameBut hs (Ne.symm (cne x c hc)), fun j y v' e1 e2 e3 => ?_⟩, fun y c' e => ?_, I.free, I.freeC, fun p hp => ?_, tracked ⟨oc, hoc, I.freeC x c hc⟩ hs, by simpa using I.len⟩ ⟨c, hs, .inr hc⟩
  ·exact (hs.2 b (Nat.ne_of_lt (Nat.lt_of_lt_of_le (Heap.lt_size e) (I.ok.cab x c hfn hc)))).trans (I.base.keep b o e n hb hx)
  ·obtain ⟨sl, e1⟩ := I.base.slot b o e n hb hx
   exact ⟨sl, (hs.2 b (Nat.ne_of_lt (Nat.lt_of_lt_of_le (Heap.lt_size e) (I.ok.cab x c hfn hc)))).trans e1⟩
  ·obtain ⟨o', e1⟩ := I.base.there b o e hx
   exact ⟨o', (hs.2 b (Nat.ne_of_lt (Nat.lt_of_lt_of_le (Heap.lt_size e) (I.ok.cab x c hfn hc)))).trans e1⟩
  ·by_cases hj : j = i
   ·subst hj
    rw [hi] at e1; cases e1
    rw [List.getElem?_set_self hiσ] at e2
    cases e2
    exact ⟨u, r, .inr ⟨.inl hk, c, hc, hc'⟩⟩
   ·rw [List.getElem?_set_ne (Ne.symm hj)] at e2
    obtain ⟨u', r', q⟩ := hl j y v' e1 e2 e3
    refine ⟨u', r', ?_⟩
    rcases q with q | ⟨k, c', e, z'⟩
    ·exact .inl q
    ·refine .inr ⟨k, c', e, z'.sameBut hs ?_⟩
     rintro rfl
     exact hj (nodup_ix hN e1 (I.ok.inj _ _ _ e hc ▸ hi))
  ·by_cases hcc : c' = c
   ·subst hcc; exact ⟨_, hc'⟩
   ·obtain ⟨w2, z2⟩ := I.cell y c' e
    exact ⟨w2, z2.sameBut hs hcc⟩
  ·obtain ⟨e, n, ne, nf, d⟩ := I.pin p hp
   refine ⟨(hs.2 p.1 ?_).trans e, n, ne, nf, d⟩
   intro q
   rw [q, hoc] at e
   have q' : oc = p.2 := Option.some.inj e
   exact d w' (by rw [<- q']; exact hocd)
theorem store_ok {M : Model} {A : Around} {E : Value -> Shared -> Prop} {i : Nat} {x : Str} {v : V} {u : Value} {Q : Unit -> Shared -> Prop} (I : Inv X pins σ H s) (hN : X.N.Nodup) (hi : X.N[i]? = some x) (hx : Loc X.env.scope x) (r : RelV v u)
  (h : ∀ s', Inv X pins (σ.set i (some v)) H s' -> Q () s') (hf : X.fn x = true \/ X.env.scope.names.lookup x = some .local := by walk_at "2") : wpAny M A (storeName X.env x u) Q E s :=
 store_ok2 I hN hi hx r (fun s' I' _ => h s' I') hf
theorem Inv.call' {s' : Shared} {ch : List Addr} (I : Inv X pins σ H s) (ho : s'.os = s.os) (u : Un (frs X.stack) ch H H' s.heap s'.heap) (hok : HOk X.prog X.w H' s'.heap) (hg : AllBare s'.gens)
  (hch : ∀ b ∈ ch, (b ∈ X.ex \/ X.s₀.heap.objs.size <= b) /\ b ≠ X.env.locals /\ (∀ x c, X.env.cells.lookup x = some c -> c ≠ b) /\ ∀ p ∈ X.pn ++ pins, p.1 ≠ b) : Inv X pins σ H' s' := by
 obtain ⟨h', g', d', t', o'⟩ := s'
 have e : o' = s.os := ho
 subst e
 exact I.call (g' := g') (t' := t') (d' := d') u hok hg hch
end
abbrev XK := Value -> Option Addr -> Hp -> Prop
noncomputable abbrev St := List (Option V)
abbrev VK := V -> Hp -> Prop
abbrev TE := St -> Hp -> VK -> Prop
abbrev TT := St -> Hp -> (Bool -> Hp -> Prop) -> Prop
abbrev TA := St -> Hp -> (List V -> Hp -> Prop) -> Prop
structure Ends where
 nx : St -> Hp -> Prop
 rt : VK
 bk : St -> Hp -> Prop := fun _ _ => False
 ct : St -> Hp -> Prop := fun _ _ => False
abbrev TS := Ends -> St -> Hp -> Prop
def EP (X : Cx) (pins : List (Addr × Obj)) (σ : St) (Q : VK) (u : Value) (s' : Shared) : Prop := ∃ v H', Inv X pins σ H' s' /\ RelV v u /\ Q v H'
def TP (X : Cx) (pins : List (Addr × Obj)) (σ : St) (Q : Bool -> Hp -> Prop) (b : Bool) (s' : Shared) : Prop := ∃ H', Inv X pins σ H' s' /\ Q b H'
def AP (X : Cx) (pins : List (Addr × Obj)) (σ : St) (Q : List V -> Hp -> Prop) (us : List Value) (s' : Shared) : Prop := ∃ vs H', Inv X pins σ H' s' /\ Vals vs us /\ Q vs H'
def SP (X : Cx) (pins : List (Addr × Obj)) (D : Ends) (f : Flow) (s' : Shared) : Prop :=
 match f with
 | .next => ∃ σ' H', Inv X pins σ' H' s' /\ D.nx σ' H'
 | .brk => ∃ σ' H', Inv X pins σ' H' s' /\ D.bk σ' H'
 | .cont => ∃ σ' H', Inv X pins σ' H' s' /\ D.ct σ' H'
 | .ret u => ∃ v σ' H', Inv X pins σ' H' s' /\ RelV v u /\ D.rt v H'
def PE (X : Cx) (e : Expr) (t : TE) : Prop :=
 ∀ (pins : List (Addr × Obj)) (s : Shared) (σ : St) (H : Hp) (Q : VK), Inv X pins σ H s -> t σ H Q -> wpAny (model X.prog X.w) X.A (eval e X.env) (EP X pins σ Q) X.xe s
def PT (X : Cx) (e : Expr) (t : TT) : Prop :=
 ∀ (pins : List (Addr × Obj)) (s : Shared) (σ : St) (H : Hp) (Q : Bool -> Hp -> Prop), Inv X pins σ H s -> t σ H Q -> wpAny (model X.prog X.w) X.A (isTrue e X.env (eval e X.env)) (TP X pins σ Q) X.xe s
def PW (X : Cx) (e : Expr) (t : TT) : Prop :=
 ∀ (whole : Sem Value) (pins : List (Addr × Obj)) (s : Shared) (σ : St) (H : Hp) (Q : Bool -> Hp -> Prop), Inv X pins σ H s -> t σ H Q -> wpAny (model X.prog X.w) X.A (isTrue e X.env whole) (TP X pins σ Q) X.xe s
theorem PW.pt {X : Cx} {e : Expr} {t : TT} (h : PW X e t) : PT X e t := h _
def PA (X : Cx) (es : List Expr) (t : TA) : Prop :=
 ∀ (pos : Pos) (pins : List (Addr × Obj)) (s : Shared) (σ : St) (H : Hp) (Q : List V -> Hp -> Prop), Inv X pins σ H s -> t σ H Q -> wpAny (model X.prog X.w) X.A (spliced (backTo pos (starEach es X.env))) (AP X pins σ Q) X.xe s
def PS (X : Cx) (st : Stmt) (t : TS) : Prop :=
 ∀ (pins : List (Addr × Obj)) (s : Shared) (σ : St) (H : Hp) (D : Ends), Inv X pins σ H s -> t D σ H -> wpAny (model X.prog X.w) X.A (exec st X.env) (SP X pins D) X.xe s
def PSs (X : Cx) (st : List Stmt) (t : TS) : Prop :=
 ∀ (pins : List (Addr × Obj)) (s : Shared) (σ : St) (H : Hp) (D : Ends), Inv X pins σ H s -> t D σ H -> wpAny (model X.prog X.w) X.A (execs st X.env) (SP X pins D) X.xe s
theorem thn {α : Type} {t : Sem α} {Q Q' : α -> Shared -> Prop} {M : Model} {A : Around} {E : Value -> Shared -> Prop} {s : Shared} (h : wpAny M A t Q E s) (hQ : ∀ a s, Q a s -> Q' a s) : wpAny M A t Q' E s := wpAny_mono h hQ fun _ _ x => x
end L2
namespace L2
open PySem PySem.Spec PyProof.Rows
section
variable {X : Cx}
def tVar (i : Nat) : TE := fun σ H Q => ∃ v, σ[i]? = some (some v) /\ Q v H
def tC (v : V) : TE := fun _ H Q => Q v H
theorem pe_var {i : Nat} {x : Str} {pos : Pos} (hN : X.N[i]? = some x) (hv : Vis X.env.scope x) (hd : (x == ("__debug__" : Str)) = false := by decide) (hcd : (x == ("__classdict__" : Str)) = false := by decide) : PE X (.Name x pos) (tVar i) := by
 intro pins s σ H Q I h
 obtain ⟨v, e, h⟩ := h
 obtain ⟨m, hn, hl⟩ := I.loc
 obtain ⟨u, r, l⟩ := hl i x v hN e hv
 have fin : EP X pins σ Q u s := ⟨v, H, I, r, h⟩
 rcases l with ⟨hk, hm⟩ | ⟨hk, c, hc, hcell⟩
 ·exact wpAny_Name (wpAny_loadName_local I.ok.kind hk hn hm fin) hd
 ·rcases hk with hk | hk
  ·exact wpAny_Name (wpAny_loadName_cell I.ok.kind hk hc hcell fin) hd
  ·exact wpAny_Name (wpAny_loadName_free I.ok.kind hk hc hcell fin hcd) hd
theorem pe_int {i j pos} : PE X (.Constant (.int i) j pos) (tC (.int i)) := fun _ _ _ H _ I h => wpAny_Constant_int ⟨.int i, H, I.tok _, ⟨_, rfl⟩, h⟩
theorem pe_bl {b j pos} : PE X (.Constant (.bool b) j pos) (tC (.bl b)) := fun _ _ _ H _ I h => Constant_bool ⟨.bl b, H, I, rfl, h⟩
theorem pe_non {j pos} : PE X (.Constant .none j pos) (tC .non) := fun _ _ _ H _ I h => Constant_none ⟨.non, H, I, rfl, h⟩
theorem pe_str {x j pos} : PE X (.Constant (.str x) j pos) (tC (.str x)) := fun _ _ _ H _ I h => Calls.Constant_str ⟨.str x, H, I.tok _, ⟨_, rfl⟩, h⟩
def Gl (X : Cx) (x : Str) : Prop := X.env.kindOf x = some .globalImplicit
theorem ld_glob {E : Value -> Shared -> Prop} {pins : List (Addr × Obj)} {s : Shared} {σ : St} {H : Hp} {x : Str} {u : Value} {pos : Pos} {Q : Value -> Shared -> Prop} (I : Inv X pins σ H s) (hg : Gl X x) (hm : X.mg x = some u) (h : Q u s)
  (hd : (x == ("__debug__" : Str)) = false := by decide) : wpAny (model X.prog X.w) X.A (eval (.Name x pos) X.env) Q E s :=
 Calls.Name_function_global I.ok.kind hg (Calls.loadGlobal_global (by rw [I.ok.glob]; exact I.mod.glob.keeps I.bk) hm h) hd
theorem ld_blt {E : Value -> Shared -> Prop} {pins : List (Addr × Obj)} {s : Shared} {σ : St} {H : Hp} {x : Str} {u : Value} {pos : Pos} {Q : Value -> Shared -> Prop} (I : Inv X pins σ H s) (hg : Gl X x) (hm : X.mg x = none) (hv : bootBuiltins x = some u) (h : Q u s)
  (hn : x ≠ "__name__" := by decide) (hd : (x == ("__debug__" : Str)) = false := by decide) : wpAny (model X.prog X.w) X.A (eval (.Name x pos) X.env) Q E s := by
 obtain ⟨mb, h1, h2⟩ := I.mod.blt
 exact Calls.Name_function_global I.ok.kind hg (Calls.loadGlobal_builtin (by rw [I.ok.glob]; exact I.mod.glob.keeps I.bk) hm (by rw [I.ok.blt]; exact h1.keeps I.bk) ((h2 x hn).trans hv) h) hd
variable {a b : Expr} {ta tb : TE} {pos : Pos}
def PC (X : Cx) (op : CmpOp) (a b : Expr) (t : TE) : Prop :=
 ∀ (pins : List (Addr × Obj)) (s : Shared) (σ : St) (H : Hp) (Q : VK), Inv X pins σ H s -> t σ H Q ->
  wpAny (model X.prog X.w) X.A (eval a X.env) (fun v s₁ => wpAny (model X.prog X.w) X.A (eval b X.env) (fun u s₂ => wpAny (model X.prog X.w) X.A (compareOp op v u) (EP X pins σ Q) X.xe s₂) X.xe s₁) X.xe s
theorem nobehind (b : Expr) {op : CmpOp} (h : op ≠ .In) (h2 : op ≠ .NotIn) : behindInMarks op b = false := by
 have e1 : (op == CmpOp.In) = false := by cases op <;> first | rfl | exact absurd rfl h
 have e2 : (op == CmpOp.NotIn) = false := by cases op <;> first | rfl | exact absurd rfl h2
 cases b <;> simp [behindInMarks, e1, e2]
def tB (t : TE) : TT := fun σ H Q => t σ H fun x H1 => ∃ c, x = .bl c /\ Q c H1
theorem pt_cmp {op : CmpOp} {t : TE} (h : PC X op a b t) (h1 : behindInMarks op b = false := by first | exact nobehind _ (by decide) (by decide) | rfl) : PT X (.Compare a [op] [b] pos) (tB t) := by
 intro pins s σ H Q I hw
 refine wpAny_isTrue_Compare1 (thn (h pins s σ H _ I hw) fun v s1 h1 => thn h1 fun u s2 h2 => thn h2 fun c s3 ⟨x, H1, I1, r1, q1⟩ => ?_) h1
 obtain ⟨d, rfl, q⟩ := q1
 cases r1
 exact wpAny_truthy_bool ⟨H1, I1, q⟩
variable {tA tB' : TT} {rest : List Expr}
def tOr (t u : TT) : TT := fun σ H Q => t σ H fun c H1 => if c = true then Q true H1 else u σ H1 Q
def tNot (t : TT) : TT := fun σ H Q => t σ H fun c H1 => Q (!c) H1
theorem pw_or1 (ha : PT X a tA) : PW X (.BoolOp .Or [a] pos) tA := by
 intro wh pins s σ H Q I h
 refine isTrue_or (thn (ha pins s σ H Q I h) fun c s1 e => ?_)
 cases c with
 | false => exact isTrue_or_nil e
 | true => exact e
theorem pw_or (ha : PT X a tA) (hb : PW X (.BoolOp .Or (b :: rest) pos) tB') : PW X (.BoolOp .Or (a :: b :: rest) pos) (tOr tA tB') := by
 intro wh pins s σ H Q I h
 refine isTrue_or (thn (ha pins s σ H _ I h) fun c s1 ⟨H1, I1, q1⟩ => ?_)
 cases c with
 | true => exact ⟨H1, I1, q1⟩
 | false => exact hb wh pins s1 σ H1 Q I1 q1
theorem pt_not (ha : PT X a tA) : PT X (.UnaryOp .Not a pos) (tNot tA) := by
 intro pins s σ H Q I h
 exact isTrue_not (ha pins s σ H (fun c H1 => Q (!c) H1) I h)
def tAndV (ta tb : TE) : TE := fun σ H Q => ta σ H fun x H1 => ∃ c, x = .bl c /\ if c = true then tb σ H1 Q else Q (.bl false) H1
theorem pe_one {op} {t : TE} (h : PE X a t) : PE X (.BoolOp op [a] pos) t := fun pins s σ H Q I hw => BoolOp_one (h pins s σ H Q I hw)
theorem pe_and (ha : PE X a ta) (hb : PE X (.BoolOp .And (b :: rest) pos) tb) : PE X (.BoolOp .And (a :: b :: rest) pos) (tAndV ta tb) := by
 intro pins s σ H Q I h
 refine BoolOp_and (thn (ha pins s σ H _ I h) fun v s1 ⟨x, H1, I1, r1, q1⟩ => ?_)
 obtain ⟨c, rfl, q1⟩ := q1
 cases r1
 refine wpAny_truthy_bool ?_
 cases c with
 | true => exact hb pins s1 σ H1 Q I1 q1
 | false => exact ⟨.bl false, H1, I1, rfl, q1⟩
end
end L2
namespace L2
open PySem PySem.Spec PyProof.Rows
def SqL (K : PySem.W.Frag) (H : Hp) (a : Addr) (xs : List V) : Prop :=
 Rd H a (.lst xs) \/
  ∃ (o : Obj) (its : Array Value) (n : Nat), K.lookup a = some o /\ o.cls = .type "list" /\ o.dict = none /\ o.data = .seq its n /\ its.size <= sizeLine /\ Vals xs its.toList
def SqT (K : PySem.W.Frag) (H : Hp) (a : Addr) (xs : List V) : Prop :=
 Rd H a (.tup xs) \/
  ∃ (o : Obj) (its : Array Value) (n : Nat), K.lookup a = some o /\ o.cls = .type "tuple" /\ o.dict = none /\ o.data = .seq its n /\ its.size <= sizeLine /\ Vals xs its.toList
noncomputable def absV : Value -> Option V
 | .none => some .non
 | .bool b => some (.bl b)
 | .int i _ => some (.int i)
 | .str x _ => some (.str x)
 | .bytes b _ => some (.byt b)
 | .float b _ => some (.flt b)
 | .ref a => some (.ref a)
 | .type n => some (.ty n)
 | _ => none
theorem RelV.abs {x : V} {u : Value} (r : RelV x u) : absV u = some x := by
 cases x with
 | non => cases r; rfl
 | bl _ => cases r; rfl
 | int _ => obtain ⟨t, rfl⟩ := r; rfl
 | str _ => obtain ⟨t, rfl⟩ := r; rfl
 | byt _ => obtain ⟨t, rfl⟩ := r; rfl
 | flt _ => obtain ⟨t, rfl⟩ := r; rfl
 | ref _ => cases r; rfl
 | ty _ => cases r; rfl
theorem RelV.inj {x y : V} {u : Value} (r : RelV x u) (q : RelV y u) : x = y := Option.some.inj (r.abs.symm.trans q.abs)
theorem Vals.inj : ∀ {xs ys : List V} {us : List Value}, Vals xs us -> Vals ys us -> xs = ys
 | _, _, _, .nil, .nil => rfl
 | _, _, _, .cons r t, .cons r' t' => by rw [r.inj r', Vals.inj t t']
section
variable {X : Cx} {pins : List (Addr × Obj)} {σ : St} {H : Hp} {s : Shared} {a : Addr} {xs ys : List V}
theorem SqL.of {K : PySem.W.Frag} (h : H a = some (.lst xs)) : SqL K H a xs := .inl (.inl h)
theorem SqT.of {K : PySem.W.Frag} (h : H a = some (.tup xs)) : SqT K H a xs := .inl (.inl h)
theorem Inv.list (I : Inv X pins σ H s) (h : SqL X.K H a xs) : ∃ its : List Value, Vals xs its /\ PlainL s.heap a its.toArray /\ xs.length <= sizeLine := by
 rcases h with h | ⟨o, its, n, hk, hc, hd, hs, hz, r⟩
 ·obtain ⟨z, its, n, r, e⟩ := h.ok I.hok
  exact ⟨its, r, ⟨_, n, e, rfl, rfl, rfl⟩, z⟩
 ·refine ⟨its.toList, r, ⟨o, n, I.kIn a o hk, hc, hd, by simpa using hs⟩, ?_⟩
  have e := r.length
  simp only [Array.length_toList] at e
  omega
theorem Inv.tuple (I : Inv X pins σ H s) (h : SqT X.K H a xs) : ∃ its : List Value, Vals xs its /\ IsTup s.heap a its.toArray /\ xs.length <= sizeLine := by
 rcases h with h | ⟨o, its, n, hk, hc, _, hs, hz, r⟩
 ·obtain ⟨z, its, r, p, _⟩ := h.ok I.hok
  exact ⟨its, r, p, z⟩
 ·refine ⟨its.toList, r, ⟨o, I.kIn a o hk, hc, n, by simpa using hs⟩, ?_⟩
  have e := r.length
  simp only [Array.length_toList] at e
  omega
theorem Inv.list_inj (I : Inv X pins σ H s) (h : SqL X.K H a xs) (h' : SqL X.K H a ys) : xs = ys := by
 obtain ⟨its, r, ⟨o, n, e, _, _, d⟩, _⟩ := I.list h
 obtain ⟨its', r', ⟨o', n', e', _, _, d'⟩, _⟩ := I.list h'
 rw [e] at e'; cases e'
 rw [d] at d'
 injection d' with d1 _
 have : its = its' := by simpa using congrArg Array.toList d1
 subst this
 exact r.inj r'
theorem Inv.tuple_inj (I : Inv X pins σ H s) (h : SqT X.K H a xs) (h' : SqT X.K H a ys) : xs = ys := by
 obtain ⟨its, r, ⟨o, e, _, n, d⟩, _⟩ := I.tuple h
 obtain ⟨its', r', ⟨o', e', _, n', d'⟩, _⟩ := I.tuple h'
 rw [e] at e'; cases e'
 rw [d] at d'
 injection d' with d1 _
 have : its = its' := by simpa using congrArg Array.toList d1
 subst this
 exact r.inj r'
end
section
variable {X : Cx} {pins : List (Addr × Obj)} {σ : St} {H : Hp} {s : Shared} {E : Value -> Shared -> Prop}
end
section
variable {X : Cx} {st : Stmt} {rest : List Stmt} {t u : TS} {e : Expr} {te : TE} {pos : Pos}
def tNext : TS := fun D σ H => D.nx σ H
def tSeq (t u : TS) : TS := fun D σ H => t { D with nx := u D } σ H
theorem pss_nil : PSs X [] tNext := fun _ _ σ H _ I h => wpAny_execs_nil ⟨σ, H, I, h⟩
theorem pss_cons (h1 : PS X st t) (h2 : PSs X rest u) : PSs X (st :: rest) (tSeq t u) := by
 intro pins s σ H D I h
 refine wpAny_execs_cons (thn (h1 pins s σ H { D with nx := u D } I h) fun f s1 q => ?_)
 cases f with
 | next =>
  obtain ⟨σ', H', I', q⟩ := q
  exact h2 pins s1 σ' H' D I' q
 | ret v => exact q
 | brk => exact q
 | cont => exact q
theorem pss_one (h1 : PS X st t) : PSs X [st] t := by
 intro pins s σ H D I h
 refine wpAny_execs_cons (thn (h1 pins s σ H D I h) fun f s1 q => ?_)
 cases f with
 | next => exact wpAny_execs_nil q
 | ret v => exact q
 | brk => exact q
 | cont => exact q
theorem Inv.quiet {pins : List (Addr × Obj)} {σ : St} {H : Hp} {s : Shared} (I : Inv X pins σ H s) : interactive X.env = false := by simp [interactive, I.ok.kind]
def tDrop (te : TE) : TS := fun D σ H => te σ H fun _ H1 => D.nx σ H1
theorem ps_expr (he : PE X e te) (hs : swapsWith e none pos.line X.env = pure false := by rfl) : PS X (.Expr e pos) (tDrop te) := by
 intro pins s σ H D I h
 exact wpAny_Expr_any (thn (he pins s σ H _ I h) fun v s1 ⟨x, H1, I1, r1, q1⟩ => ⟨σ, H1, I1, q1⟩) I.quiet hs
def tRet (te : TE) : TS := fun D σ H => te σ H D.rt
theorem ps_ret (he : PE X e te) : PS X (.Return (some e) pos) (tRet te) := by
 intro pins s σ H D I h
 exact wpAny_Return_some (thn (he pins s σ H _ I h) fun v s1 ⟨x, H1, I1, r1, q1⟩ => ⟨x, σ, H1, I1, r1, q1⟩)
def tIfS (c : TT) (t u : TS) : TS := fun D σ H => c σ H fun b H1 => if b = true then t D σ H1 else u D σ H1
theorem ps_if {c : Expr} {a b : List Stmt} {tc : TT} (hc : PT X c tc) (ha : PSs X a t) (hb : PSs X b u) : PS X (.If c a b pos) (tIfS tc t u) := by
 intro pins s σ H D I h
 refine wpAny_If (thn (hc pins s σ H _ I h) fun d s1 ⟨H1, I1, q1⟩ => ?_)
 cases d with
 | true => exact ha pins s1 σ H1 D I1 q1
 | false => exact hb pins s1 σ H1 D I1 q1
end
abbrev TG := V -> St -> Hp -> (St -> Hp -> Prop) -> Prop
abbrev TGs := List V -> St -> Hp -> (St -> Hp -> Prop) -> Prop
def PG (X : Cx) (target : Expr) (t : TG) : Prop :=
 ∀ (pins : List (Addr × Obj)) (s : Shared) (σ : St) (H : Hp) (v : V) (u : Value) (Q : St -> Hp -> Prop), Inv X pins σ H s -> RelV v u -> t v σ H Q ->
  wpAny (model X.prog X.w) X.A (assign target X.env u) (fun _ s' => ∃ σ' H', Inv X pins σ' H' s' /\ Q σ' H') X.xe s
def PGs (X : Cx) (ts : List Expr) (t : TGs) : Prop :=
 ∀ (pins : List (Addr × Obj)) (s : Shared) (σ : St) (H : Hp) (vs : List V) (us : List Value) (Q : St -> Hp -> Prop), Inv X pins σ H s -> Vals vs us -> t vs σ H Q ->
  wpAny (model X.prog X.w) X.A (assignInOrder ((assignEach ts X.env).map (·.2)) us) (fun _ s' => ∃ σ' H', Inv X pins σ' H' s' /\ Q σ' H') X.xe s
abbrev TSet := V -> V -> V -> Hp -> (Hp -> Prop) -> Prop
def PSet (X : Cx) (t : TSet) : Prop :=
 ∀ (pins : List (Addr × Obj)) (s : Shared) (σ : St) (H : Hp) (o i v : V) (ov iv u : Value) (Q : Hp -> Prop), Inv X pins σ H s -> RelV o ov -> RelV i iv -> RelV v u -> t o i v H Q ->
  wpAny (model X.prog X.w) X.A (setItem ov iv u) (fun _ s' => ∃ H', Inv X pins σ H' s' /\ Q H') X.xe s
section
variable {X : Cx} {pos : Pos}
def gName (i : Nat) : TG := fun v σ H Q => Q (σ.set i (some v)) H
theorem pg_name {i : Nat} {x : Str} (hN : X.N.Nodup) (hi : X.N[i]? = some x) (hx : Loc X.env.scope x) (hf : X.fn x = true \/ X.env.scope.names.lookup x = some .local := by walk_at "2") : PG X (.Name x pos) (gName i) := by
 intro pins s σ H v u Q I r h
 exact wpAny_assign_Name (store_ok I hN hi hx r (fun s' I' => ⟨_, H, I', h⟩) hf)
noncomputable def gNil : TGs := fun vs σ H Q => vs = [] /\ Q σ H
noncomputable def gCons (t : TG) (u : TGs) : TGs := fun vs σ H Q => ∃ v r, vs = v :: r /\ t v σ H fun σ' H' => u r σ' H' Q
theorem pgs_nil : PGs X [] gNil := by
 intro pins s σ H vs us Q I r h
 obtain ⟨e, h⟩ := h
 subst e
 cases r
 exact assignInOrder_nil ⟨σ, H, I, h⟩
theorem pgs_cons {e : Expr} {es : List Expr} {t : TG} {u : TGs} (h1 : PG X e t) (h2 : PGs X es u)
  (hs : (assignEach (e :: es) X.env).map (·.2) = assign e X.env :: (assignEach es X.env).map (·.2) := by rfl) : PGs X (e :: es) (gCons t u) := by
 intro pins s σ H vs us Q I r h
 obtain ⟨v, vr, e1, h⟩ := h
 subst e1
 cases r with
 | cons r rr =>
  rw [hs]
  refine assignInOrder_cons (thn (h1 pins s σ H _ _ _ I r h) fun _ s1 ⟨σ1, H1, I1, q1⟩ => ?_)
  exact h2 pins s1 σ1 H1 _ _ Q I1 rr q1
def gTup (K : PySem.W.Frag) (n : Nat) (t : TGs) : TG := fun v σ H Q => ∃ a xs, v = .ref a /\ SqT K H a xs /\ xs.length = n /\ t xs σ H Q
theorem pg_tup {es : List Expr} {k : Nat} {t : TGs} {n : Nat} (hc : X.calm = true) (h : PGs X es t)
  (hn : (assignEach es X.env).length = n := by rfl) (hst : (assignEach es X.env).findIdx? (·.1) = none := by rfl) : PG X (.Tuple es k pos) (gTup X.K n t) := by
 intro pins s σ H v u Q I r hw
 obtain ⟨a, xs, e1, hq, hl, hw⟩ := hw
 subst e1
 cases r
 obtain ⟨its, rv, ht, hz⟩ := I.tuple hq
 refine assign_Tuple_tuple (I.ok.hd hc) ht (by simp [hn, <- hl, rv.length]) hst fun h' hx => ?_
 have I1 : Inv X pins σ H { s with heap := h' } := I.kept (t' := s.toks) fun b o e => hx b o (Nat.ne_of_lt (Heap.lt_size e)) e
 exact h pins _ σ H xs _ Q I1 (by simpa using rv) hw
def gSub (to ti : TE) (t : TSet) : TG := fun v σ H Q => to σ H fun o H1 => ti σ H1 fun i H2 => t o i v H2 fun H3 => Q σ H3
theorem pg_sub {o i : Expr} {to ti : TE} {t : TSet} (ho : PE X o to) (hi : PE X i ti) (hs : PSet X t)
  (ha : ∀ v, assign (.Subscript o i pos) X.env v = (do
   let ov <- holding [v] (eval o X.env)
   let iv <- holding [v, ov] (eval i X.env)
   standAt pos
   holding [v, ov, iv] (setItem ov iv v)
   release [v, ov, iv] []) := by intro _; rfl) : PG X (.Subscript o i pos) (gSub to ti t) := by
 intro pins s σ H v u Q I r h
 rw [ha]
 refine wpAny_bind (wpAny_holding (thn (ho pins s σ H _ I h) fun ov s1 ⟨x, H1, I1, r1, q1⟩ => ?_))
 refine wpAny_bind (wpAny_holding (thn (hi pins s1 σ H1 _ I1 q1) fun iv s2 ⟨y, H2, I2, r2, q2⟩ => ?_))
 refine wpAny_bind (wpAny_standAt (wpAny_bind (wpAny_holding (thn (hs pins s2 σ H2 x y v ov iv u _ I2 r1 r2 r q2) fun _ s3 ⟨H3, I3, q3⟩ => ?_))))
 exact wpAny_release ⟨σ, H3, I3, q3⟩
def tAsg (te : TE) (g : TG) : TS := fun D σ H => te σ H fun x H1 => g x σ H1 D.nx
theorem ps_asg {tg e : Expr} {te : TE} {g : TG} (he : PE X e te) (hg : PG X tg g) (hs : swapsWithSole [tg] e pos.line X.env = pure false := by rfl) (hw : swappedStores [tg] e X.env = pure none := by rfl)
  (h1 : (assignEach [tg] X.env).map (·.2) = [assign tg X.env] := by rfl) : PS X (.Assign [tg] e pos) (tAsg te g) := by
 intro pins s σ H D I h
 refine wpAny_Assign_stores (thn (he pins s σ H _ I h) fun v s1 ⟨x, H1, I1, r1, q1⟩ => ?_) hs hw
 rw [h1]
 exact thn (hg pins s1 σ H1 x v _ I1 r1 q1) fun _ s2 q => q
theorem ps_set {i : Nat} {x : Str} {e : Expr} {te : TE} {pos' : Pos} (hN : X.N.Nodup) (hi : X.N[i]? = some x) (hx : Loc X.env.scope x) (he : PE X e te) (hs : swapsWith e (some (.Name x pos')) pos.line X.env = pure false := by rfl) (hf : X.fn x = true \/ X.env.scope.names.lookup x = some .local := by walk_at "2") :
  PS X (.Assign [.Name x pos'] e pos) (tAsg te (gName i)) := by
 intro pins s σ H D I h
 refine wpAny_Assign_Name (thn (he pins s σ H _ I h) fun v s1 ⟨y, H1, I1, r1, q1⟩ => ?_) hs
 exact store_ok I1 hN hi hx r1 (fun s2 I2 => ⟨_, H1, I2, q1⟩) hf
end
section
variable {X : Cx} {pos : Pos}
def tWhile (c : TT) (tb : TS) : TS := fun D σ H => ∃ W : Nat -> St -> Hp -> Prop, (∃ m, W m σ H) /\ ∀ m σ H, W m σ H ->
 c σ H fun b H1 => if b = true then ∃ N : St -> Hp -> Prop, (∀ σ' H', N σ' H' -> ∃ m', m' < m /\ W m' σ' H') /\ tb { D with nx := N, ct := N, bk := D.nx } σ H1 else D.nx σ H1
theorem ps_while {c : Expr} {body : List Stmt} {tc : TT} {tb : TS} (hp : PassesOwn (model X.prog X.w) X.A X.env X.xe) (hc : PT X c tc) (hb : PSs X body tb) : PS X (.While c body [] pos) (tWhile tc tb) := by
 intro pins s σ H D I h
 obtain ⟨W, ⟨m0, w0⟩, turn⟩ := h
 refine wpAny_While (codeAny_whileLoop (fun n s' => ∃ σ' H', Inv X pins σ' H' s' /\ W n σ' H') ?_ m0 ⟨σ, H, I, w0⟩)
 rintro n s1 ⟨σ1, H1, I1, w1⟩
 refine wpAny_passesOwn hp (thn (hc pins s1 σ1 H1 _ I1 (turn n σ1 H1 w1)) fun b s2 ⟨H2, I2, q2⟩ => ?_)
 cases b with
 | true =>
  obtain ⟨N, hN, q2⟩ := q2
  rw [if_pos rfl]
  refine wpAny_passesOwn hp (thn (hb pins s2 σ1 H2 _ I2 q2) fun f s3 q3 => ?_)
  cases f with
  | next =>
   obtain ⟨σ3, H3, I3, n3⟩ := q3
   obtain ⟨m', hm, w3⟩ := hN σ3 H3 n3
   exact ⟨m', hm, σ3, H3, I3, w3⟩
  | cont =>
   obtain ⟨σ3, H3, I3, n3⟩ := q3
   obtain ⟨m', hm, w3⟩ := hN σ3 H3 n3
   exact ⟨m', hm, σ3, H3, I3, w3⟩
  | brk => exact q3
  | ret v => exact q3
 | false =>
  rw [if_neg Bool.false_ne_true]
  exact wpAny_execs_nil ⟨σ1, H2, I2, q2⟩
end
structure It where
 go : Nat -> Hp -> Prop
 yld : Nat -> Hp -> V -> Hp -> Prop
 stop : Nat -> Hp -> Prop
def FpOk (X : Cx) (pins : List (Addr × Obj)) (H : Hp) (b : Addr) : Prop :=
 H b = none /\ b ≠ X.env.locals /\ b ∉ X.fs /\ (b ∈ X.ex \/ X.s₀.heap.objs.size <= b) /\ (∀ x c, X.env.cells.lookup x = some c -> c ≠ b) /\ ∀ p ∈ X.pn ++ pins, p.1 ≠ b
theorem Inv.fpOk {X : Cx} {pins : List (Addr × Obj)} {σ : St} {H H' : Hp} {s : Shared} {b : Addr} (I : Inv X pins σ H s) (hb : s.heap.objs.size <= b) (hn : H' b = none) : FpOk X pins H' b := by
 refine ⟨hn, Nat.ne_of_gt (Nat.lt_of_lt_of_le I.lt hb), I.nofs hb, .inr (Nat.le_trans I.sz hb), fun x c e z => ?_, fun p hp z => ?_⟩
 ·obtain ⟨v, q⟩ := I.cell x c e
  exact absurd (Nat.lt_of_lt_of_le q.lt (by rw [z]; exact hb)) (Nat.lt_irrefl _)
 ·exact absurd (Nat.lt_of_lt_of_le (Heap.lt_size (I.pin p hp).1) (by rw [z]; exact hb)) (Nat.lt_irrefl _)
structure Turn (P : Program) (w : World) (K : PySem.W.Frag) (tg : Expr) (J : It) (fp : List Addr) (it : Addr) (tn : Nat -> Heap -> Prop) : Prop where
 mem : it ∈ fp
 obj : ∀ i h, tn i h -> ∀ b ∈ fp, ∃ o, h.get? b = some o /\ ∀ v, o.data ≠ .cell v
 keep : ∀ i h h', tn i h -> (∀ b ∈ fp, ∀ o, h.get? b = some o -> h'.get? b = some o) -> tn i h'
 item : ∀ (X : Cx), X.prog = P -> X.w = w -> X.K = K -> X.calm = true -> ∀ (i : Nat) (pins : List (Addr × Obj)) (s : Shared) (σ : St) (H : Hp) (E : Value -> Shared -> Prop), Inv X pins σ H s -> (∀ b ∈ fp, FpOk X pins H b) -> tn i s.heap -> J.go i H ->
  wpAny (model P w) X.A (pyNext (.ref it)) (fun r s1 => ∃ u, r = some u /\
   wpAny (model P w) X.A (letOwnedTupleGo tg (.ref it) u) (fun _ s2 => ∃ x H', Inv X pins σ H' s2 /\ RelV x u /\ J.yld i H x H' /\ tn (i + 1) s2.heap /\ ∀ b ∈ fp, H' b = none) E s1) E s
 done : ∀ (X : Cx), X.prog = P -> X.w = w -> X.K = K -> X.calm = true -> ∀ (i : Nat) (pins : List (Addr × Obj)) (s : Shared) (σ : St) (H : Hp) (E : Value -> Shared -> Prop), Inv X pins σ H s -> (∀ b ∈ fp, FpOk X pins H b) -> tn i s.heap -> J.stop i H ->
  wpAny (model P w) X.A (pyNext (.ref it)) (fun r s1 => r = none /\ Inv X pins σ H s1) E s
 self : ∀ (A : Around) (i : Nat) (s : Shared) (Q : Value -> Shared -> Prop) (E : Value -> Shared -> Prop), tn i s.heap -> Q (.ref it) s -> wpAny (model P w) A (pyIter (.ref it)) Q E s
abbrev TI := St -> Hp -> (It -> Hp -> Prop) -> Prop
def PIE (X : Cx) (pins : List (Addr × Obj)) (σ : St) (tg : Expr) (R : It -> Hp -> Prop) (itv : Value) (s2 : Shared) : Prop :=
 ∃ (it : Addr) (fp : List Addr) (tn : Nat -> Heap -> Prop) (J : It) (H' : Hp), itv = .ref it /\ Inv X pins σ H' s2 /\ Turn X.prog X.w X.K tg J fp it tn /\ tn 0 s2.heap /\ (∀ b ∈ fp, FpOk X pins H' b) /\ R J H'
def PI (X : Cx) (tg iter : Expr) (wi : TI) : Prop :=
 ∀ (pins : List (Addr × Obj)) (s : Shared) (σ : St) (H : Hp) (R : It -> Hp -> Prop), Inv X pins σ H s -> wi σ H R ->
  wpAny (model X.prog X.w) X.A (eval iter X.env) (fun v s1 => wpAny (model X.prog X.w) X.A (pyIter v) (PIE X pins σ tg R) X.xe s1) X.xe s
theorem go_of {M : Model} {A : Around} {E : Value -> Shared -> Prop} {s : Shared} {tg : Expr} {it : Addr} {u : Value} {o : Obj} {n : String} {vs : Array Value} {Q : Unit -> Shared -> Prop} (ho : s.heap.get? it = some o) (hc : o.cls = .type n) (hd : o.data = .fields vs)
    (hn : ["enumerate", "zip", "dict_itemiterator", "dict_reverseitemiterator", "odict_iterator", "itertools.zip_longest", "itertools.pairwise"].contains n = false) (hQ : Q () s) : wpAny M A (letOwnedTupleGo tg (.ref it) u) Q E s := by
  unfold letOwnedTupleGo
  cases tg <;> first
    | exact wpAny_pure hQ
    | (cases u <;> first
        | exact wpAny_pure hQ
        | (refine wpAny_bind (wpAny_load ho ?_)
           rw [hc, hd]
           show wpAny M A (if (["enumerate", "zip", "dict_itemiterator", "dict_reverseitemiterator", "odict_iterator", "itertools.zip_longest", "itertools.pairwise"].contains n && vs[0]? == some (rawInt _)) = true then _ else _) Q E s
           rw [if_neg (by intro h; rw [hn, Bool.false_and] at h; cases h)]
           exact wpAny_pure hQ))
noncomputable def Itl (K : PySem.W.Frag) (a : Addr) : It :=
 ⟨fun i H => ∃ xs x, SqL K H a xs /\ xs[i]? = some x, fun i H x H' => H' = H /\ ∀ xs, SqL K H a xs -> xs[i]? = some x, fun i H => ∃ xs, SqL K H a xs /\ xs.length <= i⟩
noncomputable def Itt (K : PySem.W.Frag) (a : Addr) : It :=
 ⟨fun i H => ∃ xs x, SqT K H a xs /\ xs[i]? = some x, fun i H x H' => H' = H /\ ∀ xs, SqT K H a xs -> xs[i]? = some x, fun i H => ∃ xs, SqT K H a xs /\ xs.length <= i⟩
noncomputable def Itr (lo : Int) (n : Nat) : It := ⟨fun i _ => i < n, fun i H x H' => H' = H /\ x = .int (lo + i), fun i _ => n <= i⟩
theorem turn_list {P : Program} {w : World} {K : PySem.W.Frag} {tg : Expr} (a it : Addr) : Turn P w K tg (Itl K a) [it] it (fun i h => h.IsListIter it a i) where
 mem := by simp
 obj := fun i h st b hb => by
  have e : b = it := by simpa using hb
  subst e
  obtain ⟨o, e, c, d⟩ := st
  exact ⟨o, e, fun v z => by rw [d] at z; cases z⟩
 keep := fun i h h' st k => st.at fun o e => k it (by simp) o e
 item := by
  intro X hP hw hK hc i pins s σ H E I hf st hg
  subst hP hw hK
  obtain ⟨xs, x, hq, hx⟩ := hg
  obtain ⟨its, rv, p, hz⟩ := I.list hq
  obtain ⟨u, hu, ru⟩ := rv.get hx
  obtain ⟨f0, f1, f2, f3, f4, f5⟩ := hf it (by simp)
  refine wpAny_pyNext_list_item st p.isList (x := u) (by simpa using hu) fun h' st' sb => ?_
  have I1 : Inv X pins σ H { s with heap := h' } := I.turned (t' := s.toks) (fun b o hb e => (sb.2 b hb).trans e) f0 f1 f3 f4 f5
  obtain ⟨o, e, c, d⟩ := id st'
  exact ⟨u, rfl, go_of (s := { s with heap := h' }) e c d (by decide) ⟨x, H, I1, ru, ⟨rfl, fun ys hy => by rw [I.list_inj hy hq]; exact hx⟩, st', fun b hb => (hf b hb).1⟩⟩
 done := by
  intro X hP hw hK hc i pins s σ H E I hf st hg
  subst hP hw hK
  obtain ⟨xs, hq, hx⟩ := hg
  obtain ⟨its, rv, p, hz⟩ := I.list hq
  obtain ⟨f0, f1, f2, f3, f4, f5⟩ := hf it (by simp)
  have hl := rv.length
  exact wpAny_pyNext_list_end (I.ok.hd hc) st p.isList (by simp; omega) fun h' eb => ⟨rfl, I.turned (t' := s.toks) (fun b o hb e => eb b o hb e) f0 f1 f3 f4 f5⟩
 self := fun _ _ _ _ _ st h => wpAny_pyIter_listiter st h
theorem turn_tuple {P : Program} {w : World} {K : PySem.W.Frag} {tg : Expr} (a it : Addr) : Turn P w K tg (Itt K a) [it] it (fun i h => h.IsTupleIter it a i) where
 mem := by simp
 obj := fun i h st b hb => by
  have e : b = it := by simpa using hb
  subst e
  obtain ⟨o, e, c, d⟩ := st
  exact ⟨o, e, fun v z => by rw [d] at z; cases z⟩
 keep := fun i h h' st k => st.at fun o e => k it (by simp) o e
 item := by
  intro X hP hw hK hc i pins s σ H E I hf st hg
  subst hP hw hK
  obtain ⟨xs, x, hq, hx⟩ := hg
  obtain ⟨its, rv, p, hz⟩ := I.tuple hq
  obtain ⟨u, hu, ru⟩ := rv.get hx
  obtain ⟨f0, f1, f2, f3, f4, f5⟩ := hf it (by simp)
  refine wpAny_pyNext_tuple_item st (show s.heap.IsTuple a its.toArray from p) (x := u) (by simpa using hu) fun h' st' sb => ?_
  have I1 : Inv X pins σ H { s with heap := h' } := I.turned (t' := s.toks) (fun b o hb e => (sb.2 b hb).trans e) f0 f1 f3 f4 f5
  obtain ⟨o, e, c, d⟩ := id st'
  exact ⟨u, rfl, go_of (s := { s with heap := h' }) e c d (by decide) ⟨x, H, I1, ru, ⟨rfl, fun ys hy => by rw [I.tuple_inj hy hq]; exact hx⟩, st', fun b hb => (hf b hb).1⟩⟩
 done := by
  intro X hP hw hK hc i pins s σ H E I hf st hg
  subst hP hw hK
  obtain ⟨xs, hq, hx⟩ := hg
  obtain ⟨its, rv, p, hz⟩ := I.tuple hq
  obtain ⟨f0, f1, f2, f3, f4, f5⟩ := hf it (by simp)
  have hl := rv.length
  exact wpAny_pyNext_tuple_end (I.ok.hd hc) st (show s.heap.IsTuple a its.toArray from p) (by simp; omega) fun h' eb => ⟨rfl, I.turned (t' := s.toks) (fun b o hb e => eb b o hb e) f0 f1 f3 f4 f5⟩
 self := fun _ _ _ _ _ st h => wpAny_pyIter_tupleiter st h
theorem turn_range {P : Program} {w : World} {K : PySem.W.Frag} {tg : Expr} (it : Addr) (lo : Int) (n : Nat) : Turn P w K tg (Itr lo n) [it] it (fun i h => IsRangeIter h it (lo + (i : Nat) * 1) ((n : Int) - (i : Nat)) 1) where
 mem := by simp
 obj := fun i h st b hb => by
  have e : b = it := by simpa using hb
  subst e
  exact ⟨_, st, fun v z => by
   have z' : Data.fields _ = Data.cell v := z
   cases z'⟩
 keep := fun i h h' st k => k it (by simp) _ st
 item := by
  intro X hP hw hK hc i pins s σ H E I hf st hg
  subst hP hw hK
  obtain ⟨f0, f1, f2, f3, f4, f5⟩ := hf it (by simp)
  have W := Walks.range (prog := X.prog) (w := X.w) (I.ok.hd hc) it lo 1 n
  refine W.item i s _ _ hg st fun v h' tk hv st' kk => ?_
  obtain ⟨t, rfl⟩ := hv
  have I1 : Inv X pins σ H { s with heap := h', toks := tk } := I.turned (fun b o hb e => kk b o (by simpa using hb) e) f0 f1 f3 f4 f5
  refine ⟨_, rfl, go_of (s := { s with heap := h', toks := tk }) (n := "range_iterator") st' rfl rfl (by decide) ⟨.int (lo + i), H, I1, ⟨t, ?_⟩, ⟨rfl, rfl⟩, st', fun b hb => (hf b hb).1⟩⟩
  rw [Int.mul_one]
 done := by
  intro X hP hw hK hc i pins s σ H E I hf st hg
  subst hP hw hK
  obtain ⟨f0, f1, f2, f3, f4, f5⟩ := hf it (by simp)
  exact wpAny_pyNext_range_end (I.ok.hd hc) st (by have : n <= i := hg; omega) fun h' eb => ⟨rfl, I.turned (t' := s.toks) (fun b o hb e => eb b o hb e) f0 f1 f3 f4 f5⟩
 self := fun _ _ _ _ _ st h => wpAny_pyIter_rangeiter st h
end L2
namespace L2
open PySem PySem.Spec PyProof.Rows
section
variable {X : Cx} {tg : Expr}
theorem range_it {pins : List (Addr × Obj)} {σ : St} {H : Hp} {s : Shared} {R : It -> Hp -> Prop} {E : Value -> Shared -> Prop} {lo hi : Int} {t u v : Tok} {tk : Nat} (I : Inv X pins σ H s) (h1 : -(2 ^ 62) <= lo) (h2 : lo < 2 ^ 62) (h3 : -(2 ^ 62) <= hi) (h4 : hi < 2 ^ 62)
  (q : R (Itr lo (hi - lo).toNat) H) : wpAny (model X.prog X.w) X.A (pyIter (.ref s.heap.objs.size)) (PIE X pins σ tg R) E { s with heap := s.heap.push { cls := .type "range", data := .fields #[.int lo t, .int hi u, .int 1 v] }, toks := tk } := by
 refine wpAny_pyIter_range (IsRange.new ..) (small_one h1 h2 h3 h4) ?_
 have I1 : Inv X pins σ H { s with heap := s.heap.push { cls := .type "range", data := .fields #[.int lo t, .int hi u, .int 1 v] }, toks := tk } := I.kept fun b o e => Heap.get?_push_of_some _ e
 refine ⟨(s.heap.push { cls := .type "range", data := .fields #[.int lo t, .int hi u, .int 1 v] }).objs.size, [(s.heap.push { cls := .type "range", data := .fields #[.int lo t, .int hi u, .int 1 v] }).objs.size], _, _, H, rfl,
  I1.kept (t' := tk) fun b o e => Heap.get?_push_of_some _ e, turn_range _ lo (hi - lo).toNat, ?_, fun b hb => ?_, q⟩
 ·have e1 : lo + ((0 : Nat) : Int) * 1 = lo := by simp
  have e2 : (((hi - lo).toNat : Nat) : Int) - ((0 : Nat) : Int) = Builtin.Range.rangeSize lo hi 1 := by rw [rangeSize_one]; split <;> omega
  show IsRangeIter _ _ (lo + ((0 : Nat) : Int) * 1) ((((hi - lo).toNat : Nat) : Int) - ((0 : Nat) : Int)) 1
  rw [e1, e2]
  exact Heap.get?_push_size _ rfl
 ·have e : b = (s.heap.push { cls := .type "range", data := .fields #[.int lo t, .int hi u, .int 1 v] }).objs.size := by simpa using hb
  subst e
  exact I1.fpOk (Nat.le_refl _) (I1.hok.fresh (Nat.le_refl _))
def iRng1 (ta : TA) : TI := fun σ H R => ta σ H fun vs H1 => ∃ j : Int, vs = [.int j] /\ -(2 ^ 62) <= j /\ j < 2 ^ 62 /\ R (Itr 0 j.toNat) H1
def iRng2 (ta : TA) : TI := fun σ H R => ta σ H fun vs H1 => ∃ i j : Int, vs = [.int i, .int j] /\ (-(2 ^ 62) <= i /\ i < 2 ^ 62 /\ -(2 ^ 62) <= j /\ j < 2 ^ 62) /\ R (Itr i (j - i).toNat) H1
theorem pi_range1 {a : Expr} {ta : TA} {p pos : Pos} (hg : Gl X "range") (hm : X.mg "range" = none) (ha : PA X [a] ta) (hs : starEach [a] X.env = [(false, eval a X.env)] := by rfl) : PI X tg (.Call (.Name "range" p) [a] [] pos) (iRng1 ta) := by
 intro pins s σ H R I h
 refine Call_ (ld_blt I hg hm boot_range (PyProof.Rows.callWith_type1 (thn (ha pos pins s σ H _ I h) fun us s1 ⟨vs, H1, I1, r1, q1⟩ => ?_) hs rfl))
 obtain ⟨j, e, q1, q2, q⟩ := q1
 subst e
 cases r1 with
 | cons r rr =>
  cases rr
  obtain ⟨t, rfl⟩ := r
  exact call_range_1 (range_it I1 (by omega) (by omega) q1 q2 (by simpa using q))
theorem pi_range2 {a b : Expr} {ta : TA} {p pos : Pos} (hg : Gl X "range") (hm : X.mg "range" = none) (ha : PA X [a, b] ta) (hs : starEach [a, b] X.env = [(false, eval a X.env), (false, eval b X.env)] := by rfl) (hs2 : starEach [b] X.env = [(false, eval b X.env)] := by rfl) :
  PI X tg (.Call (.Name "range" p) [a, b] [] pos) (iRng2 ta) := by
 intro pins s σ H R I h
 refine Call_ (ld_blt I hg hm boot_range (PyProof.Rows.callWith_type1 (thn (ha pos pins s σ H _ I h) fun us s1 ⟨vs, H1, I1, r1, q1⟩ => ?_) (by rw [hs, hs2]) (by rw [hs2]; rfl)))
 obtain ⟨i, j, e, ⟨q1, q2, q3, q4⟩, q⟩ := q1
 subst e
 cases r1 with
 | cons r rr =>
  cases rr with
  | cons r' rr =>
   cases rr
   obtain ⟨t, rfl⟩ := r
   obtain ⟨t', rfl⟩ := r'
   exact call_range_2 (range_it I1 q1 q2 q3 q4 q)
def tFor (wi : TI) (g : TG) (tb : TS) : TS := fun D σ H => wi σ H fun J H1 => ∃ W : Nat -> Nat -> St -> Hp -> Prop, (∃ m, W 0 m σ H1) /\ ∀ i m σ H, W i m σ H ->
 (J.stop i H /\ D.nx σ H) \/ (J.go i H /\ ∃ N : St -> Hp -> Prop, (∀ σ' H', N σ' H' -> ∃ m', m' < m /\ W (i + 1) m' σ' H') /\ ∀ x H', J.yld i H x H' -> g x σ H' fun σ2 H2 => tb { D with nx := N, ct := N, bk := D.nx } σ2 H2)
noncomputable def pinsAt (fp : List Addr) (h : Heap) : List (Addr × Obj) := fp.filterMap fun b => (h.get? b).map fun o => (b, o)
theorem mem_pinsAt {fp : List Addr} {h : Heap} {b : Addr} {o : Obj} (hb : b ∈ fp) (e : h.get? b = some o) : (b, o) ∈ pinsAt fp h := List.mem_filterMap.mpr ⟨b, hb, by rw [e]; rfl⟩
theorem of_pinsAt {fp : List Addr} {h : Heap} {p : Addr × Obj} (hp : p ∈ pinsAt fp h) : p.1 ∈ fp /\ h.get? p.1 = some p.2 := by
 obtain ⟨b, hb, e⟩ := List.mem_filterMap.mp hp
 cases q : h.get? b with
 | none => rw [q] at e; cases e
 | some o =>
  rw [q] at e
  have e' : (b, o) = p := Option.some.inj e
  subst e'
  exact ⟨hb, q⟩
theorem Inv.pinned {pins : List (Addr × Obj)} {σ : St} {H : Hp} {s : Shared} {fp : List Addr} (I : Inv X pins σ H s) (hf : ∀ b ∈ fp, FpOk X pins H b) (ho : ∀ b ∈ fp, ∃ o, s.heap.get? b = some o /\ ∀ v, o.data ≠ .cell v) : Inv X (pins ++ pinsAt fp s.heap) σ H s :=
 I.pins_of fun p hp => (List.mem_append.mp hp).elim (fun z => I.pin p (List.mem_append_right _ z)) fun z => by
  obtain ⟨hb, e⟩ := of_pinsAt z
  obtain ⟨f0, f1, f2, _⟩ := hf p.1 hb
  obtain ⟨o, e', d⟩ := ho p.1 hb
  rw [e] at e'; cases e'
  exact ⟨e, f0, f1, f2, d⟩
theorem Inv.unpinned {pins pl : List (Addr × Obj)} {σ : St} {H : Hp} {s : Shared} (I : Inv X (pins ++ pl) σ H s) : Inv X pins σ H s := I.pins_of fun p hp => I.pin p (List.mem_append_right _ (List.mem_append_left _ hp))
theorem ps_for {iter : Expr} {body : List Stmt} {wi : TI} {g : TG} {tb : TS} {pos : Pos} (hp : PassesOwn (model X.prog X.w) X.A X.env X.xe) (hc : X.calm = true) (hi : PI X tg iter wi) (hg : PG X tg g) (hb : PSs X body tb)
  (hs : ∀ x, foldedSetIterable iter X.env x = pure x := by intro _; rfl) : PS X (.For tg iter body [] pos) (tFor wi g tb) := by
 intro pins s σ H D I h
 refine wpAny_For (thn (hi pins s σ H _ I h) fun v s1 h1 => thn h1 fun itv s2 h2 => ?_) hs
 obtain ⟨it, fp, tn, J, H2, e, I2, T, st2, f2, W, ⟨m0, w0⟩, turn⟩ := h2
 subst e
 have stat : ∀ {H' : Hp}, (∀ b ∈ fp, H' b = none) -> ∀ b ∈ fp, FpOk X pins H' b := fun hn b hb => ⟨hn b hb, (f2 b hb).2⟩
 refine codeAny_forLoop_any (fun n s' => ∃ i σ' H', Inv X pins σ' H' s' /\ tn i s'.heap /\ (∀ b ∈ fp, H' b = none) /\ W i n σ' H') ?_ m0 ⟨0, σ, H2, I2, st2, fun b hb => (f2 b hb).1, w0⟩
 rintro n s3 ⟨i, σ3, H3, I3, st3, fr3, w3⟩
 rcases turn i n σ3 H3 w3 with ⟨stop, qn⟩ | ⟨go, N, hN, step⟩
 ·refine wpAny_passesOwn hp (thn (T.done X rfl rfl rfl hc i pins s3 σ3 H3 X.xe I3 (stat fr3) st3 stop) fun r s4 ⟨hr, I4⟩ => ?_)
  subst hr
  exact wpAny_execs_nil ⟨σ3, H3, I4, qn⟩
 ·refine wpAny_passesOwn hp (thn (T.item X rfl rfl rfl hc i pins s3 σ3 H3 X.xe I3 (stat fr3) st3 go) fun r s4 ⟨u, hr, h4⟩ => ?_)
  subst hr
  refine wpAny_passesOwn hp (thn h4 fun _ s5 ⟨x, H5, I5, r5, y5, st5, fr5⟩ => ?_)
  have I5' := I5.pinned (stat fr5) (T.obj _ _ st5)
  refine wpAny_passesOwn hp (thn (hg _ s5 σ3 H5 x u _ I5' r5 (step x H5 y5)) fun _ s6 ⟨σ6, H6, I6, q6⟩ => ?_)
  refine wpAny_passesOwn hp (thn (hb _ s6 σ6 H6 _ I6 q6) fun f s7 q7 => ?_)
  have again : ∀ {σ7 : St} {H7 : Hp}, Inv X (pins ++ pinsAt fp s5.heap) σ7 H7 s7 -> N σ7 H7 -> ∃ m, m < n /\ ∃ i σ' H', Inv X pins σ' H' s7 /\ tn i s7.heap /\ (∀ b ∈ fp, H' b = none) /\ W i m σ' H' := fun {σ7 H7} I7 n7 => by
   obtain ⟨m', hm, w7⟩ := hN σ7 H7 n7
   refine ⟨m', hm, i + 1, σ7, H7, I7.unpinned, T.keep _ _ _ st5 fun b hb o e => (I7.pin (b, o) (List.mem_append_right _ (List.mem_append_right _ (mem_pinsAt hb e)))).1, fun b hb => ?_, w7⟩
   obtain ⟨o, e, d⟩ := T.obj _ _ st5 b hb
   exact (I7.pin (b, o) (List.mem_append_right _ (List.mem_append_right _ (mem_pinsAt hb e)))).2.1
  cases f with
  | next => obtain ⟨σ7, H7, I7, n7⟩ := q7; exact again I7 n7
  | cont => obtain ⟨σ7, H7, I7, n7⟩ := q7; exact again I7 n7
  | brk => obtain ⟨σ7, H7, I7, q7⟩ := q7; exact ⟨σ7, H7, I7.unpinned, q7⟩
  | ret v => obtain ⟨x7, σ7, H7, I7, r7, q7⟩ := q7; exact ⟨x7, σ7, H7, I7.unpinned, r7, q7⟩
end
theorem for_list {K : PySem.W.Frag} {a : Addr} {xs : List V} {g : TG} {tb : TS} {D : Ends} {σ : St} {H : Hp} (Pv : Nat -> St -> Hp -> Prop) (h0 : Pv 0 σ H) (hl : ∀ i σ H, i <= xs.length -> Pv i σ H -> SqL K H a xs)
  (hs : ∀ i x σ H, xs[i]? = some x -> Pv i σ H -> g x σ H fun σ2 H2 => tb { D with nx := Pv (i + 1), ct := Pv (i + 1), bk := D.nx } σ2 H2) (hd : ∀ σ H, Pv xs.length σ H -> D.nx σ H) :
  ∃ W : Nat -> Nat -> St -> Hp -> Prop, (∃ m, W 0 m σ H) /\ ∀ i m σ H, W i m σ H ->
   ((Itl K a).stop i H /\ D.nx σ H) \/ ((Itl K a).go i H /\ ∃ N : St -> Hp -> Prop, (∀ σ' H', N σ' H' -> ∃ m', m' < m /\ W (i + 1) m' σ' H') /\ ∀ x H', (Itl K a).yld i H x H' -> g x σ H' fun σ2 H2 => tb { D with nx := N, ct := N, bk := D.nx } σ2 H2) := by
 refine ⟨fun i m σ H => m = xs.length - i /\ i <= xs.length /\ Pv i σ H, ⟨xs.length, by simp, Nat.zero_le _, h0⟩, ?_⟩
 rintro i m σ H ⟨rfl, hi, p⟩
 have q := hl i σ H hi p
 by_cases hlt : i < xs.length
 ·refine .inr ⟨⟨xs, xs[i], q, by simp [hlt]⟩, Pv (i + 1), fun σ' H' p' => ⟨xs.length - (i + 1), by omega, rfl, hlt, p'⟩, fun x H' y => ?_⟩
  obtain ⟨e, y⟩ := y
  subst e
  exact hs i x σ _ (y xs q) p
 ·have e : i = xs.length := by omega
  subst e
  exact .inl ⟨⟨xs, q, Nat.le_refl _⟩, hd σ H p⟩
theorem for_tup {K : PySem.W.Frag} {a : Addr} {xs : List V} {g : TG} {tb : TS} {D : Ends} {σ : St} {H : Hp} (Pv : Nat -> St -> Hp -> Prop) (h0 : Pv 0 σ H) (hl : ∀ i σ H, i <= xs.length -> Pv i σ H -> SqT K H a xs)
  (hs : ∀ i x σ H, xs[i]? = some x -> Pv i σ H -> g x σ H fun σ2 H2 => tb { D with nx := Pv (i + 1), ct := Pv (i + 1), bk := D.nx } σ2 H2) (hd : ∀ σ H, Pv xs.length σ H -> D.nx σ H) :
  ∃ W : Nat -> Nat -> St -> Hp -> Prop, (∃ m, W 0 m σ H) /\ ∀ i m σ H, W i m σ H ->
   ((Itt K a).stop i H /\ D.nx σ H) \/ ((Itt K a).go i H /\ ∃ N : St -> Hp -> Prop, (∀ σ' H', N σ' H' -> ∃ m', m' < m /\ W (i + 1) m' σ' H') /\ ∀ x H', (Itt K a).yld i H x H' -> g x σ H' fun σ2 H2 => tb { D with nx := N, ct := N, bk := D.nx } σ2 H2) := by
 refine ⟨fun i m σ H => m = xs.length - i /\ i <= xs.length /\ Pv i σ H, ⟨xs.length, by simp, Nat.zero_le _, h0⟩, ?_⟩
 rintro i m σ H ⟨rfl, hi, p⟩
 have q := hl i σ H hi p
 by_cases hlt : i < xs.length
 ·refine .inr ⟨⟨xs, xs[i], q, by simp [hlt]⟩, Pv (i + 1), fun σ' H' p' => ⟨xs.length - (i + 1), by omega, rfl, hlt, p'⟩, fun x H' y => ?_⟩
  obtain ⟨e, y⟩ := y
  subst e
  exact hs i x σ _ (y xs q) p
 ·have e : i = xs.length := by omega
  subst e
  exact .inl ⟨⟨xs, q, Nat.le_refl _⟩, hd σ H p⟩
theorem for_range {lo : Int} {n : Nat} {g : TG} {tb : TS} {D : Ends} {σ : St} {H : Hp} (Pv : Nat -> St -> Hp -> Prop) (h0 : Pv 0 σ H)
  (hs : ∀ i σ H, i < n -> Pv i σ H -> g (.int (lo + i)) σ H fun σ2 H2 => tb { D with nx := Pv (i + 1), ct := Pv (i + 1), bk := D.nx } σ2 H2) (hd : ∀ σ H, Pv n σ H -> D.nx σ H) :
  ∃ W : Nat -> Nat -> St -> Hp -> Prop, (∃ m, W 0 m σ H) /\ ∀ i m σ H, W i m σ H ->
   ((Itr lo n).stop i H /\ D.nx σ H) \/ ((Itr lo n).go i H /\ ∃ N : St -> Hp -> Prop, (∀ σ' H', N σ' H' -> ∃ m', m' < m /\ W (i + 1) m' σ' H') /\ ∀ x H', (Itr lo n).yld i H x H' -> g x σ H' fun σ2 H2 => tb { D with nx := N, ct := N, bk := D.nx } σ2 H2) := by
 refine ⟨fun i m σ H => m = n - i /\ i <= n /\ Pv i σ H, ⟨n, by simp, Nat.zero_le _, h0⟩, ?_⟩
 rintro i m σ H ⟨rfl, hi, p⟩
 by_cases hlt : i < n
 ·refine .inr ⟨hlt, Pv (i + 1), fun σ' H' p' => ⟨n - (i + 1), by omega, rfl, hlt, p'⟩, fun x H' y => ?_⟩
  obtain ⟨e, y⟩ := y
  subst e y
  exact hs i σ _ hlt p
 ·have e : i = n := by omega
  subst e
  exact .inl ⟨Nat.le_refl _, hd σ H p⟩
end L2
namespace L2
open PySem PySem.Spec PyProof.Rows
abbrev R2 := V -> V -> Hp -> VK -> Prop
def OpR (X : Cx) (f : Value -> Value -> Sem Value) (r : R2) : Prop :=
 ∀ (pins : List (Addr × Obj)) (s : Shared) (σ : St) (H : Hp) (x y : V) (v u : Value) (Q : VK), Inv X pins σ H s -> RelV x v -> RelV y u -> r x y H Q ->
  wpAny (model X.prog X.w) X.A (f v u) (EP X pins σ Q) X.xe s
def UnR (X : Cx) (f : Value -> Sem Value) (r : V -> Hp -> VK -> Prop) : Prop :=
 ∀ (pins : List (Addr × Obj)) (s : Shared) (σ : St) (H : Hp) (x : V) (v : Value) (Q : VK), Inv X pins σ H s -> RelV x v -> r x H Q ->
  wpAny (model X.prog X.w) X.A (f v) (EP X pins σ Q) X.xe s
def CallR (X : Cx) (f : Value) (r : List V -> Hp -> VK -> Prop) : Prop :=
 ∀ (pins : List (Addr × Obj)) (s : Shared) (σ : St) (H : Hp) (xs : List V) (us : List Value) (Q : VK), Inv X pins σ H s -> Vals xs us -> r xs H Q ->
  wpAny (model X.prog X.w) X.A (call f us) (EP X pins σ Q) X.xe s
def TruR (X : Cx) (r : V -> Hp -> (Bool -> Hp -> Prop) -> Prop) : Prop :=
 ∀ (pins : List (Addr × Obj)) (s : Shared) (σ : St) (H : Hp) (x : V) (v : Value) (Q : Bool -> Hp -> Prop), Inv X pins σ H s -> RelV x v -> r x H Q ->
  wpAny (model X.prog X.w) X.A (truthy v) (TP X pins σ Q) X.xe s
def tOp (r : R2) (ta tb : TE) : TE := fun σ H Q => ta σ H fun x H1 => tb σ H1 fun y H2 => r x y H2 Q
def tUn (r : V -> Hp -> VK -> Prop) (ta : TE) : TE := fun σ H Q => ta σ H fun x H1 => r x H1 Q
def rI (C : Int -> Int -> Prop) (g : Int -> Int -> V) : R2 := fun x y H Q => ∃ i j, x = .int i /\ y = .int j /\ C i j /\ Q (g i j) H
def rI0 (g : Int -> Int -> V) : R2 := fun x y H Q => ∃ i j, x = .int i /\ y = .int j /\ Q (g i j) H
def rU (g : Int -> V) : V -> Hp -> VK -> Prop := fun x H Q => ∃ i, x = .int i /\ Q (g i) H
section
variable {X : Cx} {a b c : Expr} {ta tb tc : TE} {pos : Pos}
theorem binT (ha : PE X a ta) (hb : PE X b tb) {pins : List (Addr × Obj)} {s : Shared} {σ : St} {H : Hp} {R : V -> V -> Hp -> Prop} (I : Inv X pins σ H s)
  (h : ta σ H fun x H1 => tb σ H1 fun y H2 => R x y H2) {Q : Value -> Shared -> Prop} {f : Value -> Value -> Sem Value}
  (hf : ∀ v u s2 x y H2, Inv X pins σ H2 s2 -> RelV x v -> RelV y u -> R x y H2 -> wpAny (model X.prog X.w) X.A (f v u) Q X.xe s2) :
  wpAny (model X.prog X.w) X.A (eval a X.env) (fun v s₁ => wpAny (model X.prog X.w) X.A (eval b X.env) (fun u s₂ => wpAny (model X.prog X.w) X.A (f v u) Q X.xe s₂) X.xe s₁) X.xe s := by
 refine thn (ha pins s σ H _ I h) fun v s1 ⟨x, H1, I1, r1, q1⟩ => ?_
 refine thn (hb pins s1 σ H1 _ I1 q1) fun u s2 ⟨y, H2, I2, r2, q2⟩ => ?_
 exact hf v u s2 x y H2 I2 r1 r2 q2
theorem pe_op {op : Operator} {r : R2} (ho : OpR X (binaryOp op) r) (ha : PE X a ta) (hb : PE X b tb) : PE X (.BinOp a op b pos) (tOp r ta tb) := by
 intro pins s σ H Q I h
 exact wpAny_BinOp (binT ha hb I h fun v u s2 x y H2 I2 rx ry q => ho pins s2 σ H2 x y v u Q I2 rx ry q)
theorem pe_un {op : UnaryOp} {r : V -> Hp -> VK -> Prop} (ho : UnR X (unaryOp op) r) (ha : PE X a ta) : PE X (.UnaryOp op a pos) (tUn r ta) := by
 intro pins s σ H Q I h
 exact UnaryOp_ (thn (ha pins s σ H _ I h) fun v s1 ⟨x, H1, I1, r1, q1⟩ => ho pins s1 σ H1 x v Q I1 r1 q1)
theorem opI {f : Value -> Value -> Sem Value} {C : Int -> Int -> Prop} {g : Int -> Int -> Int}
  (rule : ∀ (i j : Int) (t u : Tok) (s : Shared) (Q : Value -> Shared -> Prop) (E : Value -> Shared -> Prop), C i j -> Q (.int (g i j) s.toks) { s with toks := s.toks + 1 } -> wpAny (model X.prog X.w) X.A (f (.int i t) (.int j u)) Q E s) :
  OpR X f (rI C fun i j => .int (g i j)) := by
 intro pins s σ H x y v u Q I rx ry h
 obtain ⟨i, j, rfl, rfl, hc, q⟩ := h
 obtain ⟨t, rfl⟩ := rx
 obtain ⟨t', rfl⟩ := ry
 exact rule i j t t' s _ _ hc ⟨.int (g i j), H, I.tok _, ⟨_, rfl⟩, q⟩
theorem opI0 {f : Value -> Value -> Sem Value} {g : Int -> Int -> Int}
  (rule : ∀ (i j : Int) (t u : Tok) (s : Shared) (Q : Value -> Shared -> Prop) (E : Value -> Shared -> Prop), Q (.int (g i j) s.toks) { s with toks := s.toks + 1 } -> wpAny (model X.prog X.w) X.A (f (.int i t) (.int j u)) Q E s) :
  OpR X f (rI0 fun i j => .int (g i j)) := by
 intro pins s σ H x y v u Q I rx ry h
 obtain ⟨i, j, rfl, rfl, q⟩ := h
 obtain ⟨t, rfl⟩ := rx
 obtain ⟨t', rfl⟩ := ry
 exact rule i j t t' s _ _ ⟨.int (g i j), H, I.tok _, ⟨_, rfl⟩, q⟩
theorem opB0 {f : Value -> Value -> Sem Value} {g : Int -> Int -> Bool}
  (rule : ∀ (i j : Int) (t u : Tok) (s : Shared) (Q : Value -> Shared -> Prop) (E : Value -> Shared -> Prop), Q (.bool (g i j)) s -> wpAny (model X.prog X.w) X.A (f (.int i t) (.int j u)) Q E s) :
  OpR X f (rI0 fun i j => .bl (g i j)) := by
 intro pins s σ H x y v u Q I rx ry h
 obtain ⟨i, j, rfl, rfl, q⟩ := h
 obtain ⟨t, rfl⟩ := rx
 obtain ⟨t', rfl⟩ := ry
 exact rule i j t t' s _ _ ⟨.bl (g i j), H, I, rfl, q⟩
def CDiv (i j : Int) : Prop := 0 < j /\ j < 1073741824
def CMul (i j : Int) : Prop := (-(2 ^ 64) < i /\ i < 2 ^ 64) \/ (-(2 ^ 64) < j /\ j < 2 ^ 64)
theorem CMul.ok {i j : Int} (h : CMul i j) : IntMulOk i j := by
 rcases h with ⟨h1, h2⟩ | ⟨h1, h2⟩
 ·exact .of_left (intBits_le_64 h1 h2)
 ·exact .of_right (intBits_le_64 h1 h2)
theorem op_add : OpR X (binaryOp .Add) (rI0 fun i j => .int (i + j)) := opI0 fun _ _ _ _ _ _ _ q => add_int q
theorem op_sub : OpR X (binaryOp .Sub) (rI0 fun i j => .int (i - j)) := opI0 fun _ _ _ _ _ _ _ q => sub_int q
theorem op_mul : OpR X (binaryOp .Mult) (rI CMul fun i j => .int (i * j)) := opI fun _ _ _ _ _ _ _ hc q => mul_int q hc.ok
theorem op_fdiv : OpR X (binaryOp .FloorDiv) (rI CDiv fun i j => .int (i / j)) := opI fun i j _ _ _ _ _ hc q => by
 have h1 : (0 : Int) < j := hc.1
 have h2 : j < 1073741824 := hc.2
 exact floordiv_int (by omega) (by rw [Int.fdiv_eq_ediv_of_nonneg i (by omega)]; exact q) (.inl (PyProof.noPylong_small (by omega)))
theorem op_mod : OpR X (binaryOp .Mod) (rI (fun _ j => 0 < j) fun i j => .int (i % j)) := opI fun i j _ _ _ _ _ hc q => by
 have h1 : (0 : Int) < j := hc
 exact mod_int' (by omega) (by rw [Int.fmod_eq_emod_of_nonneg i (by omega)]; exact q)
theorem unI {f : Value -> Sem Value} {g : Int -> Int}
  (rule : ∀ (i : Int) (t : Tok) (s : Shared) (Q : Value -> Shared -> Prop) (E : Value -> Shared -> Prop), Q (.int (g i) s.toks) { s with toks := s.toks + 1 } -> wpAny (model X.prog X.w) X.A (f (.int i t)) Q E s) :
  UnR X f (rU fun i => .int (g i)) := by
 intro pins s σ H x v Q I rx h
 obtain ⟨i, rfl, q⟩ := h
 obtain ⟨t, rfl⟩ := rx
 exact rule i t s _ _ ⟨.int (g i), H, I.tok _, ⟨_, rfl⟩, q⟩
theorem un_neg : UnR X (unaryOp .USub) (rU fun i => .int (-i)) := unI fun _ _ _ _ _ q => neg_int q
end
section
variable {X : Cx} {a b c : Expr} {ta tb tc : TE} {pos : Pos}
theorem op_lt : OpR X (compareOp .Lt) (rI0 fun i j => .bl (decide (i < j))) := opB0 fun _ _ _ _ _ _ _ q => lt_int q
theorem op_le : OpR X (compareOp .LtE) (rI0 fun i j => .bl (decide (i <= j))) := opB0 fun _ _ _ _ _ _ _ q => le_int q
theorem op_gt : OpR X (compareOp .Gt) (rI0 fun i j => .bl (decide (j < i))) := opB0 fun _ _ _ _ _ _ _ q => gt_int q
theorem OpR.or {f : Value -> Value -> Sem Value} {r r' : R2} (h : OpR X f r) (h' : OpR X f r') : OpR X f (fun x y H Q => r x y H Q \/ r' x y H Q) := by
 intro pins s σ H x y v u Q I rx ry q
 rcases q with q | q
 ·exact h pins s σ H x y v u Q I rx ry q
 ·exact h' pins s σ H x y v u Q I rx ry q
theorem nomark (b : Expr) {op : CmpOp} (h : op ≠ .In := by decide) (h2 : op ≠ .NotIn := by decide) : behindInMarks op b = false := by
 have e1 : (op == CmpOp.In) = false := by cases op <;> first | rfl | exact absurd rfl h
 have e2 : (op == CmpOp.NotIn) = false := by cases op <;> first | rfl | exact absurd rfl h2
 cases b <;> simp [behindInMarks, e1, e2]
theorem pe_cmpR {op : CmpOp} {r : R2} (ho : OpR X (compareOp op) r) (ha : PE X a ta) (hb : PE X b tb) (hm : behindInMarks op b = false) : PE X (.Compare a [op] [b] pos) (tOp r ta tb) := by
 intro pins s σ H Q I h
 exact wpAny_Compare1 (binT ha hb I h fun v u s2 x y H2 I2 rx ry q => ho pins s2 σ H2 x y v u Q I2 rx ry q) hm
def tTest (t : TE) : TT := fun σ H Q => t σ H fun x H' => ∃ k, x = .bl k /\ Q k H'
theorem pt_cmpR {op : CmpOp} {r : R2} (ho : OpR X (compareOp op) r) (ha : PE X a ta) (hb : PE X b tb) (hm : behindInMarks op b = false) : PT X (.Compare a [op] [b] pos) (tTest (tOp r ta tb)) := by
 intro pins s σ H Q I h
 refine wpAny_isTrue_Compare1 (thn (ha pins s σ H _ I h) fun v s1 ⟨x, H1, I1, r1, q1⟩ => thn (hb pins s1 σ H1 _ I1 q1) fun u s2 ⟨y, H2, I2, r2, q2⟩ =>
  thn (ho pins s2 σ H2 x y v u _ I2 r1 r2 q2) fun c s3 ⟨z, H3, I3, r3, k, e, q3⟩ => ?_) hm
 subst e
 cases r3
 exact wpAny_truthy_bool ⟨H3, I3, q3⟩
def TruV (K : PySem.W.Frag) (x : V) (H : Hp) (k : Bool) : Prop :=
 match x with
 | .non => k = false
 | .bl b => k = b
 | .int i => k = (i != 0)
 | .str y => y.length <= sizeLine /\ k = ((y.length : Int) != 0)
 | .byt y => y.size <= sizeLine /\ k = ((y.size : Int) != 0)
 | .ref p => (∃ xs, SqL K H p xs /\ k = !xs.isEmpty) \/ (∃ xs, SqT K H p xs /\ k = !xs.isEmpty) \/ ∃ kvs, H p = some (.dK kvs) /\ k = !kvs.isEmpty
 | _ => False
theorem isEmpty_kv {κ : Type} {kvs : List (κ × V)} {vs : List (κ × Value)} (r : KV kvs vs) : (!vs.isEmpty) = !kvs.isEmpty := by
 cases r <;> rfl
theorem isEmpty_of {xs : List V} {its : List Value} (r : Vals xs its) : (!its.toArray.isEmpty) = !xs.isEmpty := by
 cases r <;> simp
theorem line63 : (sizeLine : Nat) < 2 ^ 63 := by rw [sizeLine_eq]; decide
theorem tru_ok : TruR X (fun x H Q => ∃ k, TruV X.K x H k /\ Q k H) := by
 intro pins s σ H x v Q I rx h
 obtain ⟨k, e, q⟩ := h
 have hl := line63
 have hs : sizeLine = 16777216 := sizeLine_eq
 cases x with
 | non =>
  cases rx
  have e' : k = false := e
  subst e'
  exact truthy_none ⟨H, I, q⟩
 | bl b =>
  cases rx
  have e' : k = b := e
  subst e'
  exact wpAny_truthy_bool ⟨H, I, q⟩
 | int i =>
  obtain ⟨t, rfl⟩ := rx
  have e' : k = (i != 0) := e
  subst e'
  exact PySem.P.truthy_int ⟨H, I, q⟩
 | str y =>
  obtain ⟨t, rfl⟩ := rx
  obtain ⟨hy, e'⟩ : y.length <= sizeLine /\ k = ((y.length : Int) != 0) := e
  subst e'
  exact PySem.P.truthy_str (by omega) ⟨H, I.tok _, q⟩
 | byt y =>
  obtain ⟨t, rfl⟩ := rx
  obtain ⟨hy, e'⟩ : y.size <= sizeLine /\ k = ((y.size : Int) != 0) := e
  subst e'
  exact PySem.W.truthy_bytes (by omega) ⟨H, I.tok _, q⟩
 | ref p =>
  cases rx
  have e' : (∃ xs, SqL X.K H p xs /\ k = !xs.isEmpty) \/ (∃ xs, SqT X.K H p xs /\ k = !xs.isEmpty) \/ ∃ kvs, H p = some (.dK kvs) /\ k = !kvs.isEmpty := e
  rcases e' with ⟨xs, hx, e'⟩ | ⟨xs, hx, e'⟩ | ⟨kvs, hx, e'⟩
  ·subst e'
   obtain ⟨its, r, pl, hz⟩ := I.list hx
   have hlen := r.length
   exact wpAny_truthy_list pl.isList (by simp only [List.size_toArray]; omega) ⟨H, I.tok _, by rw [isEmpty_of r]; exact q⟩
  ·subst e'
   obtain ⟨its, r, pl, hz⟩ := I.tuple hx
   have hlen := r.length
   exact truthy_tuple pl (by simp only [List.size_toArray]; omega) ⟨H, I.tok _, by rw [isEmpty_of r]; exact q⟩
  ·subst e'
   obtain ⟨hz, hS, vs, r, m⟩ : kvs.length <= sizeLine /\ (p == sysModules) = false /\ ∃ vs, KV kvs vs /\ s.heap.DictOf (mixKind X.prog X.w) p vs := I.hok p _ hx
   have hlen : kvs.length = vs.length := Paired.length r
   exact wpAny_truthy_dict hS m (by omega) ⟨H, I.tok _, by rw [isEmpty_kv r]; exact q⟩
 | _ => exact (show False from e).elim
theorem pt_truth (ha : PE X a ta) (he : ∀ whole, isTrue a X.env whole = (do let v <- whole; standAt a.pos; holding [v] (truthy v))) :
  PT X a (fun σ H Q => ta σ H fun x H' => ∃ k, TruV X.K x H' k /\ Q k H') := by
 intro pins s σ H Q I h
 exact isTrue_plain (thn (ha pins s σ H _ I h) fun v s1 ⟨x, H1, I1, r1, q1⟩ => tru_ok pins s1 σ H1 x v Q I1 r1 q1) (he _)
theorem op_add_str : OpR X (binaryOp .Add) (fun x y H Q => ∃ i j, x = .str i /\ y = .str j /\ i.length + j.length <= sizeLine /\ Q (.str (i ++ j)) H) := by
 intro pins s σ H x y v u Q I rx ry h
 obtain ⟨i, j, rfl, rfl, hz, q⟩ := h
 obtain ⟨t, rfl⟩ := rx
 obtain ⟨t', rfl⟩ := ry
 exact add_str (fun t' tk => ⟨.str (i ++ j), H, I.tok _, ⟨_, rfl⟩, q⟩) hz
theorem vals1 {x : V} {us : List Value} (r : Vals [x] us) : ∃ u, us = [u] /\ RelV x u := by
 cases r with
 | cons r1 r2 => cases r2; exact ⟨_, rfl, r1⟩
theorem vals2 {x y : V} {us : List Value} (r : Vals [x, y] us) : ∃ u w', us = [u, w'] /\ RelV x u /\ RelV y w' := by
 cases r with
 | cons r1 r2 =>
  cases r2 with
  | cons r3 r4 => cases r4; exact ⟨_, _, rfl, r1, r3⟩
theorem call_min2 (hc : X.calm = true) : CallR X (.builtin "min") (fun xs H Q => ∃ i j, xs = [.int i, .int j] /\ Q (.int (if j < i then j else i)) H) := by
 intro pins s σ H xs us Q I r h
 obtain ⟨i, j, rfl, q⟩ := h
 obtain ⟨u, w', rfl, ⟨t, rfl⟩, ⟨t', rfl⟩⟩ := vals2 r
 refine min_two_ints (I.ok.hd hc) fun h' tk k => ⟨_, H, I.kept k, ?_, q⟩
 by_cases hj : j < i
 ·rw [if_pos hj, if_pos hj]; exact ⟨_, rfl⟩
 ·rw [if_neg hj, if_neg hj]; exact ⟨_, rfl⟩
theorem call_int1 : CallR X (.type "int") (fun xs H Q => (∃ i, xs = [.int i] /\ Q (.int i) H) \/ ∃ k, xs = [.bl k] /\ Q (.int (if k then 1 else 0)) H) := by
 intro pins s σ H xs us Q I r h
 rcases h with ⟨i, rfl, q⟩ | ⟨k, rfl, q⟩
 ·obtain ⟨u, rfl, t, rfl⟩ := vals1 r
  exact call_int_int ⟨.int i, H, I, ⟨_, rfl⟩, q⟩
 ·obtain ⟨u, rfl, r1⟩ := vals1 r
  cases r1
  exact call_int_bool ⟨.int (if k then 1 else 0), H, I.tok _, ⟨_, rfl⟩, q⟩
def LenV (K : PySem.W.Frag) (x : V) (H : Hp) (n : Nat) : Prop :=
 match x with
 | .str y => y.length <= sizeLine /\ n = y.length
 | .byt y => y.size <= sizeLine /\ n = y.size
 | .ref p => (∃ xs, SqL K H p xs /\ n = xs.length) \/ ∃ xs, SqT K H p xs /\ n = xs.length
 | _ => False
theorem call_len : CallR X (.builtin "len") (fun xs H Q => ∃ x n, xs = [x] /\ LenV X.K x H n /\ Q (.int n) H) := by
 intro pins s σ H xs us Q I r h
 obtain ⟨x, n, rfl, e, q⟩ := h
 obtain ⟨u, rfl, rx⟩ := vals1 r
 have hl := line63
 have hs : sizeLine = 16777216 := sizeLine_eq
 cases x with
 | str y =>
  obtain ⟨t, rfl⟩ := rx
  obtain ⟨hy, e'⟩ : y.length <= sizeLine /\ n = y.length := e
  subst e'
  exact len_str (by omega) ⟨.int _, H, I.tok _, ⟨_, rfl⟩, q⟩
 | byt y =>
  obtain ⟨t, rfl⟩ := rx
  obtain ⟨hy, e'⟩ : y.size <= sizeLine /\ n = y.size := e
  subst e'
  exact PySem.W.len_bytes (by omega) ⟨.int _, H, I.tok _, ⟨_, rfl⟩, q⟩
 | ref p =>
  cases rx
  have e' : (∃ xs, SqL X.K H p xs /\ n = xs.length) \/ ∃ xs, SqT X.K H p xs /\ n = xs.length := e
  rcases e' with ⟨xs, hx, e'⟩ | ⟨xs, hx, e'⟩
  ·subst e'
   obtain ⟨its, r', pl, hz⟩ := I.list hx
   have hlen := r'.length
   exact Calls.call_len_list pl.isList (by simp only [List.size_toArray]; omega) ⟨.int xs.length, H, I.tok _, ⟨_, by simp only [List.size_toArray]; rw [hlen]⟩, q⟩
  ·subst e'
   obtain ⟨its, r', pl, hz⟩ := I.tuple hx
   have hlen := r'.length
   exact len_tuple pl (by simp only [List.size_toArray]; omega) ⟨.int xs.length, H, I.tok _, ⟨_, by simp only [List.size_toArray]; rw [hlen]⟩, q⟩
 | _ => exact (show False from e).elim
end
end L2
namespace L2
open PySem PySem.Spec PyProof.Rows
structure ObjM (h : Heap) (x dx C : Addr) (mA : Str -> Option Value) : Prop where
 obj : h.get? x = some (PySem.W.instObj C dx)
 ns : h.Ns1 dx mA
 ne : dx ≠ x
section
variable {prog : Program} {w : World} {A : Around} {E : Value -> Shared -> Prop} {s : Shared} {K : PySem.W.Frag} {x dx C f : Addr} {mA : Str -> Option Value} {name : Str} {v : Value}
end
theorem RelO.some_of {v : V} {o : Option Value} (r : RelO (some v) o) : ∃ u, o = some u /\ RelV v u := by
 cases o with
 | none => exact (show False from r).elim
 | some u => exact ⟨u, rfl, r⟩
section
variable {P : Program} {w : World} {H H' : Hp} {h h' : Heap} {a C dx : Addr} {fs fs' : List (Str × V)}
end
structure Cls (K : PySem.W.Frag) (C : Addr) : Prop where
 pg : PySem.W.plainGet K C Str.empty = true
 hd : PySem.W.hasDictIn K C = true
 po : PySem.W.plainOver K C = true
 sa : PySem.W.findIn K (.ref C) "__setattr__" = some (some (.builtin "object.__setattr__"))
structure Con (K : PySem.W.Frag) (C : Addr) (f : Str) (v : V) (u : Value) : Prop where
 at_ : PySem.W.findIn K (.ref C) f = some (some u)
 rel : RelV v u
 get : PySem.W.specialIn K u "__get__" = some none
 cp : PySem.W.copiedNames.contains f = false
structure Meth (K : PySem.W.Frag) (C : Addr) (m : Str) (f : Addr) : Prop where
 at_ : PySem.W.findIn K (.ref C) m = some (some (.ref f))
 fn : PySem.W.isFn K (.ref f) = true
 kp : PySem.W.keepIn K (.ref f) = true
section
variable {X : Cx} {pins : List (Addr × Obj)} {σ : St} {H : Hp} {s : Shared} {a C dx : Addr} {fs : List (Str × V)} {f : Str} {v : V} {A : Around} {E : Value -> Shared -> Prop}
end
section
variable {X : Cx} {o e value : Expr} {f : Str} {pos pos' tpos : Pos} {ta tv : TE}
end
section
variable {X : Cx} {pins : List (Addr × Obj)} {σ : St} {H : Hp} {s : Shared} {A : Around} {E : Value -> Shared -> Prop} {Q : Value -> Shared -> Prop} {c : Value} {b : Bool}
inductive TyOf (K : PySem.W.Frag) (H : Hp) : V -> Value -> Prop where
 | non : TyOf K H .non (.type "NoneType")
 | bl (x : Bool) : TyOf K H (.bl x) (.type "bool")
 | int (i : Int) : TyOf K H (.int i) (.type "int")
 | str (x : Str) : TyOf K H (.str x) (.type "str")
 | flt (x : UInt64) : TyOf K H (.flt x) (.type "float")
 | lst {a : Addr} {xs : List V} (e : H a = some (.lst xs)) : TyOf K H (.ref a) (.type "list")
 | frz {a : Addr} {o : Obj} {xs : List V} (e : H a = some (.frz o (.lst xs))) : TyOf K H (.ref a) (.type "list")
 | tup {a : Addr} {xs : List V} (e : H a = some (.tup xs)) : TyOf K H (.ref a) (.type "tuple")
 | dK {a : Addr} {kvs : List (Key × V)} (e : H a = some (.dK kvs)) : TyOf K H (.ref a) (.type "dict")
 | dT {a : Addr} {sh : Sh} {kvs : List (Kx × V)} {kas : List Addr} (e : H a = some (.dT sh kvs kas)) : TyOf K H (.ref a) (.type "dict")
 | ins {a C dx : Addr} {fs : List (Str × V)} (e : H a = some (.ins C dx fs)) (cl : Cls K C) (ha : PySem.W.findIn K (.ref C) "__class__" = some (some (.builtin "object.__class__")))
   (hn : PySem.W.specialIn K (.builtin "object.__class__") "__get__" = some (some (.builtin "getset_descriptor.__get__"))) (htk : PySem.W.takesIn K (.builtin "object.__class__") = some true)
   (hm : PySem.W.mroIn K C (.type "object") = some true) : TyOf K H (.ref a) (.ref C)
end
end L2
namespace L2
open PySem PySem.Spec PyProof.Rows
structure Room (k : Nat) (A : Around) : Prop where
 hd : A.handled = none
 dp : A.depth + 3 * k + 5 < recursionLimit
 un : A.units + 16 * k + 200 < cLine
 gd : A.guards = some []
theorem Room.deeper {k : Nat} {A : Around} (r : Room (k + 1) A) (env : Env) : Room k (A.deeper env) :=
 ⟨r.hd, by have := r.dp; show A.depth + 1 + 3 * k + 5 < _; omega, by have := r.un; show A.units + 3 + 16 * k + 200 < _; omega, r.gd⟩
theorem Room.depth {k : Nat} {A : Around} (r : Room k A) : A.depth < recursionLimit := by have := r.dp; omega
def tNil : TA := fun _ H Q => Q [] H
def tCons (ta : TE) (tr : TA) : TA := fun σ H Q => ta σ H fun x H1 => tr σ H1 fun xs H2 => Q (x :: xs) H2
section
variable {X : Cx} {e : Expr} {es : List Expr} {te : TE} {t : TA} {pos : Pos}
theorem pa_nil : PA X [] tNil := fun _ _ _ _ H Q I h => Calls.spliced_nil ⟨[], H, I, .nil, h⟩
theorem pa_cons (ha : PE X e te) (hr : PA X es t) (hs : starEach (e :: es) X.env = (false, eval e X.env) :: starEach es X.env := by rfl) : PA X (e :: es) (tCons te t) := by
 intro pos pins s σ H Q I h
 rw [hs]
 show wpAny _ _ (spliced ((false, eval e X.env) :: backTo pos (starEach es X.env))) _ _ s
 refine Calls.spliced_cons (thn (ha pins s σ H _ I h) fun u s1 ⟨x, H1, I1, r1, q1⟩ => ?_)
 exact thn (hr pos pins s1 σ H1 _ I1 q1) fun us s2 ⟨xs, H2, I2, r2, q2⟩ => ⟨x :: xs, H2, I2, .cons r1 r2, q2⟩
def tTup (t : TA) : TE := fun σ H Q => t σ H fun xs H1 => xs.length <= sizeLine /\ ∀ p, H1 p = none -> Q (.ref p) (upd H1 p (.tup xs))
def tLst (t : TA) : TE := fun σ H Q => t σ H fun xs H1 => xs.length <= sizeLine /\ ∀ p, H1 p = none -> Q (.ref p) (upd H1 p (.lst xs))
theorem pe_tup {x1} (h : PA X es t) : PE X (.Tuple es x1 pos) (tTup t) := by
 intro pins s σ H Q I hq
 refine wpAny_Tuple_spliced (thn (h pos pins s σ H _ I hq) fun us s1 ⟨xs, H1, I1, r, z, q⟩ => ⟨by rw [<- r.length]; exact z, ?_⟩)
 have hf : H1 s1.heap.objs.size = none := I1.hok.fresh (Nat.le_refl _)
 refine ⟨.ref s1.heap.objs.size, upd H1 s1.heap.objs.size (.tup xs), I1.laid (t' := s1.toks) (fun b u e => Heap.get?_push_of_some _ e) (Nat.le_refl _) ?_, rfl, q _ hf⟩
 exact ⟨z, us, r, ⟨_, Heap.get?_push_size _ rfl, rfl, _, rfl⟩, ⟨_, Heap.get?_push_size _ rfl, rfl⟩⟩
theorem pe_lst (h : PA X es t) : PE X (.List es pos) (tLst t) := by
 intro pins s σ H Q I hq
 refine wpAny_List_spliced (thn (h pos pins s σ H _ I hq) fun us s1 ⟨xs, H1, I1, r, z, q⟩ => ⟨by rw [<- r.length]; exact z, ?_⟩)
 have hf : H1 s1.heap.objs.size = none := I1.hok.fresh (Nat.le_refl _)
 refine ⟨.ref s1.heap.objs.size, upd H1 s1.heap.objs.size (.lst xs), I1.laid (t' := s1.toks) (fun b u e => Heap.get?_push_of_some _ e) (Nat.le_refl _) ?_, rfl, q _ hf⟩
 exact ⟨z, us, 0, r, Heap.get?_push_size _ rfl⟩
end
abbrev Sp := List V -> Hp -> VK -> XK -> Prop
abbrev CXT := List Env -> Hp -> Shared -> XK -> Value -> Shared -> Prop
structure Env0 (P : Program) (w : World) (K : PySem.W.Frag) (mg : Str -> Option Value) (base : Heap) (A : Around) (outer : List Env) (s : Shared) (H : Hp) : Prop where
 frames : A.frames = some outer
 mod : Mod K mg base
 bs : ∀ b o, base.get? b = some o -> s.heap.get? b = some o /\ H b = none
 bsz : base.objs.size <= s.heap.objs.size
 funs : s.heap.FunFrames base outer
 frf : ∀ b ∈ frs outer, H b = none
 hok : HOk P w H s.heap
 bare : AllBare s.gens
 tab : TabOk K H
def CE (outer : List Env) (P : Program) (w : World) (H : Hp) (s : Shared) (Q : VK) (u : Value) (s' : Shared) : Prop :=
 ∃ v H', s'.os = s.os /\ AllBare s'.gens /\ Un (frs outer) [] H H' s.heap s'.heap /\ HOk P w H' s'.heap /\ RelV v u /\ Q v H'
def CR (CX : CXT) (outer : List Env) (P : Program) (w : World) (H : Hp) (s : Shared) (Q : VK) (E : XK) (r : Result) (s' : Shared) : Prop :=
 match r with
 | .ok (.ret u) => CE outer P w H s Q u s'
 | .ok _ => False
 | .error e => CX outer H s E e s'
structure FnOk (P : Program) (w : World) (K : PySem.W.Frag) (mg : Str -> Option Value) (base : Heap) (CX : CXT) (k : Nat) (f : Addr) (fd : FuncData) (ps : List Str) (sp : Sp) : Prop where
 len : ∀ vs H Q E, sp vs H Q E -> vs.length = ps.length
 run : ∀ (A : Around) (outer : List Env) (s : Shared) (H : Hp) (args : Args) (us : List Value) (vs : List V) (Q : VK) (E : XK), Room k A -> Env0 P w K mg base A outer s H -> BindsTo s fd args (ps.zip us) -> Vals vs us -> sp vs H Q E ->
  codeAny (model P w) A (.call (.ref f) args) (CR CX outer P w H s Q E) s
theorem FnOk.imp {P : Program} {w : World} {K : PySem.W.Frag} {mg : Str -> Option Value} {base : Heap} {CX : CXT} {k : Nat} {f : Addr} {fd : FuncData} {ps : List Str} {sp sp' : Sp} (F : FnOk P w K mg base CX k f fd ps sp)
  (h : ∀ vs H Q E, sp' vs H Q E -> sp vs H Q E) : FnOk P w K mg base CX k f fd ps sp' :=
 ⟨fun vs H Q E q => F.len vs H Q E (h _ _ _ _ q), fun A outer s H args us vs Q E hr he hb hv hs => F.run A outer s H args us vs Q E hr he hb hv (h _ _ _ _ hs)⟩
section
variable {X : Cx} {pins : List (Addr × Obj)} {σ : St} {H : Hp} {s s' : Shared}
theorem Inv.env0 (I : Inv X pins σ H s) : Env0 X.prog X.w X.K X.mg X.base X.A X.stack s H :=
 ⟨I.ok.frames, I.ok.mod, I.bs, Nat.le_trans I.ok.bsz I.sz, I.stack, I.stkFree, I.hok, I.bare, I.ok.tab.un I.base⟩
theorem Inv.after {Q : VK} {u : Value} (I : Inv X pins σ H s) (h : CE X.stack X.prog X.w H s Q u s') : EP X pins σ Q u s' := by
 obtain ⟨v, H', os, bare, un, hok, r, q⟩ := h
 obtain ⟨hh, g, d, t, os'⟩ := s'
 obtain rfl : os' = s.os := os
 exact ⟨v, H', I.call (h' := hh) (g' := g) (d' := d) (t' := t) (ch := []) un hok bare (fun b z => absurd z (by simp)), r, q⟩
end
def Binds (K : PySem.W.Frag) (fd : FuncData) (ps : List Str) (ds : List Value) : Prop :=
 ∀ (s : Shared) (us : List Value), K.In s.heap -> (us ++ ds).length = ps.length -> BindsTo s fd ⟨us, []⟩ (ps.zip (us ++ ds))
theorem Binds.all {K : PySem.W.Frag} {fd : FuncData} {ps : List Str} (h : ∀ us : List Value, us.length = ps.length -> bindArgs fd ⟨us, []⟩ = pure (ps.zip us)) : Binds K fd ps [] := fun s us _ hl => by
 rw [List.append_nil] at hl |-
 exact .of_eq (h us hl)
section
variable {X : Cx} {CX : CXT} {k : Nat} {f C : Addr} {fd : FuncData} {ps : List Str} {sp : Sp} {dvs : List V} {ds : List Value} {E : XK} {x m : Str} {p pos apos : Pos} {e o : Expr} {es : List Expr} {ta : TE} {t : TA}
structure Mk (K : PySem.W.Frag) (C f : Addr) : Prop where
 makes : PySem.W.makesIn K C = true
 init : PySem.W.findIn K (.ref C) "__init__" = some (some (.ref f))
 fn : PySem.W.isFn K (.ref f) = true
 kp : PySem.W.keepIn K (.ref C) = true
end
section
variable {X : Cx} {CX : CXT} {k : Nat} {f C : Addr} {fd : FuncData} {ps ks : List Str} {sp : Sp} {E : XK} {x m : Str} {p pos apos kpos : Pos} {e o : Expr} {es : List Expr} {kws : List Keyword} {te ta : TE} {t tk : TA} {nm : Option Str}
structure KBinds (K : PySem.W.Frag) (fd : FuncData) (ps ks : List Str) (g : List Value -> List Value -> List Value) (gV : List V -> List V -> List V) : Prop where
 to : ∀ (s : Shared) (us ws : List Value), K.In s.heap -> (g us ws).length = ps.length -> BindsTo s fd ⟨us, ks.zip ws⟩ (ps.zip (g us ws))
 rel : ∀ {vs : List V} {us : List Value} {zs : List V} {ws : List Value}, Vals vs us -> Vals zs ws -> Vals (gV vs zs) (g us ws)
variable {g : List Value -> List Value -> List Value} {gV : List V -> List V -> List V}
end
structure FnScope (N P : List Str) (sc : Scope) : Prop where
 kind : sc.kind = .function
 co : sc.isCoroutine = false
 gen : sc.isGenerator = false
 nd : N.Nodup
 pre : N.take P.length = P
 par : ∀ x ∈ P, sc.names.lookup x = some .local \/ sc.names.lookup x = some .cell
 nofree : ∀ y ∈ sc.names, y.2 ≠ .free
theorem bindL_out {kindOf : Str -> Option NameKind} {x : Str} : ∀ {binds : List (Str × Value)} {m : Str -> Option Value}, (∀ v, (x, v) ∉ binds) -> bindL kindOf binds m x = m x
 | [], _, _ => rfl
 | (n, v) :: r, m, h => by
  unfold bindL
  rw [bindL_out fun w hw => h w (List.mem_cons_of_mem _ hw)]
  split
  ·have : x ≠ n := by rintro rfl; exact h v List.mem_cons_self
   simp [this]
  ·rfl
theorem bindC_out {kindOf : Str -> Option NameKind} {x : Str} : ∀ {binds : List (Str × Value)} {m : Str -> Option Value}, (∀ v, (x, v) ∉ binds) -> bindC kindOf binds m x = m x
 | [], _, _ => rfl
 | (n, v) :: r, m, h => by
  unfold bindC
  rw [bindC_out fun w hw => h w (List.mem_cons_of_mem _ hw)]
  split
  ·rfl
  ·have : x ≠ n := by rintro rfl; exact h v List.mem_cons_self
   simp [this]
theorem bindL_get {kindOf : Str -> Option NameKind} {x : Str} {v : Value} : ∀ {P : List Str} {vs : List Value} {i : Nat} {m : Str -> Option Value}, P.Nodup -> P[i]? = some x -> vs[i]? = some v -> kindOf x = some .local ->
  bindL kindOf (P.zip vs) m x = some v
 | [], _, _, _, _, h, _, _ => by simp at h
 | _ :: _, [], _, _, _, _, h, _ => by simp at h
 | p :: P, w :: vs, 0, m, nd, h1, h2, hk => by
  simp at h1 h2; subst h1; subst h2
  show bindL kindOf ((p, w) :: P.zip vs) m p = _
  unfold bindL
  rw [bindL_out fun v hv => (List.nodup_cons.mp nd).1 (List.of_mem_zip hv).1, if_pos hk]
  simp
 | p :: P, w :: vs, i + 1, m, nd, h1, h2, hk => by
  show bindL kindOf ((p, w) :: P.zip vs) m x = _
  unfold bindL
  exact bindL_get (i := i) (List.nodup_cons.mp nd).2 (by simpa using h1) (by simpa using h2) hk
theorem bindC_get {kindOf : Str -> Option NameKind} {x : Str} {v : Value} : ∀ {P : List Str} {vs : List Value} {i : Nat} {m : Str -> Option Value}, P.Nodup -> P[i]? = some x -> vs[i]? = some v -> kindOf x ≠ some .local ->
  bindC kindOf (P.zip vs) m x = some v
 | [], _, _, _, _, h, _, _ => by simp at h
 | _ :: _, [], _, _, _, _, h, _ => by simp at h
 | p :: P, w :: vs, 0, m, nd, h1, h2, hk => by
  simp at h1 h2; subst h1; subst h2
  show bindC kindOf ((p, w) :: P.zip vs) m p = _
  unfold bindC
  rw [bindC_out fun v hv => (List.nodup_cons.mp nd).1 (List.of_mem_zip hv).1, if_neg hk]
  simp
 | p :: P, w :: vs, i + 1, m, nd, h1, h2, hk => by
  show bindC kindOf ((p, w) :: P.zip vs) m x = _
  unfold bindC
  exact bindC_get (i := i) (List.nodup_cons.mp nd).2 (by simpa using h1) (by simpa using h2) hk
noncomputable def start (N : List Str) (vs : List V) : St := vs.map some ++ List.replicate (N.length - vs.length) none
noncomputable def cxOf (CX : CXT) (P : Program) (w : World) (K : PySem.W.Frag) (mg : Str -> Option Value) (base : Heap) (N : List Str) (qual : Str) (scope : Scope) (f : Addr) (cd : Value) (A : Around) (outer : List Env) (s : Shared) (H : Hp) (E : XK) : Cx where
 prog := P
 w := w
 K := K
 mg := mg
 base := base
 A := A.deeper (envOfC qual scope s.heap.objs.size f cd)
 N := N
 s₀ := s
 H₀ := H
 env := envOfC qual scope s.heap.objs.size f cd
 outer := outer
 stack := envOfC qual scope s.heap.objs.size f cd :: outer
 ex := []
 calm := true
 fn := fun _ => true
 pn := []
 xe := fun e s' => wpAny (model P w) (A.deeper (envOfC qual scope s.heap.objs.size f cd)) (leaving (envOfC qual scope s.heap.objs.size f cd) e) (fun _ s'' => CX outer H s E e s'') (fun e' s'' => CX outer H s E e' s'') s'
theorem cell_has {sc : Scope} {n : Nat} {x : Str} (h : sc.names.lookup x = some .cell) : ∃ c, (cellsFrom n sc.names []).lookup x = some c := by
 have q := PySem.W.cellsFrom_some sc.names n [] (.inl h)
 exact Option.isSome_iff_exists.mp q
theorem inv_start {CX : CXT} {P : Program} {w : World} {K : PySem.W.Frag} {mg : Str -> Option Value} {base : Heap} {N ps : List Str} {qual : Str} {scope : Scope} {f : Addr} {cd : Value} {A : Around} {outer : List Env} {s s1 : Shared} {H : Hp} {E : XK} {us : List Value} {vs : List V}
  (S : FnScope N ps scope) (hd : A.handled = none) (e0 : Env0 P w K mg base A outer s H) (hl : vs.length = ps.length) (r : Vals vs us)
  (x : InCallC s s.heap.objs.size (bindL (envOfC qual scope s.heap.objs.size f cd).kindOf (ps.zip us) fun _ => none) (cellsFrom (s.heap.objs.size + 1) scope.names []) (bindC (envOfC qual scope s.heap.objs.size f cd).kindOf (ps.zip us) fun _ => none) s1) :
  Inv (cxOf CX P w K mg base N qual scope f cd A outer s H E) [] (start N vs) H s1 := by
 have hpl : ps.length <= N.length := by have := congrArg List.length S.pre; rw [List.length_take] at this; omega
 obtain ⟨h1, tk, rfl, hk⟩ := x.done
 have noA : ∀ b : Addr, b ∉ (cxOf CX P w K mg base N qual scope f cd A outer s H E).ex := fun b z => absurd (show b ∈ ([] : List Addr) from z) (by simp)
 refine ⟨⟨e0.mod, S.kind, rfl, rfl, Nat.le_refl _, fun y z c h1 h2 => ?_, fun y hy => ?_, fun y c _ h => ?_, fun _ => hd, Around.frames_deeper e0.frames, .inr ⟨rfl, rfl⟩, fun b z => absurd z (noA b), e0.bs, e0.bsz, fun b _ _ => noA b, fun b z => absurd z (noA b), e0.funs, e0.frf, e0.tab⟩,
  rfl, e0.bare, Un.kept hk, ⟨_, x.toInCall.ns, fun i y v h1 h2 h3 => ?_⟩, fun y c h => ⟨_, x.cell y c h⟩, e0.hok.fresh (Nat.le_refl _), fun y c h => ?_, fun p hp => absurd (show p ∈ ([] : List (Addr × Obj)) from hp) (by simp), e0.hok.kept hk, ?_⟩
 ·exact name_of_addr x.apart (PySem.mem_of_lookup h1) (PySem.mem_of_lookup h2)
 ·have hy : scope.names.lookup y = some .cell \/ scope.names.lookup y = some .free := hy
  rcases hy with hy | hy
  ·exact cell_has hy
  ·exact absurd rfl (S.nofree _ (PySem.mem_of_lookup hy))
 ·exact Nat.le_of_lt (x.above y c (PySem.mem_of_lookup h))
 ·have hi : i < vs.length := by
   unfold start at h2
   by_cases hi : i < vs.length
   ·exact hi
   ·rw [List.getElem?_append_right (by simpa using hi)] at h2
    rw [List.getElem?_replicate] at h2
    split at h2 <;> cases h2
  have ha : vs[i]? = some v := by
   unfold start at h2
   rw [List.getElem?_append_left (by simpa using hi), List.getElem?_map] at h2
   cases e : vs[i]? with
   | none => rw [e] at h2; cases h2
   | some a => rw [e] at h2; cases h2; rfl
  obtain ⟨u, hu, rv⟩ := r.get ha
  have hp : ps[i]? = some y := by
   rw [<- S.pre, List.getElem?_take_of_lt (by omega)]; exact h1
  have ndP : ps.Nodup := by rw [<- S.pre]; exact S.nd.sublist (List.take_sublist _ _)
  refine ⟨u, rv, ?_⟩
  rcases S.par y (List.mem_of_getElem? hp) with k | k
  ·exact .inl ⟨k, bindL_get ndP hp hu k⟩
  ·obtain ⟨c, e⟩ := cell_has (n := s.heap.objs.size + 1) k
   refine .inr ⟨.inl k, c, e, ?_⟩
   have q := x.cell y c e
   rw [bindC_get ndP hp hu (by show scope.names.lookup y ≠ _; rw [k]; decide)] at q
   exact q
 ·exact e0.hok.fresh (Nat.le_of_lt (x.above y c (PySem.mem_of_lookup h)))
 ·unfold start
  show _ = N.length
  rw [List.length_append, List.length_map, List.length_replicate]
  omega
theorem fn_of {CX : CXT} {P : Program} {w : World} {K : PySem.W.Frag} {mg : Str -> Option Value} {base : Heap} {k : Nat} {f : Addr} {name qual : Str} {params : Arguments} {body : List Stmt} {scope : Scope} {dV kV doc pm cdv ct oc : Value} {an od : Option Addr}
  {osl : Array (Option Value)} {N ps : List Str} {sp : Sp} (lk : K.lookup f = some ⟨oc, od, .func (PySem.W.fnOf name qual params body scope dV kV doc pm an cdv ct), osl⟩) (hcd : PySem.W.codeIn K cdv qual = true) (S : FnScope N ps scope)
  (len : ∀ vs H Q E, sp vs H Q E -> vs.length = ps.length)
  (hbody : ∀ (A : Around) (outer : List Env) (s : Shared) (H : Hp) (vs : List V) (Q : VK) (E : XK), Room k (A.deeper (envOfC qual scope s.heap.objs.size f cdv)) -> sp vs H Q E ->
   ∃ t, PSs (cxOf CX P w K mg base N qual scope f cdv A outer s H E) body t /\ t { nx := fun _ H' => Q .non H', rt := Q } (start N vs) H) :
  FnOk P w K mg base CX (k + 1) f (PySem.W.fnOf name qual params body scope dV kV doc pm an cdv ct) ps sp := by
 refine ⟨len, fun A outer s H args us vs Q E hr e0 hb r hsp => ?_⟩
 have hl := len _ _ _ _ hsp
 have KX : K.In s.heap := e0.mod.kin.keeps fun b o e => (e0.bs b o e).1
 have lim : s.heap.NoLimit := e0.mod.nolimit.keeps fun b o e => (e0.bs b o e).1
 have hkind : ∀ y ∈ ps.zip us, scope.names.lookup y.1 = some .local \/ (scope.names.lookup y.1 = some .cell /\ ((cellsFrom (s.heap.objs.size + 1) scope.names []).lookup y.1).isSome = true) := fun ⟨n, v⟩ hy => by
  rcases S.par n (List.of_mem_zip hy).1 with q | q
  ·exact .inl q
  ·exact .inr ⟨q, PySem.W.cellsFrom_some _ _ _ (.inl q)⟩
 refine codeAny_call_function hr.depth (KX _ _ lk) rfl S.co S.gen rfl (PySem.W.codeRec_of KX hcd) (hb _ _ _ _ ?_)
 refine wpAny_newFunctionEnv_cells S.kind hkind fun env he s1 x => ?_
 subst he
 refine ⟨lim.keeps x.toInCall.keep, codeAny_func ?_⟩
 obtain ⟨t, ht, hq⟩ := hbody A outer s H vs Q E (hr.deeper _) hsp
 have I : Inv (cxOf CX P w K mg base N qual scope f cdv A outer s H E) [] (start N vs) H s1 := inv_start S hr.hd e0 hl r x
 refine wpAny_mono (ht [] s1 (start N vs) H _ I hq) (fun fl s' hs => ?_) fun e s' hs => hs
 have fin : ∀ {σ' : St} {H' : Hp} {v : V} {u : Value}, Inv (cxOf CX P w K mg base N qual scope f cdv A outer s H E) [] σ' H' s' -> RelV v u -> Q v H' -> CE outer P w H s Q u s' :=
  fun {σ' H' v u} J rv q => ⟨v, H', J.os, J.bare, J.base, J.hok, rv, q⟩
 cases fl with
 | ret u =>
  obtain ⟨v, σ', H', J, rv, q⟩ := hs
  exact fin J rv q
 | next =>
  obtain ⟨σ', H', J, q⟩ := hs
  exact fin (v := V.non) (u := Value.none) J rfl q
 | brk =>
  obtain ⟨_, _, _, q⟩ := hs
  exact False.elim q
 | cont =>
  obtain ⟨_, _, _, q⟩ := hs
  exact False.elim q
end L2
namespace L2
open PySem PySem.Spec PyProof.Rows
section
variable {X : Cx} {x : Str} {p pos : Pos} {e : Expr} {es : List Expr} {t : TA} {id T : String} {r : List V -> Hp -> VK -> Prop}
def tCB (r : List V -> Hp -> VK -> Prop) (t : TA) : TE := fun σ H Q => t σ H fun vs H1 => r vs H1 Q
theorem pe_callB (hc : CallR X (.builtin id) r) (hg : Gl X x) (hm : X.mg x = none) (hv : bootBuiltins x = some (.builtin id)) (ha : PA X (e :: es) t) (hn : x ≠ "__name__" := by decide) (hdb : (x == ("__debug__" : Str)) = false := by decide)
  (he : starEach (e :: es) X.env = (false, eval e X.env) :: starEach es X.env := by rfl) (hpl : (backTo pos (starEach es X.env)).any (·.1) = false := by rfl) : PE X (.Call (.Name x p) (e :: es) [] pos) (tCB r t) := by
 intro pins s σ H Q I h
 refine wpAny_Call_Name_kw (ld_blt I hg hm hv ?_ hn hdb)
 exact PyProof.Rows.callWith_builtin1 (thn (ha pos pins s σ H _ I h) fun us s1 ⟨vs, H1, I1, r1, q1⟩ => hc pins s1 σ H1 vs us Q I1 r1 q1) he hpl
theorem pe_callTy (hc : CallR X (.type T) r) (hg : Gl X x) (hm : X.mg x = none) (hv : bootBuiltins x = some (.type T)) (ha : PA X (e :: es) t) (hn : x ≠ "__name__" := by decide) (hdb : (x == ("__debug__" : Str)) = false := by decide)
  (he : starEach (e :: es) X.env = (false, eval e X.env) :: starEach es X.env := by rfl) (hpl : (backTo pos (starEach es X.env)).any (·.1) = false := by rfl) : PE X (.Call (.Name x p) (e :: es) [] pos) (tCB r t) := by
 intro pins s σ H Q I h
 refine wpAny_Call_Name_kw (ld_blt I hg hm hv ?_ hn hdb)
 exact PyProof.Rows.callWith_type1 (thn (ha pos pins s σ H _ I h) fun us s1 ⟨vs, H1, I1, r1, q1⟩ => hc pins s1 σ H1 vs us Q I1 r1 q1) he hpl
end
end L2
namespace HT
open PySem PyProof.Rows
section
open PySem.SeqAt
open PySem.AutoSeq1 (wpAny_loadPart')
open PySem.MeetsSeq PySem.MeetsSeq2 PySem.MeetsSeq3
end
section
variable {prog : Program} {w : World} {A : Around} {E : Value -> Shared -> Prop} {s : Shared}
theorem cat_tup {t b : Addr} {vs ws : List Value} {Q : Value -> Shared -> Prop} (ht : IsTup s.heap t vs.toArray) (hb : IsTup s.heap b ws.toArray) (hv : vs ≠ [])
  (h1 : ws = [] -> Q (.ref t) s) (h2 : ws ≠ [] -> Q (.ref s.heap.objs.size) { s with heap := s.heap.push { cls := .type "tuple", data := .seq (vs ++ ws).toArray } })
  (hsz : vs.length + ws.length <= sizeLine) : wpAny (model prog w) A (binaryOp .Add (.ref t) (.ref b)) Q E s := by
 obtain ⟨⟨cls, dd, data, sl⟩, ho, hc, n, hd⟩ := id ht
 obtain ⟨⟨cls2, dd2, data2, sl2⟩, ho2, hc2, n2, hd2⟩ := id hb
 simp only at hc hd hc2 hd2
 subst hc hd hc2 hd2
 have e : vs.toArray ++ ws.toArray = (vs ++ ws).toArray := by simp
 by_cases hw : ws = []
 ·exact concat_meets ⟨_, ho, rfl⟩ ⟨_, ho2, rfl⟩ noFill_tuple_add seq_tuple_add PySem.F.slot_tuple_add PySem.F.entry_tuple_add (PySem.F.args_tuple_add_2 _ _)
   (tuple_addW1 t b vs.toArray ws.toArray n n2 dd dd2 sl sl2 (by simpa using hv) (by simp [hw])) ⟨ho, ho2, h1 hw⟩
 ·refine concat_meets ⟨_, ho, rfl⟩ ⟨_, ho2, rfl⟩ noFill_tuple_add seq_tuple_add PySem.F.slot_tuple_add PySem.F.entry_tuple_add (PySem.F.args_tuple_add_2 _ _)
   (tuple_addW2 t b vs.toArray ws.toArray n n2 dd dd2 sl sl2 (by simpa using hv) (by simpa using hw) (by rw [List.size_toArray, List.size_toArray]; exact hsz)) ⟨ho, ho2, ?_⟩
  rw [e]
  exact h2 hw
noncomputable def sIx (n d : Nat) : Option Int -> Nat
 | none => d
 | some v => if v < 0 then (v + (n : Int)).toNat else min v.toNat n
end
end HT
namespace L2
open PySem PySem.Spec PyProof.Rows
abbrev TO := St -> Hp -> (Option Int -> Hp -> Prop) -> Prop
def PO (X : Cx) (e : Option Expr) (t : TO) : Prop :=
 ∀ (pins : List (Addr × Obj)) (s : Shared) (σ : St) (H : Hp) (Q : Option Int -> Hp -> Prop), Inv X pins σ H s -> t σ H Q ->
  wpAny (model X.prog X.w) X.A (evalPart e X.env) (fun u s' => ∃ o H', Inv X pins σ H' s' /\ IsPart u o /\ Q o H') X.xe s
section
variable {X : Cx} {e : Expr} {te : TE} {lo hi : Option Expr} {tl th : TO} {pos p2 : Pos}
def SlR (X : Cx) (r : V -> Option Int -> Option Int -> Hp -> VK -> Prop) : Prop :=
 ∀ (pins : List (Addr × Obj)) (s : Shared) (σ : St) (H : Hp) (x : V) (v vl vu : Value) (lo hi : Option Int) (sl : Addr) (Q : VK), Inv X pins σ H s -> RelV x v -> s.heap.IsSliceOf sl vl vu .none -> IsPart vl lo -> IsPart vu hi -> r x lo hi H Q ->
  ∃ T id, typeLookup (.type T) "__getitem__" = pure (some (.builtin id)) /\ s.TypeIs v T /\ wpAny (model X.prog X.w) X.A (getItem v (.ref sl)) (EP X pins σ Q) X.xe s
def rCatT (K : PySem.W.Frag) : R2 := fun x y H Q => ∃ a b xs ys, x = .ref a /\ y = .ref b /\ SqT K H a xs /\ SqT K H b ys /\ xs ≠ [] /\ xs.length + ys.length <= sizeLine /\
 (ys = [] -> Q (.ref a) H) /\ (ys ≠ [] -> ∀ p, H p = none -> Q (.ref p) (upd H p (.tup (xs ++ ys))))
theorem Vals.nil_iff {xs : List V} {us : List Value} (r : Vals xs us) : us = [] ↔ xs = [] := by
 cases r with
 | nil => simp
 | cons _ _ => simp
theorem op_catT : OpR X (binaryOp .Add) (rCatT X.K) := by
 intro pins s σ H x y v u Q I rx ry h
 obtain ⟨a, b, xs, ys, rfl, rfl, ha, hb, hx, hz, q1, q2⟩ := h
 cases rx
 cases ry
 obtain ⟨its, r1, p1, _⟩ := I.tuple ha
 obtain ⟨its2, r2, p2, _⟩ := I.tuple hb
 refine HT.cat_tup p1 p2 (fun z => hx (r1.nil_iff.mp z)) (fun z => ⟨.ref a, H, I, rfl, q1 (r2.nil_iff.mp z)⟩) (fun z => ?_) (by rw [<- r1.length, <- r2.length]; exact hz)
 refine ⟨.ref s.heap.objs.size, _, I.laid (t' := s.toks) (o := .tup (xs ++ ys)) (fun b ob q => Heap.get?_push_of_some _ q) (Nat.le_refl _) ?_, rfl, q2 (fun w => z (r2.nil_iff.mpr w)) _ (I.hok.fresh (Nat.le_refl _))⟩
 exact ⟨by rw [List.length_append]; exact hz, _, r1.append r2, IsTup.new _ _, _, Heap.get?_push_size _ rfl, rfl⟩
end
end L2
namespace L2
open PySem PySem.Spec PyProof.Rows
noncomputable def ixN (n : Nat) (i : Int) : Option Nat := if 0 <= i then (if i < n then some i.toNat else none) else if -(n : Int) <= i then some (i + n).toNat else none
noncomputable def atI {α : Type} (xs : List α) (i : Int) : Option α := (ixN xs.length i).bind fun j => xs[j]?
theorem ixN_seq {n : Nat} {i : Int} {j : Nat} (h : ixN n i = some j) : seqIndex? i n = some j /\ j < n /\ -(n : Int) <= i /\ i < n := by
 unfold ixN at h
 by_cases h0 : 0 <= i
 ·rw [if_pos h0] at h
  by_cases h1 : i < n
  ·rw [if_pos h1] at h
   have e : i.toNat = j := Option.some.inj h
   exact ⟨by rw [seqIndex_of h0 h1, e], by omega, by omega, h1⟩
  ·rw [if_neg h1] at h; cases h
 ·rw [if_neg h0] at h
  by_cases h1 : -(n : Int) <= i
  ·rw [if_pos h1] at h
   have e : (i + n).toNat = j := Option.some.inj h
   exact ⟨by rw [seqIndex_neg (by omega) h1, e], by omega, h1, by omega⟩
  ·rw [if_neg h1] at h; cases h
theorem atI_get {α : Type} {xs : List α} {i : Int} {v : α} (h : atI xs i = some v) : ∃ j, seqIndex? i xs.length = some j /\ xs[j]? = some v /\ j < xs.length /\ -(xs.length : Int) <= i /\ i < xs.length := by
 unfold atI at h
 cases e : ixN xs.length i with
 | none => rw [e] at h; cases h
 | some j =>
  rw [e] at h
  obtain ⟨h1, h2, h3, h4⟩ := ixN_seq e
  exact ⟨j, h1, h, h2, h3, h4⟩
theorem atI_nat {α : Type} {xs : List α} {j : Nat} {v : α} (h : xs[j]? = some v) : atI xs (j : Int) = some v := by
 have hj : j < xs.length := (List.getElem?_eq_some_iff.mp h).1
 have e : ixN xs.length (j : Int) = some j := by
  unfold ixN
  rw [if_pos (by omega), if_pos (by omega)]; simp
 unfold atI; rw [e]; exact h
def PlainIx (b : Expr) : Prop := ∀ o i, subscripted b false o i = operate [o, i] (getItem o i)
def IxR (X : Cx) (r : R2) : Prop :=
 ∀ (value slice : Expr) (pins : List (Addr × Obj)) (s : Shared) (σ : St) (H : Hp) (x y : V) (v u : Value) (Q : VK), Inv X pins σ H s -> RelV x v -> RelV y u -> r x y H Q ->
  subscripted slice false v u = operate [v, u] (getItem v u) -> wpAny (model X.prog X.w) X.A (subscriptTail value slice v u) (EP X pins σ Q) X.xe s
def MtR (X : Cx) (id : String) (r : V -> List V -> Hp -> VK -> Prop) : Prop :=
 ∀ (pins : List (Addr × Obj)) (s : Shared) (σ : St) (H : Hp) (x : V) (xs : List V) (v : Value) (us : List Value) (Q : VK), Inv X pins σ H s -> RelV x v -> Vals xs us -> r x xs H Q ->
  wpAny (model X.prog X.w) X.A (call (.builtin id) (v :: us)) (EP X pins σ Q) X.xe s
section
variable {X : Cx} {a b : Expr} {ta tb : TE} {pos : Pos}
theorem IxR.or {r r' : R2} (h : IxR X r) (h' : IxR X r') : IxR X (fun x y H Q => r x y H Q \/ r' x y H Q) := by
 intro value slice pins s σ H x y v u Q I rx ry q hs
 rcases q with q | q
 ·exact h value slice pins s σ H x y v u Q I rx ry q hs
 ·exact h' value slice pins s σ H x y v u Q I rx ry q hs
theorem pe_ix {r : R2} (hr : IxR X r) (ha : PE X a ta) (hb : PE X b tb) (hs : PlainIx b) : PE X (.Subscript a b pos) (tOp r ta tb) := by
 intro pins s σ H Q I h
 exact Subscript_ (binT ha hb I h fun v u s2 x y H2 I2 rx ry q => hr a b pins s2 σ H2 x y v u Q I2 rx ry q (hs _ _))
def rIxL (K : PySem.W.Frag) : R2 := fun x y H Q => ∃ p xs i v, x = .ref p /\ y = .int i /\ SqL K H p xs /\ atI xs i = some v /\ Q v H
def rIxT (K : PySem.W.Frag) : R2 := fun x y H Q => ∃ p xs i v, x = .ref p /\ y = .int i /\ SqT K H p xs /\ atI xs i = some v /\ Q v H
def rIxS : R2 := fun x y H Q => ∃ z i c, x = .str z /\ y = .int i /\ z.length <= sizeLine /\ atI z.cps.toList i = some c /\ Q (.str ⟨#[c]⟩) H
theorem ix_list : IxR X (rIxL X.K) := by
 intro value slice pins s σ H x y v u Q I rx ry h hs
 obtain ⟨p, xs, i, z, rfl, rfl, hq, he, q⟩ := h
 cases rx
 obtain ⟨t, rfl⟩ := ry
 obtain ⟨its, r, pl, hz⟩ := I.list hq
 obtain ⟨j, h1, h2, h3, h4, h5⟩ := atI_get he
 obtain ⟨w, ew, rw'⟩ := r.get h2
 have hl := r.length
 have hn := line63
 have fin : EP X pins σ Q w s := ⟨z, H, I, rw', q⟩
 by_cases h0 : 0 <= i
 ·have hj : i.toNat = j := by
   rw [seqIndex_of h0 h5] at h1
   exact Option.some.inj h1
  exact item_listR pl.isList h0 (by omega) (by rw [hj]; simpa using ew) fin hs
 ·have hj : (i + (its.toArray.size : Int)).toNat = j := by
   rw [seqIndex_neg (by omega) h4] at h1
   rw [List.size_toArray, <- hl]
   exact Option.some.inj h1
  exact subscriptTail_builtinR (x := w) pl.isList.typeIs slot_list_getitem.lookup
   (wpAny_getItem_list_neg (Q := fun r s' => r = w /\ EP X pins σ Q r s') pl.isList (by omega) (by rw [List.size_toArray] <;> omega) (by omega) (by rw [hj]; simpa using ew) ⟨rfl, fin⟩) hs
theorem ix_tup : IxR X (rIxT X.K) := by
 intro value slice pins s σ H x y v u Q I rx ry h hs
 obtain ⟨p, xs, i, z, rfl, rfl, hq, he, q⟩ := h
 cases rx
 obtain ⟨t, rfl⟩ := ry
 obtain ⟨its, r, pl, hz⟩ := I.tuple hq
 obtain ⟨j, h1, h2, h3, h4, h5⟩ := atI_get he
 obtain ⟨w, ew, rw'⟩ := r.get h2
 have hl := r.length
 have hn := line63
 have fin : EP X pins σ Q w s := ⟨z, H, I, rw', q⟩
 exact subscriptTail_builtinR (x := w) pl.typeIs slot_tuple_getitem.lookup
  (getItem_tuple (j := j) (Q := fun r s' => r = w /\ EP X pins σ Q r s') pl (by omega) (by omega) (by rw [List.size_toArray, <- hl]; exact h1) (by simpa using ew) ⟨rfl, fin⟩) hs
theorem ix_str : IxR X rIxS := by
 intro value slice pins s σ H x y v u Q I rx ry h hs
 obtain ⟨z, i, c, rfl, rfl, hz, he, q⟩ := h
 obtain ⟨t, rfl⟩ := rx
 obtain ⟨t', rfl⟩ := ry
 obtain ⟨j, h1, h2, h3, h4, h5⟩ := atI_get he
 have hl : z.cps.toList.length = z.length := by simp [Str.length]
 rw [hl] at h1 h4 h5
 have hn := line63
 exact tail_any (typeIs_str s z t) slot_str_getitem.lookup (getItem_str (c := c) (by
  have e1 : decide (i < -(2 ^ 63 : Int)) = false := decide_eq_false (by omega)
  have e2 : decide (i >= 2 ^ 63) = false := decide_eq_false (by omega)
  rw [e1, e2, Bool.or_false]) (by rw [h1]; simpa using h2) ⟨.str ⟨#[c]⟩, H, I.tok _, ⟨_, rfl⟩, q⟩) hs
def rIx (K : PySem.W.Frag) : R2 := fun x y H Q => rIxL K x y H Q \/ rIxT K x y H Q \/ rIxS x y H Q
theorem ix_seq : IxR X (rIx X.K) := ix_list.or (ix_tup.or ix_str)
theorem mapSeq_set (its : List Value) (n j : Nat) (u : Value) : Obj.mapSeq (·.setIfInBounds j u) { cls := .type "list", data := .seq its.toArray n } = { cls := .type "list", data := .seq (its.set j u).toArray n } := by
 simp [Obj.mapSeq]
theorem Inv.lst {pins : List (Addr × Obj)} {σ : St} {H : Hp} {s : Shared} {p : Addr} {xs : List V} (I : Inv X pins σ H s) (h : H p = some (.lst xs)) :
  ∃ (its : List Value) (n : Nat), Vals xs its /\ s.heap.get? p = some { cls := .type "list", data := .seq its.toArray n } /\ xs.length <= sizeLine := by
 obtain ⟨z, its, n, r, e⟩ := I.hok p _ h
 exact ⟨its, n, r, e, z⟩
theorem Inv.lstUpd {pins : List (Addr × Obj)} {σ : St} {H : Hp} {s : Shared} {p : Addr} {xs ys : List V} {its its' : List Value} {n n' : Nat} {f : Obj -> Obj} (I : Inv X pins σ H s) (h : H p = some (.lst xs))
  (ho : s.heap.get? p = some { cls := .type "list", data := .seq its.toArray n }) (hf : f { cls := .type "list", data := .seq its.toArray n } = { cls := .type "list", data := .seq its'.toArray n' }) (r : Vals ys its') (hz : ys.length <= sizeLine) (t : Nat) :
  Inv X pins σ (upd H p (.lst ys)) { s with heap := s.heap.update p f, toks := t } := by
 have e : (s.heap.update p f).get? p = some { cls := .type "list", data := .seq its'.toArray n' } := by
  rw [Heap.get?_update_self f ho (by rw [hf] <;> rfl), hf]
 refine I.write (x := p) (e := p) (by rw [h]; trivial) (.inl rfl) (fun b u hb q => (Heap.get?_update_other _ _ (Ne.symm hb)).trans q) ⟨_, e⟩ ?_
 exact ⟨hz, its', n', r, e⟩
def rSetL : V -> V -> V -> Hp -> (Hp -> Prop) -> Prop := fun o i v H Q => ∃ p xs k j, o = .ref p /\ i = .int k /\ H p = some (.lst xs) /\ ixN xs.length k = some j /\ Q (upd H p (.lst (xs.set j v)))
theorem set_list : PSet X rSetL := by
 intro pins s σ H o i v ov iv u Q I ro ri rv h
 obtain ⟨p, xs, k, j, rfl, rfl, hp, hj, q⟩ := h
 cases ro
 obtain ⟨t, rfl⟩ := ri
 obtain ⟨its, n, r, ho, hz⟩ := I.lst hp
 obtain ⟨h1, h2, h3, h4⟩ := ixN_seq hj
 have hl := r.length
 have hn := line63
 have I' : Inv X pins σ (upd H p (.lst (xs.set j v))) { s with heap := s.heap.update p (Obj.mapSeq (·.setIfInBounds j u)) } :=
  I.lstUpd hp ho (mapSeq_set its n j u) (r.set rv j) (by rw [List.length_set]; exact hz) s.toks
 by_cases h0 : 0 <= k
 ·have hk : k.toNat = j := by
   rw [seqIndex_of h0 h4] at h1
   exact Option.some.inj h1
  exact PySem.W.ki_setAt ho h0 (by omega) (by rw [List.size_toArray, <- hl]; exact h4) (by rw [hk]; exact ⟨_, I', q⟩)
 ·have hk : (k + (its.toArray.size : Int)).toNat = j := by
   rw [seqIndex_neg (by omega) h3] at h1
   rw [List.size_toArray, <- hl]
   exact Option.some.inj h1
  exact PySem.W.ki_setBack ho (by omega) (by rw [List.size_toArray, <- hl]; exact h3) (by omega) (by rw [hk]; exact ⟨_, I', q⟩)
noncomputable def flatV : V -> Bool
 | .non => true
 | .bl _ => true
 | .int _ => true
 | .str _ => true
 | _ => false
noncomputable def eqV : V -> V -> Bool
 | .non, .non => true
 | .bl a, .bl b => a == b
 | .bl a, .int b => (if a then 1 else 0) == b
 | .int a, .bl b => a == (if b then 1 else 0)
 | .int a, .int b => a == b
 | .str a, .str b => a == b
 | _, _ => false
theorem eqAt_V {A : Around} {s : Shared} {y x : V} {u v : Value} (ry : RelV y u) (rx : RelV x v) (fy : flatV y = true) (fx : flatV x = true) : SeqAt.EqAt A s u v (eqV y x) := by
 cases y with
 | non =>
  cases ry
  cases x with
  | non => cases rx; exact SeqAt.EqAt.same _
  | bl b => cases rx; exact SeqAt.EqAt.none_bool b
  | int b => obtain ⟨t, rfl⟩ := rx; exact SeqAt.EqAt.none_int b t
  | str b => obtain ⟨t, rfl⟩ := rx; exact SeqAt.EqAt.none_str b t
  | _ => exact absurd (show false = true from fx) Bool.false_ne_true
 | bl a =>
  cases ry
  cases x with
  | non => cases rx; exact SeqAt.EqAt.bool_none a
  | bl b => cases rx; exact SeqAt.EqAt.bool_bool a b
  | int b => obtain ⟨t, rfl⟩ := rx; exact SeqAt.EqAt.bool_int a b t
  | str b => obtain ⟨t, rfl⟩ := rx; exact SeqAt.EqAt.bool_str a b t
  | _ => exact absurd (show false = true from fx) Bool.false_ne_true
 | int a =>
  obtain ⟨t', rfl⟩ := ry
  cases x with
  | non => cases rx; exact SeqAt.EqAt.int_none a t'
  | bl b => cases rx; exact SeqAt.EqAt.int_bool a t' b
  | int b => obtain ⟨t, rfl⟩ := rx; exact SeqAt.EqAt.int_int a t' b t
  | str b => obtain ⟨t, rfl⟩ := rx; exact SeqAt.EqAt.int_str a t' b t
  | _ => exact absurd (show false = true from fx) Bool.false_ne_true
 | str a =>
  obtain ⟨t', rfl⟩ := ry
  cases x with
  | non => cases rx; exact SeqAt.EqAt.str_none a t'
  | bl b => cases rx; exact SeqAt.EqAt.str_bool a t' b
  | int b => obtain ⟨t, rfl⟩ := rx; exact SeqAt.EqAt.str_int a t' b t
  | str b => obtain ⟨t, rfl⟩ := rx; exact SeqAt.EqAt.str_str a t' b t
  | _ => exact absurd (show false = true from fx) Bool.false_ne_true
 | _ => exact absurd (show false = true from fy) Bool.false_ne_true
noncomputable def eqU (x : V) (u : Value) : Bool := match u with
 | .none => eqV .non x
 | .bool b => eqV (.bl b) x
 | .int i _ => eqV (.int i) x
 | .str z _ => eqV (.str z) x
 | _ => false
theorem eqU_of {x y : V} {u : Value} (r : RelV y u) (f : flatV y = true) : eqU x u = eqV y x := by
 cases y with
 | non => cases r; rfl
 | bl b => cases r; rfl
 | int i => obtain ⟨t, rfl⟩ := r; rfl
 | str z => obtain ⟨t, rfl⟩ := r; rfl
 | _ => exact absurd (show false = true from f) Bool.false_ne_true
theorem any_eqU {x : V} : ∀ {xs : List V} {us : List Value}, Vals xs us -> xs.all flatV = true -> us.any (eqU x) = xs.any fun y => eqV y x
 | _, _, .nil, _ => rfl
 | y :: xs, u :: us, .cons r t, f => by
  rw [List.all_cons, Bool.and_eq_true] at f
  rw [List.any_cons, List.any_cons, eqU_of r f.1, any_eqU t f.2]
theorem mem_eqAt {A : Around} {s : Shared} {x : V} {v : Value} (rx : RelV x v) (fx : flatV x = true) : ∀ {xs : List V} {us : List Value}, Vals xs us -> xs.all flatV = true -> ∀ u ∈ us, SeqAt.EqAt A s u v (eqU x u)
 | _, _, .nil, _ => fun u hu => by cases hu
 | y :: xs, u :: us, .cons r t, f => fun u' hu => by
  rw [List.all_cons, Bool.and_eq_true] at f
  rcases List.mem_cons.mp hu with rfl | hu
  ·rw [eqU_of r f.1]; exact eqAt_V r rx f.1 fx
  ·exact mem_eqAt rx fx t f.2 u' hu
noncomputable def inV (x : V) (xs : List V) : Bool := xs.any fun y => eqV y x
def rIn (K : PySem.W.Frag) (neg : Bool) : R2 := fun x y H Q => ∃ p xs, y = .ref p /\ (SqL K H p xs \/ SqT K H p xs) /\ flatV x = true /\ xs.all flatV = true /\ Q (.bl (if neg then !inV x xs else inV x xs)) H
theorem op_notIn_seq : OpR X (compareOp .NotIn) (rIn X.K true) := by
 intro pins s σ H x y v u Q I rx ry h
 obtain ⟨p, xs, rfl, hq, fx, fs, q⟩ := h
 cases ry
 rcases hq with hq | hq
 ·obtain ⟨its, r, pl, hz⟩ := I.list hq
  refine SeqAt.notIn_listAt (eqU x) pl.isList (fun w hw => mem_eqAt rx fx r fs w (by simpa using hw)) ⟨.bl _, H, I, rfl, ?_⟩
  rw [show its.toArray.any (eqU x) = its.any (eqU x) by simp, any_eqU r fs]
  exact q
 ·obtain ⟨its, r, pl, hz⟩ := I.tuple hq
  refine SeqAt.notIn_tupleAt (eqU x) pl (fun w hw => mem_eqAt rx fx r fs w (by simpa using hw)) ⟨.bl _, H, I, rfl, ?_⟩
  rw [show its.toArray.any (eqU x) = its.any (eqU x) by simp, any_eqU r fs]
  exact q
theorem call_list_of : CallR X (.type "list") (fun xs H Q => ∃ p ys, xs = [.ref p] /\ (SqL X.K H p ys \/ SqT X.K H p ys) /\ ∀ l, H l = none -> Q (.ref l) (upd H l (.lst ys))) := by
 intro pins s σ H xs us Q I r h
 obtain ⟨p, ys, rfl, hq, q⟩ := h
 obtain ⟨u, rfl, rx⟩ := vals1 r
 cases rx
 have fin : ∀ (its : List Value), Vals ys its -> ys.length <= sizeLine -> ∀ (h' : Heap) (c' : Nat), (∀ b o', s.heap.get? b = some o' -> h'.get? b = some o') ->
   h'.get? s.heap.objs.size = some { cls := .type "list", dict := none, data := .seq its.toArray c', slots := #[] } -> EP X pins σ Q (.ref s.heap.objs.size) { s with heap := h' } := fun its r' hz h' c' kp e =>
  ⟨.ref s.heap.objs.size, _, I.laid (t' := s.toks) kp (Nat.le_refl _) (show ObjOk X.prog X.w _ h' _ (.lst ys) from ⟨hz, its, c', r', e⟩), rfl, q _ (I.hok.fresh (Nat.le_refl _))⟩
 rcases hq with hq | hq
 ·obtain ⟨its, r', pl, hz⟩ := I.list hq
  have hlen := r'.length
  obtain ⟨o, ho, hc, n, hd⟩ := pl.isList
  exact call_list_seq p (.inl rfl) ho hc hd (fun h' c' kp e => fin its r' hz h' c' kp e) (by simp only [List.size_toArray] <;> omega)
 ·obtain ⟨its, r', pl, hz⟩ := I.tuple hq
  have hlen := r'.length
  obtain ⟨o, ho, hc, n, hd⟩ := pl
  exact call_list_seq p (.inr rfl) ho hc hd (fun h' c' kp e => fin its r' hz h' c' kp e) (by simp only [List.size_toArray] <;> omega)
theorem call_tuple_of : CallR X (.type "tuple") (fun xs H Q => ∃ p ys, xs = [.ref p] /\ ((SqL X.K H p ys /\ ∀ l, H l = none -> Q (.ref l) (upd H l (.tup ys))) \/ (SqT X.K H p ys /\ Q (.ref p) H))) := by
 intro pins s σ H xs us Q I r h
 obtain ⟨p, ys, rfl, h⟩ := h
 obtain ⟨u, rfl, rx⟩ := vals1 r
 cases rx
 rcases h with ⟨hq, q⟩ | ⟨hq, q⟩
 ·obtain ⟨its, r', pl, hz⟩ := I.list hq
  have hlen := r'.length
  refine call_tuple_list pl.isList (fun h' kp => ?_) (by simp only [List.size_toArray] <;> omega)
  have I1 : Inv X pins σ H { s with heap := h' } := I.kept (t' := s.toks) kp
  have I2 : Inv X pins σ (upd H h'.objs.size (.tup ys)) { s with heap := h'.push { cls := .type "tuple", data := .seq its.toArray } } :=
   I1.laid (t' := s.toks) (fun b o e => Heap.get?_push_of_some _ e) (Nat.le_refl _) (show ObjOk X.prog X.w _ _ _ (.tup ys) from ⟨hz, its, r', IsTup.new _ _, _, Heap.get?_push_size _ rfl, rfl⟩)
  exact ⟨.ref h'.objs.size, _, I2, rfl, q _ (I1.hok.fresh (Nat.le_refl _))⟩
 ·obtain ⟨its, r', pl, hz⟩ := I.tuple hq
  exact call_tuple_same pl ⟨.ref p, H, I, rfl, q⟩
def tyV (K : PySem.W.Frag) (T : String) (x : V) (H : Hp) : Prop := match x with
 | .str _ => T = "str"
 | .int _ => T = "int"
 | .ref p => (T = "list" /\ ∃ xs, SqL K H p xs) \/ (T = "tuple" /\ ∃ o, K.lookup p = some o /\ o.cls = .type "tuple" /\ o.dict = none) \/
   (T = "dict" /\ ((∃ kvs, H p = some (.dK kvs)) \/ ∃ sh kvs kas, H p = some (.dT sh kvs kas))) \/ (T = "set" /\ ∃ S n, H p = some (.set S n))
 | _ => False
theorem tyV_is {pins : List (Addr × Obj)} {σ : St} {H : Hp} {s : Shared} {T : String} {x : V} {v : Value} (I : Inv X pins σ H s) (r : RelV x v) (ty : tyV X.K T x H) :
  s.TypeIs v T /\ ∀ a, v = .ref a -> ∃ ob, s.heap.get? a = some ob /\ ob.dict = none := by
 cases x with
 | str z =>
  obtain ⟨t, rfl⟩ := r
  cases (show T = "str" from ty)
  exact ⟨typeIs_str s z t, fun _ e => nomatch e⟩
 | int i =>
  obtain ⟨t, rfl⟩ := r
  cases (show T = "int" from ty)
  exact ⟨typeIs_int s i t, fun _ e => nomatch e⟩
 | ref p =>
  cases r
  rcases ty with ⟨rfl, xs, hq⟩ | ⟨rfl, o, hk, hc, hd⟩ | ⟨rfl, hk⟩ | ⟨rfl, S, n, hk⟩
  ·obtain ⟨its, _, pl, _⟩ := I.list hq
   refine ⟨pl.isList.typeIs, fun a e => ?_⟩
   cases e
   obtain ⟨o, n, e, c, hd, _⟩ := pl
   exact ⟨o, e, hd⟩
  ·refine ⟨⟨o, I.kIn p o hk, hc⟩, fun a e => ?_⟩
   cases e
   exact ⟨o, I.kIn _ o hk, hd⟩
  ·have z : ∃ o, s.heap.get? p = some o /\ o.ExactDict := by
    rcases hk with ⟨kvs, hk⟩ | ⟨sh, kvs, kas, hk⟩
    ·obtain ⟨_, _, _, _, o, _, _, e, ex, _⟩ := I.hok p _ hk
     exact ⟨o, e, ex⟩
    ·obtain ⟨_, _, _, _, _, o, _, _, e, ex, _⟩ := I.hok p _ hk
     exact ⟨o, e, ex⟩
   obtain ⟨o, e, ex⟩ := z
   refine ⟨⟨o, e, ex.1⟩, fun a e2 => ?_⟩
   cases e2
   exact ⟨o, e, ex.2.1⟩
  ·obtain ⟨o, _, _, _, e, ex, _⟩ := I.hok p _ hk
   refine ⟨⟨o, e, ex.1⟩, fun a e2 => ?_⟩
   cases e2
   exact ⟨o, e, ex.2.1⟩
 | _ => exact False.elim ty
def tBM0 (K : PySem.W.Frag) (T : String) (r : V -> List V -> Hp -> VK -> Prop) (to : TE) : TE := fun σ H Q => to σ H fun x H1 => tyV K T x H1 /\ r x [] H1 Q
def tBM (K : PySem.W.Frag) (T : String) (r : V -> List V -> Hp -> VK -> Prop) (to : TE) (t : TA) : TE := fun σ H Q => to σ H fun x H1 => tyV K T x H1 /\ t σ H1 fun xs H2 => r x xs H2 Q
variable {o e : Expr} {es : List Expr} {to : TE} {t : TA} {name : Str} {apos cpos : Pos} {T id : String} {r : V -> List V -> Hp -> VK -> Prop}
theorem pe_bm0 (pa : PlainAttrs T) (slot : Slot T name id) (hty : typeOf (.builtin id) = pure (.type "method_descriptor")) (hm : MtR X id r) (ho : PE X o to)
  (hbase : attributeBase o name X.env (eval o X.env) = eval o X.env := by rfl) (hline : (apos.endLine == cpos.line) = true := by rfl) : PE X (.Call (.Attribute o name apos) [] [] cpos) (tBM0 X.K T r to) := by
 intro pins s σ H Q I h
 refine wpAny_Call_method0_late hbase hline (thn (ho pins s σ H _ I h) fun v s1 ⟨x, H1, I1, r1, ty, q1⟩ => ?_)
 obtain ⟨h1, h2⟩ := tyV_is I1 r1 ty
 exact ⟨T, id, pa, slot, hty, h1, h2, Calls.callWith_builtin rfl (PySem.evalArgs_none (hm pins s1 σ H1 x [] v [] Q I1 r1 .nil q1))⟩
theorem pe_bm (pa : PlainAttrs T) (slot : Slot T name id) (hty : typeOf (.builtin id) = pure (.type "method_descriptor")) (hm : MtR X id r) (ho : PE X o to) (ha : PA X (e :: es) t)
  (hbase : attributeBase o name X.env (eval o X.env) = eval o X.env := by rfl)
  (hfew : ((backTo cpos (starEach (e :: es) X.env)).all (fun x => !x.1) && (backToKw cpos (keywordEach [] X.env)).all (fun x => x.1.isSome)
   && decide ((e :: es).length + ([] : List Keyword).length + (if ([] : List Keyword).isEmpty then 0 else 1) < 30)) = true := by rfl)
  (hline : (apos.endLine == cpos.line) = true := by rfl) (hs : starEach (e :: es) X.env = (false, eval e X.env) :: starEach es X.env := by rfl) (hplain : (backTo cpos (starEach es X.env)).any (·.1) = false := by rfl) :
  PE X (.Call (.Attribute o name apos) (e :: es) [] cpos) (tBM X.K T r to t) := by
 intro pins s σ H Q I h
 refine wpAny_Call_method_late hbase hfew hline rfl (thn (ho pins s σ H _ I h) fun v s1 ⟨x, H1, I1, r1, ty, q1⟩ => ?_)
 obtain ⟨h1, h2⟩ := tyV_is I1 r1 ty
 refine ⟨T, id, pa, slot, hty, h1, h2, ?_⟩
 have hA := ha cpos pins s1 σ H1 _ I1 q1
 rw [hs] at hA |-
 refine Calls.callWith_builtin (by show (false || (backTo cpos (starEach es X.env)).any (·.1)) = false; rw [hplain] <;> rfl) (Calls.evalArgs_plain ?_)
 exact thn hA fun us s2 ⟨vs, H2, I2, r2, q2⟩ => hm pins s2 σ H2 x vs v us Q I2 r1 r2 q2
/- xs.append(e), list.index on a module's tuple .. are MtR facts of 06m -/
end
end L2
namespace L2
open PySem PySem.Spec PyProof.Rows
def MtM (X : Cx) (id : String) (r : V -> List V -> Hp -> VK -> Prop) : Prop :=
 ∀ (pins : List (Addr × Obj)) (s : Shared) (σ : St) (H : Hp) (x : V) (xs : List V) (v : Value) (us : List Value) (Q : VK), Inv X pins σ H s -> RelV x v -> Vals xs us -> r x xs H Q ->
  wpAny (model X.prog X.w) X.A (call (.builtin id) (v :: us)) (EP X pins σ Q) X.xe s
theorem Vals.one {x : V} {us : List Value} (h : Vals [x] us) : ∃ u, us = [u] /\ RelV x u := vals1 h
theorem Vals.zero : ∀ {us : List Value}, Vals [] us -> us = []
 | _, .nil => rfl
theorem Vals.reverse {xs : List V} {us : List Value} (h : Vals xs us) : Vals xs.reverse us.reverse := by
 induction h with
 | nil => exact .nil
 | cons r t ih => rw [List.reverse_cons, List.reverse_cons]; exact Vals.append ih (.cons r .nil)
theorem Vals.rep {xs : List V} {us : List Value} (h : Vals xs us) : ∀ k : Nat, Vals (List.replicate k xs).flatten (List.replicate k us).flatten
 | 0 => .nil
 | k + 1 => by
  rw [List.replicate_succ, List.replicate_succ, List.flatten_cons, List.flatten_cons]
  exact Vals.append h (Vals.rep h k)
theorem foldl_rep (its : List Value) : ∀ (k : Nat) (acc : List Value),
  List.foldl (fun x1 x2 => x1 ++ x2) acc.toArray (List.replicate k its.toArray) = (acc ++ (List.replicate k its).flatten).toArray
 | 0, acc => by simp
 | k + 1, acc => by
  have e : acc.toArray ++ its.toArray = (acc ++ its).toArray := by simp
  have e2 : (acc ++ its) ++ (List.replicate k its).flatten = acc ++ (List.replicate (k + 1) its).flatten := by
   rw [List.replicate_succ, List.flatten_cons, List.append_assoc]
  rw [<- e2, <- foldl_rep its k (acc ++ its), <- e, List.replicate_succ, List.foldl_cons]
section
variable {X : Cx} {pins : List (Addr × Obj)} {σ : St} {H : Hp} {s : Shared} {l b : Addr} {xs ys zs : List V}
theorem Inv.lset {its its' : List Value} {n : Nat} {f : Array Value -> Array Value} {t' : Nat} (I : Inv X pins σ H s) (hH : H l = some (.lst xs))
  (e : s.heap.get? l = some { cls := .type "list", data := .seq its.toArray n }) (hf : f its.toArray = its'.toArray) (hv : Vals ys its') (hz : ys.length <= sizeLine) :
  Inv X pins σ (upd H l (.lst ys)) { s with heap := s.heap.update l (Obj.mapSeq f), toks := t' } := by
 have q := PySem.IsL.update e f
 rw [hf] at q
 refine I.write (x := l) (e := l) (by rw [hH]; exact trivial) (.inl rfl) (fun b' u hb hu => (Heap.get?_update_other s.heap (Obj.mapSeq f) (Ne.symm hb)).trans hu) ⟨_, q⟩ ?_
 exact ⟨hz, its', _, hv, q⟩
theorem Inv.lnew {its : List Value} {t' : Nat} (I : Inv X pins σ H s) (hv : Vals ys its) (hz : ys.length <= sizeLine) :
  Inv X pins σ (upd H s.heap.objs.size (.lst ys)) { s with heap := s.heap.push { cls := .type "list", data := .seq its.toArray }, toks := t' } :=
 I.laid (fun _ _ q => Heap.get?_push_of_some _ q) (Nat.le_refl _) ⟨hz, its, 0, hv, Heap.get?_push_size _ rfl⟩
theorem Inv.fresh (I : Inv X pins σ H s) : H s.heap.objs.size = none := I.hok.fresh (Nat.le_refl _)
theorem Inv.lstM (I : Inv X pins σ H s) (hH : H l = some (.lst xs)) : xs.length <= sizeLine /\ ∃ (its : List Value) (n : Nat), Vals xs its /\ xs.length = its.length /\ s.heap.get? l = some { cls := .type "list", data := .seq its.toArray n } := by
 obtain ⟨z, its, n, r, e⟩ := I.hok l _ hH
 exact ⟨z, its, n, r, r.length, e⟩
theorem notLongL {n : Nat} (h : n <= sizeLine) : Builtin.List.listTooLong n = false := by
 unfold Builtin.List.listTooLong
 exact decide_eq_false (by omega)
end
section
variable {X : Cx}
def rAppend : V -> List V -> Hp -> VK -> Prop := fun x vs H Q => ∃ l xs y, x = .ref l /\ vs = [y] /\ H l = some (.lst xs) /\ xs.length < sizeLine /\ Q .non (upd H l (.lst (xs ++ [y])))
theorem mt_append : MtM X "list.append" rAppend := by
 intro pins s σ H x vs v us Q I rx rv h
 obtain ⟨l, xs, y, rfl, rfl, hH, hz, q⟩ := h
 cases rx
 obtain ⟨u, rfl, ru⟩ := rv.one
 obtain ⟨z, its, n, r, hl, e⟩ := I.lstM hH
 refine call_meets F.slot_list_append ⟨_, e, rfl⟩ F.entry_list_append (F.args_list_append_2 _ _) (PySem.list_append l its.toArray n u (by rw [List.size_toArray]; omega)) ⟨e, ?_⟩
 refine ⟨.non, _, I.lset (its' := its ++ [u]) hH e (by simp) (r.append (.cons ru .nil)) ?_, rfl, q⟩
 rw [List.length_append, List.length_singleton]
 omega
def rReverse : V -> List V -> Hp -> VK -> Prop := fun x vs H Q => ∃ l xs, x = .ref l /\ vs = [] /\ H l = some (.lst xs) /\ Q .non (upd H l (.lst xs.reverse))
theorem mt_reverse : MtM X "list.reverse" rReverse := by
 intro pins s σ H x vs v us Q I rx rv h
 obtain ⟨l, xs, rfl, rfl, hH, q⟩ := h
 cases rx
 have hus := rv.zero
 subst hus
 obtain ⟨z, its, n, r, hl, e⟩ := I.lstM hH
 refine call_meets F.slot_list_reverse ⟨_, e, rfl⟩ F.entry_list_reverse (F.args_list_reverse_1 _) (AutoSeq1.list_reverse_list_0 l its.toArray n (by rw [List.size_toArray]; omega)) ⟨e, ?_⟩
 refine ⟨.non, _, I.lset (its' := its.reverse) hH e (by simp) r.reverse ?_, rfl, q⟩
 rw [List.length_reverse]
 omega
theorem len_rep {α : Type} (xs : List α) (k : Nat) : (List.replicate k xs).flatten.length = k * xs.length := by
 induction k with
 | zero => simp
 | succ k ih => rw [List.replicate_succ, List.flatten_cons, List.length_append, ih, Nat.succ_mul, Nat.add_comm]
end
section
variable {prog : Program} {w : World} {A : Around} {E : Value -> Shared -> Prop} {s : Shared}
end
section
variable {X : Cx}
end
end L2
namespace Att
open PySem PySem.W PySem.Calls PyProof.Rows
theorem ints_of_wellAll {P : Params} {h : Heap} : ∀ (ns : List Int) (vs : List Value), WellAll P h vs (ns.map WData.int) -> IntsAre vs ns := by
 intro ns
 induction ns with
 | nil =>
  intro vs w
  rw [List.map_nil] at w
  cases w
  exact .nil
 | cons n ns ih =>
  intro vs w
  rw [List.map_cons] at w
  cases w with
  | cons a b =>
   cases a
   exact .cons _ _ (ih _ b)
theorem script_of {l : OpenLaw} {n : Nat} (hn : l.most = some n) {P : Params} {h : Heap} {args : List WData} {vals : List Value}
  (hpre : l.row.toRowW.claim.pre args = true) (hwl : WellAll P h vals args) :
  ∃ a vs ns, vals = [Value.ref a] /\ args = [WData.list (ns.map WData.int)] /\ h.get? a = some { cls := .type "list", data := .seq vs.toArray } /\ IntsAre vs ns /\ ns.length <= n := by
 have hsh : WShape.hasAll [] args [.list .int] = true := (pre_splitW hpre).1
 have hc : l.pre.holds [] { args := args } = true := (pre_splitW hpre).2
 obtain ⟨d, r, rfl, h1, h2⟩ := hasAllW_cons hsh
 obtain rfl := hasAllW_nil h2
 obtain ⟨xs, rfl, h3⟩ := hasW_list h1
 obtain ⟨ns, rfl⟩ := items_int h3
 have hlen : ns.length <= n := by
  unfold OpenLaw.pre at hc
  have h4 : (WTm.not (.lt (.lit (.int (n : Int))) (.len (.arg 0)))).holds [] { args := [.list (ns.map .int)] } = true := by
   have h4 := (holds_andW hc).1
   rw [hn] at h4
   exact h4
  have h5 := condW_of h4 (w_not (w_lt w_lit (w_len_list (w_arg rfl))))
  rw [List.length_map] at h5
  refine Nat.le_of_not_lt fun q => ?_
  have q' : (n : Int) < ((ns.length : Nat) : Int) := by omega
  first
   | (rw [decide_eq_true q'] at h5; exact absurd h5 (by decide))
   | (simp at h5; omega)
 cases hwl with
 | cons w1 w2 =>
  cases w2
  cases w1 with
  | list ho hall => exact ⟨_, _, ns, rfl, rfl, ho, ints_of_wellAll ns _ hall, hlen⟩
theorem post_true (l : OpenLaw) (args : List WData) : l.row.toRowW.claim.post args (.bool true) args = true :=
 postW_of (r := l.row.toRowW) (X := (true == true))
  (show WShape.has [] (.bool true) .bool = true by first | rfl | decide | simp [WShape.has, WShape.arms, WShape.armsAll])
  (show (WTm.eq .res (.lit (.bool true))).value [] { args := args, res := some (.bool true), after := args } = some (.bool (true == true)) from w_eq_bool (w_res rfl) w_lit) rfl
theorem attach_call {l : OpenLaw} {n : Nat} {q : Program} {loose : List Str} {XP : (Str -> Option Value) -> Heap -> Prop} {YP : World -> Heap -> Prop} {d : DefRec}
  (hn : l.most = some n) (hdf : d.params.defaults = [])
  (call : ∀ (w : World) (s₀ s₁ : Shared) (mg mb : Str -> Option Value) (fa : Addr) (o : Obj) (pm cd doc : Value) (a : Addr) (vs : List Value) (ns : List Int),
   Ground q loose [] XP w s₀ mg mb s₁.heap -> YP w s₁.heap ->
   s₁.heap.get? fa = some o -> o.data = .func (docDef d.name d.params d.body d.scope pm cd doc) -> s₁.heap.CodeRec cd d.name -> mg d.name = some (.ref fa) ->
   s₁.heap.get? a = some { cls := .type "list", data := .seq vs.toArray } -> IntsAre vs ns -> ns.length <= n -> s₁.gens = #[] ->
   codeAny (model l.prog w) callerA (.call (.ref fa) ⟨[.ref a], []⟩) (fun r s' => r = .ok (.ret (.bool true)) /\ OldK s₁.heap s'.heap /\ s'.os = s₁.os /\ AllBare s'.gens) s₁) :
  WalkO q loose XP YP l.row.toRowW d [] (fun f vs => PySem.call f vs) := by
 intro w s₀ s₁ mg mb G Y fa o pm cd doc dV kV ho hd hcd hD hmg hg args vals as hpre hlay hrd hwl hlo
 obtain rfl : dV = .none := Dflts.none hD hdf
 obtain rfl : kV = .none := Dflts.noKw hD
 obtain ⟨a, vs, ns, rfl, rfl, hobj, hints, hlen⟩ := script_of hn hpre hwl
 refine enter_call (codeAny_mono (call w s₀ s₁ mg mb fa o pm cd doc a vs ns G Y ho (fd_plain hd) hcd hmg hobj hints hlen hg) fun r s' hq => ?_)
 obtain ⟨rfl, h2, h3, h4⟩ := hq
 exact ⟨.inl ⟨.bool true, .bool true, [], rfl, fun _ => rfl, .bool true, post_true l _, fun _ => ⟨List.Pairwise.nil, fun _ hm => (nomatch hm)⟩⟩, h2, h3, h4⟩
section
variable {prog : Program} {w : World} {A : Around} {E : Value -> Shared -> Prop} {s : Shared} {K : Frag}
noncomputable def ledger (h : Heap) (L d : Addr) : List (Addr × Obj) := (List.range h.objs.size).filterMap fun a => if a = L \/ a = d then none else (h.get? a).map fun o => (a, o)
end
end Att
namespace L2
open PySem PySem.Spec PyProof.Rows
theorem vals_ints : ∀ {vs : List Value} {ns : List Int}, IntsAre vs ns -> Vals (ns.map V.int) vs
 | _, _, .nil => .nil
 | _, _, .cons n t h => .cons ⟨t, rfl⟩ (vals_ints h)
def Only (H : Hp) : Prop := ∀ b, H b = none \/ ∃ o xs, H b = some (.frz o (.lst xs))
theorem law_call {P : Program} {w : World} {K : PySem.W.Frag} {mg mb : Str -> Option Value} {CX : CXT} {k : Nat} {fa a : Addr} {fd : FuncData} {x : Str} {sp : Sp} {s₁ : Shared} {vs : List Value} {ns : List Int}
  (KX : K.In s₁.heap) (hns : s₁.heap.Ns mainGlobals mg) (hb : s₁.heap.Ns builtinsNs mb) (hbb : ∀ x : Str, x ≠ "__name__" -> mb x = bootBuiltins x) (hlim : s₁.heap.NoLimit) (hg : s₁.gens = #[])
  (ha : s₁.heap.get? a = some { cls := .type "list", data := .seq vs.toArray }) (hi : IntsAre vs ns) (hl : ns.length <= sizeLine) (hr : Room k callerA)
  (F : ∀ base : Heap, K.In base -> base.Ns mainGlobals mg -> FnOk P w K mg base CX k fa fd [x] sp) (hbind : ∀ (s : Shared) (u : Value), BindsTo s fd ⟨[u], []⟩ [(x, u)])
  (hsp : ∀ H : Hp, Only H -> SqL K H a (ns.map V.int) -> sp [.ref a] H (fun v _ => v = .bl true) fun _ _ _ => False)
  (hCX : ∀ H e s', CX [] H s₁ (fun _ _ _ => False) e s' -> False) (hNM : noMark K = true) :
  codeAny (model P w) callerA (.call (.ref fa) ⟨[.ref a], []⟩) (fun r s' => r = .ok (.ret (.bool true)) /\ OldK s₁.heap s'.heap /\ s'.os = s₁.os /\ AllBare s'.gens) s₁ := by
 have rv := vals_ints hi
 have lenV := hi.length
 have core : ∀ H : Hp, Only H -> SqL K H a (ns.map V.int) -> HOk P w H s₁.heap -> (∀ b, H b ≠ none -> b = a) -> (H a ≠ none -> K.lookup a = none) ->
   codeAny (model P w) callerA (.call (.ref fa) ⟨[.ref a], []⟩) (fun r s' => r = .ok (.ret (.bool true)) /\ OldK s₁.heap s'.heap /\ s'.os = s₁.os /\ AllBare s'.gens) s₁ := by
  intro H hO hS hok hA hK
  have base_of : ∀ {b : Addr} {o : Obj}, s₁.heap.get? b = some o -> H b = none -> (hidT s₁.heap H).get? b = some o := fun e n => hidT_get e n
  have noA : ∀ {b : Addr} {o : Obj} {es : Array DictEntry} {ep : Nat}, s₁.heap.get? b = some o -> o.data = .dict es ep -> H b = none := fun {b o es ep} e d => by
   cases q : H b with
   | none => rfl
   | some u =>
    have e' : b = a := hA b (by rw [q]; simp)
    subst e'
    rw [ha] at e; cases e
    have d' : Data.seq vs.toArray _ = Data.dict es ep := d
    cases d'
  have nsK : ∀ {b : Addr} {m : Str -> Option Value}, s₁.heap.Ns b m -> (hidT s₁.heap H).Ns b m := fun {b m} ⟨o, es, ep, e, d, r⟩ => ⟨o, es, ep, base_of e (noA e d), d, r⟩
  have hKb : K.In (hidT s₁.heap H) := fun b o e => base_of (KX b o e) (by
   cases q : H b with
   | none => rfl
   | some u =>
    have e' : b = a := hA b (by rw [q]; simp)
    subst e'
    rw [hK (by rw [q]; simp)] at e; cases e)
  have hM : Mod K mg (hidT s₁.heap H) := ⟨hKb, nsK hns, ⟨mb, nsK hb, hbb⟩, let ⟨mc, h1, h2⟩ := hlim; ⟨mc, nsK h1, h2⟩⟩
  have e0 : Env0 P w K mg (hidT s₁.heap H) callerA [] s₁ H := ⟨rfl, hM, fun b o e => of_hidT e, Nat.le_of_eq (hidT_size _ _), trivial, fun b hb => absurd (show b ∈ ([] : List Addr) from hb) (by simp), hok, .of_eq hg, .vac hNM⟩
  refine codeAny_mono ((F _ hKb (nsK hns)).run callerA [] s₁ H ⟨[.ref a], []⟩ [.ref a] [.ref a] _ _ hr e0 (hbind s₁ (.ref a)) (.cons rfl .nil) (hsp H hO hS)) fun r s' h => ?_
  cases r with
  | error e => exact (hCX H e s' h).elim
  | ok fl =>
   cases fl with
   | next => exact False.elim h
   | brk => exact False.elim h
   | cont => exact False.elim h
   | ret u =>
    obtain ⟨v, H', os, bare, un, hok', r', q⟩ := h
    have q' : v = .bl true := q
    subst q'
    obtain rfl : u = Value.bool true := r'
    refine ⟨rfl, OldK.of_keep fun b o e => ?_, os, bare⟩
    cases q : H b with
    | none => exact un.keep b o e q (by intro z; exact absurd (show b ∈ ([] : List Addr) from z) (by simp)) (by simp)
    | some u =>
     rcases hO b with z | ⟨ob, xs, z⟩
     ·rw [q] at z; cases z
     ·have z2 := un.frzs b ob _ z
      obtain ⟨e1, _⟩ := hok b _ z
      obtain ⟨e2, _⟩ := hok' b _ z2
      rw [e] at e1; cases e1
      exact e2
 cases hk : K.lookup a with
 | some o =>
  have e := KX a o hk
  rw [ha] at e
  cases e
  refine core (fun _ => none) (fun _ => .inl rfl) (.inr ⟨_, vs.toArray, _, hk, rfl, rfl, rfl, by rw [List.size_toArray, lenV]; exact hl, by simpa using rv⟩) (fun b u z => by have z' : (none : Option HO) = some u := z; cases z') (fun b z => absurd rfl z) fun z => absurd rfl z
 | none =>
  refine core (fun b => if b = a then some (.frz { cls := .type "list", data := .seq vs.toArray } (.lst (ns.map V.int))) else none) (fun b => ?_) (.inl (.inr ⟨{ cls := .type "list", data := .seq vs.toArray }, if_pos rfl⟩)) (fun b u z => ?_) (fun b z => ?_) fun _ => hk
  ·by_cases hb : b = a
   ·exact .inr ⟨_, _, if_pos hb⟩
   ·exact .inl (if_neg hb)
  ·by_cases hb : b = a
   ·have z' := (if_pos hb).symm.trans z
    cases z'
    subst hb
    exact ⟨ha, by rw [List.length_map]; exact hl, vs, _, rv, ha⟩
   ·have z' := (if_neg hb).symm.trans z
    cases z'
  ·by_cases hb : b = a
   ·exact hb
   ·exact absurd (if_neg hb) z
end L2
namespace L2
open PySem PySem.Spec PyProof.Rows
noncomputable abbrev KOf {K : PySem.W.Frag} {h : Heap} (_ : K.In h) : PySem.W.Frag := K
theorem walk_of {l : PySem.W.OpenLaw} {n k : Nat} {q : Program} {loose : List Str} {XP : (Str -> Option Value) -> Heap -> Prop} {YP : World -> Heap -> Prop} {d : DefRec} {K : Params -> PySem.W.Frag} {CX : World -> CXT} {sp : World -> Sp} {x : Str}
  (hn : l.most = some n) (hn2 : n <= sizeLine) (hdf : d.params.defaults = []) (hr : Room k callerA)
  (hY : ∀ (w : World) (h : Heap), YP w h -> (K w.params).In h)
  (F : ∀ (w : World) (mg : Str -> Option Value) (fa : Addr) (h : Heap), (K w.params).In h -> h.Ns mainGlobals mg -> mg d.name = some (.ref fa) ->
   ∃ fd : FuncData, (∀ (s : Shared) (u : Value), BindsTo s fd ⟨[u], []⟩ [(x, u)]) /\
    ∀ base : Heap, (K w.params).In base -> base.Ns mainGlobals mg -> FnOk l.prog w (K w.params) mg base (CX w) k fa fd [x] (sp w))
  (hsp : ∀ (w : World) (H : Hp) (a : Addr) (ns : List Int), ns.length <= n -> Only H -> SqL (K w.params) H a (ns.map V.int) -> sp w [.ref a] H (fun v _ => v = .bl true) fun _ _ _ => False)
  (hCX : ∀ (w : World) (H : Hp) (s : Shared) (e : Value) (s' : Shared), CX w [] H s (fun _ _ _ => False) e s' -> False) (hNM : ∀ w : World, noMark (K w.params) = true) :
  PySem.W.WalkO q loose XP YP l.row.toRowW d [] (fun f vs => PySem.call f vs) := by
 refine Att.attach_call hn hdf fun w s₀ s₁ mg mb fa o pm cd doc a vs ns G Y ho hd hcd hmg hobj hints hlen hg => ?_
 have KX := hY w _ Y
 obtain ⟨fd, hb, hF⟩ := F w mg fa _ KX G.T.g hmg
 exact law_call KX G.T.g G.T.b G.T.builtins G.T.nolimit hg hobj hints (Nat.le_trans hlen hn2) hr hF hb (fun H hO hS => hsp w H a ns hlen hO hS) (fun H e s' => hCX w H s₁ e s') (hNM w)
end L2
/- THE LAST THEOREM (shape; LID, My.* are yours):
   My.Adr: a structure of the addresses that your layer names (classes, functions); My.Txt K t: a structure (Prop) of the equations over K;
   My.txt_mk : {K} {implicit addresses ..} (e1 : nsIn K mainGlobals "law" = some (some (.ref f))) (e2 : K.lookup f = some ⟨oc, od, .func (fnOf "law" "law" params body scope dV kV doc pm an cdv ct), sl⟩) (e3 : codeIn K cdv "law" = true) .. : ∃ t, My.Txt K t
set_option maxRecDepth 100000 in
set_option maxHeartbeats 0 in
theorem PySem.Challenge.cw_LID_holds : PySem.Challenge.rw_LID.Holds := by
 w_on; o_law; k_head; (case hw => w_witness2)
 k_fill
 refine L2.walk_of (l := PySem.Challenge.rw_LID) (n := 63) (k := 40) (x := "script") (CX := fun w => ..) (sp := fun _ => My.sp_law) rfl (by decide) rfl ⟨rfl, by decide, by decide⟩ (fun w h Y => PySem.W.kIn_of Y) ?F ?S ?C
 case F =>
  intro w mg fa h KX G hmg
  have T : ∃ t, My.Txt (L2.KOf KX) t := by
   dsimp only [L2.KOf]                          -- K must stand as «<heap const> w.params» for k_is
   refine' My.txt_mk ?e1 ?e2 ?e3 ..
   (case e1 => PySem.W.k_is)                    -- in the order: a name -> its address -> its object -> its parts
   (case e2 => PySem.W.k_is)
   ..
  obtain ⟨t, T⟩ := T
  have e0 := hmg.symm.trans (PySem.W.mg_of KX G T.law)
  cases e0                                       -- fa is the law's own address
  exact ⟨_, fun s u => .of_eq rfl, fun base kb nb => My.law_fn T kb nb⟩     -- if «.of_eq rfl» comes too early: refine' ⟨_, ?b, fun base kb nb => My.law_fn T kb nb⟩; exact fun s u => .of_eq rfl
 case S => exact fun w H a ns hl hO hS => ..
 case C => exact ..
(the tactic k_is has no namespace: write k_is) -/
namespace L2
open PySem PySem.Spec PyProof.Rows
noncomputable def defArgs (s : Stmt) : Arguments := match s with
 | .FunctionDef _ a _ _ _ _ _ _ _ _ => a
 | _ => { posonlyargs := [], args := [], vararg := none, kwonlyargs := [], kw_defaults := [], kwarg := none, defaults := [] }
noncomputable def defBody (s : Stmt) : List Stmt := match s with
 | .FunctionDef _ _ b _ _ _ _ _ _ _ => b
 | _ => []
noncomputable def defScope (s : Stmt) : Scope := match s with
 | .FunctionDef _ _ _ _ _ _ sc _ _ _ => sc
 | _ => { kind := .function, names := [], isGenerator := false, isCoroutine := false }
noncomputable abbrev CX0 : CXT := fun _ _ _ _ _ _ => False
noncomputable abbrev E0 : XK := fun _ _ _ => False
structure Fun (K : PySem.W.Frag) (x qual : Str) (st : Stmt) (f : Addr) (fd : FuncData) : Prop where
 ex : ∃ (oc : Value) (od : Option Addr) (kV doc pm : Value) (an : Option Addr) (cdv ct : Value) (osl : Array (Option Value)),
  fd = PySem.W.fnOf x qual (defArgs st) (defBody st) (defScope st) .none kV doc pm an cdv ct /\ K.lookup f = some ⟨oc, od, .func fd, osl⟩ /\ PySem.W.codeIn K cdv qual = true
 kp : PySem.W.keepIn K (.ref f) = true
section
variable {P : Program} {w : World} {K : PySem.W.Frag} {mg : Str -> Option Value} {base : Heap}
theorem Fun.binds {x qual : Str} {st : Stmt} {f : Addr} {fd : FuncData} {ps : List Str} (F : Fun K x qual st f fd)
  (h : ∀ (kV doc pm : Value) (an : Option Addr) (cdv ct : Value) (us : List Value), us.length = ps.length -> bindArgs (PySem.W.fnOf x qual (defArgs st) (defBody st) (defScope st) .none kV doc pm an cdv ct) ⟨us, []⟩ = pure (ps.zip us)) : Binds K fd ps [] := by
 obtain ⟨oc, od, kV, doc, pm, an, cdv, ct, osl, rfl, lk, hcd⟩ := F.ex
 exact .all (h kV doc pm an cdv ct)
theorem fun_mk {x qual : Str} {st : Stmt} {f : Addr} {oc : Value} {od an : Option Addr} {osl : Array (Option Value)} {kV doc pm cdv ct : Value} (l : K.lookup f = some ⟨oc, od, .func (PySem.W.fnOf x qual (defArgs st) (defBody st) (defScope st) .none kV doc pm an cdv ct), osl⟩)
  (c : PySem.W.codeIn K cdv qual = true) (k : PySem.W.keepIn K (.ref f) = true) : Fun K x qual st f (PySem.W.fnOf x qual (defArgs st) (defBody st) (defScope st) .none kV doc pm an cdv ct) := ⟨⟨oc, od, kV, doc, pm, an, cdv, ct, osl, rfl, l, c⟩, k⟩
end
section
variable {X : Cx}
theorem pv (i : Nat) {x : Str} {pos : Pos} (hN : X.N[i]? = some x := by rfl) (hv : Vis X.env.scope x := by walk_at "1") (hd : (x == ("__debug__" : Str)) = false := by decide)
  (hcd : (x == ("__classdict__" : Str)) = false := by decide) : PE X (.Name x pos) (tVar i) := pe_var hN hv hd hcd
end
def Same (H H' : Hp) : Prop := ∀ b o, H b = some o -> H' b = some o
theorem Same.refl (H : Hp) : Same H H := fun _ _ h => h
theorem Same.trans {H H1 H2 : Hp} (a : Same H H1) (b : Same H1 H2) : Same H H2 := fun c o h => b c o (a c o h)
theorem Same.free {H H' : Hp} (e : Same H H') {l : Addr} (h : H' l = Option.none) : H l = Option.none := by
 cases q : H l with
 | none => rfl
 | some o =>
  rw [e l o q] at h
  cases h
theorem Same.seq {K : PySem.W.Frag} {H H' : Hp} {a : Addr} {xs : List V} (e : Same H H') (h : SqL K H a xs) : SqL K H' a xs := by
 rcases h with (h | ⟨o, h⟩) | h
 ·exact .inl (.inl (e _ _ h))
 ·exact .inl (.inr ⟨o, e _ _ h⟩)
 ·exact .inr h
end L2
set_option Elab.async false
set_option linter.all false
set_option maxRecDepth 100000
set_option maxHeartbeats 4000000
namespace L2
open PySem PySem.Spec PyProof.Rows
theorem ObjOk.get {P : Program} {w : World} {H : Hp} {h : Heap} {a : Addr} {o : HO} (x : ObjOk P w H h a o) : ∃ ob, h.get? a = some ob := by
 cases o with
 | lst xs => obtain ⟨_, _, _, _, e⟩ := x; exact ⟨_, e⟩
 | tup xs => obtain ⟨_, _, _, p, _⟩ := x; obtain ⟨o, e, _⟩ := p; exact ⟨o, e⟩
 | dK kvs => obtain ⟨_, _, _, _, o, _, _, e, _⟩ := x; exact ⟨_, e⟩
 | dT sh kvs kas => obtain ⟨_, _, _, _, _, o, _, _, e, _⟩ := x; exact ⟨_, e⟩
 | set S n => obtain ⟨o, _, _, _, e, _⟩ := x; exact ⟨_, e⟩
 | ins C dx fs => obtain ⟨_, _, _, e, _⟩ := x; exact ⟨_, e⟩
 | own y => obtain ⟨_, e⟩ := x; exact ⟨_, e⟩
 | xd fs => obtain ⟨_, ⟨_, _, _, e, _⟩, _⟩ := x; exact ⟨_, e⟩
 | rng lo hi => obtain ⟨_, _, _, e⟩ := x; exact ⟨_, e⟩
 | frz ob u => obtain ⟨e, _⟩ := x; exact ⟨_, e⟩
 | tbl ps => rcases x with ⟨_, _, _, _, e, _⟩ | ⟨_, _, _, _, _, _, _, _, _, _, _, _, e⟩ <;> exact ⟨_, e⟩
 | met f y => exact ⟨_, (show h.get? a = some _ from x)⟩
 | ext φ => obtain ⟨_, ⟨_, e⟩, _⟩ := x; exact ⟨_, e⟩
structure Fly (outer : List Env) (H H' : Hp) (h h' : Heap) (e : Addr) (cls : Value) (B : Heap) : Prop where
 fl : ∃ a0, Heap.FlyingW B outer e cls a0 h'
 old : ∀ b o, h.get? b = some o -> H b = none -> b ∉ frs outer -> B.get? b = some o
 trk : ∀ b u o, H' b = some u -> h'.get? b = some o -> B.get? b = some o
 all : ∀ b o, h.get? b = some o -> b ∈ frs outer \/ ∃ o', B.get? b = some o'
 new : h.get? e = none
noncomputable def CX1 (P : Program) (w : World) : CXT := fun outer H s E ev s' => ∃ (e : Addr) (cls : Value) (H' : Hp) (B : Heap),
 ev = .ref e /\ s'.os = s.os /\ AllBare s'.gens /\ Un (frs outer) [] H H' s.heap s'.heap /\ HOk P w H' s'.heap /\ Fly outer H H' s.heap s'.heap e cls B /\ E cls none H'
def PassX (CX : CXT) (X : Cx) (EE : St -> XK) : Prop := ∀ (pins : List (Addr × Obj)) (σ : St) (H : Hp) (s : Shared) (e : Value) (s' : Shared), Inv X pins σ H s -> CX X.stack H s (EE σ) e s' -> X.xe e s'
def RaisX (X : Cx) (EE : St -> XK) : Prop := ∀ (pins : List (Addr × Obj)) (σ : St) (H : Hp) (s : Shared) (e : Addr) (cls : Value) (vs : List Value) (h' : Heap), Inv X pins σ H s -> Heap.MadeExcOf s.heap h' e cls vs -> EE σ cls none H -> X.xe (.ref e) { s with heap := h' }
section
variable {CX : CXT} {P : Program} {w : World} {K : PySem.W.Frag} {mg : Str -> Option Value} {base : Heap} {N : List Str} {qual : Str} {scope : Scope} {f : Addr} {cd : Value} {A : Around} {outer : List Env} {s₀ : Shared} {H₀ : Hp} {E : XK}
theorem left_ok {pins : List (Addr × Obj)} {σ : St} {H H' : Hp} {s s' : Shared} {e : Addr} {cls : Value} {B h'' : Heap} {a0 : Value}
  (I : Inv (cxOf CX P w K mg base N qual scope f cd A outer s₀ H₀ E) pins σ H s) (J : Inv (cxOf CX P w K mg base N qual scope f cd A outer s₀ H₀ E) pins σ H' s')
  (old : ∀ b o, s.heap.get? b = some o -> H b = none -> b ∉ frs (envOfC qual scope s₀.heap.objs.size f cd :: outer) -> B.get? b = some o)
  (trk : ∀ b u o, H' b = some u -> s'.heap.get? b = some o -> B.get? b = some o)
  (all : ∀ b o, s.heap.get? b = some o -> b ∈ frs (envOfC qual scope s₀.heap.objs.size f cd :: outer) \/ ∃ o', B.get? b = some o')
  (new : s.heap.get? e = none)
  (fl : Heap.FlyingW B outer e cls a0 h'') (up : s'.heap.UpToSlots h'') (hE : E cls none H') :
  CX1 P w outer H₀ s₀ E (.ref e) { s' with heap := h'' } := by
 have neL : ∀ b o, s₀.heap.get? b = some o -> b ∉ frs outer -> b ∉ frs (envOfC qual scope s₀.heap.objs.size f cd :: outer) := fun b o q nb hb => by
  rcases List.mem_cons.mp (show b ∈ s₀.heap.objs.size :: frs outer from hb) with z | z
  ·exact absurd (Heap.lt_size q) (by rw [z]; exact Nat.lt_irrefl _)
  ·exact nb z
 have ex0 : ∀ b : Addr, b ∉ ([] : List Addr) := fun b z => nomatch z
 have slot : ∀ b o, s₀.heap.get? b = some o -> b ∈ frs outer -> ∃ sl, h''.get? b = some { o with slots := sl } := fun b o q hb => by
  obtain ⟨sl, e1⟩ := J.base.slot b o q (J.ok.frf b hb) hb (ex0 b)
  obtain ⟨_, o2, e2, nd⟩ := J.funs.mem hb
  rw [e1] at e2
  cases e2
  obtain ⟨sl', e3⟩ := up b _ e1 nd
  exact ⟨sl', e3⟩
 refine ⟨e, cls, H', B, rfl, J.os, J.bare, ⟨fun b o q n hb hx => ?_, fun b o q n hb hx => slot b o q hb, fun b o q n hx => J.base.free b o q n hx, fun b o q hx => ?_, J.base.tups, J.base.frzs, J.base.tbls⟩, fun a o q => ?_, ⟨⟨a0, fl⟩, fun b o q n hb => ?_, fun b u o q z => ?_, fun b o q => ?_, ?_⟩, hE⟩
 ·exact fl.1 b o (old b o (I.base.keep b o q n hb hx) (I.base.free b o q n hx) (neL b o q hb))
 ·by_cases hb : b ∈ frs outer
  ·obtain ⟨sl, z⟩ := slot b o q hb
   exact ⟨_, z⟩
  ·obtain ⟨o1, e1⟩ := I.base.there b o q hx
   rcases all b o1 e1 with z | ⟨o', z⟩
   ·exact absurd z (neL b o q hb)
   ·exact ⟨o', fl.1 b o' z⟩
 ·refine (J.hok a o q).stay (fun b u hb z => ?_) (fun _ z => z) fun _ _ _ z => z
  rcases hb with rfl | hb
  ·exact fl.1 _ _ (trk b o u q z)
  ·exact fl.1 _ _ (trk b _ u hb z)
 ·exact old b o (I.base.keep b o q n hb (ex0 b)) (I.base.free b o q n (ex0 b)) (neL b o q hb)
 ·obtain ⟨o1, e1⟩ := (J.hok b u q).get
  have e2 := trk b u o1 q e1
  have e3 := fl.1 b o1 e2
  rw [e3] at z
  cases z
  exact e2
 ·obtain ⟨o1, e1⟩ := I.base.there b o q (ex0 b)
  rcases all b o1 e1 with z | z
  ·by_cases hb : b ∈ frs outer
   ·exact .inl hb
   ·exact absurd z (neL b o q hb)
  ·exact .inr z
 ·cases q : s₀.heap.get? e with
  | none => rfl
  | some o =>
   obtain ⟨o1, e1⟩ := I.base.there e o q (ex0 e)
   rw [new] at e1
   cases e1
theorem pass1 : PassX (CX1 P w) (cxOf (CX1 P w) P w K mg base N qual scope f cd A outer s₀ H₀ E) (fun _ => E) := by
 intro pins σ H s ev s' I hx
 obtain ⟨e, cls, H', B, rfl, hos, hg, un, hok, fly, hE⟩ := hx
 have J := I.call' (ch := []) hos un hok hg (fun b hb => nomatch hb)
 obtain ⟨a0, fl⟩ := fly.fl
 refine wpAny_leaves_onW (base := B) I.ok.frames rfl fl fun h'' fl2 up => ?_
 exact left_ok I J fly.old fly.trk fly.all fly.new fl2 up hE
theorem rais1 : RaisX (cxOf (CX1 P w) P w K mg base N qual scope f cd A outer s₀ H₀ E) (fun _ => E) := by
 intro pins σ H s e cls vs h' I hx hE
 have J : Inv (cxOf (CX1 P w) P w K mg base N qual scope f cd A outer s₀ H₀ E) pins σ H { s with heap := h' } := I.kept (t' := s.toks) hx.keeps
 have hin : ∀ env ∈ (envOfC qual scope s₀.heap.objs.size f cd :: outer), ∀ b, env.frame = some b -> b ∈ frs (envOfC qual scope s₀.heap.objs.size f cd :: outer) := fun env he b hb => List.mem_filterMap.mpr ⟨env, he, hb⟩
 refine wpAny_leaves_madeW (base := PySem.W.hideAll s.heap (frs (envOfC qual scope s₀.heap.objs.size f cd :: outer))) (h := s.heap) I.ok.frames rfl (fun b o q => PySem.W.of_hideAll _ q) (PySem.W.funFrames_hide I.stack hin) hx fun h'' t fl _ _ up => ?_
 refine left_ok I J (fun b o q _ nb => PySem.W.hideAll_get _ q nb) (fun b u o q z => ?_) (fun b o q => ?_) hx.new fl up hE
 ·obtain ⟨o1, e1⟩ := (I.hok b u q).get
  have e2 := hx.keeps b o1 e1
  have z' : h'.get? b = some o := z
  rw [e2] at z'
  cases z'
  refine PySem.W.hideAll_get _ e1 fun hb => ?_
  rw [I.stkFree b hb] at q
  cases q
 ·by_cases hb : b ∈ frs (envOfC qual scope s₀.heap.objs.size f cd :: outer)
  ·exact .inl hb
  ·exact .inr ⟨o, PySem.W.hideAll_get _ q hb⟩
end
theorem passE {X : Cx} {P : Program} {w : World} : PassX (CX1 P w) X (fun _ => E0) := fun _ _ _ _ _ _ _ h => by
 obtain ⟨_, _, _, _, _, _, _, _, _, _, z⟩ := h
 exact False.elim z
def tCallX (sp : Sp) (dvs : List V) (EE : St -> XK) (t : TA) : TE := fun σ H Q => t σ H fun vs H1 => sp (vs ++ dvs) H1 Q (EE σ)
section
variable {X : Cx} {CX : CXT} {k : Nat} {f C : Addr} {fd : FuncData} {ps : List Str} {sp : Sp} {dvs : List V} {ds : List Value} {EE : St -> XK} {x m : Str} {p pos apos : Pos} {e o : Expr} {es : List Expr} {ta : TE} {t : TA}
theorem run_fnX {pins : List (Addr × Obj)} {σ : St} {H : Hp} {s : Shared} {Q : VK} {us : List Value} {vs : List V} (F : FnOk X.prog X.w X.K X.mg X.base CX k f fd ps sp) (hr : Room k X.A) (hb : Binds X.K fd ps ds) (hd : Vals dvs ds) (hx : PassX CX X EE)
  (I : Inv X pins σ H s) (r : Vals vs us) (h : sp (vs ++ dvs) H Q (EE σ)) : wpAny (model X.prog X.w) X.A (call (.ref f) us) (EP X pins σ Q) X.xe s := by
 have r2 : Vals (vs ++ dvs) (us ++ ds) := r.append hd
 have hl : (us ++ ds).length = ps.length := by rw [<- r2.length]; exact F.len _ _ _ _ h
 refine wpAny_call (codeAny_mono (F.run X.A X.stack s H ⟨us, []⟩ (us ++ ds) (vs ++ dvs) Q (EE σ) hr I.env0 (hb s us I.kIn hl) r2 h) fun r s' hq => ?_)
 cases r with
 | error e => exact hx pins σ H s e s' I hq
 | ok fl =>
  cases fl with
  | ret u => exact I.after hq
  | next => exact False.elim hq
  | brk => exact False.elim hq
  | cont => exact False.elim hq
theorem pe_callX (F : FnOk X.prog X.w X.K X.mg X.base CX k f fd ps sp) (hr : Room k X.A) (hg : Gl X x) (hm : X.mg x = some (.ref f)) (hk : PySem.W.keepIn X.K (.ref f) = true) (hb : Binds X.K fd ps ds) (hd : Vals dvs ds) (hx : PassX CX X EE)
  (ha : PA X (e :: es) t) (hdb : (x == ("__debug__" : Str)) = false := by decide) (he : starEach (e :: es) X.env = (false, eval e X.env) :: starEach es X.env := by rfl) (hpl : (backTo pos (starEach es X.env)).any (·.1) = false := by rfl) :
  PE X (.Call (.Name x p) (e :: es) [] pos) (tCallX sp dvs EE t) := by
 intro pins s σ H Q I h
 refine wpAny_Call_Name_kw (ld_glob I hg hm ?_ hdb)
 refine PySem.W.callWith_K (h₀ := X.base) I.ok.mod.kin hk (thn (ha pos pins s σ H _ I h) fun us s1 ⟨vs, H1, I1, r, q⟩ => ⟨I1.kIn, ?_⟩) he hpl
 exact run_fnX F hr hb hd hx I1 r q
end
section
variable {P : Program} {w : World} {K : PySem.W.Frag} {mg : Str -> Option Value} {base : Heap}
theorem Fun.okX {x qual : Str} {st : Stmt} {f : Addr} {fd : FuncData} {N ps : List Str} {k : Nat} {sp : Sp} (F : Fun K x qual st f fd) (S : FnScope N ps (defScope st)) (len : ∀ vs H Q E, sp vs H Q E -> vs.length = ps.length)
  (hbody : ∀ (cdv : Value) (A : Around) (outer : List Env) (s : Shared) (H : Hp) (vs : List V) (Q : VK) (E : XK), Room k (A.deeper (envOfC qual (defScope st) s.heap.objs.size f cdv)) -> sp vs H Q E ->
   ∃ t, PSs (cxOf (CX1 P w) P w K mg base N qual (defScope st) f cdv A outer s H E) (defBody st) t /\ t { nx := fun _ H' => Q .non H', rt := Q } (start N vs) H) : FnOk P w K mg base (CX1 P w) (k + 1) f fd ps sp := by
 obtain ⟨oc, od, kV, doc, pm, an, cdv, ct, osl, rfl, lk, hcd⟩ := F.ex
 exact fn_of lk hcd S len fun A outer s H vs Q E hr hsp => hbody cdv A outer s H vs Q E hr hsp
end
noncomputable def strKeysIn (K : PySem.W.Frag) (a : Addr) : Bool := match K.lookup a with
 | some ⟨_, _, .dict es _, _⟩ => es.toList.all fun e => match e.key with | .str _ _ => true | _ => false
 | _ => false
noncomputable def noInitIn (K : PySem.W.Frag) (a : Addr) : Bool := strKeysIn K a && PySem.W.nsIn K a "__init__" == some none
noncomputable abbrev veMro : List Value := [.type "ValueError", .type "Exception", .type "BaseException", .type "object"]
noncomputable def excIn (K : PySem.W.Frag) (C A : Addr) : Bool := match K.lookup C, K.lookup A with
 | some ⟨.type "type", _, .cls cd, sl⟩, some ⟨_, _, .cls ca, _⟩ => (match sl.toList with
   | [_, _, _, _, some (.builtin n), _] => n == "ValueError.__new__" && cd.mro == (.ref C :: .ref A :: veMro) && !cd.hasDel && noInitIn K cd.ns && noInitIn K ca.ns
   | _ => false)
 | _, _ => false
theorem noInit_of {K : PySem.W.Frag} {h : Heap} {a : Addr} (X : K.In h) (q : noInitIn K a = true) : ∃ m, h.Ns a m /\ m "__init__" = none := by
 unfold noInitIn at q
 rw [Bool.and_eq_true] at q
 obtain ⟨q1, q2⟩ := q
 unfold strKeysIn at q1
 split at q1
 ·rename_i c d es n sl hl
  have hs : StrKeys es := fun e he => by
   have := List.all_eq_true.mp q1 e (by simpa using he)
   split at this
   ·rename_i k t hk; exact ⟨_, _, hk⟩
   ·cases this
  refine ⟨nsFind es, ⟨_, es, n, X _ _ hl, rfl, hs, fun _ => rfl⟩, ?_⟩
  have q2 := beq_iff_eq.mp q2
  unfold PySem.W.nsIn at q2
  rw [hl] at q2
  dsimp only at q2
  unfold nsFind findBy
  rw [<- Array.find?_toList]
  split at q2
  ·cases q2
  ·rename_i he
   rw [he]
   rfl
 ·cases q1
theorem exc_of {K : PySem.W.Frag} {h : Heap} {C A : Addr} (X : K.In h) (q : excIn K C A = true) :
  ∃ nm qn N bs hdct sn sub ab col dd k0 k1 k2 k3 k5 mN, h.get? C = some (excClassObj nm qn C N bs (.ref A :: veMro) hdct sn sub ab col dd k0 k1 k2 k3 k5 "ValueError.__new__") /\ h.Ns N mN /\ mN "__init__" = none /\ OwnTail h veMro (.ref A :: veMro) := by
 unfold excIn at q
 split at q
 ·rename_i dd cd sl ca0 cad ca csl hC hA
  split at q
  ·rename_i k0 k1 k2 k3 n k5 hs
   simp only [Bool.and_eq_true, beq_iff_eq, Bool.not_eq_true'] at q
   obtain ⟨⟨⟨⟨rfl, hm⟩, hdel⟩, hn⟩, hna⟩ := q
   obtain ⟨nm, bs, mro, ns, qn, hd, sn, sub, ab, col, del⟩ := cd
   dsimp only at hm hdel hn
   subst hm hdel
   have hsl : sl = #[k0, k1, k2, k3, some (.builtin "ValueError.__new__"), k5] := by
    obtain ⟨l⟩ := sl
    simp only at hs
    rw [hs]
   subst hsl
   obtain ⟨mN, hN, hi⟩ := noInit_of X hn
   obtain ⟨mA, hNA, hiA⟩ := noInit_of X hna
   exact ⟨nm, qn, ns, bs, hd, sn, sub, ab, col, dd, k0, k1, k2, k3, k5, mN, X _ _ hC, hN, hi, .own (X _ _ hA) hNA hiA .base⟩
  ·cases q
 ·cases q
def tRaise (C : Addr) (EE : St -> XK) (t : TA) : TS := fun _ σ H => t σ H fun vs H1 => vs.length <= sizeLine /\ EE σ (.ref C) none H1
section
variable {X : Cx} {C Ac : Addr} {EE : St -> XK} {x : Str} {np cpos pos : Pos} {e : Expr} {es : List Expr} {t : TA}
theorem ps_raise (hx : RaisX X EE) (hc : X.calm = true) (hg : Gl X x) (hm : X.mg x = some (.ref C)) (hC : excIn X.K C Ac = true) (ha : PA X (e :: es) t)
  (hdb : (x == ("__debug__" : Str)) = false := by decide) (he : starEach (e :: es) X.env = (false, eval e X.env) :: starEach es X.env := by rfl) (hpl : (backTo cpos (starEach es X.env)).any (·.1) = false := by rfl) :
  PS X (.Raise (some (.Call (.Name x np) (e :: es) [] cpos)) none pos) (tRaise C EE t) := by
 intro pins s σ H D I h
 obtain ⟨nm, qn, N, bs, hdct, sn, sub, ab, col, dd, k0, k1, k2, k3, k5, mN, hC1, hN, hi, T⟩ := exc_of I.kIn hC
 have hpl2 : (backTo cpos (starEach (e :: es) X.env)).any (·.1) = false := by
  rw [he]; show (false || (backTo cpos (starEach es X.env)).any (·.1)) = false; rw [hpl]; rfl
 refine wpAny_Raise_call_subT (C := C) (nm := nm) (q := qn) (N := N) (bs := bs) (bm := .ref Ac :: veMro) (hdct := hdct) (sn := sn) (sub := sub) (ab := ab) (col := col) (dd := dd) (k0 := k0) (k1 := k1) (k2 := k2) (k3 := k3) (k5 := k5)
  PySem.F.excBase_ValueError (mN := mN) (by rfl) (I.ok.hd hc) hpl2 hi (ld_glob I hg hm ⟨rfl, ?_⟩ hdb)
 have key := ha cpos pins s σ H _ I h
 rw [he] at key |-
 refine Calls.evalArgs_plain (wpAny_mono key (fun us s1 ⟨vs, H1, I1, r, hz, q⟩ => ?_) fun _ _ y => y)
 obtain ⟨nm', qn', N', bs', hdct', sn', sub', ab', col', dd', k0', k1', k2', k3', k5', mN', hC1', hN', hi', T'⟩ := exc_of I1.kIn hC
 have kk : ∀ b o, X.base.get? b = some o -> s1.heap.get? b = some o := I1.bk
 have hCb : X.base.get? C = s1.heap.get? C := by
  obtain ⟨_, _, _, _, _, _, _, _, _, _, _, _, _, _, _, _, z, _⟩ := exc_of I.ok.mod.kin hC
  rw [z]; exact (kk _ _ z).symm
 have hCs : s.heap.get? C = s1.heap.get? C := by
  obtain ⟨_, _, _, _, _, _, _, _, _, _, _, _, _, _, _, _, z, _⟩ := exc_of I.ok.mod.kin hC
  rw [I.bk _ _ z]; exact (kk _ _ z).symm
 have hC2 : s1.heap.get? C = some (excClassObj nm qn C N bs (.ref Ac :: veMro) hdct sn sub ab col dd k0 k1 k2 k3 k5 "ValueError.__new__") := hCs ▸ hC1
 rw [hC2] at hC1'
 cases hC1'
 have em : mN' "__init__" = none := hi'
 have hN2 : s1.heap.Ns N mN := by
  obtain ⟨o1, es1, ep1, a1, a2, a3, a4⟩ := hN
  obtain ⟨_, _, N3, _, _, _, _, _, _, _, _, _, _, _, _, m3, z3, n3, _, _⟩ := exc_of I.ok.mod.kin hC
  have z4 := I.bk _ _ z3
  rw [hC1] at z4
  cases z4
  obtain ⟨o5, es5, ep5, b1, b2, b3, b4⟩ := n3
  have c1 := I.bk _ _ b1
  rw [a1] at c1
  cases c1
  exact ⟨_, es1, ep1, I1.bk _ _ b1, a2, a3, a4⟩
 exact ⟨rfl, by rw [<- r.length]; exact hz, hC2, hN2, T', fun h' ea hme => hx pins σ H1 s1 ea (.ref C) us h' I1 hme q⟩
end
end L2
set_option Elab.async false
set_option linter.all false
set_option maxRecDepth 100000
set_option maxHeartbeats 4000000
namespace L2
open PySem PySem.Spec PyProof.Rows
noncomputable def excO (e : Addr) (cls : Value) : HO := .ext fun h => ∃ o vs, h.get? e = some o /\ o.cls = cls /\ o.data = .fields vs
noncomputable abbrev Cx.hn (X : Cx) (e : Addr) : Cx := { X with A := X.A.mark (some (.ref e)), calm := false, xe := fun _ _ => False }
section
variable {X : Cx} {pins pins' : List (Addr × Obj)} {σ : St} {H H' : Hp} {s : Shared} {xe : Value -> Shared -> Prop} {e : Addr}
end
structure RoomH (k : Nat) (A : Around) : Prop where
 dp : A.depth + 3 * k + 5 < recursionLimit
 un : A.units + 16 * k + 200 < cLine
 gd : A.guards = some []
structure FnOkH (P : Program) (w : World) (K : PySem.W.Frag) (mg : Str -> Option Value) (base : Heap) (k : Nat) (f : Addr) (fd : FuncData) (ps : List Str) (sp : Sp) : Prop where
 len : ∀ vs H Q E, sp vs H Q E -> vs.length = ps.length
 run : ∀ (A : Around) (outer : List Env) (s : Shared) (H : Hp) (args : Args) (us : List Value) (vs : List V) (Q : VK), RoomH k A -> Env0 P w K mg base A outer s H -> BindsTo s fd args (ps.zip us) -> Vals vs us -> sp vs H Q E0 ->
  codeAny (model P w) A (.call (.ref f) args) (CR CX0 outer P w H s Q E0) s
section
variable {X : Cx} {k : Nat} {f : Addr} {fd : FuncData} {ps : List Str} {sp : Sp} {x : Str} {p pos : Pos} {e : Expr} {es : List Expr} {t : TA}
end
end L2
set_option Elab.async false
set_option linter.all false
set_option maxRecDepth 100000
set_option maxHeartbeats 4000000
namespace L2
open PySem PySem.Spec PyProof.Rows
noncomputable abbrev Cx.cp (X : Cx) (Nc : List Str) (scope : Scope) (cl : List (Str × Addr)) (C : Addr) (s₀ : Shared) (H₀ : Hp) (ex : List Addr) : Cx :=
 { X with N := Nc, s₀ := s₀, H₀ := H₀, env := compEnvC scope cl C X.env, outer := X.stack, ex := ex, fn := fun _ => false, pn := [], xe := fun _ _ => False }
theorem closure_list {env : Env} : ∀ (names : List (Str × NameKind)) (acc : List (Str × Addr)), (∀ x ∈ names, x.2 = .free -> ∃ c, env.cells.lookup x.1 = some c) ->
  ∃ cl, (forIn names acc fun (x : Str × NameKind) (r : List (Str × Addr)) => (if (x.2 == NameKind.free) = true then (cellOf env x.1 >>= fun a => pure (ForInStep.yield ((x.1, a) :: r))) else pure (ForInStep.yield r) : Sem (ForInStep (List (Str × Addr))))) = pure cl /\
   (∀ x c, cl.lookup x = some c -> acc.lookup x = some c \/ env.cells.lookup x = some c) /\ (∀ x, ((x, NameKind.free) ∈ names \/ (acc.lookup x).isSome = true) -> (cl.lookup x).isSome = true)
 | [], acc, _ => ⟨acc, rfl, fun x c h => .inl h, fun x h => h.elim (fun z => nomatch z) id⟩
 | (n, k) :: r, acc, h => by
  by_cases hk : k = .free
  ·subst hk
   obtain ⟨c, hc⟩ := h (n, .free) List.mem_cons_self rfl
   obtain ⟨cl, e1, e2, e3⟩ := closure_list r ((n, c) :: acc) fun x hx => h x (List.mem_cons_of_mem _ hx)
   refine ⟨cl, ?_, fun x d hd => ?_, fun x hx => ?_⟩
   ·rw [List.forIn_cons]
    have : cellOf env n = pure c := by unfold cellOf; rw [hc]
    simp only [beq_self_eq_true, if_true, this, pure_bind]
    exact e1
   ·rcases e2 x d hd with z | z
    ·rw [List.lookup_cons] at z
     by_cases hx : (x == n) = true
     ·rw [hx] at z
      have : x = n := by simpa using hx
      subst this
      cases z
      exact .inr hc
     ·rw [Bool.eq_false_iff.mpr hx] at z
      exact .inl z
    ·exact .inr z
   ·refine e3 x ?_
    rcases hx with z | z
    ·rcases List.mem_cons.mp z with y | y
     ·cases y
      exact .inr (by rw [List.lookup_cons]; simp)
     ·exact .inl y
    ·refine .inr ?_
     rw [List.lookup_cons]
     by_cases hx : (x == n) = true
     ·rw [hx]; rfl
     ·rw [Bool.eq_false_iff.mpr hx]; exact z
  ·obtain ⟨cl, e1, e2, e3⟩ := closure_list r acc fun x hx => h x (List.mem_cons_of_mem _ hx)
   refine ⟨cl, ?_, e2, fun x hx => e3 x ?_⟩
   ·rw [List.forIn_cons]
    have : (k == NameKind.free) = false := by simpa using hk
    simp only [this, Bool.false_eq_true, if_false, pure_bind]
    exact e1
   ·rcases hx with z | z
    ·rcases List.mem_cons.mp z with y | y
     ·cases y; exact absurd rfl hk
     ·exact .inl y
    ·exact .inr z
theorem closure_ok {scope : Scope} {env : Env} (h : ∀ x ∈ scope.names, x.2 = .free -> ∃ c, env.cells.lookup x.1 = some c) :
  ∃ cl, closureFor scope env = pure cl /\ (∀ x c, cl.lookup x = some c -> env.cells.lookup x = some c) /\ ∀ x, (x, NameKind.free) ∈ scope.names -> ∃ c, cl.lookup x = some c := by
 obtain ⟨cl, e1, e2, e3⟩ := closure_list scope.names [] h
 refine ⟨cl, ?_, fun x c hc => (e2 x c hc).resolve_left (fun z => nomatch z), fun x hx => Option.isSome_iff_exists.mp (e3 x (.inl hx))⟩
 unfold closureFor
 first
  | exact e1
  | (rw [e1]; rfl)
  | (simp only [e1]; rfl)
theorem relabel_free {env : Env} : ∀ {names : List (Str × NameKind)} {x : Str}, (∀ y ∈ names, y.2 ≠ .cell) ->
    ((names.map fun (n, k) => if (k == NameKind.free && env.scope.kind == .function && env.kindOf n == some .cell) then (n, NameKind.cell) else (n, k)).lookup x = some .cell \/
     (names.map fun (n, k) => if (k == NameKind.free && env.scope.kind == .function && env.kindOf n == some .cell) then (n, NameKind.cell) else (n, k)).lookup x = some .free) -> (x, NameKind.free) ∈ names
  | [], x, _, h => by rcases h with h | h <;> cases h
  | (n, k) :: r, x, hc, h => by
    have ih := @relabel_free env r x fun y hy => hc y (List.mem_cons_of_mem _ hy)
    rw [List.map_cons] at h
    dsimp only at h
    by_cases hx : (x == n) = true
    . have e : x = n := by simpa using hx
      subst e
      by_cases hk : k = .free
      . subst hk; exact List.mem_cons_self
      . exfalso
        have hb : (k == NameKind.free) = false := by simpa using hk
        simp only [hb, Bool.false_and, Bool.false_eq_true, if_false, List.lookup_cons, hx] at h
        rcases h with h | h
        . exact hc (x, k) List.mem_cons_self (Option.some.inj h)
        . exact hk (Option.some.inj h)
    . refine List.mem_cons_of_mem _ (ih ?_)
      have hb : (x == n) = false := Bool.eq_false_iff.mpr hx
      by_cases hq : (k == NameKind.free && env.scope.kind == .function && env.kindOf n == some .cell) = true
      . rw [if_pos hq] at h
        simpa only [List.lookup_cons, hb] using h
      . rw [if_neg hq] at h
        simpa only [List.lookup_cons, hb] using h
theorem comp_loop {prog : Program} {w : World} {A : Around} {R : Result -> Shared -> Prop} {s : Shared} {elt target iter : Expr} {ifs : List Expr} {scope : Scope} {pos : Pos} {it acc : Value} {env : Env} (I : Nat -> Shared -> Prop)
  (turn : ∀ n s, I n s -> wpAny (model prog w) A (pyNext it) (fun r s1 => match r with
   | none => R (.ok .next) s1
   | some v => wpAny (model prog w) A (letOwnedTupleGo target it v) (fun _ s2 => wpAny (model prog w) A (assign target env v) (fun _ s3 =>
     wpAny (model prog w) A (forIn ifs true fun c r => if r = true then do let ok <- isTrue c env (eval c env); pure (ForInStep.yield ok) else pure (ForInStep.yield r)) (fun ok s4 =>
      if ok = true then wpAny (model prog w) A (eval elt env) (fun x s5 => wpAny (model prog w) A (call (.builtin "list.append") [acc, x]) (fun _ s6 => ∃ m, m < n /\ I m s6) (fun _ _ => False) s5) (fun _ _ => False) s4
      else ∃ m, m < n /\ I m s4) (fun _ _ => False) s3) (fun _ _ => False) s2) (fun _ _ => False) s1) (fun _ _ => False) s)
  (n : Nat) (h : I n s) : codeAny (model prog w) A (.compLoop (.ListComp elt [⟨target, iter, ifs, 0⟩] scope pos) 0 it acc env) R s := by
 refine codeAny_loop rfl I (fun n s hI => ?_) n h
 show wpAny _ A ((compTurn (.ListComp elt [⟨target, iter, ifs, 0⟩] scope pos) 0 it acc env).onRaise (fun x => do noteFrame x env; theTreesLotGoes x)) _ _ s
 refine wpAny_noted ?_
 rw [compTurn_list]
 refine wpAny_bind (wpAny_standAt (wpAny_bind (wpAny_mono (turn n s hI) (fun r s1 h1 => ?_) fun _ _ z => z.elim)))
 cases r with
 | none => exact wpAny_pure h1
 | some v =>
  refine wpAny_bind (wpAny_mono h1 (fun _ s2 h2 => ?_) fun _ _ z => z.elim)
  refine wpAny_bind (wpAny_mono h2 (fun _ s3 h3 => ?_) fun _ _ z => z.elim)
  refine wpAny_bind (wpAny_mono h3 (fun ok s4 h4 => ?_) fun _ _ z => z.elim)
  cases ok with
  | false => exact wpAny_pure ⟨rfl, h4⟩
  | true => exact wpAny_bind (wpAny_bind (wpAny_mono h4 (fun x s5 h5 => wpAny_bind (wpAny_mono h5 (fun _ s6 h6 => wpAny_pure (wpAny_pure ⟨rfl, h6⟩)) fun _ _ z => z.elim)) fun _ _ z => z.elim))
noncomputable def pj (js : List Nat) (σ : St) : St := js.map fun j => (σ[j]?).getD none
theorem pj_get {js : List Nat} {σ : St} {i : Nat} {v : V} (h : (pj js σ)[i]? = some (some v)) : ∃ j, js[i]? = some j /\ σ[j]? = some (some v) := by
 unfold pj at h
 rw [List.getElem?_map] at h
 cases e : js[i]? with
 | none => rw [e] at h; cases h
 | some j =>
  rw [e] at h
  have h : (σ[j]?).getD none = some v := Option.some.inj h
  refine ⟨j, rfl, ?_⟩
  cases e2 : σ[j]? with
  | none => rw [e2] at h; cases h
  | some z => rw [e2] at h; rw [show z = some v from h]
def PTs (X : Cx) (ifs : List Expr) (t : TT) : Prop :=
 ∀ (pins : List (Addr × Obj)) (s : Shared) (σ : St) (H : Hp) (Q : Bool -> Hp -> Prop), Inv X pins σ H s -> t σ H Q ->
  wpAny (model X.prog X.w) X.A (forIn ifs true fun c r => if r = true then do let ok <- isTrue c X.env (eval c X.env); pure (ForInStep.yield ok) else pure (ForInStep.yield r)) (TP X pins σ Q) X.xe s
def tYes : TT := fun _ H Q => Q true H
theorem pts_nil {X : Cx} : PTs X [] tYes := fun pins s σ H Q I h => wpAny_tests_nil ⟨H, I, h⟩
def Kp (σ σ' : St) : Prop := ∀ (i : Nat) v, σ[i]? = some (some v) -> σ'[i]? = some (some v)
theorem Kp.one {σ : St} {v : V} : Kp (List.replicate 1 none ++ σ) (some v :: σ) := fun i u h => by
 cases i with
 | zero => cases h
 | succ i => exact h
theorem Kp.two {σ : St} {v u : V} : Kp (List.replicate 2 none ++ σ) (some v :: some u :: σ) := fun i w h => by
 match i, h with
 | 0, h => cases h
 | 1, h => cases h
 | i + 2, h => exact h
def tComp (wi : TI) (nl : Nat) (js : List Nat) (g : TG) (tc : TT) (te : TE) : TE := fun σ H Q => wi σ H fun J H1 => ∀ D, H1 D = none -> ∃ W : Nat -> Nat -> Hp -> Prop, (∃ m, W 0 m (upd H1 D (.lst []))) /\ ∀ i m H2, W i m H2 ->
 (J.stop i H2 /\ Q (.ref D) H2) \/ (J.go i H2 /\ ∀ x H3, J.yld i H2 x H3 -> g x (List.replicate nl none ++ pj js σ) H3 fun σ4 H4 => Kp (List.replicate nl none ++ pj js σ) σ4 /\ tc σ4 H4 fun b H5 =>
  if b = true then te σ4 H5 fun y H6 => ∃ ys, H6 D = some (.lst ys) /\ ys.length < sizeLine /\ ∃ m', m' < m /\ W (i + 1) m' (upd H6 D (.lst (ys ++ [y]))) else ∃ m', m' < m /\ W (i + 1) m' H5)
section
variable {X : Cx} {elt target iter : Expr} {ifs : List Expr} {scope : Scope} {pos : Pos} {wi : TI} {g : TG} {tc : TT} {te : TE}
theorem cp_start {pins : List (Addr × Obj)} {σ : St} {H : Hp} {s : Shared} {Nl Nf : List Str} {js : List Nat} {fp : List Addr} {cl : List (Str × Addr)} {h1 : Heap} {tk : Nat} {mC : Str -> Option Value}
  (I : Inv X pins σ H s) (hfp : ∀ b ∈ fp, FpOk X pins H b) (hob : ∀ b ∈ fp, ∃ o, s.heap.get? b = some o /\ ∀ v, o.data ≠ .cell v)
  (hk : scope.kind = .function) (hcell : ∀ y ∈ scope.names, y.2 ≠ .cell) (hcl : ∀ x c, cl.lookup x = some c -> X.env.cells.lookup x = some c) (hcf : ∀ x, (x, NameKind.free) ∈ scope.names -> ∃ c, cl.lookup x = some c)
  (hj : ∀ (i j : Nat) y, Nf[i]? = some y -> js[i]? = some j -> X.N[j]? = some y) (hlen : js.length = Nf.length)
  (hNf : ∀ y ∈ Nf, (y, NameKind.free) ∈ scope.names /\ Vis X.env.scope y /\ X.env.kindOf y ≠ some .local)
  (hvis : ∀ y ∈ Nf, (relabel scope X.env).names.lookup y = some .cell \/ (relabel scope X.env).names.lookup y = some .free)
  (hn : h1.Ns (s.heap.objs.size + 1) mC) (hs : Heap.SameBut (s.heap.objs.size + 1) ((s.heap.push { cls := .type "list", dict := none, data := .seq ([] : List Value).toArray }).push { cls := .type "dict", data := .dict #[] }) h1) :
  Inv (X.cp (Nl ++ Nf) scope cl (s.heap.objs.size + 1) { s with heap := s.heap.push { cls := .type "list", dict := none, data := .seq ([] : List Value).toArray } } (upd H s.heap.objs.size (.lst [])) fp) [] (List.replicate Nl.length none ++ pj js σ) (upd H s.heap.objs.size (.lst [])) { s with heap := h1, toks := tk } := by
 have fD : H s.heap.objs.size = none := I.hok.fresh (Nat.le_refl _)
 have up1 : ∀ b u, s.heap.get? b = some u -> (s.heap.push { cls := .type "list", dict := none, data := .seq ([] : List Value).toArray }).get? b = some u := fun b u q => Heap.get?_push_of_some _ q
 have szp : (s.heap.push { cls := .type "list", dict := none, data := .seq ([] : List Value).toArray }).objs.size = s.heap.objs.size + 1 := Heap.size_push ..
 have up2 : ∀ b u, (s.heap.push { cls := .type "list", dict := none, data := .seq ([] : List Value).toArray }).get? b = some u -> h1.get? b = some u := fun b u q => by
  have hlt := Heap.lt_size q
  rw [szp] at hlt
  exact (hs.2 b (Nat.ne_of_lt hlt)).trans (Heap.get?_push_of_some _ q)
 have up : ∀ b u, s.heap.get? b = some u -> h1.get? b = some u := fun b u q => up2 b u (up1 b u q)
 have ltOf : ∀ b o, s.heap.get? b = some o -> b ≠ s.heap.objs.size := fun b o q => Nat.ne_of_lt (Heap.lt_size q)
 have fr0 : ∀ b o, s.heap.get? b = some o -> H b = none -> upd H s.heap.objs.size (.lst []) b = none := fun b o q n => by rw [upd_ne (ltOf b o q)]; exact n
 have hasC : ∀ x, ((relabel scope X.env).names.lookup x = some .cell \/ (relabel scope X.env).names.lookup x = some .free) -> ∃ c, cl.lookup x = some c := fun x hx => hcf x (relabel_free hcell hx)
 have hokD : HOk X.prog X.w (upd H s.heap.objs.size (.lst [])) (s.heap.push { cls := .type "list", dict := none, data := .seq ([] : List Value).toArray }) :=
  I.hok.laid up1 (Nat.le_refl _) ⟨Nat.zero_le _, [], _, .nil, Heap.get?_push_size _ rfl⟩
 have cellK : ∀ x c, cl.lookup x = some c -> ∃ v, s.heap.IsCell c v := fun x c e => I.cell x c (hcl x c e)
 have cellUp : ∀ c v, s.heap.IsCell c v -> h1.IsCell c v := fun c v ⟨o, q, r⟩ => ⟨o, up _ _ q, r⟩
 refine ⟨⟨I.ok.mod, hk, I.ok.glob, I.ok.blt, (by show (s.heap.push _).objs.size <= _; rw [szp]; exact Nat.le_refl _), fun x y c e1 e2 => I.ok.inj x y c (hcl x c e1) (hcl y c e2), fun x hx => hasC x hx, (fun x c z => nomatch z), I.ok.hd, I.ok.frames, .inl rfl, fun b hb => ⟨?_, fun x c e => ?_⟩, fun b o q => ?_, ?_, fun b o q hb => ?_, fun b hb hb2 => ?_, ?_, fun b hb => ?_, (I.ok.tab.un I.base).laid fD⟩,
  rfl, I.bare, Un.kept up2, ⟨mC, hn, fun i y v e1 e2 e3 => ?_⟩, fun x c e => ?_, ?_, fun x c e => ?_, fun p hp => (by cases hp), hokD.kept up2, ?_⟩
 ·obtain ⟨o, q, _⟩ := hob b hb
  exact Nat.ne_of_lt (Nat.lt_succ_of_lt (Heap.lt_size q))
 ·exact (hfp b hb).2.2.2.2.1 x c (hcl x c e)
 ·obtain ⟨q1, q2⟩ := I.bs b o q
  exact ⟨up1 _ _ q1, fr0 b o q1 q2⟩
 ·show X.base.objs.size <= (s.heap.push _).objs.size
  rw [szp]
  exact Nat.le_succ_of_le (Nat.le_trans I.ok.bsz I.sz)
 ·rcases (hfp b hb).2.2.2.1 with z | z
  ·exact I.ok.noex b o q z
  ·obtain ⟨q1, _⟩ := I.ok.bs b o q
   exact absurd (Heap.lt_size q1) (Nat.not_lt.mpr z)
 ·rcases List.mem_cons.mp (I.stkSub b hb2) with z | z
  ·exact (hfp b hb).2.1 z
  ·exact (hfp b hb).2.2.1 z
 ·exact I.stack.of_keeps fun b o q _ => ⟨o, up1 _ _ q, rfl⟩
 ·obtain ⟨_, o, q, _⟩ := I.stack.mem hb
  exact fr0 b o q (I.stkFree b hb)
 ·-- the names
  have e2' : (List.replicate Nl.length none ++ pj js σ)[i]? = some (some v) := e2
  have e1' : (Nl ++ Nf)[i]? = some y := e1
  by_cases hi : i < Nl.length
  ·rw [List.getElem?_append_left (by simpa using hi), List.getElem?_replicate] at e2'
   split at e2' <;> cases e2'
  ·have hi' : Nl.length <= i := Nat.not_lt.mp hi
   rw [List.getElem?_append_right (by simpa using hi')] at e2'
   rw [List.getElem?_append_right hi'] at e1'
   rw [List.length_replicate] at e2'
   obtain ⟨j, ej, eσ⟩ := pj_get e2'
   have hNy := hj _ _ _ e1' ej
   obtain ⟨hfr, hv, hnl⟩ := hNf y (List.mem_of_getElem? e1')
   obtain ⟨m, hm, hl⟩ := I.loc
   obtain ⟨u, r, l⟩ := hl j y v hNy eσ hv
   refine ⟨u, r, ?_⟩
   rcases l with ⟨k, _⟩ | ⟨k, c, ec, z⟩
   ·exact absurd k hnl
   ·obtain ⟨c', ec'⟩ := hcf y hfr
    have := hcl y c' ec'
    rw [ec] at this
    cases this
    exact .inr ⟨hvis y (List.mem_of_getElem? e1'), c, ec', cellUp _ _ z⟩
 ·obtain ⟨v, z⟩ := cellK x c e
  exact ⟨v, cellUp _ _ z⟩
 ·show upd H s.heap.objs.size (.lst []) (s.heap.objs.size + 1) = none
  rw [upd_ne (Nat.succ_ne_self _)]
  exact I.hok.fresh (Nat.le_succ _)
 ·obtain ⟨v, o, q, _⟩ := cellK x c e
  exact fr0 c o q (I.freeC x c (hcl x c e))
 ·show (List.replicate Nl.length none ++ pj js σ).length = (Nl ++ Nf).length
  rw [List.length_append, List.length_append, List.length_replicate]
  unfold pj
  rw [List.length_map, hlen]
theorem cp_end {pins : List (Addr × Obj)} {σ σ' : St} {H H' : Hp} {s s' : Shared} {Nc : List Str} {fp : List Addr} {cl : List (Str × Addr)} {h' : Heap}
  (I : Inv X pins σ H s) (hfp : ∀ b ∈ fp, FpOk X pins H b)
  (J : Inv (X.cp Nc scope cl (s.heap.objs.size + 1) { s with heap := s.heap.push { cls := .type "list", dict := none, data := .seq ([] : List Value).toArray } } (upd H s.heap.objs.size (.lst [])) fp) [] σ' H' s')
  (hs : Heap.SameBut (s.heap.objs.size + 1) s'.heap h') : Inv X pins σ H' { s' with heap := h' } := by
 have fD : H s.heap.objs.size = none := I.hok.fresh (Nat.le_refl _)
 have up1 : ∀ b u, s.heap.get? b = some u -> (s.heap.push { cls := .type "list", dict := none, data := .seq ([] : List Value).toArray }).get? b = some u := fun b u q => Heap.get?_push_of_some _ q
 have neC : ∀ b o, s.heap.get? b = some o -> b ≠ s.heap.objs.size + 1 := fun b o q => Nat.ne_of_lt (Nat.lt_succ_of_lt (Heap.lt_size q))
 have fr0 : ∀ b o, s.heap.get? b = some o -> H b = none -> upd H s.heap.objs.size (.lst []) b = none := fun b o q n => by rw [upd_ne (Nat.ne_of_lt (Heap.lt_size q))]; exact n
 have old : ∀ b u, H b = some u -> upd H s.heap.objs.size (.lst []) b = some u := fun b u q => by rw [upd_ne (ne_of_none q fD)]; exact q
 have B : Un (frs X.stack) fp (upd H s.heap.objs.size (.lst [])) H' (s.heap.push { cls := .type "list", dict := none, data := .seq ([] : List Value).toArray }) s'.heap := J.base
 have hC : H' (s.heap.objs.size + 1) = none := J.free
 refine I.call' (s' := { s' with heap := h' }) (ch := fp) (J.os.trans rfl) ⟨fun b o q n hb hx => ?_, fun b o q n hb hx => ?_, fun b o q n hx => B.free b o (up1 _ _ q) (fr0 b o q n) hx, fun b o q hx => ?_, fun b xs q => B.tups b xs (old _ _ q), fun b o u q => B.frzs b o u (old _ _ q), fun b ps q => B.tbls b ps (old _ _ q)⟩ (fun a o q => ?_) J.bare fun b hb => ?_
 ·exact (hs.2 b (neC b o q)).trans (B.keep b o (up1 _ _ q) (fr0 b o q n) hb hx)
 ·obtain ⟨sl, z⟩ := B.slot b o (up1 _ _ q) (fr0 b o q n) hb hx
  exact ⟨sl, (hs.2 b (neC b o q)).trans z⟩
 ·obtain ⟨o', z⟩ := B.there b o (up1 _ _ q) hx
  exact ⟨o', (hs.2 b (neC b o q)).trans z⟩
 ·refine (J.hok a o q).stay (fun c v hc z => (hs.2 c ?_).trans z) (fun _ z => z) fun _ _ _ z => z
  rintro rfl
  rcases hc with rfl | hc
  ·rw [hC] at q; cases q
  ·rw [hC] at hc; cases hc
 ·obtain ⟨_, f1, f2, f3, f4, f5⟩ := hfp b hb
  exact ⟨f3, f1, f4, f5⟩
theorem pe_comp {Nl Nf : List Str} {js : List Nat} (hc : X.calm = true) (hi : PI X target iter wi)
  (hk : scope.kind = .function) (hcell : ∀ y ∈ scope.names, y.2 ≠ .cell) (hnames : ∀ x ∈ scope.names, x.2 = .local -> scope.names.lookup x.1 = some .local)
  (hfree : ∀ x ∈ scope.names, x.2 = .free -> X.env.kindOf x.1 = some .cell \/ X.env.kindOf x.1 = some .free)
  (hj : ∀ (i j : Nat) y, Nf[i]? = some y -> js[i]? = some j -> X.N[j]? = some y) (hlen : js.length = Nf.length)
  (hNf : ∀ y ∈ Nf, (y, NameKind.free) ∈ scope.names /\ Vis X.env.scope y /\ X.env.kindOf y ≠ some .local)
  (hvis : ∀ y ∈ Nf, (relabel scope X.env).names.lookup y = some .cell \/ (relabel scope X.env).names.lookup y = some .free)
  (hg : ∀ cl C s₀ H₀ ex, PG (X.cp (Nl ++ Nf) scope cl C s₀ H₀ ex) target g) (ht : ∀ cl C s₀ H₀ ex, PTs (X.cp (Nl ++ Nf) scope cl C s₀ H₀ ex) ifs tc) (he : ∀ cl C s₀ H₀ ex, PE (X.cp (Nl ++ Nf) scope cl C s₀ H₀ ex) elt te)
  (hs : ∀ x, foldedSetIterable iter X.env x = pure x := by intro _; rfl) :
  PE X (.ListComp elt [⟨target, iter, ifs, 0⟩] scope pos) (tComp wi Nl.length js g tc te) := by
 intro pins s σ H Q I h
 obtain ⟨cl, hclos, hcl, hcf⟩ := closure_ok (scope := scope) (env := X.env) fun x hx hf => I.ok.has x.1 (hfree x hx hf)
 rw [eval_ListComp]
 refine wpAny_comprehension_free (use := none) rfl hs hclos hk hnames (thn (hi pins s σ H _ I h) fun v s1 h1 => thn h1 fun itv s2 h2 => ?_)
 obtain ⟨it, fp, tn, J, H2, e, I2, T, st2, f2, rd⟩ := h2
 subst e
 refine wpAny_newObj_type (wpAny_newFunctionEnv hcell (by intro y hy; simp at hy) (fun h₁ hns₁ hsb₁ => ?_) hk)
 dsimp only at hns₁ hsb₁ |-
 have szp : (s2.heap.push { cls := .type "list", dict := none, data := .seq ([] : List Value).toArray }).objs.size = s2.heap.objs.size + 1 := Heap.size_push ..
 rw [szp] at hns₁ hsb₁ |-
 have fD : H2 s2.heap.objs.size = none := I2.hok.fresh (Nat.le_refl _)
 obtain ⟨W, ⟨m0, w0⟩, turn⟩ := rd s2.heap.objs.size fD
 have obj2 := T.obj 0 s2.heap st2
 have IS := cp_start (Nl := Nl) (Nf := Nf) (js := js) (cl := cl) (tk := s2.toks + ([] : List (Str × Value)).length) I2 f2 obj2 hk hcell hcl hcf hj hlen hNf hvis hns₁ hsb₁
 have upS : ∀ b u, s2.heap.get? b = some u -> h₁.get? b = some u := fun b u q => by
  have hlt := Heap.lt_size q
  exact (hsb₁.2 b (Nat.ne_of_lt (Nat.lt_succ_of_lt hlt))).trans (Heap.get?_push_of_some _ (Heap.get?_push_of_some _ q))
 have stS : tn 0 h₁ := T.keep 0 s2.heap h₁ st2 fun b hb o q => upS b o q
 have noD : ∀ b ∈ fp, upd H2 s2.heap.objs.size (.lst []) b = none := fun b hb => by
  obtain ⟨o, q, _⟩ := obj2 b hb
  rw [upd_ne (Nat.ne_of_lt (Heap.lt_size q))]
  exact (f2 b hb).1
 have stat : ∀ {H' : Hp}, (∀ b ∈ fp, H' b = none) -> ∀ b ∈ fp, FpOk (X.cp (Nl ++ Nf) scope cl (s2.heap.objs.size + 1) { s2 with heap := s2.heap.push { cls := .type "list", dict := none, data := .seq ([] : List Value).toArray } } (upd H2 s2.heap.objs.size (.lst [])) fp) [] H' b := fun hn b hb => by
  refine ⟨hn b hb, (IS.ok.exf b hb).1, IS.ok.exfs b hb, .inl hb, (IS.ok.exf b hb).2, fun p hp => (by cases hp)⟩
 have loop : ∀ s4 : Shared, s4 = { s2 with heap := h₁, toks := s2.toks + ([] : List (Str × Value)).length } ->
   codeAny (model X.prog X.w) X.A (.compLoop (.ListComp elt [⟨target, iter, ifs, 0⟩] scope pos) 0 (.ref it) (.ref s2.heap.objs.size) (compEnvC scope cl (s2.heap.objs.size + 1) X.env))
    (compPost (model X.prog X.w) X.A X.xe none (EP X pins σ Q) (.ref s2.heap.objs.size) (s2.heap.objs.size + 1)) s4 := by
  rintro s4 rfl
  refine comp_loop (fun n s' => ∃ i H', Inv (X.cp (Nl ++ Nf) scope cl (s2.heap.objs.size + 1) { s2 with heap := s2.heap.push { cls := .type "list", dict := none, data := .seq ([] : List Value).toArray } } (upd H2 s2.heap.objs.size (.lst [])) fp) [] (List.replicate Nl.length none ++ pj js σ) H' s' /\ tn i s'.heap /\ (∀ b ∈ fp, H' b = none) /\ W i n H') ?_ m0 ⟨0, _, IS, stS, noD, w0⟩
  rintro n s3 ⟨i, H3, I3, st3, fr3, w3⟩
  rcases turn i n H3 w3 with ⟨stop, qn⟩ | ⟨go, step⟩
  ·refine thn (T.done (X.cp (Nl ++ Nf) scope cl (s2.heap.objs.size + 1) { s2 with heap := s2.heap.push { cls := .type "list", dict := none, data := .seq ([] : List Value).toArray } } (upd H2 s2.heap.objs.size (.lst [])) fp) rfl rfl rfl hc i [] s3 _ H3 _ I3 (stat fr3) st3 stop) fun r s5 ⟨hr, I5⟩ => ?_
   subst hr
   obtain ⟨m5, hn5, _⟩ := I5.loc
   refine ⟨m5, hn5, fun h' hs' => ⟨.ref s2.heap.objs.size, H3, cp_end I2 f2 I5 hs', rfl, qn⟩⟩
  ·refine thn (T.item (X.cp (Nl ++ Nf) scope cl (s2.heap.objs.size + 1) { s2 with heap := s2.heap.push { cls := .type "list", dict := none, data := .seq ([] : List Value).toArray } } (upd H2 s2.heap.objs.size (.lst [])) fp) rfl rfl rfl hc i [] s3 _ H3 _ I3 (stat fr3) st3 go) fun r s5 ⟨u, hr, h5⟩ => ?_
   subst hr
   refine thn h5 fun _ s6 ⟨x, H6, I6, r6, y6, st6, fr6⟩ => ?_
   have I6' := I6.pinned (stat fr6) (T.obj _ _ st6)
   refine thn (hg _ _ _ _ _ _ s6 _ H6 x u _ I6' r6 (step x H6 y6)) fun _ s7 ⟨σ7, H7, I7, kp, q7⟩ => ?_
   refine thn (ht _ _ _ _ _ _ s7 σ7 H7 _ I7 q7) fun ok s8 ⟨H8, I8, q8⟩ => ?_
   have again : ∀ {σ9 : St} {H9 : Hp} {s9 : Shared}, Inv (X.cp (Nl ++ Nf) scope cl (s2.heap.objs.size + 1) { s2 with heap := s2.heap.push { cls := .type "list", dict := none, data := .seq ([] : List Value).toArray } } (upd H2 s2.heap.objs.size (.lst [])) fp) ([] ++ pinsAt fp s6.heap) σ9 H9 s9 ->
     Kp (List.replicate Nl.length none ++ pj js σ) σ9 -> (∃ m', m' < n /\ W (i + 1) m' H9) -> ∃ m, m < n /\ ∃ i H', Inv (X.cp (Nl ++ Nf) scope cl (s2.heap.objs.size + 1) { s2 with heap := s2.heap.push { cls := .type "list", dict := none, data := .seq ([] : List Value).toArray } } (upd H2 s2.heap.objs.size (.lst [])) fp) [] (List.replicate Nl.length none ++ pj js σ) H' s9 /\ tn i s9.heap /\ (∀ b ∈ fp, H' b = none) /\ W i m H' := fun {σ9 H9 s9} I9 hw ⟨m', hm, w9⟩ => by
    refine ⟨m', hm, i + 1, H9, I9.unpinned.weak (by rw [I9.len, <- IS.len]) hw, T.keep _ _ _ st6 fun b hb o q => (I9.pin (b, o) (List.mem_append_right _ (List.mem_append_right _ (mem_pinsAt hb q)))).1, fun b hb => ?_, w9⟩
    obtain ⟨o, q, d⟩ := T.obj _ _ st6 b hb
    exact (I9.pin (b, o) (List.mem_append_right _ (List.mem_append_right _ (mem_pinsAt hb q)))).2.1
   cases ok with
   | false => exact again I8 kp (by simpa using q8)
   | true =>
    have q8' := by simpa only [if_true] using q8
    refine thn (he _ _ _ _ _ _ s8 σ7 H8 _ I8 q8') fun y s9 ⟨yv, H9, I9, r9, ys, hD, hz, q9⟩ => ?_
    refine thn (mt_append _ s9 σ7 H9 (.ref s2.heap.objs.size) [yv] (.ref s2.heap.objs.size) [y] (fun v H' => v = .non /\ H' = upd H9 s2.heap.objs.size (.lst (ys ++ [yv]))) I9 rfl (.cons r9 .nil) ⟨_, ys, yv, rfl, rfl, hD, hz, rfl, rfl⟩) fun _ s10 ⟨_, H10, I10, _, _, e10⟩ => ?_
    subst e10
    exact again I10 kp q9
 exact codeAny_compStart_list (loop _ rfl) (T.self X.A 0 _ _ _ stS (loop _ rfl))
end
theorem relabel_look {env : Env} : ∀ {names : List (Str × NameKind)} {x : Str}, names.lookup x = some .free ->
  (names.map fun (n, k) => if (k == NameKind.free && env.scope.kind == .function && env.kindOf n == some .cell) then (n, NameKind.cell) else (n, k)).lookup x = some .cell \/
  (names.map fun (n, k) => if (k == NameKind.free && env.scope.kind == .function && env.kindOf n == some .cell) then (n, NameKind.cell) else (n, k)).lookup x = some .free
 | [], x, h => by cases h
 | (n, k) :: r, x, h => by
  have ih := @relabel_look env r x
  rw [List.map_cons]
  dsimp only
  by_cases hx : (x == n) = true
  ·simp only [List.lookup_cons, hx] at h
   cases h
   by_cases hq : (NameKind.free == NameKind.free && env.scope.kind == .function && env.kindOf n == some .cell) = true
   ·rw [if_pos hq]; left; simp [List.lookup_cons, hx]
   ·rw [if_neg hq]; right; simp [List.lookup_cons, hx]
  ·have hb : (x == n) = false := Bool.eq_false_iff.mpr hx
   simp only [List.lookup_cons, hb] at h
   have z := ih h
   by_cases hq : (k == NameKind.free && env.scope.kind == .function && env.kindOf n == some .cell) = true
   ·rw [if_pos hq]; simpa only [List.lookup_cons, hb] using z
   ·rw [if_neg hq]; simpa only [List.lookup_cons, hb] using z
noncomputable def compOk (sc scope : Scope) (N Nf : List Str) (js : List Nat) : Bool :=
 scope.kind == .function && scope.names.all (fun y => y.2 != .cell) && scope.names.all (fun y => y.2 != .local || scope.names.lookup y.1 == some .local) &&
 scope.names.all (fun y => y.2 != .free || sc.names.lookup y.1 == some .cell || sc.names.lookup y.1 == some .free) && js.length == Nf.length &&
 (List.range js.length).all (fun i => match js[i]?, Nf[i]? with | some j, some y => N[j]? == some y | _, _ => true) &&
 Nf.all (fun y => scope.names.lookup y == some .free && (sc.names.lookup y == some .cell || sc.names.lookup y == some .free))
theorem pe_compK {X : Cx} {elt target iter : Expr} {ifs : List Expr} {scope sc : Scope} {pos : Pos} {wi : TI} {g : TG} {tc : TT} {te : TE} {Nl Nf N : List Str} {js : List Nat} (hc : X.calm = true) (hi : PI X target iter wi)
  (ok : compOk sc scope N Nf js = true)
  (hg : ∀ cl C s₀ H₀ ex, PG (X.cp (Nl ++ Nf) scope cl C s₀ H₀ ex) target g) (ht : ∀ cl C s₀ H₀ ex, PTs (X.cp (Nl ++ Nf) scope cl C s₀ H₀ ex) ifs tc) (he : ∀ cl C s₀ H₀ ex, PE (X.cp (Nl ++ Nf) scope cl C s₀ H₀ ex) elt te)
  (hsc : X.env.scope = sc := by rfl) (hN : X.N = N := by rfl) (hs : ∀ x, foldedSetIterable iter X.env x = pure x := by intro _; rfl) :
  PE X (.ListComp elt [⟨target, iter, ifs, 0⟩] scope pos) (tComp wi Nl.length js g tc te) := by
 unfold compOk at ok
 simp only [Bool.and_eq_true, List.all_eq_true, beq_iff_eq, bne_iff_ne, Bool.or_eq_true, List.mem_range] at ok
 obtain ⟨⟨⟨⟨⟨⟨k1, k2⟩, k3⟩, k4⟩, k5⟩, k6⟩, k7⟩ := ok
 have kind : ∀ x, X.env.kindOf x = sc.names.lookup x := fun x => by rw [<- hsc]; rfl
 refine pe_comp hc hi k1 k2 (fun x hx hl => (k3 x hx).resolve_left fun z => z hl) (fun x hx hf => ?_) (fun i j y e1 e2 => ?_) k5 (fun y hy => ?_) (fun y hy => ?_) hg ht he hs
 ·rw [kind]
  rcases k4 x hx with (z | z) | z
  ·exact absurd hf z
  ·exact .inl z
  ·exact .inr z
 ·have hlt : i < js.length := (List.getElem?_eq_some_iff.mp e2).1
  have z := k6 i hlt
  rw [e1, e2] at z
  rw [hN]
  simpa using z
 ·obtain ⟨z1, z2⟩ := k7 y hy
  refine ⟨PySem.mem_of_lookup z1, ?_, ?_⟩
  ·rw [hsc]
   rcases z2 with z | z
   ·exact .inr (.inl z)
   ·exact .inr (.inr z)
  ·rw [kind]
   rcases z2 with z | z <;> (rw [z]; decide)
 ·exact relabel_look (k7 y hy).1
end L2
set_option Elab.async false
set_option linter.all false
set_option maxRecDepth 100000
set_option maxHeartbeats 4000000
namespace L2
open PySem PySem.Spec PyProof.Rows
abbrev TF := Str -> St -> Hp -> (Str -> Hp -> Prop) -> Prop
def PF (X : Cx) (es : List Expr) (t : TF) : Prop := ∀ (acc : Str) (pins : List (Addr × Obj)) (s : Shared) (σ : St) (H : Hp) (Q : Str -> Hp -> Prop), Inv X pins σ H s -> t acc σ H Q ->
 Joins (model X.prog X.w) X.A X.xe (evalEach es X.env) acc (fun out s' => out.length <= sizeLine /\ ∃ H', Inv X pins σ H' s' /\ Q out H') s
section
variable {X : Cx} {e : Expr} {es : List Expr} {te : TE} {t : TF} {pos : Pos}
end
namespace RevT
theorem hint : typeLookup (.type "list_reverseiterator") "__length_hint__" = pure (some (.builtin "list_reverseiterator.__length_hint__")) := by rw [typeLookup_type, builtinLookup_eq_fast]; kernel_rfl
section
variable {prog : Program} {w : World} {A : Around} {E : Value -> Shared -> Prop} {s : Shared} {I : Addr} {fp wr : List Addr} {G : Array GenState -> Array GenState -> Prop} {n : Nat} {P : Nat -> Value -> Prop} {St : Nat -> Shared -> Prop}
end
open AutoSeq1 (wpAny_loadPart')
end RevT
end L2
set_option Elab.async false
set_option linter.all false
set_option maxRecDepth 100000
set_option maxHeartbeats 4000000
namespace L2
open PySem PySem.Spec PyProof.Rows
structure ExcCls (K : PySem.W.Frag) (D : Addr) : Prop where
 ga : PySem.W.findIn K (.ref D) "__getattribute__" = some (some (.builtin "BaseException.__getattribute__"))
 gt : PySem.W.findIn K (.ref D) "__getattr__" = some none
 cl : PySem.W.findIn K (.ref D) "__class__" = some (some (.builtin "object.__class__"))
 gs : PySem.W.specialIn K (.builtin "object.__class__") "__get__" = some (some (.builtin "getset_descriptor.__get__"))
 tk : PySem.W.takesIn K (.builtin "object.__class__") = some true
 mo : PySem.W.mroIn K D (.type "object") = some true
 mb : PySem.W.mroIn K D (.type "BaseException") = some true
 cd : (PySem.W.clsIn K D).isSome = true
noncomputable def excClsIn (K : PySem.W.Frag) (D : Addr) : Bool :=
 PySem.W.findIn K (.ref D) "__getattribute__" == some (some (.builtin "BaseException.__getattribute__")) && PySem.W.findIn K (.ref D) "__getattr__" == some none &&
 PySem.W.findIn K (.ref D) "__class__" == some (some (.builtin "object.__class__")) && PySem.W.specialIn K (.builtin "object.__class__") "__get__" == some (some (.builtin "getset_descriptor.__get__")) &&
 PySem.W.takesIn K (.builtin "object.__class__") == some true && PySem.W.mroIn K D (.type "object") == some true && PySem.W.mroIn K D (.type "BaseException") == some true && (PySem.W.clsIn K D).isSome
section
variable {prog : Program} {w : World} {A : Around} {E : Value -> Shared -> Prop} {s : Shared} {K : PySem.W.Frag} {e D : Addr}
open PySem.W Builtin Builtin.ObjectAttr Builtin.Getset_descriptor
end
end L2
set_option Elab.async false
set_option linter.all false
set_option maxRecDepth 100000
set_option maxHeartbeats 4000000
namespace L2
open PySem PySem.Spec PyProof.Rows
structure Cal (P : Program) (w : World) (K : PySem.W.Frag) (mg : Str -> Option Value) (base : Heap) (k : Nat) (x : Str) (ps : List Str) (sp : Sp) : Prop where
 ex : ∃ f fd, FnOk P w K mg base (CX1 P w) k f fd ps sp /\ mg x = some (.ref f) /\ PySem.W.keepIn K (.ref f) = true /\ Binds K fd ps []
structure CalH (P : Program) (w : World) (K : PySem.W.Frag) (mg : Str -> Option Value) (base : Heap) (k : Nat) (x : Str) (ps : List Str) (sp : Sp) : Prop where
 ex : ∃ f fd, FnOkH P w K mg base k f fd ps sp /\ mg x = some (.ref f) /\ PySem.W.keepIn K (.ref f) = true /\ Binds K fd ps []
structure At (K : PySem.W.Frag) (mg : Str -> Option Value) (x : Str) (st : Stmt) (ps : List Str) : Prop where
 ex : ∃ f fd, Fun K x x st f fd /\ mg x = some (.ref f) /\ Binds K fd ps []
section
variable {P : Program} {w : World} {K : PySem.W.Frag} {mg : Str -> Option Value} {base : Heap}
theorem At.cal {x : Str} {st : Stmt} {N ps : List Str} {k : Nat} {sp : Sp} (F : At K mg x st ps) (S : FnScope N ps (defScope st)) (len : ∀ vs H Q E, sp vs H Q E -> vs.length = ps.length)
  (hbody : ∀ (f : Addr) (cdv : Value) (A : Around) (outer : List Env) (s : Shared) (H : Hp) (vs : List V) (Q : VK) (E : XK), Room k (A.deeper (envOfC x (defScope st) s.heap.objs.size f cdv)) -> sp vs H Q E ->
   ∃ t, PSs (cxOf (CX1 P w) P w K mg base N x (defScope st) f cdv A outer s H E) (defBody st) t /\ t { nx := fun _ H' => Q .non H', rt := Q } (start N vs) H) : Cal P w K mg base (k + 1) x ps sp := by
 obtain ⟨f, fd, F, m, b⟩ := F.ex
 exact ⟨f, fd, F.okX S len (hbody f), m, F.kp, b⟩
end
section
variable {X : Cx} {k : Nat} {ps : List Str} {sp : Sp} {EE : St -> XK} {x : Str} {p pos : Pos} {e : Expr} {es : List Expr} {t : TA}
theorem pe_cal (C : Cal X.prog X.w X.K X.mg X.base k x ps sp) (hr : Room k X.A) (hx : PassX (CX1 X.prog X.w) X EE) (ha : PA X (e :: es) t) (hg : Gl X x := by rfl)
  (hdb : (x == ("__debug__" : Str)) = false := by decide) (he : starEach (e :: es) X.env = (false, eval e X.env) :: starEach es X.env := by rfl) (hpl : (backTo pos (starEach es X.env)).any (·.1) = false := by rfl) :
  PE X (.Call (.Name x p) (e :: es) [] pos) (tCallX sp [] EE t) := by
 obtain ⟨f, fd, F, m, kp, b⟩ := C.ex
 exact pe_callX F hr hg m kp b .nil hx ha hdb he hpl
end
section
variable {X : Cx} {e : Expr} {es : List Expr} {te : TE} {t : TA} {pos pos' p : Pos} {x : Str}
theorem ps_st (i : Nat) (hN : X.N.Nodup) (he : PE X e te) (hi : X.N[i]? = some x := by rfl) (hx : Loc X.env.scope x := by walk_at "3") (hs : swapsWith e (some (.Name x pos')) pos.line X.env = pure false := by rfl) (hf : X.fn x = true \/ X.env.scope.names.lookup x = some .local := by walk_at "2") :
  PS X (.Assign [.Name x pos'] e pos) (tAsg te (gName i)) := ps_set hN hi hx he hs hf
theorem pg_nm (i : Nat) (hN : X.N.Nodup) (hi : X.N[i]? = some x := by rfl) (hx : Loc X.env.scope x := by walk_at "3") (hf : X.fn x = true \/ X.env.scope.names.lookup x = some .local := by walk_at "2") : PG X (.Name x pos) (gName i) := pg_name hN hi hx hf
theorem pe_app {o : Expr} {to : TE} {apos : Pos} (ho : PE X o to) (ha : PA X (e :: es) t) (hbase : attributeBase o "append" X.env (eval o X.env) = eval o X.env := by rfl)
  (hfew : ((backTo pos (starEach (e :: es) X.env)).all (fun x => !x.1) && (backToKw pos (keywordEach [] X.env)).all (fun x => x.1.isSome) && decide ((e :: es).length + ([] : List Keyword).length + (if ([] : List Keyword).isEmpty then 0 else 1) < 30)) = true := by rfl)
  (hline : (apos.endLine == pos.line) = true := by rfl) (hs : starEach (e :: es) X.env = (false, eval e X.env) :: starEach es X.env := by rfl) (hplain : (backTo pos (starEach es X.env)).any (·.1) = false := by rfl) :
  PE X (.Call (.Attribute o "append" apos) (e :: es) [] pos) (tBM X.K "list" rAppend to t) := pe_bm PySem.F.plainAttrs_list PySem.F.slot_list_append PySem.F.type_list_append mt_append ho ha hbase hfew hline hs hplain
end
theorem same_upd {H : Hp} {p : Addr} (h : H p = none) (o : HO) : Same H (upd H p o) := fun b u q => by rw [upd_ne (ne_of_none q h)]; exact q
theorem Same.tup {K : PySem.W.Frag} {H H' : Hp} {a : Addr} {xs : List V} (e : Same H H') (h : SqT K H a xs) : SqT K H' a xs := by
 rcases h with (h | ⟨o, h⟩) | h
 ·exact .inl (.inl (e _ _ h))
 ·exact .inl (.inr ⟨o, e _ _ h⟩)
 ·exact .inr h
end L2
set_option Elab.async false
set_option linter.all false
set_option maxRecDepth 100000
set_option maxHeartbeats 4000000
namespace L2
open PySem PySem.Spec PyProof.Rows
noncomputable abbrev rawO (o : Obj) : HO := .frz o (.own 0)
noncomputable abbrev fnO (o : Obj) (q : Str) (c : Addr) : HO := .frz o (.tbl #[.bool false, .str q 0, .ref c])
noncomputable abbrev celO (o : Obj) : HO := .frz o (.ext fun _ => True)
noncomputable abbrev Cs := List (Addr × Obj)
noncomputable def rmC (H : Hp) (cs : Cs) : Hp := fun b => match cs.lookup b with
 | some _ => none
 | none => H b
noncomputable def addC (H : Hp) (cs : Cs) : Hp := fun b => match cs.lookup b with
 | some o => some (celO o)
 | none => H b
section
variable {H H' : Hp} {cs : Cs} {b : Addr} {o : Obj} {u : HO}
theorem rmC_in (h : cs.lookup b = some o) : rmC H cs b = none := by unfold rmC; rw [h]
theorem rmC_out (h : cs.lookup b = none) : rmC H cs b = H b := by unfold rmC; rw [h]
theorem addC_in (h : cs.lookup b = some o) : addC H cs b = some (celO o) := by unfold addC; rw [h]
theorem addC_out (h : cs.lookup b = none) : addC H cs b = H b := by unfold addC; rw [h]
theorem rmC_none (h : H b = none) : rmC H cs b = none := by unfold rmC; split <;> first | rfl | exact h
def CelsIn (H : Hp) (cs : Cs) : Prop := ∀ b o, cs.lookup b = some o -> H b = some (celO o)
theorem CelsIn.out (c : CelsIn H cs) (h : H b = none) : cs.lookup b = none := by
 cases q : cs.lookup b with
 | none => rfl
 | some o => rw [c b o q] at h; cases h
theorem CelsIn.out' (c : CelsIn H cs) (h : H b = some u) (n : ∀ o, u ≠ celO o) : cs.lookup b = none := by
 cases q : cs.lookup b with
 | none => rfl
 | some o => rw [c b o q] at h; cases h; exact absurd rfl (n o)
theorem CelsIn.rm_some (c : CelsIn H cs) (h : H b = some u) (n : ∀ o, u ≠ celO o) : rmC H cs b = some u := by rw [rmC_out (c.out' h n)]; exact h
theorem of_rm (h : rmC H cs b = some u) : H b = some u /\ cs.lookup b = none := by
 unfold rmC at h
 split at h
 ·cases h
 ·rename_i q; exact ⟨h, q⟩
theorem tupLike_cel (t : TupLike u) : ∀ o, u ≠ celO o := fun o z => by subst z; exact t
end
section
variable {P : Program} {w : World} {H H' : Hp} {h h' : Heap} {cs : Cs} {fs ex : List Addr}
theorem HOk.rm (x : HOk P w H h) (c : CelsIn H cs) : HOk P w (rmC H cs) h := fun a u e => by
 obtain ⟨e1, _⟩ := of_rm e
 exact (x a u e1).stay (fun b v _ q => q) (fun b q => c.rm_some q fun o z => nomatch z) fun b v t q => c.rm_some q (tupLike_cel t)
theorem HOk.add (x : HOk P w H h) (hc : ∀ b o, cs.lookup b = some o -> H b = none /\ h.get? b = some o) : HOk P w (addC H cs) h := fun a u e => by
 cases q : cs.lookup a with
 | some o =>
  rw [addC_in q] at e
  cases e
  exact ⟨(hc a o q).2, trivial, ⟨o, (hc a o q).2⟩, fun _ _ _ _ => trivial⟩
 | none =>
  rw [addC_out q] at e
  have out : ∀ b v, H b = some v -> addC H cs b = some v := fun b v z => by
   cases q2 : cs.lookup b with
   | some o => rw [(hc b o q2).1] at z; cases z
   | none => rw [addC_out q2]; exact z
  exact (x a u e).stay (fun b v _ q => q) (fun b q => out b _ q) fun b v t q => out b v q
theorem fn_code {f c : Addr} {o : Obj} {q : Str} (x : HOk P w H h) (e : H f = some (fnO o q c)) : h.get? f = some o /\ h.CodeRec (.ref c) q := by
 obtain ⟨h1, h2⟩ := (show h.get? f = some o /\ ObjOk P w H h f (.tbl #[.bool false, .str q 0, .ref c]) from x f _ e)
 refine ⟨h1, ?_⟩
 rcases h2 with ⟨_, _, p0, _⟩ | ⟨q', c', oc, ob, vs, t, _, p1, p2, h3, h4, h5, _⟩
 ·cases p0
 ·cases p1
  cases p2
  exact ⟨c, oc, vs, t, rfl, (show h.get? c = some oc /\ _ from x c _ h3).1, h4, h5⟩
theorem Un.cells (u : Un fs ex (rmC H cs) H' h h') (c : CelsIn H cs) : Un fs ex H (addC H' cs) h h' where
 keep := fun b o q n hb hx => u.keep b o q (rmC_none n) hb hx
 slot := fun b o q n hb hx => u.slot b o q (rmC_none n) hb hx
 free := fun b o q n hx => by rw [addC_out (c.out n)]; exact u.free b o q (rmC_none n) hx
 there := u.there
 tups := fun b xs q => by
  have z := c.out' q fun o z => nomatch z
  rw [addC_out z]
  exact u.tups b xs (by rw [rmC_out z]; exact q)
 frzs := fun b o v q => by
  cases z : cs.lookup b with
  | some o' =>
   rw [addC_in z]
   rw [c b o' z] at q
   exact q
  | none => rw [addC_out z]; exact u.frzs b o v (by rw [rmC_out z]; exact q)
 tbls := fun b ps q => by
  have z := c.out' q fun o z => nomatch z
  rw [addC_out z]
  exact u.tbls b ps (by rw [rmC_out z]; exact q)
theorem Un.nocells (u : Un fs ex (addC H cs) H' h h') (hok : HOk P w H' h') (hc : ∀ b o, cs.lookup b = some o -> H b = none /\ h.get? b = some o) : Un fs ex H (rmC H' cs) h h' := by
 have inn : ∀ b o, cs.lookup b = some o -> H' b = some (celO o) /\ h'.get? b = some o := fun b o z => by
  have q := u.frzs b o _ (addC_in z)
  exact ⟨q, (show h'.get? b = some o /\ _ from hok b _ q).1⟩
 refine ⟨fun b o q n hb hx => ?_, fun b o q n hb hx => ?_, fun b o q n hx => ?_, u.there, fun b xs q => ?_, fun b o v q => ?_, fun b ps q => ?_⟩
 ·cases z : cs.lookup b with
  | some o' =>
   have := (hc b o' z).2
   rw [q] at this
   cases this
   exact (inn b _ z).2
  | none => exact u.keep b o q (by rw [addC_out z]; exact n) hb hx
 ·cases z : cs.lookup b with
  | some o' =>
   have := (hc b o' z).2
   rw [q] at this
   cases this
   exact ⟨o.slots, (inn b _ z).2⟩
  | none => exact u.slot b o q (by rw [addC_out z]; exact n) hb hx
 ·cases z : cs.lookup b with
  | some o' => exact rmC_in z
  | none => rw [rmC_out z]; exact u.free b o q (by rw [addC_out z]; exact n) hx
 ·have z : cs.lookup b = none := by
   cases z : cs.lookup b with
   | some o' => rw [(hc b o' z).1] at q; cases q
   | none => rfl
  rw [rmC_out z]
  exact u.tups b xs (by rw [addC_out z]; exact q)
 ·have z : cs.lookup b = none := by
   cases z : cs.lookup b with
   | some o' => rw [(hc b o' z).1] at q; cases q
   | none => rfl
  rw [rmC_out z]
  exact u.frzs b o v (by rw [addC_out z]; exact q)
 ·have z : cs.lookup b = none := by
   cases z : cs.lookup b with
   | some o' => rw [(hc b o' z).1] at q; cases q
   | none => rfl
  rw [rmC_out z]
  exact u.tbls b ps (by rw [addC_out z]; exact q)
end
noncomputable abbrev lamEnv (qual : Str) (scope : Scope) (f : Addr) (cd : Value) (cl : List (Str × Addr)) (s : Shared) : Env := PySem.W.envX qual scope s.heap.objs.size f cd cl
noncomputable def cxLam (P : Program) (w : World) (K : PySem.W.Frag) (mg : Str -> Option Value) (base : Heap) (N : List Str) (qual : Str) (scope : Scope) (f : Addr) (cd : Value) (cl : List (Str × Addr)) (A : Around) (outer : List Env) (s : Shared) (H : Hp) : Cx where
 prog := P
 w := w
 K := K
 mg := mg
 base := base
 A := A.deeper (lamEnv qual scope f cd cl s)
 N := N
 s₀ := s
 H₀ := H
 env := lamEnv qual scope f cd cl s
 outer := outer
 stack := lamEnv qual scope f cd cl s :: outer
 ex := []
 calm := true
 fn := fun _ => false
 pn := []
 xe := fun _ _ => False
structure LamScope (ps Nf : List Str) (sc : Scope) : Prop where
 kind : sc.kind = .function
 co : sc.isCoroutine = false
 gen : sc.isGenerator = false
 nd : ps.Nodup
 nocell : ∀ y ∈ sc.names, y.2 ≠ .cell
 par : ∀ x ∈ ps, sc.names.lookup x = some .local
 fr : ∀ y ∈ Nf, sc.names.lookup y = some .free
structure LamCells (cl : List (Str × Addr)) (Nf : List Str) (sc : Scope) (zs : List V) (h : Heap) (cs : Cs) : Prop where
 inj : ∀ x y c, cl.lookup x = some c -> cl.lookup y = some c -> x = y
 has : ∀ x, (x, NameKind.free) ∈ sc.names -> ∃ c, cl.lookup x = some c
 all : ∀ x c, cl.lookup x = some c -> ∃ o, cs.lookup c = some o
 cel : ∀ c o, cs.lookup c = some o -> h.get? c = some o /\ ∃ v, o.data = .cell v
 val : ∀ (i : Nat) y z, Nf[i]? = some y -> zs[i]? = some z -> ∃ c o u, cl.lookup y = some c /\ cs.lookup c = some o /\ o.data = .cell (some u) /\ RelV z u
section
variable {P : Program} {w : World} {K : PySem.W.Frag} {mg : Str -> Option Value} {base : Heap} {ps Nf : List Str} {qual : Str} {scope : Scope} {f : Addr} {cd : Value} {cl : List (Str × Addr)} {A : Around} {outer : List Env} {s : Shared} {H : Hp} {us : List Value} {vs zs : List V} {cs : Cs}
theorem zip_look {v : Value} {x : Str} : ∀ {ps : List Str} {us : List Value} {i : Nat}, ps.Nodup -> ps[i]? = some x -> us[i]? = some v -> (ps.zip us).reverse.lookup x = some v := by
 intro ps us i nd h1 h2
 have hm : (x, v) ∈ (ps.zip us).reverse := List.mem_reverse.mpr (List.mem_of_getElem? (i := i) (by rw [List.getElem?_zip_eq_some]; exact ⟨h1, h2⟩))
 have hn : ((ps.zip us).reverse.map (·.1)).Nodup := by
  rw [List.map_reverse]
  show List.Pairwise (· ≠ ·) _
  rw [List.pairwise_reverse]
  refine List.Pairwise.imp (fun h => Ne.symm h) (show ((ps.zip us).map (·.1)).Nodup from ?_)
  exact nd.sublist (by
   clear hm h1 h2
   induction ps generalizing us with
   | nil => simp
   | cons p ps ih => cases us with
    | nil => simp
    | cons u us => simpa using ih (us := us) (List.nodup_cons.mp nd).2)
 generalize (ps.zip us).reverse = l at hm hn
 induction l with
 | nil => cases hm
 | cons p l ih =>
  obtain ⟨y, z⟩ := p
  rw [List.lookup_cons]
  rcases List.mem_cons.mp hm with e | hm2
  ·cases e; simp
  ·have hne : (x == y) = false := by
    rw [beq_eq_false_iff_ne]
    rintro rfl
    exact (List.nodup_cons.mp hn).1 (List.mem_map.mpr ⟨(x, v), hm2, rfl⟩)
   rw [hne]
   exact ih hm2 (List.nodup_cons.mp hn).2
theorem inv_lam {h₁ : Heap} {tk : Nat} (S : LamScope ps Nf scope) (C : LamCells cl Nf scope zs s.heap cs) (hd : A.handled = none) (e0 : Env0 P w K mg base A outer s H) (hn : ∀ c o, cs.lookup c = some o -> H c = none)
  (hl : vs.length = ps.length) (hz : zs.length = Nf.length) (r : Vals vs us)
  (ns : h₁.Ns s.heap.objs.size (fun x => (ps.zip us).reverse.lookup x)) (hs : Heap.SameBut s.heap.objs.size (s.heap.push { cls := .type "frame", data := .dict #[] }) h₁) :
  Inv (cxLam P w K mg base (ps ++ Nf) qual scope f cd cl A outer s H) [] (vs.map some ++ zs.map some) H { s with heap := h₁, toks := tk } := by
 have hk : ∀ b o, s.heap.get? b = some o -> h₁.get? b = some o := fun b o e => hs.extBut b o (Nat.ne_of_lt (Heap.lt_size e)) (Heap.get?_push_of_some _ e)
 have noA : ∀ b : Addr, b ∉ ([] : List Addr) := fun b z => nomatch z
 have nofree : ∀ x c, cl.lookup x = some c -> H c = none /\ ∃ o, s.heap.get? c = some o /\ ∃ v, o.data = .cell v := fun x c e => by
  obtain ⟨o, q⟩ := C.all x c e
  exact ⟨hn c o q, o, C.cel c o q⟩
 refine ⟨⟨e0.mod, S.kind, rfl, rfl, Nat.le_refl _, C.inj, fun y hy => ?_, (fun x c z => nomatch z), fun _ => hd, Around.frames_deeper e0.frames, .inr ⟨rfl, rfl⟩, fun b z => absurd z (noA b), e0.bs, e0.bsz, fun b _ _ => noA b, fun b z => absurd z (noA b), e0.funs, e0.frf, e0.tab⟩,
  rfl, e0.bare, Un.kept hk, ⟨_, ns, fun i y v h1 h2 h3 => ?_⟩, fun y c h => ?_, e0.hok.fresh (Nat.le_refl _), fun y c h => (nofree y c h).1, fun p hp => absurd (show p ∈ ([] : List (Addr × Obj)) from hp) (by simp), e0.hok.kept hk, ?_⟩
 ·have hy : scope.names.lookup y = some .cell \/ scope.names.lookup y = some .free := hy
  rcases hy with hy | hy
  ·exact absurd rfl (S.nocell _ (PySem.mem_of_lookup hy))
  ·exact C.has y (PySem.mem_of_lookup hy)
 ·have h1 : (ps ++ Nf)[i]? = some y := h1
  by_cases hi : i < ps.length
  ·rw [List.getElem?_append_left (by simpa [hl] using hi), List.getElem?_map] at h2
   rw [List.getElem?_append_left hi] at h1
   have ha : vs[i]? = some v := by
    cases e : vs[i]? with
    | none => rw [e] at h2; cases h2
    | some a => rw [e] at h2; cases h2; rfl
   obtain ⟨u, hu, rv⟩ := r.get ha
   exact ⟨u, rv, .inl ⟨S.par y (List.mem_of_getElem? h1), zip_look S.nd h1 hu⟩⟩
  ·have hi' : ps.length <= i := Nat.not_lt.mp hi
   rw [List.getElem?_append_right (by simpa [hl] using hi'), List.getElem?_map, List.length_map, hl] at h2
   rw [List.getElem?_append_right hi'] at h1
   have ha : zs[i - ps.length]? = some v := by
    cases e : zs[i - ps.length]? with
    | none => rw [e] at h2; cases h2
    | some a => rw [e] at h2; cases h2; rfl
   obtain ⟨c, o, u, e1, e2, e3, e4⟩ := C.val _ _ _ h1 ha
   exact ⟨u, e4, .inr ⟨.inr (S.fr y (List.mem_of_getElem? h1)), c, e1, o, hk _ _ (C.cel c o e2).1, e3⟩⟩
 ·obtain ⟨_, o, q, v, d⟩ := nofree y c h
  exact ⟨v, o, hk _ _ q, d⟩
 ·show _ = (ps ++ Nf).length
  simp [hl, hz]
theorem lam_run {CX : CXT} {k : Nat} {name : Str} {params : Arguments} {body : Expr} {pm ctv : Value} {c' : Addr} {t : TE} {Q : VK} {E : XK}
  (hr : Room (k + 1) A) (e0 : Env0 P w K mg base A outer s H) (hf : H f = some (fnO (PySem.W.kla_obj name qual params body scope cl pm c' ctv) qual c'))
  (S : LamScope ps Nf scope) (CI : CelsIn H cs) (C : LamCells cl Nf scope zs s.heap cs) (hbind : bindArgs (PySem.W.kla_fn name qual params body scope cl pm (.ref c') ctv) ⟨us, []⟩ = pure (ps.zip us))
  (hl : vs.length = ps.length) (hz : zs.length = Nf.length) (r : Vals vs us)
  (hb : PE (cxLam P w K mg base (ps ++ Nf) qual scope f (.ref c') cl A outer s (rmC H cs)) body t) (hq : t (vs.map some ++ zs.map some) (rmC H cs) fun v H' => (∀ b o, cs.lookup b = some o -> H' b = none) -> Q v (addC H' cs)) :
  codeAny (model P w) A (.call (.ref f) ⟨us, []⟩) (CR CX outer P w H s Q E) s := by
 have lim : s.heap.NoLimit := e0.mod.nolimit.keeps fun b o e => (e0.bs b o e).1
 obtain ⟨hfo, hcd⟩ := fn_code e0.hok hf
 have e1 : Env0 P w K mg base A outer s (rmC H cs) := ⟨e0.frames, e0.mod, fun b o q => ⟨(e0.bs b o q).1, rmC_none (e0.bs b o q).2⟩, e0.bsz, e0.funs, fun b hb => rmC_none (e0.frf b hb), e0.hok.rm CI, e0.bare, fun a q P m => by
  obtain ⟨ps, e, p⟩ := e0.tab a q P m
  exact ⟨ps, CI.rm_some e (fun o z => nomatch z), p⟩⟩
 refine PySem.W.kla_callFunE hr.depth hfo rfl S.co S.gen rfl hcd ?_
 rw [hbind]
 refine wpAny_pure (wpAny_newFunctionEnv S.nocell (fun y hy => S.par y.1 (List.of_mem_zip hy).1) (fun h₁ hns hsb => ⟨lim.fresh _ hsb, ?_⟩) S.kind)
 show codeAny _ _ (.expr body (lamEnv qual scope f (.ref c') cl s)) _ _
 have I := inv_lam (tk := s.toks + (ps.zip us).length) (qual := qual) (f := f) (cd := .ref c') S C hr.hd e1 (fun c o q => rmC_in q) hl hz r hns hsb
 refine PySem.W.kla_codeExpr (wpAny_mono (hb [] _ _ _ _ I hq) (fun u s' hs' => ?_) fun e s' z => False.elim z)
 obtain ⟨v, H', J, rv, q⟩ := hs'
 have un : Un (frs outer) [] (rmC H cs) H' s.heap s'.heap := J.base
 refine ⟨v, addC H' cs, J.os, J.bare, un.cells CI, J.hok.add fun b o z => ?_, rv, q fun b o z => un.free b o (C.cel b o z).1 (rmC_in z) (by simp)⟩
 have nf : b ∉ frs outer := fun hb => by
  have := e0.frf b hb
  rw [CI b o z] at this
  cases this
 have g := (C.cel b o z).1
 exact ⟨un.free b o g (rmC_in z) (by simp), un.keep b o g (rmC_in z) nf (by simp)⟩
end
def FnV (P : Program) (w : World) (K : PySem.W.Frag) (mg : Str -> Option Value) (base : Heap) (CX : CXT) (k : Nat) (sp : V -> List V -> Hp -> VK -> XK -> Prop) : Prop := ∀ (x : V) (vs : List V) (H : Hp) (Q : VK) (E : XK), sp x vs H Q E ->
 ∃ f oc od fd sl u, x = .ref f /\ H f = some (.frz ⟨oc, od, .func fd, sl⟩ u) /\ ∀ (A : Around) (outer : List Env) (s : Shared) (us : List Value), Room k A -> Env0 P w K mg base A outer s H -> Vals vs us ->
  codeAny (model P w) A (.call (.ref f) ⟨us, []⟩) (CR CX outer P w H s Q E) s
def IsFn (H : Hp) (x : V) : Prop := ∃ f oc od fd sl u, x = .ref f /\ H f = some (.frz ⟨oc, od, .func fd, sl⟩ u)
def tCallV (sp : V -> List V -> Hp -> VK -> XK -> Prop) (EE : St -> XK) (tv : TE) (t : TA) : TE := fun σ H Q => tv σ H fun x H1 => IsFn H1 x /\ t σ H1 fun vs H2 => sp x vs H2 Q (EE σ)
section
variable {X : Cx} {CX : CXT} {k : Nat} {sp : V -> List V -> Hp -> VK -> XK -> Prop} {EE : St -> XK} {x : Str} {p pos : Pos} {e : Expr} {es : List Expr} {tv : TE} {t : TA}
theorem pe_callV (F : FnV X.prog X.w X.K X.mg X.base CX k sp) (hr : Room k X.A) (hv : PE X (.Name x p) tv) (hx : PassX CX X EE) (ha : PA X (e :: es) t)
  (he : starEach (e :: es) X.env = (false, eval e X.env) :: starEach es X.env := by rfl) (hpl : (backTo pos (starEach es X.env)).any (·.1) = false := by rfl) :
  PE X (.Call (.Name x p) (e :: es) [] pos) (tCallV sp EE tv t) := by
 intro pins s σ H Q I h
 refine wpAny_Call_Name_kw (thn (hv pins s σ H _ I h) fun u s1 ⟨y, H1, I1, ry, ⟨f, oc, od, fd, sl, uu, ey, ef⟩, q⟩ => ?_)
 subst ey
 obtain rfl : u = Value.ref f := ry
 refine PySem.W.callWith_F ⟨oc, od, fd, sl, (show s1.heap.get? f = some _ /\ _ from I1.hok f _ ef).1⟩ (thn (ha pos pins s1 σ H1 _ I1 q) fun us s2 ⟨vs, H2, I2, r, q2⟩ => ?_) he hpl
 obtain ⟨f', oc', od', fd', sl', u', ex', ef', run⟩ := F _ _ _ _ _ q2
 cases ex'
 refine ⟨⟨oc', od', fd', sl', (show s2.heap.get? f = some _ /\ _ from I2.hok f _ ef').1⟩, wpAny_call (codeAny_mono (run X.A X.stack s2 us hr I2.env0 r) fun r s' hq => ?_)⟩
 cases r with
 | error e => exact hx pins σ H2 s2 e s' I2 hq
 | ok fl =>
  cases fl with
  | ret u => exact I2.after hq
  | next => exact False.elim hq
  | brk => exact False.elim hq
  | cont => exact False.elim hq
end
end L2
set_option Elab.async false
set_option linter.all false
set_option maxRecDepth 100000
set_option maxHeartbeats 4000000
namespace L2
open PySem PySem.Spec PyProof.Rows
theorem among_snoc {pos' : Pos} {a b : Int} {c cv : Value} (l : List Value) (h : TriplesOk l) (z : codeAmong pos' (l ++ [rawInt a, rawInt b, c]) = some cv) : codeAmong pos' l = some cv \/ cv = c := by
 fun_induction TriplesOk l with
 | case1 =>
  simp only [List.nil_append, codeAmong, rawInt] at z
  split at z
  ·cases z; exact .inr rfl
  ·cases z
 | case2 x t y u v rest ih =>
  simp only [List.cons_append, codeAmong] at z |-
  split at z
  ·rename_i hc; rw [if_pos hc]; exact .inl z
  ·rename_i hc; rw [if_neg hc]; exact ih h z
 | case3 => exact h.elim
def BMain (h : Heap) (mg : Str -> Option Value) : Prop := ∃ bm ob, mg "__builtins__" = some (.ref bm) /\ bm ≠ builtinsNs /\ h.get? bm = some ob /\ ob.cls = .type "module" /\ ob.dict = some builtinsNs /\ ob.data = .plain
def LamAt (X : Cx) (params : Arguments) (body : Expr) (scope : Scope) (clos : List (Str × Addr)) (f : Addr) (H H' : Hp) : Prop := closureFor scope X.env = pure clos /\ ∃ (H1 : Hp) (pm ctv : Value) (c' : Addr), (H1 = H \/ ∃ c oc, H c = none /\ H1 = upd H c (rawO oc)) /\ H1 f = none /\
 H' = upd H1 f (fnO (PySem.W.kla_obj "<lambda>" (X.env.qual ++ "<lambda>") params body scope clos pm c' ctv) (X.env.qual ++ "<lambda>") c')
def tLam (X : Cx) (params : Arguments) (body : Expr) (scope : Scope) : TE := fun _ H Q => ∀ f clos H', LamAt X params body scope clos f H H' -> Q (.ref f) H'
structure Maker (X : Cx) : Prop where
 ex : ∃ c P a, X.env.code = .ref c /\ PySem.W.codeHdIn X.K c P = true /\ (a, markO P (X.env.qual ++ "<lambda>")) ∈ X.K
 bm : BMain X.base X.mg
section
variable {X : Cx} {params : Arguments} {body : Expr} {scope : Scope} {lpos : Pos}
theorem pe_lam (M : Maker X) (hdef : defaultsOf params X.env = ([], [])) (hfree : ∀ x ∈ scope.names, x.2 = .free -> X.env.kindOf x.1 = some .cell \/ X.env.kindOf x.1 = some .free) :
  PE X (.Lambda params body scope lpos) (tLam X params body scope) := by
 intro pins s σ H Q I h
 obtain ⟨clos, hclos, _, _⟩ := closure_ok (scope := scope) (env := X.env) fun x hx hf => I.ok.has x.1 (hfree x hx hf)
 obtain ⟨c, P, a, hcode, hch, hmk⟩ := M.ex
 have hhd := PySem.W.codeHd_of_K I.mod.kin hch
 obtain ⟨ps, hP, p0, p1⟩ := I.ok.tab a _ P hmk
 obtain ⟨more, eP⟩ := I.base.tbls P ps hP
 have q0 : (ps ++ more)[0]? = some (.bool true) := by
  rw [Array.getElem?_append_left (by obtain ⟨z, _⟩ := Array.getElem?_eq_some_iff.mp p0; exact z)]; exact p0
 have q1 : (ps ++ more)[1]? = some (.str (X.env.qual ++ "<lambda>") 0) := by
  rw [Array.getElem?_append_left (by obtain ⟨z, _⟩ := Array.getElem?_eq_some_iff.mp p1; exact z)]; exact p1
 have oP : ObjOk X.prog X.w H s.heap P (.tbl (ps ++ more)) := I.hok P _ eP
 rcases oP with ⟨q, qs, r0, r1, g1, tr, cd⟩ | ⟨_, _, _, _, _, _, r0, _⟩
 case inr => rw [q0] at r0; cases r0
 rw [q1] at r1
 cases r1
 have nP : ∀ b, H b = none -> b ≠ P := fun b n z => by rw [z, eP] at n; cases n
 have hgP : mainGlobals ≠ P := by
  obtain ⟨o, es, ep, e, _⟩ := I.mod.glob
  exact nP _ (I.bs _ o e).2
 have hB : s.heap.BuiltinsAt X.mg P := by
  obtain ⟨bm, ob, b1, b2, b3, b4, b5, b6⟩ := M.bm
  refine ⟨bm, ob, b1, b2, fun z => ?_, nP _ (I.bs bm ob b3).2, (I.bs bm ob b3).1, b4, b5, b6⟩
  obtain ⟨o, es, ep, e, d, _⟩ := I.mod.glob
  rw [z, e] at b3
  cases b3
  rw [d] at b6
  cases b6
 have hns := I.mod.glob.keeps I.bk
 refine PySem.W.kla_eval hdef ?_
 cases hc : codeAmong lpos qs.toList with
 | some cv =>
  obtain ⟨c', oc, vs, t, rfl, k1, k2, k3⟩ := cd lpos cv hc
  refine PySem.W.kla_makeFunctionHit (mg := X.mg) hclos I.ok.glob hns hcode (hhd.keeps I.bk) g1 tr hc hB fun ctv h' tk hk hsz => ?_
  have fr : H h'.objs.size = none := I.hok.fresh hsz
  refine ⟨.ref h'.objs.size, _, I.laid (t' := tk) (fun b u e => Heap.get?_push_of_some _ (hk b u e)) hsz ?_, rfl, h _ clos _ ⟨hclos, H, (X.mg "__name__").getD .none, ctv, c', .inl rfl, fr, rfl⟩⟩
  exact ⟨Heap.get?_push_size _ rfl, .inr ⟨_, c', oc, _, vs, t, rfl, rfl, rfl, by rw [upd_ne (ne_of_none k1 fr)]; exact k1, k2, k3, Heap.get?_push_size _ rfl⟩⟩
 | none =>
  refine PySem.W.kla_makeFunction (mg := X.mg) hclos I.ok.glob hns hcode (hhd.keeps I.bk) g1 tr hc hgP hB fun c' ctv h' tk hx hge hlt hrec htb => ?_
  obtain ⟨c2, oc, vs, t, ec, hoc, hd, hv⟩ := hrec
  cases ec
  have fc : H c' = none := I.hok.fresh hge
  have hne : ∀ b u, H b = some u -> b ≠ c' := fun b u z => ne_of_none z fc
  have kp : ∀ b o, H b = none -> s.heap.get? b = some o -> h'.get? b = some o := fun b o n e => hx b o (nP b n) e
  have hok1 : HOk X.prog X.w (upd H c' (rawO oc)) h' := fun a u e => by
   by_cases ha : a = c'
   ·subst ha
    rw [upd_same] at e
    cases e
    exact ⟨hoc, oc, hoc⟩
   ·rw [upd_ne ha] at e
    by_cases haP : a = P
    ·subst haP
     rw [eP] at e
     cases e
     refine .inl ⟨_, _, q0, q1, htb, ?_, fun pos cv z => ?_⟩
     ·rw [Array.toList_append]
      exact TriplesOk_snoc _ _ _ _ tr
     ·rw [Array.toList_append] at z
      rcases among_snoc _ tr z with z | z
      ·obtain ⟨d, od, vd, td, k0, k1, k2, k3⟩ := cd pos cv z
       exact ⟨d, od, vd, td, k0, by rw [upd_ne (hne d _ k1)]; exact k1, k2, k3⟩
      ·exact ⟨c', oc, vs, t, z, upd_same, hd, hv⟩
    ·refine (I.hok a u e).stay (fun b v hb q => hx b v ?_ q) (fun b q => by rw [upd_ne (hne b _ q)]; exact q) fun b v _ q => by rw [upd_ne (hne b _ q)]; exact q
     rcases hb with rfl | hb
     ·exact haP
     ·rintro rfl
      rw [eP] at hb
      cases hb
  have un : Un X.fs [] H (upd H c' (rawO oc)) s.heap h' := by
   refine ⟨fun b o q n _ _ => kp b o n q, fun b o q n _ _ => ⟨o.slots, kp b o n q⟩, fun b o q n _ => ?_, fun b o q _ => ?_, fun b xs q => by rw [upd_ne (hne b _ q)]; exact q, fun b o u q => by rw [upd_ne (hne b _ q)]; exact q, fun b qs q => ⟨#[], by rw [upd_ne (hne b _ q), q]; simp⟩⟩
   ·rw [upd_ne (Nat.ne_of_lt (Nat.lt_of_lt_of_le (Heap.lt_size q) hge))]; exact n
   ·by_cases hb : b = P
    ·subst hb; exact ⟨_, htb⟩
    ·exact ⟨o, hx b o hb q⟩
  have I1 : Inv X pins σ (upd H c' (rawO oc)) { s with heap := h', toks := tk } := I.un un hok1
  have f1 : upd H c' (rawO oc) h'.objs.size = none := I1.hok.fresh (Nat.le_refl _)
  refine ⟨.ref h'.objs.size, _, I1.laid (t' := tk) (fun b u e => Heap.get?_push_of_some _ e) (Nat.le_refl _) ?_, rfl, h _ clos _ ⟨hclos, _, (X.mg "__name__").getD .none, ctv, c', .inr ⟨c', oc, fc, rfl⟩, f1, rfl⟩⟩
  exact ⟨Heap.get?_push_size _ rfl, .inr ⟨_, c', oc, _, vs, t, rfl, rfl, rfl, by rw [upd_ne (ne_of_none upd_same f1)]; exact upd_same, hd, hv, Heap.get?_push_size _ rfl⟩⟩
end
end L2
set_option Elab.async false
set_option linter.all false
set_option maxRecDepth 100000
set_option maxHeartbeats 4000000
namespace L2
open PySem PySem.Spec PyProof.Rows
theorem look_of_mem {α : Type} {k : Addr} {v : α} : ∀ {l : List (Addr × α)}, (k, v) ∈ l -> ∃ v', l.lookup k = some v'
 | [], h => nomatch h
 | (a, b) :: l, h => by
  rw [List.lookup_cons]
  by_cases e : (k == a) = true
  ·rw [e]; exact ⟨b, rfl⟩
  ·rw [Bool.eq_false_iff.mpr e]
   rcases List.mem_cons.mp h with z | z
   ·cases z; simp at e
   ·exact look_of_mem z
noncomputable def celsAt (clos : List (Str × Addr)) (h : Heap) : Cs := (clos.map (·.1)).filterMap fun x => (clos.lookup x).bind fun c => (h.get? c).map fun o => (c, o)
theorem celsAt_look {clos : List (Str × Addr)} {h : Heap} {c : Addr} {o : Obj} (e : (celsAt clos h).lookup c = some o) : ∃ x, clos.lookup x = some c /\ h.get? c = some o := by
 obtain ⟨x, _, hx⟩ := List.mem_filterMap.mp (PySem.W.mem_of_lookupK e)
 obtain ⟨c', e1, e2⟩ := Option.bind_eq_some_iff.mp hx
 obtain ⟨o', e3, e4⟩ := Option.map_eq_some_iff.mp e2
 cases e4
 exact ⟨x, e1, e3⟩
theorem celsAt_mem {clos : List (Str × Addr)} {h : Heap} {x : Str} {c : Addr} {o : Obj} (e : clos.lookup x = some c) (g : h.get? c = some o) : (celsAt clos h).lookup c = some o := by
 have hm : (c, o) ∈ celsAt clos h := List.mem_filterMap.mpr ⟨x, List.mem_map.mpr ⟨(x, c), PySem.mem_of_lookup e, rfl⟩, by rw [e]; show (h.get? c).map _ = _; rw [g]; rfl⟩
 obtain ⟨o', e'⟩ := look_of_mem hm
 obtain ⟨_, _, g'⟩ := celsAt_look e'
 rw [g] at g'
 cases g'
 exact e'
structure CellsOf (clos : List (Str × Addr)) (Nf : List Str) (scope : Scope) (js : List Nat) (σ : St) (H : Hp) (cs : Cs) : Prop where
 inj : ∀ x y c, clos.lookup x = some c -> clos.lookup y = some c -> x = y
 has : ∀ x, (x, NameKind.free) ∈ scope.names -> ∃ c, clos.lookup x = some c
 all : ∀ x c, clos.lookup x = some c -> ∃ o, cs.lookup c = some o
 cel : ∀ c o, cs.lookup c = some o -> H c = none /\ ∃ v, o.data = .cell v
 val : ∀ (i : Nat) y j z, Nf[i]? = some y -> js[i]? = some j -> σ[j]? = some (some z) -> ∃ c o u, clos.lookup y = some c /\ cs.lookup c = some o /\ o.data = .cell (some u) /\ RelV z u
theorem cx1_nocells {P : Program} {w : World} {outer : List Env} {H : Hp} {s s' : Shared} {E : XK} {e : Value} {cs : Cs} (hc : ∀ b o, cs.lookup b = some o -> H b = none /\ s.heap.get? b = some o)
  (x : CX1 P w outer (addC H cs) s (fun c o H' => E c o (rmC H' cs)) e s') : CX1 P w outer H s E e s' := by
 obtain ⟨e, cls, H', B, rfl, hos, hg, un, hok, fly, hE⟩ := x
 have CI : CelsIn H' cs := fun b o z => un.frzs b o _ (addC_in z)
 refine ⟨e, cls, rmC H' cs, B, rfl, hos, hg, un.nocells hok hc, hok.rm CI, ⟨fly.fl, fun b o q n nb => ?_, fun b u o q z => fly.trk b u o (of_rm q).1 z, fly.all, fly.new⟩, hE⟩
 cases z : cs.lookup b with
 | some o' =>
  have := (hc b o' z).2
  rw [q] at this
  cases this
  exact fly.trk b _ o (CI b o z) ((show s'.heap.get? b = some o /\ _ from hok b _ (CI b o z)).1)
 | none => exact fly.old b o q (by rw [addC_out z]; exact n) nb
theorem pure_inj {α : Type} {a b : α} (h : (pure a : Sem α) = pure b) : a = b := by
 first
  | exact PySem.Sem.pure_inj h
  | (injection h)
  | (cases h; rfl)
section
variable {X : Cx} {k : Nat} {f : Addr} {fd : FuncData} {ps : List Str} {sp : Sp} {EE : St -> XK}
theorem run_fnC {pins : List (Addr × Obj)} {σ : St} {H : Hp} {s : Shared} {Q : VK} {us : List Value} {vs : List V} {cs : Cs} (F : FnOk X.prog X.w X.K X.mg X.base (CX1 X.prog X.w) k f fd ps sp) (hr : Room k X.A) (hb : Binds X.K fd ps []) (hx : PassX (CX1 X.prog X.w) X EE)
  (I : Inv X pins σ H s) (hc : ∀ b o, cs.lookup b = some o -> H b = none /\ s.heap.get? b = some o) (hv : ∀ b o, cs.lookup b = some o -> b ∉ frs X.stack) (hn : ∀ b o, cs.lookup b = some o -> X.base.get? b = none) (r : Vals vs us)
  (h : sp vs (addC H cs) (fun v H' => Q v (rmC H' cs)) fun c o H' => EE σ c o (rmC H' cs)) : wpAny (model X.prog X.w) X.A (call (.ref f) us) (EP X pins σ Q) X.xe s := by
 have hl : us.length = ps.length := by rw [<- r.length]; exact F.len _ _ _ _ h
 have e0 := I.env0
 have out : ∀ b, H b = none -> (∀ o, cs.lookup b ≠ some o) -> addC H cs b = none := fun b n z => by
  cases q : cs.lookup b with
  | some o => exact absurd q (z o)
  | none => rw [addC_out q]; exact n
 have e1 : Env0 X.prog X.w X.K X.mg X.base X.A X.stack s (addC H cs) := by
  refine ⟨e0.frames, e0.mod, fun b o q => ⟨(e0.bs b o q).1, out b (e0.bs b o q).2 fun o' z => ?_⟩, e0.bsz, e0.funs, fun b hb => out b (e0.frf b hb) fun o z => ?_, e0.hok.add hc, e0.bare, fun a q P m => ?_⟩
  ·rw [hn b o' z] at q; cases q
  ·exact hv b o z hb
  ·obtain ⟨ps, e, p⟩ := e0.tab a q P m
   refine ⟨ps, ?_, p⟩
   cases z : cs.lookup P with
   | some o => rw [(hc P o z).1] at e; cases e
   | none => rw [addC_out z]; exact e
 have hbb := hb s us I.kIn (by rw [List.append_nil]; exact hl)
 rw [List.append_nil] at hbb
 refine wpAny_call (codeAny_mono (F.run X.A X.stack s (addC H cs) ⟨us, []⟩ us vs _ _ hr e1 hbb r h) fun r s' hq => ?_)
 cases r with
 | error e => exact hx pins σ H s e s' I (cx1_nocells hc hq)
 | ok fl =>
  cases fl with
  | ret u =>
   obtain ⟨v, H', os, bare, un, hok, rv, q⟩ := hq
   have CI : CelsIn H' cs := fun b o z => un.frzs b o _ (addC_in z)
   exact I.after ⟨v, rmC H' cs, os, bare, un.nocells hok hc, hok.rm CI, rv, q⟩
  | next => exact False.elim hq
  | brk => exact False.elim hq
  | cont => exact False.elim hq
def LamQ (sp : Sp) (X : Cx) (scope : Scope) (Nf : List Str) (js : List Nat) (E : XK) (σ : St) (Q : VK) (vs : List V) (H2 : Hp) : Prop := ∃ clos, closureFor scope X.env = pure clos /\ ∀ cs, CellsOf clos Nf scope js σ H2 cs ->
 sp vs (addC H2 cs) (fun v H' => Q v (rmC H' cs)) fun c o H' => E c o (rmC H' cs)
def tLamCall (sp : Sp) (X : Cx) (params : Arguments) (body : Expr) (scope : Scope) (Nf : List Str) (js : List Nat) (EE : St -> XK) (te : TE) : TE := fun σ H Q => te σ H fun v1 H1 => ∀ f clos H2, LamAt X params body scope clos f H1 H2 -> LamQ sp X scope Nf js (EE σ) σ Q [v1, .ref f] H2
theorem pe_lamcall {x : Str} {params : Arguments} {body e : Expr} {scope : Scope} {lpos p pos : Pos} {Nf : List Str} {js : List Nat} {te : TE} (F : FnOk X.prog X.w X.K X.mg X.base (CX1 X.prog X.w) k f fd ps sp) (hr : Room k X.A) (hg : Gl X x) (hm : X.mg x = some (.ref f)) (hk : PySem.W.keepIn X.K (.ref f) = true)
  (hb : Binds X.K fd ps []) (hx : PassX (CX1 X.prog X.w) X EE) (M : Maker X) (hfn : ∀ y, X.fn y = true) (he : PE X e te) (hdef : defaultsOf params X.env = ([], []))
  (hfree : ∀ x ∈ scope.names, x.2 = .free -> X.env.kindOf x.1 = some .cell \/ X.env.kindOf x.1 = some .free)
  (hNf : ∀ (i j : Nat) y, Nf[i]? = some y -> js[i]? = some j -> X.N[j]? = some y /\ (y, NameKind.free) ∈ scope.names /\ Vis X.env.scope y /\ X.env.kindOf y ≠ some .local)
  (hdb : (x == ("__debug__" : Str)) = false := by decide) (hst : starEach [e, .Lambda params body scope lpos] X.env = (false, eval e X.env) :: starEach [.Lambda params body scope lpos] X.env := by rfl)
  (hst2 : starEach [.Lambda params body scope lpos] X.env = (false, eval (.Lambda params body scope lpos) X.env) :: starEach [] X.env := by rfl) (hpl : (backTo pos (starEach [.Lambda params body scope lpos] X.env)).any (·.1) = false := by rfl) :
  PE X (.Call (.Name x p) [e, .Lambda params body scope lpos] [] pos) (tLamCall sp X params body scope Nf js EE te) := by
 intro pins s σ H Q I h
 have ha : PA X [e, .Lambda params body scope lpos] (tCons te (tCons (tLam X params body scope) tNil)) := pa_cons he (pa_cons (pe_lam M hdef hfree) pa_nil hst2) hst
 refine wpAny_Call_Name_kw (ld_glob I hg hm ?_ hdb)
 refine PySem.W.callWith_K (h₀ := X.base) I.ok.mod.kin hk (thn (ha pos pins s σ H (LamQ sp X scope Nf js (EE σ) σ Q) I h) fun us s1 ⟨vs, H2, I2, r, clos, hclos, q⟩ => ⟨I2.kIn, ?_⟩) hst hpl
 obtain ⟨clos', hclos', hcl, hcf⟩ := closure_ok (scope := scope) (env := X.env) fun x hx hf => I.ok.has x.1 (hfree x hx hf)
 obtain rfl : clos' = clos := pure_inj (hclos'.symm.trans hclos)
 have look : ∀ b o, (celsAt clos' s1.heap).lookup b = some o -> ∃ x, X.env.cells.lookup x = some b /\ s1.heap.get? b = some o := fun b o z => by
  obtain ⟨x, h1, h2⟩ := celsAt_look z
  exact ⟨x, hcl x b h1, h2⟩
 have hnone : ∀ b o, (celsAt clos' s1.heap).lookup b = some o -> H2 b = none /\ s1.heap.get? b = some o := fun b o z => by
  obtain ⟨x, h1, h2⟩ := look b o z
  exact ⟨I2.freeC x b h1, h2⟩
 have hab : ∀ b o, (celsAt clos' s1.heap).lookup b = some o -> X.s₀.heap.objs.size <= b := fun b o z => by
  obtain ⟨x, h1, h2⟩ := look b o z
  exact I2.ok.cab x b (hfn x) h1
 refine run_fnC (cs := celsAt clos' s1.heap) F hr hb hx I2 hnone (fun b o z hb => ?_) (fun b o z => Heap.get?_none_of_le (Nat.le_trans I2.ok.bsz (hab b o z))) r (q _ ⟨fun x y c e1 e2 => I2.ok.inj x y c (hcl x c e1) (hcl y c e2), hcf, fun x c e => ?_, fun c o e => ⟨(hnone c o e).1, ?_⟩, fun i y j z e1 e2 e3 => ?_⟩)
 ·rcases List.mem_cons.mp (I2.stkSub b hb) with e | hb2
  ·obtain ⟨x, h1, _⟩ := look b o z
   exact I2.cne x b h1 e
  ·obtain ⟨_, o', q', _⟩ := I2.ok.funs.mem hb2
   exact absurd (Heap.lt_size q') (Nat.not_lt.mpr (hab b o z))
 ·obtain ⟨v, o, g, _⟩ := I2.cell x c (hcl x c e)
  exact ⟨o, celsAt_mem e g⟩
 ·obtain ⟨x, h1, h2⟩ := look c o e
  obtain ⟨v, o', g, d⟩ := I2.cell x c h1
  rw [h2] at g
  cases g
  exact ⟨v, d⟩
 ·obtain ⟨n1, n2, n3, n4⟩ := hNf i j y e1 e2
  obtain ⟨m, hm, hl⟩ := I2.loc
  obtain ⟨u, ru, l⟩ := hl j y z n1 e3 n3
  rcases l with ⟨k1, _⟩ | ⟨k1, c, ec, o, g, d⟩
  ·exact absurd k1 n4
  ·obtain ⟨c', ec'⟩ := hcf y n2
   have e4 := hcl y c' ec'
   rw [ec] at e4
   cases e4
   exact ⟨c, o, u, ec', celsAt_mem ec' g, d, ru⟩
end
end L2
set_option Elab.async false
set_option linter.all false
set_option maxRecDepth 100000
set_option maxHeartbeats 1000000
namespace D
open PySem L2
noncomputable abbrev Sv := Int ⊕ Bool
inductive Dd where
 | k (kvs : List (Key × Sv))
structure Lm where
 qual : Str
 params : Arguments
 body : Expr
 scope : Scope
 nf : List Str
set_option genInjectivity true in
inductive W where
 | non | bl (b : Bool) | int (i : Int) | str (x : Str) | tup (xs : List W) | lst (xs : List W) | exc (c : Value) | dic (kvs : Dd) | dw (fz : Bool) (sh : Sh) (ks : List Kx) (ws : List W) | fn (i : Nat) (l : Lm) (ws : List W)
inductive S where
 | no | fr (w : W) | own (io : Bool) (ws : List W) | dic (kvs : Dd) | thr (us ws vs : List W) | nest (wss : List (List W)) | dw (sh : Sh) (ks : List Kx) (ws : List W)
noncomputable def sV : Sv -> V
 | .inl i => .int i
 | .inr b => .bl b
noncomputable def kvV {κ : Type} (kvs : List (κ × Sv)) : List (κ × V) := kvs.map fun p => (p.1, sV p.2)
noncomputable def dO : Dd -> HO
 | .k kvs => .dK (kvV kvs)
noncomputable def isDic : HO -> Bool
 | .dK _ => true
 | _ => false
theorem dO_ne {d : Dd} {u : HO} (h : isDic u = false) : dO d ≠ u := fun z => by
 subst z; cases d <;> cases h
def KeysG (G : Hp) : List Kx -> List Addr -> Prop
 | [], [] => True
 | k :: ks, b :: bs => KRep G k (.ref b) /\ KeysG G ks bs
 | [], _ :: _ => False
 | _ :: _, [] => False
theorem KeysG.mono {G G' : Hp} (e : Same G G') : ∀ {ks : List Kx} {bs : List Addr}, KeysG G ks bs -> KeysG G' ks bs
 | [], [], _ => trivial
 | k :: ks, b :: bs, h => ⟨KRep.keeps (fun _ _ _ z => e _ _ z) k h.1, KeysG.mono e h.2⟩
 | [], _ :: _, h => h.elim
 | _ :: _, [], h => h.elim
def DAt (fz : Bool) (G : Hp) (a : Addr) (sh : Sh) (kvs : List (Kx × V)) (kas : List Addr) : Prop := if fz = true then ∃ o, G a = some (.frz o (.dT sh kvs kas)) else G a = some (.dT sh kvs kas)
theorem DAt.mono {fz : Bool} {G G' : Hp} {a : Addr} {sh : Sh} {kvs : List (Kx × V)} {kas : List Addr} (e : Same G G') (h : DAt fz G a sh kvs kas) : DAt fz G' a sh kvs kas := by
 cases fz with
 | true => obtain ⟨o, h⟩ := h; exact ⟨o, e _ _ h⟩
 | false => exact e _ _ h
structure FnCells (G : Hp) (cl : List (Str × Addr)) (l : Lm) (zs : List V) (cs : Cs) : Prop where
 inj : ∀ x y c, cl.lookup x = some c -> cl.lookup y = some c -> x = y
 has : ∀ x, (x, NameKind.free) ∈ l.scope.names -> ∃ c, cl.lookup x = some c
 all : ∀ x c, cl.lookup x = some c -> ∃ o, cs.lookup c = some o
 cel : ∀ c o, cs.lookup c = some o -> G c = some (celO o) /\ ∃ v, o.data = .cell v
 val : ∀ (i : Nat) y z, l.nf[i]? = some y -> zs[i]? = some z -> ∃ c o u, cl.lookup y = some c /\ cs.lookup c = some o /\ o.data = .cell (some u) /\ RelV z u
 len : zs.length = l.nf.length
theorem FnCells.mono {G G' : Hp} {cl : List (Str × Addr)} {l : Lm} {zs : List V} {cs : Cs} (e : Same G G') (h : FnCells G cl l zs cs) : FnCells G' cl l zs cs := ⟨h.inj, h.has, h.all, fun c o q => ⟨e _ _ (h.cel c o q).1, (h.cel c o q).2⟩, h.val, h.len⟩
def FnAtG (G : Hp) (l : Lm) (cl : List (Str × Addr)) (f : Addr) : Prop := ∃ pm c' ctv, G f = some (fnO (PySem.W.kla_obj "<lambda>" l.qual l.params l.body l.scope cl pm c' ctv) l.qual c')
mutual
def Rep (K : PySem.W.Frag) (G : Hp) : W -> V -> Prop
 | .non, v => v = .non
 | .bl b, v => v = .bl b
 | .int i, v => v = .int i
 | .str x, v => v = .str x
 | .tup ws, v => ∃ a xs, v = .ref a /\ SqT K G a xs /\ Reps K G ws xs
 | .lst ws, v => ∃ a xs, v = .ref a /\ SqL K G a xs /\ Reps K G ws xs
 | .exc c, v => ∃ e, v = .ref e /\ G e = some (excO e c)
 | .dic kvs, v => ∃ e, v = .ref e /\ G e = some (dO kvs)
 | .dw fz sh ks ws, v => ∃ a kvs kas, v = .ref a /\ DAt fz G a sh kvs kas /\ kvs.map (·.1) = ks /\ KeysG G ks kas /\ Reps K G ws (kvs.map (·.2))
 | .fn _ l ws, v => ∃ f cl zs cs, v = .ref f /\ FnAtG G l cl f /\ FnCells G cl l zs cs /\ Reps K G ws zs
def Reps (K : PySem.W.Frag) (G : Hp) : List W -> List V -> Prop
 | [], xs => xs = []
 | w :: ws, xs => ∃ x r, xs = x :: r /\ Rep K G w x /\ Reps K G ws r
end
mutual
theorem Rep.mono {K : PySem.W.Frag} {G G' : Hp} (e : Same G G') : ∀ (w : W) {v : V}, Rep K G w v -> Rep K G' w v
 | .non, v, h => h
 | .bl b, v, h => h
 | .int i, v, h => h
 | .str x, v, h => h
 | .tup ws, v, h => by
  obtain ⟨a, xs, rfl, q, r⟩ := h
  exact ⟨a, xs, rfl, e.tup q, Reps.mono e ws r⟩
 | .lst ws, v, h => by
  obtain ⟨a, xs, rfl, q, r⟩ := h
  exact ⟨a, xs, rfl, e.seq q, Reps.mono e ws r⟩
 | .exc c, v, h => by
  obtain ⟨a, rfl, q⟩ := h
  exact ⟨a, rfl, e _ _ q⟩
 | .dic kvs, v, h => by
  obtain ⟨a, rfl, q⟩ := h
  exact ⟨a, rfl, e _ _ q⟩
 | .dw fz sh ks ws, v, h => by
  obtain ⟨a, kvs, kas, rfl, h1, h2, h3, h4⟩ := h
  exact ⟨a, kvs, kas, rfl, h1.mono e, h2, h3.mono e, Reps.mono e ws h4⟩
 | .fn i l ws, v, h => by
  obtain ⟨f, cl, zs, cs, rfl, ⟨pm, c', ctv, h1⟩, h2, h3⟩ := h
  exact ⟨f, cl, zs, cs, rfl, ⟨pm, c', ctv, e _ _ h1⟩, h2.mono e, Reps.mono e ws h3⟩
theorem Reps.mono {K : PySem.W.Frag} {G G' : Hp} (e : Same G G') : ∀ (ws : List W) {xs : List V}, Reps K G ws xs -> Reps K G' ws xs
 | [], xs, h => h
 | w :: ws, xs, h => by
  obtain ⟨x, r, rfl, h1, h2⟩ := h
  exact ⟨x, r, rfl, Rep.mono e w h1, Reps.mono e ws h2⟩
end
section
variable {K : PySem.W.Frag} {G : Hp}
theorem Reps.length : ∀ {ws : List W} {xs : List V}, Reps K G ws xs -> xs.length = ws.length
 | [], xs, h => by cases h; rfl
 | w :: ws, xs, h => by
  obtain ⟨x, r, rfl, _, h2⟩ := h
  simp [Reps.length h2]
theorem Reps.get : ∀ {ws : List W} {xs : List V} {i : Nat} {w : W}, Reps K G ws xs -> ws[i]? = some w -> ∃ x, xs[i]? = some x /\ Rep K G w x
 | [], xs, i, w, h, e => by simp at e
 | w' :: ws, xs, 0, w, h, e => by
  obtain ⟨x, r, rfl, h1, h2⟩ := h
  simp at e; subst e
  exact ⟨x, rfl, h1⟩
 | w' :: ws, xs, i + 1, w, h, e => by
  obtain ⟨x, r, rfl, h1, h2⟩ := h
  obtain ⟨y, e1, e2⟩ := Reps.get (i := i) h2 (by simpa using e)
  exact ⟨y, by simpa using e1, e2⟩
theorem Reps.getV : ∀ {ws : List W} {xs : List V} {i : Nat} {x : V}, Reps K G ws xs -> xs[i]? = some x -> ∃ w, ws[i]? = some w /\ Rep K G w x := fun {ws xs i x} h e => by
 have hl := h.length
 have hi : i < xs.length := (List.getElem?_eq_some_iff.mp e).1
 have e2 : ws[i]? = some ws[i] := List.getElem?_eq_getElem (by omega)
 obtain ⟨y, e3, r⟩ := h.get e2
 rw [e] at e3; cases e3
 exact ⟨_, e2, r⟩
theorem Reps.append : ∀ {ws ws' : List W} {xs xs' : List V}, Reps K G ws xs -> Reps K G ws' xs' -> Reps K G (ws ++ ws') (xs ++ xs')
 | [], ws', xs, xs', h, h' => by cases h; exact h'
 | w :: ws, ws', xs, xs', h, h' => by
  obtain ⟨x, r, rfl, h1, h2⟩ := h
  exact ⟨x, r ++ xs', rfl, h1, Reps.append h2 h'⟩
theorem Reps.one {w : W} {x : V} (h : Rep K G w x) : Reps K G [w] [x] := ⟨x, [], rfl, h, rfl⟩
theorem Reps.set : ∀ (i : Nat) {ws : List W} {xs : List V} {w : W} {x : V}, Reps K G ws xs -> Rep K G w x -> Reps K G (ws.set i w) (xs.set i x)
 | _, [], _, _, _, h, _ => by cases h; rfl
 | 0, w' :: ws, _, w, x, h, q => by
  obtain ⟨y, r, rfl, h1, h2⟩ := h
  exact ⟨x, r, rfl, q, h2⟩
 | i + 1, w' :: ws, _, w, x, h, q => by
  obtain ⟨y, r, rfl, h1, h2⟩ := h
  exact ⟨y, r.set i x, rfl, h1, Reps.set i h2 q⟩
end
structure Zt where
 H : Hp
 G : Hp
 io : List Addr
def FzAt (Z : Zt) (G H : Hp) (l : Addr) (o : Obj) (ys : List V) : Prop := H l = some (.frz o (.lst ys)) /\ G l = none /\ Z.H l = none
def NestIn (K : PySem.W.Frag) (Z : Zt) (G H : Hp) : List Addr -> List (List W) -> Prop
 | [], [] => True
 | l :: ls, ws :: wss => (∃ o ys, FzAt Z G H l o ys /\ Reps K G ws ys) /\ NestIn K Z G H ls wss
 | [], _ :: _ => False
 | _ :: _, [] => False
def NestOk (K : PySem.W.Frag) (Z : Zt) (G H : Hp) (wss : List (List W)) (v : Option V) : Prop := ∃ a ls, v = some (.ref a) /\ G a = some (.lst (ls.map V.ref)) /\ ls.Nodup /\ NestIn K Z G H ls wss
theorem NestIn.move {K : PySem.W.Frag} {Z Z' : Zt} {G G' H H' : Hp} (sg : Same G G') (hf : ∀ l o ys, H l = some (.frz o (.lst ys)) -> G l = none -> Z.H l = none -> H' l = some (.frz o (.lst ys)) /\ G' l = none /\ Z'.H l = none) : ∀ {ls : List Addr} {wss : List (List W)}, NestIn K Z G H ls wss -> NestIn K Z' G' H' ls wss
 | [], [], _ => trivial
 | l :: ls, ws :: wss, ⟨⟨o, ys, ⟨h1, h2, h3⟩, h4⟩, h⟩ => ⟨⟨o, ys, hf l o ys h1 h2 h3, Reps.mono sg ws h4⟩, h.move sg hf⟩
 | [], _ :: _, h => h.elim
 | _ :: _, [], h => h.elim
theorem NestOk.move {K : PySem.W.Frag} {Z Z' : Zt} {G G' H H' : Hp} {wss : List (List W)} {v : Option V} (q : NestOk K Z G H wss v) (sg : Same G G') (hf : ∀ l o ys, H l = some (.frz o (.lst ys)) -> G l = none -> Z.H l = none -> H' l = some (.frz o (.lst ys)) /\ G' l = none /\ Z'.H l = none) : NestOk K Z' G' H' wss v := by
 obtain ⟨a, ls, h1, h2, h3, h4⟩ := q
 exact ⟨a, ls, h1, sg _ _ h2, h3, h4.move sg hf⟩
def DwOk (K : PySem.W.Frag) (Z : Zt) (G H : Hp) (sh : Sh) (ks : List Kx) (ws : List W) (v : Option V) : Prop := ∃ a kvs kas, v = some (.ref a) /\ H a = some (.dT sh kvs kas) /\ G a = none /\ Z.H a = none /\ kvs.map (·.1) = ks /\ KeysG G ks kas /\ Reps K G ws (kvs.map (·.2))
theorem DwOk.move {K : PySem.W.Frag} {Z Z' : Zt} {G G' H H' : Hp} {sh : Sh} {ks : List Kx} {ws : List W} {v : Option V} (q : DwOk K Z G H sh ks ws v) (sg : Same G G') (hf : ∀ a kvs kas, H a = some (.dT sh kvs kas) -> G a = none -> Z.H a = none -> H' a = some (.dT sh kvs kas) /\ G' a = none /\ Z'.H a = none) : DwOk K Z' G' H' sh ks ws v := by
 obtain ⟨a, kvs, kas, h1, h2, h3, h4, h5, h6, h7⟩ := q
 obtain ⟨k1, k2, k3⟩ := hf a kvs kas h2 h3 h4
 exact ⟨a, kvs, kas, h1, k1, k2, k3, h5, h6.mono sg, Reps.mono sg ws h7⟩
def SlotOk (K : PySem.W.Frag) (Z : Zt) (G H : Hp) : S -> Option V -> Prop
 | .no, _ => True
 | .fr w, v => ∃ u, v = some u /\ Rep K G w u
 | .own b ws, v => ∃ a xs, v = some (.ref a) /\ H a = some (.lst xs) /\ G a = none /\ (if b = true then a ∈ Z.io else Z.H a = none) /\ Reps K G ws xs
 | .dic kvs, v => ∃ a, v = some (.ref a) /\ H a = some (dO kvs) /\ G a = none /\ Z.H a = none
 | .thr us ws vs, v => ∃ t l o xs ys zs, v = some (.ref t) /\ G t = some (.tup (xs ++ .ref l :: zs)) /\ H l = some (.frz o (.lst ys)) /\ G l = none /\ Z.H l = none /\ Reps K G us xs /\ Reps K G ws ys /\ Reps K G vs zs
 | .nest wss, v => NestOk K Z G H wss v
 | .dw sh ks ws, v => DwOk K Z G H sh ks ws v
structure Rel (K : PySem.W.Frag) (Z : Zt) (G : Hp) (σ : St) (H : Hp) (e : List S) : Prop where
 sub : Same G H
 slot : ∀ (i : Nat) (s : S), e[i]? = some s -> SlotOk K Z G H s (σ[i]?.getD none)
 len : e.length = σ.length
 dis : ∀ (i j : Nat) (b b' : Bool) (ws ws' : List W) (a : Addr), e[i]? = some (.own b ws) -> e[j]? = some (.own b' ws') -> σ[i]? = some (some (.ref a)) -> σ[j]? = some (some (.ref a)) -> i = j
 ent : ∀ a o, Z.H a = some o -> a ∉ Z.io -> H a = some o
 ion : ∀ a ∈ Z.io, H a ≠ none
 gen : ∀ a, Z.H a ≠ none -> G a = Z.G a
structure Grow (G H G' H' : Hp) : Prop where
 hh : Same H H'
 gg : Same G G'
 sub : Same G' H'
 new : ∀ a, H a ≠ none -> G' a = G a
theorem Grow.refl {G H : Hp} (s : Same G H) : Grow G H G H := ⟨.refl _, .refl _, s, fun _ _ => rfl⟩
theorem same_some {H H' : Hp} (e : Same H H') {a : Addr} (h : H a ≠ none) : H' a ≠ none := by
 cases q : H a with
 | none => exact absurd q h
 | some o => rw [e a o q]; simp
theorem Grow.laid {G H : Hp} (s : Same G H) {D : Addr} (h : H D = none) (o : HO) : Grow G H (upd G D o) (upd H D o) where
 hh := same_upd h o
 gg := same_upd (s.free h) o
 sub := fun b u e => by
  by_cases hb : b = D
  ·subst hb; rw [upd_same] at e |-; exact e
  ·rw [upd_ne hb] at e |-; exact s b u e
 new := fun a ha => by rw [upd_ne (fun z => ha (by rw [z]; exact h))]
theorem Grow.hid {G H : Hp} (s : Same G H) {D : Addr} (h : H D = none) (o : HO) : Grow G H G (upd H D o) where
 hh := same_upd h o
 gg := .refl _
 sub := fun b u e => by
  have := s b u e
  rw [upd_ne (ne_of_none this h)]; exact this
 new := fun a ha => rfl
section
variable {K : PySem.W.Frag} {Z : Zt} {G G' H H' : Hp} {σ : St} {e : List S}
theorem Rel.grow (r : Rel K Z G σ H e) (g : Grow G H G' H') : Rel K Z G' σ H' e where
 sub := g.sub
 slot := fun i s h => by
  have q := r.slot i s h
  cases s with
  | no => trivial
  | fr w =>
   obtain ⟨u, h1, h2⟩ := q
   exact ⟨u, h1, Rep.mono g.gg w h2⟩
  | own b ws =>
   obtain ⟨a, xs, h1, h2, h3, h4, h5⟩ := q
   exact ⟨a, xs, h1, g.hh _ _ h2, by rw [g.new a (by rw [h2]; simp)]; exact h3, h4, Reps.mono g.gg ws h5⟩
  | dic kvs =>
   obtain ⟨a, h1, h2, h3, h4⟩ := q
   exact ⟨a, h1, g.hh _ _ h2, by rw [g.new a (by rw [h2]; simp)]; exact h3, h4⟩
  | thr us ws vs =>
   obtain ⟨t, l, o, xs, ys, zs, h1, h2, h3, h4, h5, h6, h7, h8⟩ := q
   exact ⟨t, l, o, xs, ys, zs, h1, g.gg _ _ h2, g.hh _ _ h3, by rw [g.new l (by rw [h3]; simp)]; exact h4, h5, Reps.mono g.gg us h6, Reps.mono g.gg ws h7, Reps.mono g.gg vs h8⟩
  | nest wss => exact NestOk.move q g.gg fun l o ys h1 h2 h3 => ⟨g.hh _ _ h1, by rw [g.new l (by rw [h1]; simp)]; exact h2, h3⟩
  | dw sh ks ws => exact DwOk.move q g.gg fun l o ys h1 h2 h3 => ⟨g.hh _ _ h1, by rw [g.new l (by rw [h1]; simp)]; exact h2, h3⟩
 len := r.len
 dis := r.dis
 ent := fun a o h n => g.hh _ _ (r.ent a o h n)
 ion := fun a h => same_some g.hh (r.ion a h)
 gen := fun a h => by
  have : H a ≠ none := by
   cases q : Z.H a with
   | none => exact absurd q h
   | some o =>
    by_cases hi : a ∈ Z.io
    ·exact r.ion a hi
    ·rw [r.ent a o q hi]; simp
  rw [g.new a this]; exact r.gen a h
theorem Rel.own (r : Rel K Z G σ H e) {i : Nat} {b : Bool} {ws : List W} (h : e[i]? = some (.own b ws)) : ∃ a xs, σ[i]? = some (some (.ref a)) /\ H a = some (.lst xs) /\ G a = none /\ (if b = true then a ∈ Z.io else Z.H a = none) /\ Reps K G ws xs := by
 obtain ⟨a, xs, h1, h2⟩ := r.slot i _ h
 refine ⟨a, xs, ?_, h2⟩
 cases q : σ[i]? with
 | none => rw [q] at h1; cases h1
 | some z => rw [q] at h1; rw [show z = some (V.ref a) from h1]
theorem Rel.fr (r : Rel K Z G σ H e) {i : Nat} {w : W} (h : e[i]? = some (.fr w)) : ∃ v, σ[i]? = some (some v) /\ Rep K G w v := by
 obtain ⟨v, h1, h2⟩ := r.slot i _ h
 refine ⟨v, ?_, h2⟩
 cases q : σ[i]? with
 | none => rw [q] at h1; cases h1
 | some z => rw [q] at h1; rw [show z = some v from h1]
theorem Rel.mut (r : Rel K Z G σ H e) {i : Nat} {b : Bool} {ws ws' : List W} {a : Addr} {xs' : List V} (h : e[i]? = some (.own b ws)) (ha : σ[i]? = some (some (.ref a))) (q : Reps K G ws' xs') : Rel K Z G σ (upd H a (.lst xs')) (e.set i (.own b ws')) := by
 obtain ⟨a', xs, h1, h2, h3, h4, h5⟩ := r.own h
 rw [ha] at h1
 cases h1
 have hi : i < e.length := (List.getElem?_eq_some_iff.mp h).1
 refine ⟨fun c o z => ?_, fun j s z => ?_, by simpa using r.len, fun j k b1 b2 w1 w2 c z1 z2 z3 z4 => ?_, fun c o z n => ?_, fun c z => ?_, r.gen⟩
 ·rw [upd_ne (ne_of_none z h3)]; exact r.sub c o z
 ·by_cases hj : j = i
  ·subst hj
   rw [List.getElem?_set_self hi] at z
   cases z
   exact ⟨a, xs', by rw [ha]; rfl, upd_same, h3, h4, q⟩
  ·rw [List.getElem?_set_ne (fun z => hj z.symm)] at z
   have y := r.slot j s z
   cases s with
   | no => trivial
   | fr w => exact y
   | own b2 w2 =>
    obtain ⟨c, ys, y1, y2, y3⟩ := y
    refine ⟨c, ys, y1, ?_, y3⟩
    rw [upd_ne]; exact y2
    rintro rfl
    obtain ⟨c', _, z1, _⟩ := r.own z
    rw [z1] at y1
    cases y1
    exact hj (r.dis j i _ _ _ _ _ z h z1 ha)
   | dic kvs =>
    obtain ⟨c, y1, y2, y3⟩ := y
    refine ⟨c, y1, ?_, y3⟩
    rw [upd_ne (ne_of y2 h2 (dO_ne rfl))]; exact y2
   | thr us w2 vs =>
    obtain ⟨t, l, o, xs2, ys, zs, y1, y2, y3, y4⟩ := y
    refine ⟨t, l, o, xs2, ys, zs, y1, y2, ?_, y4⟩
    rw [upd_ne (ne_of y3 h2 (fun z => nomatch z))]; exact y3
   | nest wss => exact NestOk.move y (.refl _) fun l o ys k1 k2 k3 => ⟨by rw [upd_ne (ne_of k1 h2 (fun z => nomatch z))]; exact k1, k2, k3⟩
   | dw sh ks ws => exact DwOk.move y (.refl _) fun l o ys k1 k2 k3 => ⟨by rw [upd_ne (ne_of k1 h2 (fun z => nomatch z))]; exact k1, k2, k3⟩
 ·have old : ∀ (k : Nat) (bb : Bool) (ww : List W), (e.set i (S.own b ws'))[k]? = some (.own bb ww) -> ∃ b' w', e[k]? = some (.own b' w') := fun k bb ww z => by
   by_cases hk : k = i
   ·subst hk; exact ⟨_, _, h⟩
   ·rw [List.getElem?_set_ne (fun z => hk z.symm)] at z; exact ⟨_, _, z⟩
  obtain ⟨_, _, q1⟩ := old _ _ _ z1
  obtain ⟨_, _, q2⟩ := old _ _ _ z2
  exact r.dis _ _ _ _ _ _ _ q1 q2 z3 z4
 ·by_cases hc : c = a
  ·subst hc
   exfalso
   split at h4
   ·exact n h4
   ·rw [h4] at z; cases z
  ·rw [upd_ne hc]; exact r.ent c o z n
 ·by_cases hc : c = a
  ·subst hc; rw [upd_same]; simp
  ·rw [upd_ne hc]; exact r.ion c z
theorem Rel.freeze (r : Rel K Z G σ H e) {i : Nat} {ws : List W} (h : e[i]? = some (.own false ws)) : ∃ v G', σ[i]? = some (some v) /\ Same G G' /\ Rep K G' (.lst ws) v /\ Rel K Z G' σ H (e.set i (.fr (.lst ws))) := by
 obtain ⟨a, xs, h1, h2, h3, h4, h5⟩ := r.own h
 have h4 : Z.H a = none := h4
 have sg : Same G (upd G a (.lst xs)) := same_upd h3 _
 have hi : i < e.length := (List.getElem?_eq_some_iff.mp h).1
 have rp : Rep K (upd G a (.lst xs)) (.lst ws) (.ref a) := ⟨a, xs, rfl, SqL.of upd_same, Reps.mono sg ws h5⟩
 refine ⟨.ref a, upd G a (.lst xs), h1, sg, rp, ⟨fun c o z => ?_, fun j s z => ?_, by simpa using r.len, fun j k b1 b2 w1 w2 c z1 z2 z3 z4 => ?_, r.ent, r.ion, fun c z => ?_⟩⟩
 ·by_cases hc : c = a
  ·subst hc; rw [upd_same] at z; cases z; exact h2
  ·rw [upd_ne hc] at z; exact r.sub c o z
 ·by_cases hj : j = i
  ·subst hj
   rw [List.getElem?_set_self hi] at z
   cases z
   exact ⟨.ref a, by rw [h1]; rfl, rp⟩
  ·rw [List.getElem?_set_ne (fun z => hj z.symm)] at z
   have y := r.slot j s z
   cases s with
   | no => trivial
   | fr w =>
    obtain ⟨u, y1, y2⟩ := y
    exact ⟨u, y1, Rep.mono sg w y2⟩
   | own b2 w2 =>
    obtain ⟨c, ys, y1, y2, y3, y4, y5⟩ := y
    refine ⟨c, ys, y1, y2, ?_, y4, Reps.mono sg w2 y5⟩
    rw [upd_ne]; exact y3
    rintro rfl
    obtain ⟨c', _, z1, _⟩ := r.own z
    rw [z1] at y1
    cases y1
    exact hj (r.dis j i _ _ _ _ _ z h z1 h1)
   | dic kvs =>
    obtain ⟨c, y1, y2, y3, y4⟩ := y
    refine ⟨c, y1, y2, ?_, y4⟩
    rw [upd_ne (ne_of y2 h2 (dO_ne rfl))]; exact y3
   | thr us w2 vs =>
    obtain ⟨t, l, o, xs2, ys, zs, y1, y2, y3, y4, y5, y6, y7, y8⟩ := y
    refine ⟨t, l, o, xs2, ys, zs, y1, sg _ _ y2, y3, ?_, y5, Reps.mono sg us y6, Reps.mono sg w2 y7, Reps.mono sg vs y8⟩
    rw [upd_ne (ne_of y3 h2 (fun z => nomatch z))]; exact y4
   | nest wss => exact NestOk.move y sg fun l o ys k1 k2 k3 => ⟨k1, by rw [upd_ne (ne_of k1 h2 (fun z => nomatch z))]; exact k2, k3⟩
   | dw sh ks ws => exact DwOk.move y sg fun l o ys k1 k2 k3 => ⟨k1, by rw [upd_ne (ne_of k1 h2 (fun z => nomatch z))]; exact k2, k3⟩
 ·have old : ∀ (k : Nat) (bb : Bool) (ww : List W), (e.set i (S.fr (W.lst ws)))[k]? = some (.own bb ww) -> e[k]? = some (.own bb ww) := fun k bb ww z => by
   by_cases hk : k = i
   ·subst hk; rw [List.getElem?_set_self hi] at z; cases z
   ·rw [List.getElem?_set_ne (fun z => hk z.symm)] at z; exact z
  exact r.dis _ _ _ _ _ _ _ (old _ _ _ z1) (old _ _ _ z2) z3 z4
 ·by_cases hc : c = a
  ·subst hc; exact absurd h4 z
  ·rw [upd_ne hc]; exact r.gen c z
def Free (σ : St) (e : List S) (a : Addr) : Prop := ∀ (j : Nat) (b : Bool) (ws : List W), e[j]? = some (.own b ws) -> σ[j]? ≠ some (some (.ref a))
theorem Rel.set (r : Rel K Z G σ H e) {i : Nat} {w : W} {v : V} (q : Rep K G w v) : Rel K Z G (σ.set i (some v)) H (e.set i (.fr w)) := by
 refine ⟨r.sub, fun j s z => ?_, by simpa using r.len, fun j k b1 b2 w1 w2 c z1 z2 z3 z4 => ?_, r.ent, r.ion, r.gen⟩
 ·by_cases hj : j = i
  ·subst hj
   have hi : j < e.length := by
    have := (List.getElem?_eq_some_iff.mp z).1; simpa using this
   rw [List.getElem?_set_self hi] at z
   cases z
   rw [List.getElem?_set_self (by rw [<- r.len]; exact hi)]
   exact ⟨v, rfl, q⟩
  ·rw [List.getElem?_set_ne (fun z => hj z.symm)] at z |-
   exact r.slot j s z
 ·have old : ∀ (k : Nat) (bb : Bool) (ww : List W), (e.set i (S.fr w))[k]? = some (.own bb ww) -> k ≠ i /\ e[k]? = some (.own bb ww) := fun k bb ww z => by
   by_cases hk : k = i
   ·subst hk
    have hi : k < e.length := by
     have := (List.getElem?_eq_some_iff.mp z).1; simpa using this
    rw [List.getElem?_set_self hi] at z; cases z
   ·rw [List.getElem?_set_ne (fun z => hk z.symm)] at z; exact ⟨hk, z⟩
  obtain ⟨n1, q1⟩ := old _ _ _ z1
  obtain ⟨n2, q2⟩ := old _ _ _ z2
  rw [List.getElem?_set_ne (fun z => n1 z.symm)] at z3
  rw [List.getElem?_set_ne (fun z => n2 z.symm)] at z4
  exact r.dis _ _ _ _ _ _ _ q1 q2 z3 z4
theorem Rel.setOwn (r : Rel K Z G σ H e) {i : Nat} {ws : List W} {a : Addr} {xs : List V} (h2 : H a = some (.lst xs)) (h3 : G a = none) (h4 : Z.H a = none) (hf : Free σ e a) (q : Reps K G ws xs) : Rel K Z G (σ.set i (some (.ref a))) H (e.set i (.own false ws)) := by
 refine ⟨r.sub, fun j s z => ?_, by simpa using r.len, fun j k b1 b2 w1 w2 c z1 z2 z3 z4 => ?_, r.ent, r.ion, r.gen⟩
 ·by_cases hj : j = i
  ·subst hj
   have hi : j < e.length := by
    have := (List.getElem?_eq_some_iff.mp z).1; simpa using this
   rw [List.getElem?_set_self hi] at z
   cases z
   rw [List.getElem?_set_self (by rw [<- r.len]; exact hi)]
   exact ⟨a, xs, rfl, h2, h3, h4, q⟩
  ·rw [List.getElem?_set_ne (fun z => hj z.symm)] at z |-
   exact r.slot j s z
 ·have both : ∀ (k : Nat) (bb : Bool) (ww : List W), (e.set i (S.own false ws))[k]? = some (.own bb ww) -> (σ.set i (some (.ref a)))[k]? = some (some (.ref c)) -> (k = i /\ c = a) \/ (k ≠ i /\ e[k]? = some (.own bb ww) /\ σ[k]? = some (some (.ref c)) /\ c ≠ a) := fun k bb ww z y => by
   by_cases hk : k = i
   ·subst hk
    have hi : k < e.length := by
     have := (List.getElem?_eq_some_iff.mp z).1; simpa using this
    rw [List.getElem?_set_self (by rw [<- r.len]; exact hi)] at y
    cases y
    exact .inl ⟨rfl, rfl⟩
   ·rw [List.getElem?_set_ne (fun z => hk z.symm)] at z y
    exact .inr ⟨hk, z, y, fun e => hf k bb ww z (by rw [y, e])⟩
  rcases both _ _ _ z1 z3 with ⟨e1, c1⟩ | ⟨n1, q1, p1, c1⟩ <;> rcases both _ _ _ z2 z4 with ⟨e2, c2⟩ | ⟨n2, q2, p2, c2⟩
  ·rw [e1, e2]
  ·exact absurd c1 c2
  ·exact absurd c2 c1
  ·exact r.dis _ _ _ _ _ _ _ q1 q2 p1 p2
end
inductive R (α : Type) where
 | ok (a : α) (e : List S) | ex (c : Value) (e : List S) | no
noncomputable abbrev Den (α : Type) := List S -> R α
noncomputable def R.bind {α β : Type} : R α -> (α -> List S -> R β) -> R β
 | .ok a e, k => k a e
 | .ex c e, _ => .ex c e
 | .no, _ => .no
def R.holds {α : Type} (r : R α) (P : α -> List S -> Prop) (E : Value -> List S -> Prop) : Prop := match r with
 | .ok a e => P a e
 | .ex c e => E c e
 | .no => False
theorem R.holds_bind {α β : Type} {r : R α} {k : α -> List S -> R β} {P : β -> List S -> Prop} {E : Value -> List S -> Prop} : (r.bind k).holds P E ↔ r.holds (fun a e => (k a e).holds P E) E := by
 cases r <;> rfl
theorem R.holds.imp {α : Type} {r : R α} {P P' : α -> List S -> Prop} {E E' : Value -> List S -> Prop} (h : r.holds P E) (p : ∀ a e, P a e -> P' a e) (x : ∀ c e, E c e -> E' c e) : r.holds P' E' := by
 cases r with
 | ok a e => exact p a e h
 | ex c e => exact x c e h
 | no => exact h
noncomputable def ofOpt {α : Type} (o : Option α) (e : List S) : R α := match o with
 | some a => .ok a e
 | none => .no
theorem ofOpt_holds {α : Type} {o : Option α} {e : List S} {P : α -> List S -> Prop} {E : Value -> List S -> Prop} : (ofOpt o e).holds P E ↔ ∃ a, o = some a /\ P a e := by
 cases o with
 | none => exact ⟨fun h => h.elim, fun ⟨_, h, _⟩ => nomatch h⟩
 | some a => exact ⟨fun h => ⟨a, rfl, h⟩, fun ⟨_, h, q⟩ => by cases h; exact q⟩
inductive SR where
 | nx (e : List S) | rt (s : S) (e : List S) | bk (e : List S) | ct (e : List S) | ex (c : Value) (e : List S) | no
section
variable (K : PySem.W.Frag) (Z : Zt) (EE : St -> XK)
abbrev XH (σ : St) (G : Hp) : Value -> List S -> Prop := fun c e' => ∀ G' H', Rel K Z G' σ H' e' -> Same G G' -> EE σ c none H'
def liftE (d : Den W) : TE := fun σ H Q => ∃ G e, Rel K Z G σ H e /\ (d e).holds (fun w e' => ∀ G' v H', Rel K Z G' σ H' e' -> Same G G' -> Rep K G' w v -> Q v H') (XH K Z EE σ G)
def liftA (d : Den (List W)) : TA := fun σ H Q => ∃ G e, Rel K Z G σ H e /\ (d e).holds (fun ws e' => ∀ G' vs H', Rel K Z G' σ H' e' -> Same G G' -> Reps K G' ws vs -> Q vs H') (XH K Z EE σ G)
def liftT (d : Den Bool) : TT := fun σ H Q => ∃ G e, Rel K Z G σ H e /\ (d e).holds (fun b e' => ∀ G' H', Rel K Z G' σ H' e' -> Same G G' -> Q b H') (XH K Z EE σ G)
def liftF (d : Den (List W)) : TE := fun σ H Q => ∃ G e, Rel K Z G σ H e /\ (d e).holds (fun ws e' => ∀ G' a xs H', Rel K Z G' σ H' e' -> Same G G' -> H' a = some (.lst xs) -> G' a = none -> Z.H a = none -> Free σ e' a -> Reps K G' ws xs -> Q (.ref a) H') (XH K Z EE σ G)
def PostS (D : Ends) (G : Hp) : SR -> Prop
 | .nx e' => ∀ G' σ' H', Rel K Z G' σ' H' e' -> Same G G' -> D.nx σ' H'
 | .bk e' => ∀ G' σ' H', Rel K Z G' σ' H' e' -> Same G G' -> D.bk σ' H'
 | .ct e' => ∀ G' σ' H', Rel K Z G' σ' H' e' -> Same G G' -> D.ct σ' H'
 | .rt s e' => ∀ G' σ' v H', Rel K Z G' σ' H' e' -> Same G G' -> SlotOk K Z G' H' s (some v) -> D.rt v H'
 | .ex c e' => ∀ G' σ' H', Rel K Z G' σ' H' e' -> Same G G' -> EE σ' c none H'
 | .no => False
def liftS (d : List S -> SR) : TS := fun D σ H => ∃ G e, Rel K Z G σ H e /\ PostS K Z EE D G (d e)
end
section
variable (Z : Zt) (X : Cx) (EE : St -> XK)
def DE (e : Expr) (d : Den W) : Prop := PE X e (liftE X.K Z EE d)
def DF (e : Expr) (d : Den (List W)) : Prop := PE X e (liftF X.K Z EE d)
def DT (e : Expr) (d : Den Bool) : Prop := PT X e (liftT X.K Z EE d)
def DW (e : Expr) (d : Den Bool) : Prop := PW X e (liftT X.K Z EE d)
def DA (es : List Expr) (d : Den (List W)) : Prop := PA X es (liftA X.K Z EE d)
def DS (st : Stmt) (d : List S -> SR) : Prop := PS X st (liftS X.K Z EE d)
def DSs (sts : List Stmt) (d : List S -> SR) : Prop := PSs X sts (liftS X.K Z EE d)
end
theorem PE.mono {X : Cx} {e : Expr} {t t' : TE} (h : PE X e t) (i : ∀ σ H Q, t' σ H Q -> t σ H Q) : PE X e t' := fun pins s σ H Q I q => h pins s σ H Q I (i σ H Q q)
theorem PT.mono {X : Cx} {e : Expr} {t t' : TT} (h : PT X e t) (i : ∀ σ H Q, t' σ H Q -> t σ H Q) : PT X e t' := fun pins s σ H Q I q => h pins s σ H Q I (i σ H Q q)
theorem PW.mono {X : Cx} {e : Expr} {t t' : TT} (h : PW X e t) (i : ∀ σ H Q, t' σ H Q -> t σ H Q) : PW X e t' := fun wh pins s σ H Q I q => h wh pins s σ H Q I (i σ H Q q)
theorem PA.mono {X : Cx} {es : List Expr} {t t' : TA} (h : PA X es t) (i : ∀ σ H Q, t' σ H Q -> t σ H Q) : PA X es t' := fun p pins s σ H Q I q => h p pins s σ H Q I (i σ H Q q)
theorem PS.mono {X : Cx} {st : Stmt} {t t' : TS} (h : PS X st t) (i : ∀ D σ H, t' D σ H -> t D σ H) : PS X st t' := fun pins s σ H D I q => h pins s σ H D I (i D σ H q)
theorem PSs.mono {X : Cx} {st : List Stmt} {t t' : TS} (h : PSs X st t) (i : ∀ D σ H, t' D σ H -> t D σ H) : PSs X st t' := fun pins s σ H D I q => h pins s σ H D I (i D σ H q)
end D
set_option Elab.async false
set_option linter.all false
set_option maxRecDepth 100000
set_option maxHeartbeats 1000000
namespace D
open PySem L2
section
variable (K : PySem.W.Frag)
def Op2 (r : R2) (f : W -> W -> Option W) : Prop := ∀ (G H : Hp) (x y : V) (wx wy w : W) (Q : VK), Same G H -> Rep K G wx x -> Rep K G wy y -> f wx wy = some w -> (∀ G' v H', Grow G H G' H' -> Rep K G' w v -> Q v H') -> r x y H Q
def Op1 (r : V -> Hp -> VK -> Prop) (f : W -> Option W) : Prop := ∀ (G H : Hp) (x : V) (wx w : W) (Q : VK), Same G H -> Rep K G wx x -> f wx = some w -> (∀ G' v H', Grow G H G' H' -> Rep K G' w v -> Q v H') -> r x H Q
def OpN (r : List V -> Hp -> VK -> Prop) (f : List W -> Option W) : Prop := ∀ (G H : Hp) (xs : List V) (ws : List W) (w : W) (Q : VK), Same G H -> Reps K G ws xs -> f ws = some w -> (∀ G' v H', Grow G H G' H' -> Rep K G' w v -> Q v H') -> r xs H Q
end
noncomputable def dC (w : W) : Den W := fun e => .ok w e
noncomputable def dVar (i : Nat) : Den W := fun e => match e[i]? with
 | some (.fr w) => .ok w e
 | some (.own false ws) => .ok (.lst ws) (e.set i (.fr (.lst ws)))
 | _ => .no
noncomputable def dOp (f : W -> W -> Option W) (da db : Den W) : Den W := fun e => (da e).bind fun x e1 => (db e1).bind fun y e2 => ofOpt (f x y) e2
noncomputable def dUn (f : W -> Option W) (da : Den W) : Den W := fun e => (da e).bind fun x e1 => ofOpt (f x) e1
noncomputable def dTest (da : Den W) : Den Bool := fun e => (da e).bind fun x e1 => match x with
 | .bl k => .ok k e1
 | _ => .no
noncomputable def truW : W -> Option Bool
 | .non => some false
 | .bl b => some b
 | .int i => some (i != 0)
 | .str x => if x.length <= 16777216 then some ((x.length : Int) != 0) else none
 | .tup xs => some (!xs.isEmpty)
 | .lst xs => some (!xs.isEmpty)
 | .exc _ => none
 | .dic _ => none
 | .dw _ _ _ _ => none
 | .fn _ _ _ => none
noncomputable def dTru (da : Den W) : Den Bool := fun e => (da e).bind fun x e1 => ofOpt (truW x) e1
noncomputable def dOr (a b : Den Bool) : Den Bool := fun e => (a e).bind fun x e1 => if x = true then .ok true e1 else b e1
noncomputable def dNot (a : Den Bool) : Den Bool := fun e => (a e).bind fun x e1 => .ok (!x) e1
noncomputable def dAndV (a b : Den W) : Den W := fun e => (a e).bind fun x e1 => match x with
 | .bl true => b e1
 | .bl false => .ok (.bl false) e1
 | _ => .no
noncomputable def dNil : Den (List W) := fun e => .ok [] e
noncomputable def dCons (a : Den W) (r : Den (List W)) : Den (List W) := fun e => (a e).bind fun x e1 => (r e1).bind fun xs e2 => .ok (x :: xs) e2
noncomputable def dTup (a : Den (List W)) : Den W := fun e => (a e).bind fun xs e1 => if xs.length <= 16777216 then .ok (.tup xs) e1 else .no
noncomputable def dLst (a : Den (List W)) : Den (List W) := fun e => (a e).bind fun xs e1 => if xs.length <= 16777216 then .ok xs e1 else .no
noncomputable def dFz (a : Den (List W)) : Den W := fun e => (a e).bind fun xs e1 => .ok (.lst xs) e1
noncomputable def dFn (f : List W -> Option W) (a : Den (List W)) : Den W := fun e => (a e).bind fun xs e1 => ofOpt (f xs) e1
section
variable {X : Cx} {Z : Zt} {EE : St -> XK} {a b c e : Expr} {es : List Expr} {da db : Den W} {dc ta tb : Den Bool} {dA : Den (List W)} {pos : Pos}
theorem XH.trans {K : PySem.W.Frag} {σ : St} {G G1 : Hp} (s : Same G G1) {c : Value} {e : List S} (h : XH K Z EE σ G c e) : XH K Z EE σ G1 c e := fun G' H' r q => h G' H' r (s.trans q)
theorem de_int {i : Int} {j pos} : DE Z X EE (.Constant (.int i) j pos) (dC (.int i)) := PE.mono pe_int fun σ H Q ⟨G, e, r, h⟩ => h G (.int i) H r (.refl _) rfl
theorem de_bl {i : Bool} {j pos} : DE Z X EE (.Constant (.bool i) j pos) (dC (.bl i)) := PE.mono pe_bl fun σ H Q ⟨G, e, r, h⟩ => h G (.bl i) H r (.refl _) rfl
theorem de_non {j pos} : DE Z X EE (.Constant .none j pos) (dC .non) := PE.mono pe_non fun σ H Q ⟨G, e, r, h⟩ => h G .non H r (.refl _) rfl
theorem de_str {i : Str} {j pos} : DE Z X EE (.Constant (.str i) j pos) (dC (.str i)) := PE.mono pe_str fun σ H Q ⟨G, e, r, h⟩ => h G (.str i) H r (.refl _) rfl
theorem lift_var {K : PySem.W.Frag} {i : Nat} : ∀ σ H Q, liftE K Z EE (dVar i) σ H Q -> tVar i σ H Q := by
 rintro σ H Q ⟨G, e, r, h⟩
 unfold dVar at h
 split at h
 ·rename_i w hw
  obtain ⟨v, h1, h2⟩ := r.fr hw
  exact ⟨v, h1, h G v H r (.refl _) h2⟩
 ·rename_i ws hw
  obtain ⟨v, G', h1, h2, h3, h4⟩ := r.freeze hw
  exact ⟨v, h1, h G' v H h4 h2 h3⟩
 ·exact h.elim
theorem dv (i : Nat) {x : Str} {pos : Pos} (hN : X.N[i]? = some x := by rfl) (hv : Vis X.env.scope x := by walk_at "1") (hd : (x == ("__debug__" : Str)) = false := by decide)
  (hcd : (x == ("__classdict__" : Str)) = false := by decide) : DE Z X EE (.Name x pos) (dVar i) := PE.mono (pv i hN hv hd hcd) lift_var
theorem lift_op {K : PySem.W.Frag} {r : R2} {f : W -> W -> Option W} (hf : Op2 K r f) : ∀ σ H Q, liftE K Z EE (dOp f da db) σ H Q -> tOp r (liftE K Z EE da) (liftE K Z EE db) σ H Q := by
 rintro σ H Q ⟨G, e, rel, h⟩
 simp only [dOp, R.holds_bind, ofOpt_holds] at h
 refine ⟨G, e, rel, h.imp (fun x e1 h G1 v1 H1 r1 s1 p1 => ?_) fun _ _ h => h⟩
 refine ⟨G1, e1, r1, h.imp (fun y e2 h G2 v2 H2 r2 s2 p2 => ?_) fun _ _ h => XH.trans s1 h⟩
 obtain ⟨w, hw, h⟩ := h
 exact hf G2 H2 v1 v2 x y w Q r2.sub (Rep.mono s2 x p1) p2 hw fun G' v H' g p => h G' v H' (r2.grow g) ((s1.trans s2).trans g.gg) p
theorem de_op {op : Operator} {r : R2} {f : W -> W -> Option W} (ho : OpR X (binaryOp op) r) (hf : Op2 X.K r f) (ha : DE Z X EE a da) (hb : DE Z X EE b db) : DE Z X EE (.BinOp a op b pos) (dOp f da db) := PE.mono (pe_op ho ha hb) (lift_op hf)
theorem de_cmp {op : CmpOp} {r : R2} {f : W -> W -> Option W} (ho : OpR X (compareOp op) r) (hf : Op2 X.K r f) (ha : DE Z X EE a da) (hb : DE Z X EE b db) (hm : behindInMarks op b = false) : DE Z X EE (.Compare a [op] [b] pos) (dOp f da db) := PE.mono (pe_cmpR ho ha hb hm) (lift_op hf)
theorem lift_test {K : PySem.W.Frag} {σ : St} {H : Hp} {Q : Bool -> Hp -> Prop} (h : liftT K Z EE (dTest da) σ H Q) : liftE K Z EE da σ H (fun x H' => ∃ k, x = .bl k /\ Q k H') := by
 obtain ⟨G, e, rel, h⟩ := h
 simp only [dTest, R.holds_bind] at h
 refine ⟨G, e, rel, h.imp (fun x e1 h G1 v1 H1 r1 s1 p1 => ?_) fun _ _ h => h⟩
 cases x with
 | bl k =>
  cases (show v1 = V.bl k from p1)
  exact ⟨k, rfl, h G1 H1 r1 s1⟩
 | _ => exact h.elim
theorem dt_cmp {op : CmpOp} {r : R2} {f : W -> W -> Option W} (ho : OpR X (compareOp op) r) (hf : Op2 X.K r f) (ha : DE Z X EE a da) (hb : DE Z X EE b db) (hm : behindInMarks op b = false) : DT Z X EE (.Compare a [op] [b] pos) (dTest (dOp f da db)) :=
 PT.mono (pt_cmpR ho ha hb hm) fun σ H Q h => lift_op hf σ H _ (lift_test h)
theorem lift_un {K : PySem.W.Frag} {r : V -> Hp -> VK -> Prop} {f : W -> Option W} (hf : Op1 K r f) : ∀ σ H Q, liftE K Z EE (dUn f da) σ H Q -> tUn r (liftE K Z EE da) σ H Q := by
 rintro σ H Q ⟨G, e, rel, h⟩
 simp only [dUn, R.holds_bind, ofOpt_holds] at h
 refine ⟨G, e, rel, h.imp (fun x e1 h G1 v1 H1 r1 s1 p1 => ?_) fun _ _ h => h⟩
 obtain ⟨w, hw, h⟩ := h
 exact hf G1 H1 v1 x w Q r1.sub p1 hw fun G' v H' g p => h G' v H' (r1.grow g) (s1.trans g.gg) p
theorem de_un {op : UnaryOp} {r : V -> Hp -> VK -> Prop} {f : W -> Option W} (ho : UnR X (unaryOp op) r) (hf : Op1 X.K r f) (ha : DE Z X EE a da) : DE Z X EE (.UnaryOp op a pos) (dUn f da) := PE.mono (pe_un ho ha) (lift_un hf)
theorem tru_of {K : PySem.W.Frag} {G H : Hp} (s : Same G H) {w : W} {v : V} {k : Bool} (h : Rep K G w v) (e : truW w = some k) : TruV K v H k := by
 cases w with
 | non => cases (show v = .non from h); cases e; rfl
 | bl b => cases (show v = .bl b from h); cases e; rfl
 | int i => cases (show v = .int i from h); cases e; rfl
 | str x =>
  cases (show v = .str x from h)
  simp only [truW] at e
  split at e
  ·cases e; exact ⟨by rw [sizeLine_eq]; assumption, rfl⟩
  ·cases e
 | tup ws =>
  obtain ⟨p, xs, rfl, q, r⟩ := h
  cases e
  refine .inr (.inl ⟨xs, s.tup q, ?_⟩)
  have := r.length
  cases ws <;> cases xs <;> simp_all
 | lst ws =>
  obtain ⟨p, xs, rfl, q, r⟩ := h
  cases e
  refine .inl ⟨xs, s.seq q, ?_⟩
  have := r.length
  cases ws <;> cases xs <;> simp_all
 | exc _ => cases e
 | dic _ => cases e
 | dw _ _ _ _ => cases e
 | fn _ _ _ => cases e
theorem dt_val (ha : DE Z X EE a da) (he : ∀ whole, isTrue a X.env whole = (do let v <- whole; standAt a.pos; holding [v] (truthy v)) := by intro _; rfl) : DT Z X EE a (dTru da) := by
 refine PT.mono (pt_truth ha he) ?_
 rintro σ H Q ⟨G, e, rel, h⟩
 simp only [dTru, R.holds_bind, ofOpt_holds] at h
 refine ⟨G, e, rel, h.imp (fun x e1 h G1 v1 H1 r1 s1 p1 => ?_) fun _ _ h => h⟩
 obtain ⟨k, hk, h⟩ := h
 exact ⟨k, tru_of r1.sub p1 hk, h G1 H1 r1 s1⟩
theorem lift_or {K : PySem.W.Frag} : ∀ σ H Q, liftT K Z EE (dOr ta tb) σ H Q -> tOr (liftT K Z EE ta) (liftT K Z EE tb) σ H Q := by
 rintro σ H Q ⟨G, e, rel, h⟩
 simp only [dOr, R.holds_bind] at h
 refine ⟨G, e, rel, h.imp (fun x e1 h G1 H1 r1 s1 => ?_) fun _ _ h => h⟩
 cases x with
 | false => exact ⟨G1, e1, r1, R.holds.imp (show (tb e1).holds _ _ from h) (fun y e2 h G2 H2 r2 s2 => h G2 H2 r2 (s1.trans s2)) fun _ _ h => XH.trans s1 h⟩
 | true => exact (show ∀ G' H', _ -> _ -> Q true H' from h) G1 H1 r1 s1
theorem dw_or1 (ha : DT Z X EE a ta) : DW Z X EE (.BoolOp .Or [a] pos) ta := pw_or1 ha
theorem dw_or {rest : List Expr} (ha : DT Z X EE a ta) (hb : DW Z X EE (.BoolOp .Or (b :: rest) pos) tb) : DW Z X EE (.BoolOp .Or (a :: b :: rest) pos) (dOr ta tb) := PW.mono (pw_or ha hb) lift_or
theorem dt_w (h : DW Z X EE a ta) : DT Z X EE a ta := PW.pt h
theorem dt_not (ha : DT Z X EE a ta) : DT Z X EE (.UnaryOp .Not a pos) (dNot ta) := by
 refine PT.mono (pt_not ha) ?_
 rintro σ H Q ⟨G, e, rel, h⟩
 simp only [dNot, R.holds_bind] at h
 exact ⟨G, e, rel, h.imp (fun x e1 h G1 H1 r1 s1 => h G1 H1 r1 s1) fun _ _ h => h⟩
theorem de_one {op} (h : DE Z X EE a da) : DE Z X EE (.BoolOp op [a] pos) da := pe_one h
theorem de_and {rest : List Expr} (ha : DE Z X EE a da) (hb : DE Z X EE (.BoolOp .And (b :: rest) pos) db) : DE Z X EE (.BoolOp .And (a :: b :: rest) pos) (dAndV da db) := by
 refine PE.mono (pe_and ha hb) ?_
 rintro σ H Q ⟨G, e, rel, h⟩
 simp only [dAndV, R.holds_bind] at h
 refine ⟨G, e, rel, h.imp (fun x e1 h G1 v1 H1 r1 s1 p1 => ?_) fun _ _ h => h⟩
 cases x with
 | bl k =>
  cases (show v1 = V.bl k from p1)
  cases k with
  | true => exact ⟨true, rfl, ⟨G1, e1, r1, R.holds.imp (show (db e1).holds _ _ from h) (fun y e2 h G2 v2 H2 r2 s2 p2 => h G2 v2 H2 r2 (s1.trans s2) p2) fun _ _ h => XH.trans s1 h⟩⟩
  | false => exact ⟨false, rfl, (show ∀ G' v H', _ -> _ -> v = V.bl false -> Q v H' from h) G1 _ H1 r1 s1 rfl⟩
 | _ => exact h.elim
theorem da_nil : DA Z X EE [] dNil := PA.mono pa_nil fun σ H Q ⟨G, e, r, h⟩ => h G [] H r (.refl _) rfl
theorem da_cons (ha : DE Z X EE e da) (hr : DA Z X EE es dA) (hs : starEach (e :: es) X.env = (false, eval e X.env) :: starEach es X.env := by rfl) : DA Z X EE (e :: es) (dCons da dA) := by
 refine PA.mono (pa_cons ha hr hs) ?_
 rintro σ H Q ⟨G, e, rel, h⟩
 simp only [dCons, R.holds_bind] at h
 refine ⟨G, e, rel, h.imp (fun x e1 h G1 v1 H1 r1 s1 p1 => ?_) fun _ _ h => h⟩
 refine ⟨G1, e1, r1, h.imp (fun xs e2 h G2 vs H2 r2 s2 p2 => ?_) fun _ _ h => XH.trans s1 h⟩
 exact h G2 (v1 :: vs) H2 r2 (s1.trans s2) ⟨v1, vs, rfl, Rep.mono s2 x p1, p2⟩
theorem de_tup {x1} (h : DA Z X EE es dA) : DE Z X EE (.Tuple es x1 pos) (dTup dA) := by
 refine PE.mono (pe_tup h) ?_
 rintro σ H Q ⟨G, e, rel, h⟩
 simp only [dTup, R.holds_bind] at h
 refine ⟨G, e, rel, h.imp (fun ws e1 h G1 vs H1 r1 s1 p1 => ?_) fun _ _ h => h⟩
 split at h
 ·rename_i hl
  refine ⟨by rw [p1.length, sizeLine_eq]; exact hl, fun p hp => ?_⟩
  have g := Grow.laid r1.sub hp (.tup vs)
  exact (show ∀ G' v H', _ -> _ -> Rep X.K G' (.tup ws) v -> Q v H' from h) _ (.ref p) _ (r1.grow g) (s1.trans g.gg) ⟨p, vs, rfl, SqT.of upd_same, Reps.mono g.gg ws p1⟩
 ·exact h.elim
theorem free_new {K : PySem.W.Frag} {G H : Hp} {σ : St} {e : List S} (r : Rel K Z G σ H e) {p : Addr} (hp : H p = none) : Free σ e p := fun j b ws h q => by
 obtain ⟨a, xs, h1, h2, _⟩ := r.own h
 rw [q] at h1
 cases h1
 rw [hp] at h2
 cases h2
theorem zh_new {K : PySem.W.Frag} {G H : Hp} {σ : St} {e : List S} (r : Rel K Z G σ H e) {p : Addr} (hp : H p = none) : Z.H p = none := by
 cases q : Z.H p with
 | none => rfl
 | some o =>
  by_cases hi : p ∈ Z.io
  ·exact absurd hp (r.ion p hi)
  ·rw [r.ent p o q hi] at hp; cases hp
theorem new_list {K : PySem.W.Frag} {G H : Hp} {σ : St} {e : List S} {ws : List W} {vs : List V} {Q : VK} {G0 : Hp} (r : Rel K Z G σ H e) (s : Same G0 G) (p1 : Reps K G ws vs)
  (h : ∀ G' a xs H', Rel K Z G' σ H' e -> Same G0 G' -> H' a = some (.lst xs) -> G' a = none -> Z.H a = none -> Free σ e a -> Reps K G' ws xs -> Q (.ref a) H') : ∀ p, H p = none -> Q (.ref p) (upd H p (.lst vs)) := fun p hp => by
 have g := Grow.hid r.sub hp (.lst vs)
 exact h G p vs _ (r.grow g) s upd_same (r.sub.free hp) (zh_new r hp) (free_new r hp) p1
theorem df_lst (h : DA Z X EE es dA) : DF Z X EE (.List es pos) (dLst dA) := by
 refine PE.mono (pe_lst h) ?_
 rintro σ H Q ⟨G, e, rel, h⟩
 simp only [dLst, R.holds_bind] at h
 refine ⟨G, e, rel, h.imp (fun ws e1 h G1 vs H1 r1 s1 p1 => ?_) fun _ _ h => h⟩
 split at h
 ·rename_i hl
  exact ⟨by rw [p1.length, sizeLine_eq]; exact hl, new_list r1 s1 p1 h⟩
 ·exact h.elim
theorem Rel.seen {K : PySem.W.Frag} {G H : Hp} {σ : St} {e : List S} (r : Rel K Z G σ H e) {a : Addr} {xs : List V} (h : H a = some (.lst xs)) (hg : G a = none) (hz : Z.H a = none) (hf : Free σ e a) : Same G (upd G a (.lst xs)) /\ Rel K Z (upd G a (.lst xs)) σ H e := by
 have sg : Same G (upd G a (.lst xs)) := same_upd hg _
 refine ⟨sg, ⟨fun c o z => ?_, fun j s z => ?_, r.len, r.dis, r.ent, r.ion, fun c z => ?_⟩⟩
 ·by_cases hc : c = a
  ·subst hc; rw [upd_same] at z; cases z; exact h
  ·rw [upd_ne hc] at z; exact r.sub c o z
 ·have y := r.slot j s z
  cases s with
  | no => trivial
  | fr w =>
   obtain ⟨u, y1, y2⟩ := y
   exact ⟨u, y1, Rep.mono sg w y2⟩
  | own b2 w2 =>
   obtain ⟨c, ys, y1, y2, y3, y4, y5⟩ := y
   refine ⟨c, ys, y1, y2, ?_, y4, Reps.mono sg w2 y5⟩
   rw [upd_ne]; exact y3
   rintro rfl
   obtain ⟨c', _, z1, _⟩ := r.own z
   rw [z1] at y1
   cases y1
   exact hf j b2 w2 z z1
  | dic kvs =>
   obtain ⟨c, y1, y2, y3, y4⟩ := y
   refine ⟨c, y1, y2, ?_, y4⟩
   rw [upd_ne (ne_of y2 h (dO_ne rfl))]; exact y3
  | thr us w2 vs =>
   obtain ⟨t, l, o, xs2, ys, zs, y1, y2, y3, y4, y5, y6, y7, y8⟩ := y
   refine ⟨t, l, o, xs2, ys, zs, y1, sg _ _ y2, y3, ?_, y5, Reps.mono sg us y6, Reps.mono sg w2 y7, Reps.mono sg vs y8⟩
   rw [upd_ne (ne_of y3 h (fun z => nomatch z))]; exact y4
  | nest wss => exact NestOk.move y sg fun l o ys k1 k2 k3 => ⟨k1, by rw [upd_ne (ne_of k1 h (fun z => nomatch z))]; exact k2, k3⟩
  | dw sh ks ws => exact DwOk.move y sg fun l o ys k1 k2 k3 => ⟨k1, by rw [upd_ne (ne_of k1 h (fun z => nomatch z))]; exact k2, k3⟩
 ·by_cases hc : c = a
  ·subst hc; exact absurd hz z
  ·rw [upd_ne hc]; exact r.gen c z
theorem de_fz (h : DF Z X EE e dA) : DE Z X EE e (dFz dA) := by
 refine PE.mono h ?_
 rintro σ H Q ⟨G, e, rel, h⟩
 simp only [dFz, R.holds_bind] at h
 refine ⟨G, e, rel, h.imp (fun ws e1 h G1 a xs H1 r1 s1 q1 q2 q3 q4 p1 => ?_) fun _ _ h => h⟩
 obtain ⟨sg, rg⟩ := r1.seen q1 q2 q3 q4
 exact (show ∀ G' v H', _ -> _ -> Rep X.K G' (.lst ws) v -> Q v H' from h) _ (.ref a) _ rg (s1.trans sg) ⟨a, xs, rfl, SqL.of upd_same, Reps.mono sg ws p1⟩
theorem lift_fn {K : PySem.W.Frag} {r : List V -> Hp -> VK -> Prop} {f : List W -> Option W} (hf : OpN K r f) : ∀ σ H Q, liftE K Z EE (dFn f dA) σ H Q -> tCB r (liftA K Z EE dA) σ H Q := by
 rintro σ H Q ⟨G, e, rel, h⟩
 simp only [dFn, R.holds_bind, ofOpt_holds] at h
 refine ⟨G, e, rel, h.imp (fun ws e1 h G1 vs H1 r1 s1 p1 => ?_) fun _ _ h => h⟩
 obtain ⟨w, hw, h⟩ := h
 exact hf G1 H1 vs ws w Q r1.sub p1 hw fun G' v H' g p => h G' v H' (r1.grow g) (s1.trans g.gg) p
theorem de_blt {x : Str} {id : String} {p : Pos} {r : List V -> Hp -> VK -> Prop} {f : List W -> Option W} (hc : CallR X (.builtin id) r) (hf : OpN X.K r f) (hv : bootBuiltins x = some (.builtin id)) (hm : X.mg x = none) (ha : DA Z X EE (e :: es) dA) (hg : Gl X x := by rfl) (hn : x ≠ "__name__" := by decide) (hdb : (x == ("__debug__" : Str)) = false := by decide)
  (he : starEach (e :: es) X.env = (false, eval e X.env) :: starEach es X.env := by rfl) (hpl : (backTo pos (starEach es X.env)).any (·.1) = false := by rfl) : DE Z X EE (.Call (.Name x p) (e :: es) [] pos) (dFn f dA) :=
 PE.mono (pe_callB hc hg hm hv ha hn hdb he hpl) (lift_fn hf)
theorem de_bty {x : Str} {T : String} {p : Pos} {r : List V -> Hp -> VK -> Prop} {f : List W -> Option W} (hc : CallR X (.type T) r) (hf : OpN X.K r f) (hv : bootBuiltins x = some (.type T)) (hm : X.mg x = none) (ha : DA Z X EE (e :: es) dA) (hg : Gl X x := by rfl) (hn : x ≠ "__name__" := by decide) (hdb : (x == ("__debug__" : Str)) = false := by decide)
  (he : starEach (e :: es) X.env = (false, eval e X.env) :: starEach es X.env := by rfl) (hpl : (backTo pos (starEach es X.env)).any (·.1) = false := by rfl) : DE Z X EE (.Call (.Name x p) (e :: es) [] pos) (dFn f dA) :=
 PE.mono (pe_callTy hc hg hm hv ha hn hdb he hpl) (lift_fn hf)
end
end D
set_option Elab.async false
set_option linter.all false
set_option maxRecDepth 100000
set_option maxHeartbeats 1000000
namespace D
open PySem L2
noncomputable def dNx : List S -> SR := fun e => .nx e
noncomputable def dSeq (a b : List S -> SR) : List S -> SR := fun e => match a e with
 | .nx e' => b e'
 | r => r
noncomputable def R.stm {α : Type} (r : R α) (k : α -> List S -> SR) : SR := match r with
 | .ok a e => k a e
 | .ex c e => .ex c e
 | .no => .no
noncomputable def dDrop (d : Den W) : List S -> SR := fun e => (d e).stm fun _ e' => .nx e'
noncomputable def dRet (d : Den W) : List S -> SR := fun e => (d e).stm fun w e' => .rt (.fr w) e'
noncomputable def dRetF (d : Den (List W)) : List S -> SR := fun e => (d e).stm fun ws e' => .rt (.own false ws) e'
noncomputable def dRetO (i : Nat) : List S -> SR := fun e => match e[i]? with
 | some (.own false ws) => .rt (.own false ws) e
 | some (.fr w) => .rt (.fr w) e
 | _ => .no
noncomputable def dIfS (c : Den Bool) (a b : List S -> SR) : List S -> SR := fun e => (c e).stm fun x e1 => if x = true then a e1 else b e1
noncomputable def dSet (i : Nat) (d : Den W) : List S -> SR := fun e => (d e).stm fun w e' => .nx (e'.set i (.fr w))
noncomputable def dSetO (i : Nat) (d : Den (List W)) : List S -> SR := fun e => (d e).stm fun ws e' => .nx (e'.set i (.own false ws))
noncomputable def forD (i : Nat) (b : List S -> SR) : List W -> List S -> SR
 | [], e => .nx e
 | w :: ws, e => match b (e.set i (.fr w)) with
  | .nx e' => forD i b ws e'
  | .ct e' => forD i b ws e'
  | .bk e' => .nx e'
  | .rt s e' => .rt s e'
  | .ex c e' => .ex c e'
  | .no => .no
noncomputable def whileD (c : Den Bool) (b : List S -> SR) : Nat -> List S -> SR
 | 0, _ => .no
 | n + 1, e => (c e).stm fun x e1 => if x = true then (match b e1 with
  | .nx e' => whileD c b n e'
  | .ct e' => whileD c b n e'
  | .bk e' => .nx e'
  | .rt s e' => .rt s e'
  | .ex c e' => .ex c e'
  | .no => .no) else .nx e1
noncomputable def seqW : W -> Option (List W)
 | .tup ws => some ws
 | .lst ws => some ws
 | _ => none
noncomputable def dFor (i : Nat) (d : Den W) (b : List S -> SR) : List S -> SR := fun e => (d e).stm fun w e1 => match seqW w with
 | some ws => forD i b ws e1
 | none => .no
noncomputable def rangeW (lo hi : Int) : List W := (List.range (hi - lo).toNat).map fun k => .int (lo + (k : Nat))
noncomputable def okI (j : Int) : Bool := Nat.ble j.natAbs 4611686018427387903
theorem okI_to {j : Int} (h : okI j = true) : -(2 ^ 62) <= j /\ j < 2 ^ 62 := by
 have z : j.natAbs <= 4611686018427387903 := Nat.le_of_ble_eq_true h
 have e : (2 : Int) ^ 62 = 4611686018427387904 := by decide
 rw [e]
 omega
theorem okI_of {j : Int} (h1 : -1000000000 <= j) (h2 : j <= 1000000000) : okI j = true := Nat.ble_eq_true_of_le (by omega)
noncomputable def rng1 : List W -> Option (List W)
 | [.int j] => if okI j = true then some (rangeW 0 j) else none
 | _ => none
noncomputable def rng2 : List W -> Option (List W)
 | [.int i, .int j] => if okI i = true /\ okI j = true then some (rangeW i j) else none
 | _ => none
noncomputable def dForR (i : Nat) (g : List W -> Option (List W)) (d : Den (List W)) (b : List S -> SR) : List S -> SR := fun e => (d e).stm fun w e1 => match g w with
 | some ws => forD i b ws e1
 | none => .no
section
variable {X : Cx} {Z : Zt} {EE : St -> XK} {a c e tg : Expr} {es : List Expr} {st : Stmt} {rest body : List Stmt} {d : Den W} {dc : Den Bool} {dA : Den (List W)} {s1 s2 : List S -> SR} {pos : Pos}
theorem PostS.trans {K : PySem.W.Frag} {D : Ends} {G G1 : Hp} (s : Same G G1) : ∀ {r : SR}, PostS K Z EE D G r -> PostS K Z EE D G1 r
 | .nx e', h => fun G' σ' H' r q => h G' σ' H' r (s.trans q)
 | .bk e', h => fun G' σ' H' r q => h G' σ' H' r (s.trans q)
 | .ct e', h => fun G' σ' H' r q => h G' σ' H' r (s.trans q)
 | .rt w e', h => fun G' σ' v H' r q => h G' σ' v H' r (s.trans q)
 | .ex c e', h => fun G' σ' H' r q => h G' σ' H' r (s.trans q)
 | .no, h => h
theorem post_stm {K : PySem.W.Frag} {D : Ends} {G : Hp} {α : Type} {r : R α} {k : α -> List S -> SR} {σ : St} (h : PostS K Z EE D G (r.stm k)) : r.holds (fun a e' => PostS K Z EE D G (k a e')) (XH K Z EE σ G) := by
 cases r with
 | ok a e => exact h
 | ex c e => exact fun G' H' r q => h G' σ H' r q
 | no => exact h
theorem dss_nil : DSs Z X EE [] dNx := PSs.mono pss_nil fun D σ H ⟨G, e, r, h⟩ => h G σ H r (.refl _)
theorem lift_seq {K : PySem.W.Frag} : ∀ D σ H, liftS K Z EE (dSeq s1 s2) D σ H -> tSeq (liftS K Z EE s1) (liftS K Z EE s2) D σ H := by
 rintro D σ H ⟨G, e, rel, h⟩
 refine ⟨G, e, rel, ?_⟩
 unfold dSeq at h
 cases q : s1 e with
 | nx e' => rw [q] at h; exact fun G' σ' H' r s => ⟨G', e', r, PostS.trans s h⟩
 | bk e' => rw [q] at h; exact h
 | ct e' => rw [q] at h; exact h
 | rt w e' => rw [q] at h; exact h
 | ex c e' => rw [q] at h; exact h
 | no => rw [q] at h; exact h
theorem dss_cons (h1 : DS Z X EE st s1) (h2 : DSs Z X EE rest s2) : DSs Z X EE (st :: rest) (dSeq s1 s2) := PSs.mono (pss_cons h1 h2) lift_seq
theorem dss_one (h1 : DS Z X EE st s1) : DSs Z X EE [st] s1 := pss_one h1
theorem ds_expr (he : DE Z X EE e d) (hs : swapsWith e none pos.line X.env = pure false := by rfl) : DS Z X EE (.Expr e pos) (dDrop d) := by
 refine PS.mono (ps_expr he hs) ?_
 rintro D σ H ⟨G, e, rel, h⟩
 exact ⟨G, e, rel, (post_stm h).imp (fun w e1 h G1 v1 H1 r1 s1 p1 => h G1 σ H1 r1 s1) fun _ _ h => h⟩
theorem ds_ret (he : DE Z X EE e d) : DS Z X EE (.Return (some e) pos) (dRet d) := by
 refine PS.mono (ps_ret he) ?_
 rintro D σ H ⟨G, e, rel, h⟩
 exact ⟨G, e, rel, (post_stm h).imp (fun w e1 h G1 v1 H1 r1 s1 p1 => h G1 σ v1 H1 r1 s1 ⟨v1, rfl, p1⟩) fun _ _ h => h⟩
theorem ds_retF (he : DF Z X EE e dA) : DS Z X EE (.Return (some e) pos) (dRetF dA) := by
 refine PS.mono (ps_ret he) ?_
 rintro D σ H ⟨G, e, rel, h⟩
 exact ⟨G, e, rel, (post_stm h).imp (fun w e1 h G1 a xs H1 r1 s1 q1 q2 q3 q4 p1 => h G1 σ (.ref a) H1 r1 s1 ⟨a, xs, rfl, q1, q2, q3, p1⟩) fun _ _ h => h⟩
theorem ds_retO (i : Nat) {x : Str} {p : Pos} (hN : X.N[i]? = some x := by rfl) (hv : Vis X.env.scope x := by walk_at "1") (hd : (x == ("__debug__" : Str)) = false := by decide)
  (hcd : (x == ("__classdict__" : Str)) = false := by decide) : DS Z X EE (.Return (some (.Name x p)) pos) (dRetO i) := by
 refine PS.mono (ps_ret (pv i hN hv hd hcd)) ?_
 rintro D σ H ⟨G, e, rel, h⟩
 unfold dRetO at h
 split at h
 ·rename_i ws hw
  obtain ⟨a, xs, h1, h2, h3, h4, h5⟩ := rel.own hw
  exact ⟨.ref a, h1, h G σ _ H rel (.refl _) ⟨a, xs, rfl, h2, h3, h4, h5⟩⟩
 ·rename_i w hw
  obtain ⟨v, h1, h2⟩ := rel.fr hw
  exact ⟨v, h1, h G σ _ H rel (.refl _) ⟨v, rfl, h2⟩⟩
 ·exact h.elim
theorem lift_ifS {K : PySem.W.Frag} : ∀ D σ H, liftS K Z EE (dIfS dc s1 s2) D σ H -> tIfS (liftT K Z EE dc) (liftS K Z EE s1) (liftS K Z EE s2) D σ H := by
 rintro D σ H ⟨G, e, rel, h⟩
 refine ⟨G, e, rel, (post_stm h).imp (fun x e1 h G1 H1 r1 q1 => ?_) fun _ _ h => h⟩
 cases x with
 | true => exact ⟨G1, e1, r1, PostS.trans q1 h⟩
 | false => exact ⟨G1, e1, r1, PostS.trans q1 h⟩
theorem ds_if {p q : List Stmt} (hc : DT Z X EE c dc) (ha : DSs Z X EE p s1) (hb : DSs Z X EE q s2) : DS Z X EE (.If c p q pos) (dIfS dc s1 s2) := PS.mono (ps_if hc ha hb) lift_ifS
theorem ds_set (i : Nat) {x : Str} {pos' : Pos} (hN : X.N.Nodup) (he : DE Z X EE e d) (hi : X.N[i]? = some x := by rfl) (hx : Loc X.env.scope x := by walk_at "3") (hs : swapsWith e (some (.Name x pos')) pos.line X.env = pure false := by rfl) (hf : X.fn x = true \/ X.env.scope.names.lookup x = some .local := by walk_at "2") :
  DS Z X EE (.Assign [.Name x pos'] e pos) (dSet i d) := by
 refine PS.mono (ps_st i hN he hi hx hs hf) ?_
 rintro D σ H ⟨G, e, rel, h⟩
 exact ⟨G, e, rel, (post_stm h).imp (fun w e1 h G1 v1 H1 r1 q1 p1 => h G1 _ H1 (r1.set p1) q1) fun _ _ h => h⟩
theorem ds_own (i : Nat) {x : Str} {pos' : Pos} (hN : X.N.Nodup) (he : DF Z X EE e dA) (hi : X.N[i]? = some x := by rfl) (hx : Loc X.env.scope x := by walk_at "3") (hs : swapsWith e (some (.Name x pos')) pos.line X.env = pure false := by rfl) (hf : X.fn x = true \/ X.env.scope.names.lookup x = some .local := by walk_at "2") :
  DS Z X EE (.Assign [.Name x pos'] e pos) (dSetO i dA) := by
 refine PS.mono (ps_st i hN he hi hx hs hf) ?_
 rintro D σ H ⟨G, e, rel, h⟩
 exact ⟨G, e, rel, (post_stm h).imp (fun w e1 h G1 a xs H1 r1 s1 q1 q2 q3 q4 p1 => h G1 _ H1 (r1.setOwn q1 q2 q3 q4 p1) s1) fun _ _ h => h⟩
theorem ds_while (n : Nat) (hp : PassesOwn (model X.prog X.w) X.A X.env X.xe) (hc : DT Z X EE c dc) (hb : DSs Z X EE body s1) : DS Z X EE (.While c body [] pos) (whileD dc s1 n) := by
 refine PS.mono (ps_while hp hc hb) ?_
 rintro D σ H ⟨G, e, rel, h⟩
 refine ⟨fun m σ' H' => ∃ G' e', Rel X.K Z G' σ' H' e' /\ Same G G' /\ PostS X.K Z EE D G (whileD dc s1 m e'), ⟨n, G, e, rel, .refl _, h⟩, ?_⟩
 rintro m σ1 H1 ⟨G1, e1, r1, q1, h⟩
 cases m with
 | zero => exact h.elim
 | succ m =>
  refine ⟨G1, e1, r1, (post_stm (σ := σ1) h).imp (fun x e2 h G2 H2 r2 q2 => ?_) fun _ _ h => XH.trans q1 h⟩
  cases x with
  | false => exact h G2 σ1 H2 r2 (q1.trans q2)
  | true =>
   refine ⟨fun σ' H' => ∃ G' e', Rel X.K Z G' σ' H' e' /\ Same G G' /\ PostS X.K Z EE D G (whileD dc s1 m e'), fun σ' H' q => ⟨m, Nat.lt_succ_self _, q⟩, ⟨G2, e2, r2, ?_⟩⟩
   have sg := q1.trans q2
   have h : PostS X.K Z EE D G (match s1 e2 with | .nx e' => whileD dc s1 m e' | .ct e' => whileD dc s1 m e' | .bk e' => .nx e' | .rt s e' => .rt s e' | .ex c e' => .ex c e' | .no => .no) := h
   cases q : s1 e2 with
   | nx e' => rw [q] at h; exact fun G' σ' H' r s => ⟨G', e', r, sg.trans s, h⟩
   | ct e' => rw [q] at h; exact fun G' σ' H' r s => ⟨G', e', r, sg.trans s, h⟩
   | bk e' => rw [q] at h; exact fun G' σ' H' r s => h G' σ' H' r (sg.trans s)
   | rt w e' => rw [q] at h; exact fun G' σ' v H' r s => h G' σ' v H' r (sg.trans s)
   | ex c e' => rw [q] at h; exact fun G' σ' H' r s => h G' σ' H' r (sg.trans s)
   | no => rw [q] at h; exact h
theorem for_turn {K : PySem.W.Frag} {i : Nat} {D : Ends} {G G1 : Hp} {σ : St} {H : Hp} {e1 : List S} {w : W} {ws : List W} {x : V} {N : St -> Hp -> Prop} (r1 : Rel K Z G1 σ H e1) (q1 : Same G G1) (p : Rep K G1 w x) (h : PostS K Z EE D G (forD i s1 (w :: ws) e1))
  (hN : ∀ G' σ' H' e', Rel K Z G' σ' H' e' -> Same G G' -> PostS K Z EE D G (forD i s1 ws e') -> N σ' H') : gName i x σ H fun σ2 H2 => liftS K Z EE s1 { D with nx := N, ct := N, bk := D.nx } σ2 H2 := by
 refine ⟨G1, e1.set i (.fr w), r1.set p, ?_⟩
 unfold forD at h
 cases q : s1 (e1.set i (.fr w)) with
 | nx e' => rw [q] at h; exact fun G' σ' H' r s => hN G' σ' H' e' r (q1.trans s) h
 | ct e' => rw [q] at h; exact fun G' σ' H' r s => hN G' σ' H' e' r (q1.trans s) h
 | bk e' => rw [q] at h; exact fun G' σ' H' r s => h G' σ' H' r (q1.trans s)
 | rt w e' => rw [q] at h; exact fun G' σ' v H' r s => h G' σ' v H' r (q1.trans s)
 | ex c e' => rw [q] at h; exact fun G' σ' H' r s => h G' σ' H' r (q1.trans s)
 | no => rw [q] at h; exact h
def iSeq (K : PySem.W.Frag) (tl : TE) : TI := fun σ H R => tl σ H fun x H1 => ∃ a, x = .ref a /\ (((∃ xs, SqL K H1 a xs) /\ R (Itl K a) H1) \/ ((∃ xs, SqT K H1 a xs) /\ R (Itt K a) H1))
theorem pi_seq {l : Expr} {tl : TE} (hl : PE X l tl) : PI X tg l (iSeq X.K tl) := by
 intro pins s σ H R I h
 refine thn (hl pins s σ H _ I h) fun v s1 ⟨x, H1, I1, r1, q1⟩ => ?_
 obtain ⟨a, e, q⟩ := q1
 subst e
 cases r1
 rcases q with ⟨⟨xs, hq⟩, q⟩ | ⟨⟨xs, hq⟩, q⟩
 ·obtain ⟨its, rv, p, hz⟩ := I1.list hq
  refine wpAny_pyIter_list p.isList ?_
  refine ⟨s1.heap.objs.size, [s1.heap.objs.size], _, _, H1, rfl, I1.kept (t' := s1.toks) fun b o e => Heap.get?_push_of_some _ e, turn_list a _, ⟨_, Heap.get?_push_size _ rfl, rfl, rfl⟩, fun b hb => ?_, q⟩
  have e : b = s1.heap.objs.size := by simpa using hb
  subst e
  exact I1.fpOk (Nat.le_refl _) (I1.hok.fresh (Nat.le_refl _))
 ·obtain ⟨its, rv, p, hz⟩ := I1.tuple hq
  refine wpAny_pyIter_tuple (show s1.heap.IsTuple a its.toArray from p) ?_
  refine ⟨s1.heap.objs.size, [s1.heap.objs.size], _, _, H1, rfl, I1.kept (t' := s1.toks) fun b o e => Heap.get?_push_of_some _ e, turn_tuple a _, ⟨_, Heap.get?_push_size _ rfl, rfl, rfl⟩, fun b hb => ?_, q⟩
  have e : b = s1.heap.objs.size := by simpa using hb
  subst e
  exact I1.fpOk (Nat.le_refl _) (I1.hok.fresh (Nat.le_refl _))
theorem drop_cons {α : Type} {ws : List α} {k : Nat} {w : α} (h : ws[k]? = some w) : ws.drop k = w :: ws.drop (k + 1) := by
 obtain ⟨hk, rfl⟩ := List.getElem?_eq_some_iff.mp h
 exact List.drop_eq_getElem_cons hk
theorem for_seq {K : PySem.W.Frag} {i : Nat} {D : Ends} {G1 : Hp} {σ : St} {H1 : Hp} {e1 : List S} {ws : List W} {xs : List V} (r1 : Rel K Z G1 σ H1 e1) (rp : Reps K G1 ws xs) (h : PostS K Z EE D G1 (forD i s1 ws e1)) (SQ : Hp -> Prop) (hSQ : ∀ G' H', Same G1 G' -> Same G' H' -> SQ H') :
  ∃ Pv : Nat -> St -> Hp -> Prop, Pv 0 σ H1 /\ (∀ j σ H, j <= xs.length -> Pv j σ H -> SQ H) /\ (∀ (j : Nat) x σ H, xs[j]? = some x -> Pv j σ H -> gName i x σ H fun σ2 H2 => liftS K Z EE s1 { D with nx := Pv (j + 1), ct := Pv (j + 1), bk := D.nx } σ2 H2) /\ ∀ σ H, Pv xs.length σ H -> D.nx σ H := by
 refine ⟨fun j σ' H' => ∃ G' e', Rel K Z G' σ' H' e' /\ Same G1 G' /\ PostS K Z EE D G1 (forD i s1 (ws.drop j) e'), ⟨G1, e1, r1, .refl _, h⟩, ?_, ?_, ?_⟩
 ·rintro j σ' H' _ ⟨G', e', r', s', _⟩
  exact hSQ G' H' s' r'.sub
 ·rintro j x σ' H' hx ⟨G', e', r', s', h⟩
  obtain ⟨w, hw, pw⟩ := rp.getV hx
  rw [drop_cons hw] at h
  exact for_turn r' s' (Rep.mono s' w pw) h fun G'' σ'' H'' e'' r'' s'' h'' => ⟨G'', e'', r'', s'', h''⟩
 ·rintro σ' H' ⟨G', e', r', s', h⟩
  rw [rp.length, List.drop_length] at h
  exact h G' σ' H' r' s'
theorem ds_for (i : Nat) {x : Str} {pos' : Pos} (hN : X.N.Nodup) (hp : PassesOwn (model X.prog X.w) X.A X.env X.xe) (hc : X.calm = true) (hl : DE Z X EE e d) (hb : DSs Z X EE body s1)
  (hi : X.N[i]? = some x := by rfl) (hx : Loc X.env.scope x := by walk_at "3") (hf : X.fn x = true \/ X.env.scope.names.lookup x = some .local := by walk_at "2") (hs : ∀ x, foldedSetIterable e X.env x = pure x := by intro _; rfl) :
  DS Z X EE (.For (.Name x pos') e body [] pos) (dFor i d s1) := by
 refine PS.mono (ps_for hp hc (pi_seq hl) (pg_nm i hN hi hx hf) hb hs) ?_
 rintro D σ H ⟨G, e, rel, h⟩
 refine ⟨G, e, rel, (post_stm h).imp (fun w e1 h G1 v1 H1 r1 q1 p1 => ?_) fun _ _ h => h⟩
 have key := fun ws xs (rp : Reps X.K G1 ws xs) (h : PostS X.K Z EE D G (forD i s1 ws e1)) => for_seq (i := i) (D := D) r1 rp (PostS.trans q1 h)
 cases w with
 | tup ws =>
  obtain ⟨a, xs, rfl, hq, rp⟩ := p1
  refine ⟨a, rfl, .inr ⟨⟨xs, r1.sub.tup hq⟩, ?_⟩⟩
  obtain ⟨Pv, h0, h1, h2, h3⟩ := key ws xs rp h (fun H' => SqT X.K H' a xs) (fun G' H' s s' => Same.tup s' (Same.tup s hq))
  exact for_tup Pv h0 h1 h2 h3
 | lst ws =>
  obtain ⟨a, xs, rfl, hq, rp⟩ := p1
  refine ⟨a, rfl, .inl ⟨⟨xs, r1.sub.seq hq⟩, ?_⟩⟩
  obtain ⟨Pv, h0, h1, h2, h3⟩ := key ws xs rp h (fun H' => SqL X.K H' a xs) (fun G' H' s s' => Same.seq s' (Same.seq s hq))
  exact for_list Pv h0 h1 h2 h3
 | _ => exact h.elim
theorem reps_range {K : PySem.W.Frag} {G : Hp} {lo hi : Int} : Reps K G (rangeW lo hi) ((List.range (hi - lo).toNat).map fun k => V.int (lo + (k : Nat))) := by
 unfold rangeW
 generalize List.range (hi - lo).toNat = l
 induction l with
 | nil => rfl
 | cons k l ih => exact ⟨_, _, rfl, rfl, ih⟩
theorem for_rng {K : PySem.W.Frag} {i : Nat} {D : Ends} {G1 : Hp} {σ : St} {H1 : Hp} {e1 : List S} {lo hi : Int} (r1 : Rel K Z G1 σ H1 e1) (h : PostS K Z EE D G1 (forD i s1 (rangeW lo hi) e1)) :
  ∃ W : Nat -> Nat -> St -> Hp -> Prop, (∃ m, W 0 m σ H1) /\ ∀ j m σ H, W j m σ H ->
   ((Itr lo (hi - lo).toNat).stop j H /\ D.nx σ H) \/ ((Itr lo (hi - lo).toNat).go j H /\ ∃ N : St -> Hp -> Prop, (∀ σ' H', N σ' H' -> ∃ m', m' < m /\ W (j + 1) m' σ' H') /\ ∀ x H', (Itr lo (hi - lo).toNat).yld j H x H' -> gName i x σ H' fun σ2 H2 => liftS K Z EE s1 { D with nx := N, ct := N, bk := D.nx } σ2 H2) := by
 obtain ⟨Pv, h0, h1, h2, h3⟩ := for_seq (i := i) (D := D) r1 (reps_range (lo := lo) (hi := hi)) h (fun _ => True) (fun _ _ _ _ => trivial)
 refine for_range Pv h0 (fun j σ' H' hj p => h2 j _ σ' H' ?_ p) (fun σ' H' p => h3 σ' H' (by simpa using p))
 simp [hj]
theorem ds_for1 (i : Nat) {x : Str} {p p1 p2 : Pos} (hN : X.N.Nodup) (hp : PassesOwn (model X.prog X.w) X.A X.env X.xe) (hc : X.calm = true) (hm : X.mg "range" = none) (ha : DA Z X EE [a] dA) (hb : DSs Z X EE body s1)
  (hi : X.N[i]? = some x := by rfl) (hx : Loc X.env.scope x := by walk_at "3") (hf : X.fn x = true \/ X.env.scope.names.lookup x = some .local := by walk_at "2") (hg : Gl X "range" := by rfl) (hs1 : starEach [a] X.env = [(false, eval a X.env)] := by rfl) (hs : ∀ x, foldedSetIterable (.Call (.Name "range" p1) [a] [] p2) X.env x = pure x := by intro _; rfl) :
  DS Z X EE (.For (.Name x p) (.Call (.Name "range" p1) [a] [] p2) body [] pos) (dForR i rng1 dA s1) := by
 refine PS.mono (ps_for hp hc (pi_range1 hg hm ha hs1) (pg_nm i hN hi hx hf) hb hs) ?_
 rintro D σ H ⟨G, e, rel, h⟩
 refine ⟨G, e, rel, (post_stm h).imp (fun ws e1 h G1 vs H1 r1 q1 p1 => ?_) fun _ _ h => h⟩
 unfold rng1 at h
 split at h
 ·rename_i hh
  split at hh
  ·rename_i j
   split at hh
   ·rename_i hj
    cases hh
    obtain ⟨y, r, rfl, e1, e2⟩ := p1
    cases (show y = V.int j from e1)
    cases (show r = [] from e2)
    refine ⟨j, rfl, (okI_to hj).1, (okI_to hj).2, ?_⟩
    have z := for_rng (i := i) (D := D) r1 (PostS.trans q1 h)
    rwa [Int.sub_zero] at z
   ·cases hh
  ·cases hh
 ·exact h.elim
theorem ds_for2 (i : Nat) {x : Str} {p p1 p2 : Pos} (hN : X.N.Nodup) (hp : PassesOwn (model X.prog X.w) X.A X.env X.xe) (hc : X.calm = true) (hm : X.mg "range" = none) (ha : DA Z X EE [a, c] dA) (hb : DSs Z X EE body s1)
  (hi : X.N[i]? = some x := by rfl) (hx : Loc X.env.scope x := by walk_at "3") (hf : X.fn x = true \/ X.env.scope.names.lookup x = some .local := by walk_at "2") (hg : Gl X "range" := by rfl) (hs1 : starEach [a, c] X.env = [(false, eval a X.env), (false, eval c X.env)] := by rfl) (hs2 : starEach [c] X.env = [(false, eval c X.env)] := by rfl) (hs : ∀ x, foldedSetIterable (.Call (.Name "range" p1) [a, c] [] p2) X.env x = pure x := by intro _; rfl) :
  DS Z X EE (.For (.Name x p) (.Call (.Name "range" p1) [a, c] [] p2) body [] pos) (dForR i rng2 dA s1) := by
 refine PS.mono (ps_for hp hc (pi_range2 hg hm ha hs1 hs2) (pg_nm i hN hi hx hf) hb hs) ?_
 rintro D σ H ⟨G, e, rel, h⟩
 refine ⟨G, e, rel, (post_stm h).imp (fun ws e1 h G1 vs H1 r1 q1 p1 => ?_) fun _ _ h => h⟩
 unfold rng2 at h
 split at h
 ·rename_i hh
  split at hh
  ·rename_i j k
   split at hh
   ·rename_i hj
    cases hh
    obtain ⟨y, r, rfl, e1, y2, r2, rfl, e2, e3⟩ := p1
    cases (show y = V.int j from e1)
    cases (show y2 = V.int k from e2)
    cases (show r2 = [] from e3)
    exact ⟨j, k, rfl, ⟨(okI_to hj.1).1, (okI_to hj.1).2, (okI_to hj.2).1, (okI_to hj.2).2⟩, for_rng (i := i) (D := D) r1 (PostS.trans q1 h)⟩
   ·cases hh
  ·cases hh
 ·exact h.elim
end
end D
set_option Elab.async false
set_option linter.all false
set_option maxRecDepth 100000
set_option maxHeartbeats 1000000
namespace D
open PySem L2
open PyProof.Rows (envOfC)
inductive FR where
 | ok (s : S) | ex (c : Value) | no
noncomputable def spF (K : PySem.W.Frag) (F : List W -> FR) : Sp := fun vs H Q E => ∃ G ws, Same G H /\ Reps K G ws vs /\ match F ws with
 | .ok s => ∀ G' H' v, Grow G H G' H' -> SlotOk K ⟨H, G, []⟩ G' H' s (some v) -> Q v H'
 | .ex c => ∀ H', Same H H' -> E c none H'
 | .no => False
noncomputable def SR.fn : SR -> FR
 | .nx _ => .ok (.fr .non)
 | .rt s _ => .ok s
 | .ex c _ => .ex c
 | _ => .no
noncomputable def init (n : Nat) (ws : List W) : List S := ws.map .fr ++ List.replicate (n - ws.length) .no
theorem rel_init {K : PySem.W.Frag} {G H : Hp} {N : List Str} {ws : List W} {vs : List V} (s : Same G H) (r : Reps K G ws vs) : Rel K ⟨H, G, []⟩ G (L2.start N vs) H (init N.length ws) := by
 have hl := r.length
 have hfr : ∀ (i : Nat) (s : S), (init N.length ws)[i]? = some s -> (s = .no) \/ ∃ w, s = .fr w /\ ws[i]? = some w := fun i s h => by
  unfold init at h
  rw [List.getElem?_append] at h
  split at h
  ·rw [List.getElem?_map] at h
   obtain ⟨w, h1, rfl⟩ := Option.map_eq_some_iff.mp h
   exact .inr ⟨w, rfl, h1⟩
  ·rw [List.getElem?_replicate] at h
   split at h
   ·cases h; exact .inl rfl
   ·cases h
 refine ⟨s, fun i t h => ?_, ?_, fun i j b b' w1 w2 a h1 h2 _ _ => ?_, fun a o h _ => h, (fun a h => nomatch h), fun a _ => rfl⟩
 ·rcases hfr i t h with rfl | ⟨w, rfl, h1⟩
  ·trivial
  ·obtain ⟨v, h2, h3⟩ := r.get h1
   refine ⟨v, ?_, h3⟩
   have hi : i < vs.length := (List.getElem?_eq_some_iff.mp h2).1
   unfold L2.start
   rw [List.getElem?_append_left (by simpa using hi), List.getElem?_map, h2]
   rfl
 ·unfold init L2.start
  simp [hl]
 ·rcases hfr i _ h1 with z | ⟨w, z, _⟩ <;> cases z
theorem Rel.toGrow {K : PySem.W.Frag} {G G' H H' : Hp} {σ : St} {e : List S} (r : Rel K ⟨H, G, []⟩ G' σ H' e) (s : Same G G') : Grow G H G' H' :=
 ⟨fun a o h => r.ent a o h (by simp), s, r.sub, fun a h => r.gen a h⟩
section
variable {P : Program} {w : World} {K : PySem.W.Frag} {mg : Str -> Option Value} {base : Heap}
theorem spF_ne {F : List W -> FR} {vs : List V} {H : Hp} {Q : VK} {E : XK} (h : spF K F vs H Q E) : ∃ G ws, F ws ≠ .no /\ Reps K G ws vs := by
 obtain ⟨G, ws, _, r, h⟩ := h
 refine ⟨G, ws, fun z => ?_, r⟩
 rw [z] at h
 exact h
theorem post_fn {F : List W -> FR} {G H : Hp} {ws : List W} {Q : VK} {E : XK} {r : SR} (he : r.fn = F ws) (h : match F ws with
  | .ok s => ∀ G' H' v, Grow G H G' H' -> SlotOk K ⟨H, G, []⟩ G' H' s (some v) -> Q v H'
  | .ex c => ∀ H', Same H H' -> E c none H'
  | .no => False) : PostS K ⟨H, G, []⟩ (fun _ => E) { nx := fun _ H' => Q .non H', rt := Q } G r := by
 rw [<- he] at h
 cases r with
 | nx e => exact fun G' σ' H' r s => h G' H' .non (r.toGrow s) ⟨.non, rfl, rfl⟩
 | rt s e => exact fun G' σ' v H' r q p => h G' H' v (r.toGrow q) p
 | ex c e => exact fun G' σ' H' r s => h H' (r.toGrow s).hh
 | bk e => exact h.elim
 | ct e => exact h.elim
 | no => exact h.elim
theorem con {x : Str} {st : Stmt} {N ps : List Str} {k : Nat} {F : List W -> FR} (A : At K mg x st ps) (sc : FnScope N ps (defScope st)) (len : ∀ ws, F ws ≠ .no -> ws.length = ps.length)
  (hb : ∀ ws, F ws ≠ .no -> ∀ (f : Addr) (cdv : Value) (A : Around) (outer : List Env) (s : Shared) (H : Hp) (E : XK) (Z : Zt), Room k (A.deeper (envOfC x (defScope st) s.heap.objs.size f cdv)) ->
   ∃ d, DSs Z (cxOf (CX1 P w) P w K mg base N x (defScope st) f cdv A outer s H E) (fun _ => E) (defBody st) d /\ (d (init N.length ws)).fn = F ws) : Cal P w K mg base (k + 1) x ps (spF K F) := by
 refine A.cal sc (fun vs H Q E h => ?_) (fun f cdv A outer s H vs Q E hr h => ?_)
 ·obtain ⟨G, ws, hn, r⟩ := spF_ne h
  rw [r.length]; exact len ws hn
 ·have hn0 := h
  obtain ⟨G, ws, sg, rp, h⟩ := h
  have hn : F ws ≠ .no := fun z => by rw [z] at h; exact h
  obtain ⟨d, hd, he⟩ := hb ws hn f cdv A outer s H E ⟨H, G, []⟩ hr
  exact ⟨_, hd, G, init N.length ws, rel_init sg rp, post_fn he h⟩
end
noncomputable def dCall (F : List W -> FR) (dA : Den (List W)) : Den W := fun e => (dA e).bind fun ws e1 => match F ws with
 | .ok (.fr w) => .ok w e1
 | .ok (.own false ws') => .ok (.lst ws') e1
 | .ok (.dic kvs) => .ok (.dic kvs) e1
 | .ok (.thr us ws vs) => .ok (.tup (us ++ .lst ws :: vs)) e1
 | .ex c => .ex c e1
 | _ => .no
noncomputable def dCallF (F : List W -> FR) (dA : Den (List W)) : Den (List W) := fun e => (dA e).bind fun ws e1 => match F ws with
 | .ok (.own false ws') => .ok ws' e1
 | .ex c => .ex c e1
 | _ => .no
noncomputable def dCallH (F : List W -> FR) (dA : Den (List W)) : Den W := fun e => (dA e).bind fun ws e1 => match F ws with
 | .ok (.fr w) => .ok w e1
 | .ok (.own false ws') => .ok (.lst ws') e1
 | _ => .no
section
variable {X : Cx} {Z : Zt} {EE : St -> XK} {e : Expr} {es : List Expr} {dA : Den (List W)} {pos p : Pos} {k : Nat} {ps : List Str} {F : List W -> FR} {x : Str}
theorem after_fr {K : PySem.W.Frag} {G1 H1 G' H' : Hp} {σ : St} {e1 : List S} {s : S} {v : V} {w : W} (r1 : Rel K Z G1 σ H1 e1) (g : Grow G1 H1 G' H') (q : SlotOk K ⟨H1, G1, []⟩ G' H' s (some v)) (hs : s = .fr w \/ ∃ ws, s = .own false ws /\ w = .lst ws) :
  ∃ G'', Rel K Z G'' σ H' e1 /\ Same G1 G'' /\ Rep K G'' w v := by
 rcases hs with rfl | ⟨ws, rfl, rfl⟩
 ·obtain ⟨u, h1, h2⟩ := q
  cases h1
  exact ⟨G', r1.grow g, g.gg, h2⟩
 ·obtain ⟨a, xs, h1, h2, h3, h4, h5⟩ := q
  cases h1
  have hn : H1 a = none := h4
  obtain ⟨sg, rg⟩ := (r1.grow g).seen h2 h3 (zh_new r1 hn) (free_new r1 hn)
  exact ⟨_, rg, g.gg.trans sg, ⟨a, xs, rfl, SqL.of upd_same, Reps.mono sg ws h5⟩⟩
theorem after_dic {K : PySem.W.Frag} {G1 H1 G' H' : Hp} {σ : St} {e1 : List S} {kvs : Dd} {v : V} (r1 : Rel K Z G1 σ H1 e1) (g : Grow G1 H1 G' H') (q : SlotOk K ⟨H1, G1, []⟩ G' H' (.dic kvs) (some v)) :
  ∃ G'', Rel K Z G'' σ H' e1 /\ Same G1 G'' /\ Rep K G'' (.dic kvs) v := by
 obtain ⟨a, h1, h2, h3, h4⟩ := q
 cases h1
 have hn : H1 a = none := h4
 have r := r1.grow g
 have sg : Same G' (upd G' a (dO kvs)) := same_upd h3 _
 refine ⟨upd G' a (dO kvs), ⟨fun c o z => ?_, fun j s z => ?_, r.len, r.dis, r.ent, r.ion, fun c z => ?_⟩, g.gg.trans sg, ⟨a, rfl, upd_same⟩⟩
 ·by_cases hc : c = a
  ·subst hc; rw [upd_same] at z; cases z; exact h2
  ·rw [upd_ne hc] at z; exact r.sub c o z
 ·have y := r.slot j s z
  have y1 := r1.slot j s z
  cases s with
  | no => trivial
  | fr w =>
   obtain ⟨u, y1, y2⟩ := y
   exact ⟨u, y1, Rep.mono sg w y2⟩
  | own b2 w2 =>
   obtain ⟨c, ys, x1, x2, x3, x4, x5⟩ := y
   refine ⟨c, ys, x1, x2, ?_, x4, Reps.mono sg w2 x5⟩
   rw [upd_ne (ne_of x2 h2 (fun z => dO_ne rfl z.symm))]; exact x3
  | dic kv =>
   obtain ⟨c, x1, x2, x3, x4⟩ := y
   obtain ⟨c', w1, w2, _⟩ := y1
   rw [x1] at w1
   cases w1
   refine ⟨c, x1, x2, ?_, x4⟩
   rw [upd_ne (ne_of_none w2 hn)]; exact x3
  | thr us w2 vs =>
   obtain ⟨t, l, o, xs2, ys, zs, x1, x2, x3, x4, x5, x6, x7, x8⟩ := y
   refine ⟨t, l, o, xs2, ys, zs, x1, sg _ _ x2, x3, ?_, x5, Reps.mono sg us x6, Reps.mono sg w2 x7, Reps.mono sg vs x8⟩
   rw [upd_ne (ne_of x3 h2 (fun z => dO_ne rfl z.symm))]; exact x4
  | nest wss => exact NestOk.move y sg fun l o ys k1 k2 k3 => ⟨k1, by rw [upd_ne (ne_of k1 h2 (fun z => dO_ne rfl z.symm))]; exact k2, k3⟩
  | dw sh ks ws => exact DwOk.move y sg fun l o ys k1 k2 k3 => ⟨k1, by rw [upd_ne (ne_of k1 h2 (fun z => dO_ne rfl z.symm))]; exact k2, k3⟩
 ·by_cases hc : c = a
  ·subst hc; exact absurd (zh_new r1 hn) z
  ·rw [upd_ne hc]; exact r.gen c z
theorem after_thr {K : PySem.W.Frag} {G1 H1 G' H' : Hp} {σ : St} {e1 : List S} {us ws vs : List W} {v : V} (r1 : Rel K Z G1 σ H1 e1) (g : Grow G1 H1 G' H') (q : SlotOk K ⟨H1, G1, []⟩ G' H' (.thr us ws vs) (some v)) :
  ∃ G'', Rel K Z G'' σ H' e1 /\ Same G1 G'' /\ Rep K G'' (.tup (us ++ .lst ws :: vs)) v := by
 obtain ⟨t, l, o, xs, ys, zs, h1, h2, h3, h4, h5, h6, h7, h8⟩ := q
 cases h1
 have hn : H1 l = none := h5
 have r := r1.grow g
 have sg : Same G' (upd G' l (.frz o (.lst ys))) := same_upd h4 _
 refine ⟨upd G' l (.frz o (.lst ys)), ⟨fun c u z => ?_, fun j s z => ?_, r.len, r.dis, r.ent, r.ion, fun c z => ?_⟩, g.gg.trans sg, ⟨t, _, rfl, SqT.of (sg _ _ h2), (Reps.mono sg us h6).append ⟨.ref l, zs, rfl, ⟨l, ys, rfl, .inl (.inr ⟨o, upd_same⟩), Reps.mono sg ws h7⟩, Reps.mono sg vs h8⟩⟩⟩
 ·by_cases hc : c = l
  ·subst hc; rw [upd_same] at z; cases z; exact h3
  ·rw [upd_ne hc] at z; exact r.sub c u z
 ·have y := r.slot j s z
  have y1 := r1.slot j s z
  cases s with
  | no => trivial
  | fr w =>
   obtain ⟨u, y1, y2⟩ := y
   exact ⟨u, y1, Rep.mono sg w y2⟩
  | own b2 w2 =>
   obtain ⟨c, ys, x1, x2, x3, x4, x5⟩ := y
   refine ⟨c, ys, x1, x2, ?_, x4, Reps.mono sg w2 x5⟩
   rw [upd_ne (ne_of x2 h3 (fun z => nomatch z))]; exact x3
  | dic kv =>
   obtain ⟨c, x1, x2, x3, x4⟩ := y
   refine ⟨c, x1, x2, ?_, x4⟩
   rw [upd_ne (ne_of x2 h3 (dO_ne rfl))]; exact x3
  | thr us w2 vs =>
   obtain ⟨t1, l1, o1, xs1, ys1, zs1, w1, w2', w3, w4, w5, w6, w7, w8⟩ := y1
   have sg2 := g.gg.trans sg
   refine ⟨t1, l1, o1, xs1, ys1, zs1, w1, sg2 _ _ w2', g.hh _ _ w3, ?_, w5, Reps.mono sg2 us w6, Reps.mono sg2 w2 w7, Reps.mono sg2 vs w8⟩
   rw [upd_ne (ne_of_none w3 hn), g.new l1 (by rw [w3]; simp)]; exact w4
  | nest wss => exact NestOk.move y1 (g.gg.trans sg) fun l1 o ys k1 k2 k3 => ⟨g.hh _ _ k1, by rw [upd_ne (ne_of_none k1 hn), g.new l1 (by rw [k1]; simp)]; exact k2, k3⟩
  | dw sh ks ws => exact DwOk.move y1 (g.gg.trans sg) fun l1 o ys k1 k2 k3 => ⟨g.hh _ _ k1, by rw [upd_ne (ne_of_none k1 hn), g.new l1 (by rw [k1]; simp)]; exact k2, k3⟩
 ·by_cases hc : c = l
  ·subst hc; exact absurd (zh_new r1 hn) z
  ·rw [upd_ne hc]; exact r.gen c z
theorem ex_of {K : PySem.W.Frag} {G G1 H1 : Hp} {σ : St} {e1 : List S} {c : Value} (r1 : Rel K Z G1 σ H1 e1) (s1 : Same G G1) (h : XH K Z EE σ G c e1) : ∀ H', Same H1 H' -> EE σ c none H' := fun H' sh =>
 h G1 H' (r1.grow ⟨sh, .refl _, r1.sub.trans sh, fun _ _ => rfl⟩) s1
theorem de_cal (C : Cal X.prog X.w X.K X.mg X.base k x ps (spF X.K F)) (hr : Room k X.A) (hx : PassX (CX1 X.prog X.w) X EE) (ha : DA Z X EE (e :: es) dA) (hg : Gl X x := by rfl)
  (hdb : (x == ("__debug__" : Str)) = false := by decide) (he : starEach (e :: es) X.env = (false, eval e X.env) :: starEach es X.env := by rfl) (hpl : (backTo pos (starEach es X.env)).any (·.1) = false := by rfl) :
  DE Z X EE (.Call (.Name x p) (e :: es) [] pos) (dCall F dA) := by
 refine PE.mono (pe_cal C hr hx ha hg hdb he hpl) ?_
 rintro σ H Q ⟨G, e, rel, h⟩
 simp only [dCall, R.holds_bind] at h
 refine ⟨G, e, rel, h.imp (fun ws e1 h G1 vs H1 r1 s1 p1 => ?_) fun _ _ h => h⟩
 refine ⟨G1, ws, r1.sub, by rw [List.append_nil]; exact p1, ?_⟩
 cases q : F ws with
 | ok s =>
  rw [q] at h
  intro G' H' v g sl
  cases s with
  | no => exact h.elim
  | fr w =>
   obtain ⟨G'', r2, s2, p2⟩ := after_fr r1 g sl (.inl rfl)
   exact (show ∀ G' v H', _ -> _ -> Rep X.K G' w v -> Q v H' from h) G'' v H' r2 (s1.trans s2) p2
  | own b ws' =>
   cases b with
   | true => exact h.elim
   | false =>
    obtain ⟨G'', r2, s2, p2⟩ := after_fr r1 g sl (.inr ⟨ws', rfl, rfl⟩)
    exact (show ∀ G' v H', _ -> _ -> Rep X.K G' (.lst ws') v -> Q v H' from h) G'' v H' r2 (s1.trans s2) p2
  | dic kvs =>
   obtain ⟨G'', r2, s2, p2⟩ := after_dic r1 g sl
   exact (show ∀ G' v H', _ -> _ -> Rep X.K G' (.dic kvs) v -> Q v H' from h) G'' v H' r2 (s1.trans s2) p2
  | thr us ws' vs' =>
   obtain ⟨G'', r2, s2, p2⟩ := after_thr r1 g sl
   exact (show ∀ G' v H', _ -> _ -> Rep X.K G' (.tup (us ++ .lst ws' :: vs')) v -> Q v H' from h) G'' v H' r2 (s1.trans s2) p2
  | nest _ => exact h.elim
  | dw _ _ _ => exact h.elim
 | ex c =>
  rw [q] at h
  exact ex_of r1 s1 h
 | no => rw [q] at h; exact h.elim
noncomputable def dRaise (C : Addr) (d : Den (List W)) : List S -> SR := fun e => (d e).stm fun ws e1 => if ws.length <= 16777216 then .ex (.ref C) e1 else .no
theorem ds_raise {C Ac : Addr} {np cpos : Pos} (hx : RaisX X EE) (hC : excIn X.K C Ac = true) (hm : X.mg x = some (.ref C)) (hc : X.calm = true) (ha : DA Z X EE (e :: es) dA) (hg : Gl X x := by rfl)
  (hdb : (x == ("__debug__" : Str)) = false := by decide) (he : starEach (e :: es) X.env = (false, eval e X.env) :: starEach es X.env := by rfl) (hpl : (backTo cpos (starEach es X.env)).any (·.1) = false := by rfl) :
  DS Z X EE (.Raise (some (.Call (.Name x np) (e :: es) [] cpos)) none pos) (dRaise C dA) := by
 refine PS.mono (ps_raise hx hc hg hm hC ha hdb he hpl) ?_
 rintro D σ H ⟨G, e, rel, h⟩
 refine ⟨G, e, rel, (post_stm h).imp (fun ws e1 h G1 vs H1 r1 s1 p1 => ?_) fun _ _ h => h⟩
 split at h
 ·rename_i hl
  exact ⟨by rw [p1.length, sizeLine_eq]; exact hl, h G1 σ H1 r1 s1⟩
 ·exact h.elim
end
end D
set_option Elab.async false
set_option linter.all false
set_option maxRecDepth 100000
set_option maxHeartbeats 4000000
namespace L2
open PySem PySem.Spec PyProof.Rows
section
variable {X : Cx} {elt target iter : Expr} {ifs : List Expr} {scope : Scope} {pos : Pos} {wi : TI} {g : TG} {tc : TT} {te : TE}
end
def rCatS (K : PySem.W.Frag) : R2 := fun x y H Q => ∃ l b xs zs, x = .ref l /\ y = .ref b /\ SqL K H l xs /\ SqL K H b zs /\ xs.length + zs.length <= sizeLine /\ ∀ p, H p = none -> Q (.ref p) (upd H p (.lst (xs ++ zs)))
theorem op_catS {X : Cx} : OpR X (binaryOp .Add) (rCatS X.K) := by
 intro pins s σ H x y v u Q I rx ry h
 obtain ⟨l, b, xs, zs, rfl, rfl, h1, h2, hz, q⟩ := h
 cases rx
 cases ry
 obtain ⟨its, r1, p1, _⟩ := I.list h1
 obtain ⟨its2, r2, p2, _⟩ := I.list h2
 obtain ⟨⟨cls, dd, data, sl⟩, ho, hc, n, hd⟩ := id p1.isList
 obtain ⟨⟨cls2, dd2, data2, sl2⟩, ho2, hc2, n2, hd2⟩ := id p2.isList
 simp only at hc hd hc2 hd2
 subst hc hd hc2 hd2
 have l1 := r1.length
 have l2 := r2.length
 refine concat_meets ⟨_, ho, rfl⟩ ⟨_, ho2, rfl⟩ noFill_list_add seq_list_add PySem.F.slot_list_add PySem.F.entry_list_add (PySem.F.args_list_add_2 _ _) (list_addW l b its.toArray its2.toArray n n2 dd dd2 sl sl2 (by simp only [List.size_toArray]; omega)) ⟨ho, ho2, ?_⟩
 have ea : its.toArray ++ its2.toArray = (its ++ its2).toArray := by simp
 rw [ea]
 exact ⟨.ref _, _, I.lnew (t' := s.toks) (r1.append r2) (by rw [List.length_append]; omega), rfl, q _ I.fresh⟩
end L2
set_option Elab.async false
set_option linter.all false
set_option maxRecDepth 100000
set_option maxHeartbeats 1000000
namespace D
open PySem L2
noncomputable def addW : W -> W -> Option W
 | .int i, .int j => some (.int (i + j))
 | .str x, .str y => if x.length + y.length <= 16777216 then some (.str (x ++ y)) else none
 | .tup xs, .tup ys => if xs ≠ [] /\ xs.length + ys.length <= 16777216 then some (.tup (xs ++ ys)) else none
 | .lst xs, .lst ys => if xs.length + ys.length <= 16777216 then some (.lst (xs ++ ys)) else none
 | _, _ => none
noncomputable def subW : W -> W -> Option W
 | .int i, .int j => some (.int (i - j))
 | _, _ => none
noncomputable def mulW : W -> W -> Option W
 | .int i, .int j => if (-(2 ^ 64) < i /\ i < 2 ^ 64) \/ (-(2 ^ 64) < j /\ j < 2 ^ 64) then some (.int (i * j)) else none
 | _, _ => none
noncomputable def fdivW : W -> W -> Option W
 | .int i, .int j => if 0 < j /\ j < 1073741824 then some (.int (i / j)) else none
 | _, _ => none
noncomputable def modW : W -> W -> Option W
 | .int i, .int j => if 0 < j then some (.int (i % j)) else none
 | _, _ => none
noncomputable def ltW : W -> W -> Option W
 | .int i, .int j => some (.bl (decide (i < j)))
 | _, _ => none
noncomputable def leW : W -> W -> Option W
 | .int i, .int j => some (.bl (decide (i <= j)))
 | _, _ => none
noncomputable def gtW : W -> W -> Option W
 | .int i, .int j => some (.bl (decide (j < i)))
 | _, _ => none
noncomputable def negW : W -> Option W
 | .int i => some (.int (-i))
 | _ => none
section
variable {K : PySem.W.Frag}
theorem o2_add : Op2 K (fun x y H Q => rI0 (fun i j => .int (i + j)) x y H Q \/ ((∃ i j, x = .str i /\ y = .str j /\ i.length + j.length <= sizeLine /\ Q (.str (i ++ j)) H) \/ (rCatT K x y H Q \/ rCatS K x y H Q))) addW := by
 intro G H x y wx wy w Q s px py hf h
 unfold addW at hf
 split at hf
 ·cases hf; cases px; cases py
  exact .inl ⟨_, _, rfl, rfl, h G _ H (.refl s) rfl⟩
 ·split at hf
  ·rename_i hl
   cases hf; cases px; cases py
   exact .inr (.inl ⟨_, _, rfl, rfl, by rw [sizeLine_eq]; exact hl, h G _ H (.refl s) rfl⟩)
  ·cases hf
 ·rename_i us ws
  split at hf
  ·rename_i hl
   cases hf
   obtain ⟨a, xs, rfl, ha, ra⟩ := px
   obtain ⟨b, ys, rfl, hb, rb⟩ := py
   have l1 := ra.length
   have l2 := rb.length
   refine .inr (.inr (.inl ⟨a, b, xs, ys, rfl, rfl, s.tup ha, s.tup hb, fun z => hl.1 ?_, by rw [l1, l2, sizeLine_eq]; exact hl.2, fun z => ?_, fun z p hp => ?_⟩))
   ·subst z; cases us with
    | nil => rfl
    | cons _ _ => simp at l1
   ·subst z
    have : ws = [] := by cases ws with
     | nil => rfl
     | cons _ _ => simp at l2
    subst this
    exact h G _ H (.refl s) ⟨a, xs, rfl, ha, by simpa using ra⟩
   ·have g := Grow.laid s hp (.tup (xs ++ ys))
    exact h _ _ _ g ⟨p, _, rfl, SqT.of upd_same, Reps.append (Reps.mono g.gg _ ra) (Reps.mono g.gg _ rb)⟩
  ·cases hf
 ·split at hf
  ·rename_i hl
   cases hf
   obtain ⟨a, xs, rfl, ha, ra⟩ := px
   obtain ⟨b, ys, rfl, hb, rb⟩ := py
   have l1 := ra.length
   have l2 := rb.length
   refine .inr (.inr (.inr ⟨a, b, xs, ys, rfl, rfl, s.seq ha, s.seq hb, by rw [l1, l2, sizeLine_eq]; exact hl, fun p hp => ?_⟩))
   have g := Grow.laid s hp (.lst (xs ++ ys))
   exact h _ _ _ g ⟨p, _, rfl, SqL.of upd_same, Reps.append (Reps.mono g.gg _ ra) (Reps.mono g.gg _ rb)⟩
  ·cases hf
 ·cases hf
theorem o2_sub : Op2 K (rI0 fun i j => .int (i - j)) subW := by
 intro G H x y wx wy w Q s px py hf h
 unfold subW at hf
 split at hf
 ·cases hf; cases px; cases py
  exact ⟨_, _, rfl, rfl, h G _ H (.refl s) rfl⟩
 ·cases hf
theorem o2_mul : Op2 K (rI CMul fun i j => .int (i * j)) mulW := by
 intro G H x y wx wy w Q s px py hf h
 unfold mulW at hf
 split at hf
 ·split at hf
  ·rename_i hc
   cases hf; cases px; cases py
   exact ⟨_, _, rfl, rfl, hc, h G _ H (.refl s) rfl⟩
  ·cases hf
 ·cases hf
theorem o2_fdiv : Op2 K (rI CDiv fun i j => .int (i / j)) fdivW := by
 intro G H x y wx wy w Q s px py hf h
 unfold fdivW at hf
 split at hf
 ·split at hf
  ·rename_i hc
   cases hf; cases px; cases py
   exact ⟨_, _, rfl, rfl, hc, h G _ H (.refl s) rfl⟩
  ·cases hf
 ·cases hf
theorem o2_mod : Op2 K (rI (fun _ j => 0 < j) fun i j => .int (i % j)) modW := by
 intro G H x y wx wy w Q s px py hf h
 unfold modW at hf
 split at hf
 ·split at hf
  ·rename_i hc
   cases hf; cases px; cases py
   exact ⟨_, _, rfl, rfl, hc, h G _ H (.refl s) rfl⟩
  ·cases hf
 ·cases hf
theorem o2_lt : Op2 K (rI0 fun i j => .bl (decide (i < j))) ltW := by
 intro G H x y wx wy w Q s px py hf h
 unfold ltW at hf
 split at hf
 ·cases hf; cases px; cases py
  exact ⟨_, _, rfl, rfl, h G _ H (.refl s) rfl⟩
 ·cases hf
theorem o2_le : Op2 K (rI0 fun i j => .bl (decide (i <= j))) leW := by
 intro G H x y wx wy w Q s px py hf h
 unfold leW at hf
 split at hf
 ·cases hf; cases px; cases py
  exact ⟨_, _, rfl, rfl, h G _ H (.refl s) rfl⟩
 ·cases hf
theorem o2_gt : Op2 K (rI0 fun i j => .bl (decide (j < i))) gtW := by
 intro G H x y wx wy w Q s px py hf h
 unfold gtW at hf
 split at hf
 ·cases hf; cases px; cases py
  exact ⟨_, _, rfl, rfl, h G _ H (.refl s) rfl⟩
 ·cases hf
theorem o1_neg : Op1 K (rU fun i => .int (-i)) negW := by
 intro G H x wx w Q s px hf h
 unfold negW at hf
 split at hf
 ·cases hf; cases px
  exact ⟨_, rfl, h G _ H (.refl s) rfl⟩
 ·cases hf
end
mutual
noncomputable def eqW : W -> W -> Option Bool
 | .non, .non => some true
 | .non, .bl _ => some false | .non, .int _ => some false | .non, .str _ => some false | .non, .tup _ => some false | .non, .lst _ => some false
 | .bl a, .bl b => some (a == b)
 | .bl a, .int b => some ((if a then 1 else 0) == b)
 | .bl _, .non => some false | .bl _, .str _ => some false | .bl _, .tup _ => some false | .bl _, .lst _ => some false
 | .int a, .int b => some (a == b)
 | .int a, .bl b => some (a == (if b then 1 else 0))
 | .int _, .non => some false | .int _, .str _ => some false | .int _, .tup _ => some false | .int _, .lst _ => some false
 | .str a, .str b => some (a == b)
 | .str _, .non => some false | .str _, .bl _ => some false | .str _, .int _ => some false | .str _, .tup _ => some false | .str _, .lst _ => some false
 | .tup _, .non => some false | .tup _, .bl _ => some false | .tup _, .int _ => some false | .tup _, .str _ => some false | .tup _, .lst _ => some false
 | .lst _, .non => some false | .lst _, .bl _ => some false | .lst _, .int _ => some false | .lst _, .str _ => some false | .lst _, .tup _ => some false
 | .tup xs, .tup ys => eqWs xs ys
 | .lst xs, .lst ys => eqWs xs ys
 | .exc _, _ => none
 | _, .exc _ => none
 | .dic _, _ => none
 | _, .dic _ => none
 | .dw _ _ _ _, _ => none
 | .fn _ _ _, _ => none
 | _, .dw _ _ _ _ => none
 | _, .fn _ _ _ => none
noncomputable def eqWs : List W -> List W -> Option Bool
 | [], [] => some true
 | [], _ :: _ => some false
 | _ :: _, [] => some false
 | x :: xs, y :: ys => match eqW x y, eqWs xs ys with
  | some a, some b => some (a && b)
  | _, _ => none
end
noncomputable def ixW : W -> W -> Option W
 | .tup ws, .int i => atI ws i
 | .lst ws, .int i => atI ws i
 | .str z, .int i => if z.length <= 16777216 then (atI z.cps.toList i).map fun c => .str ⟨#[c]⟩ else none
 | _, _ => none
theorem Reps.atI {K : PySem.W.Frag} {G : Hp} {ws : List W} {xs : List V} {i : Int} {w : W} (r : Reps K G ws xs) (h : L2.atI ws i = some w) : ∃ x, L2.atI xs i = some x /\ Rep K G w x := by
 unfold L2.atI at h |-
 rw [r.length]
 cases q : ixN ws.length i with
 | none => rw [q] at h; cases h
 | some j =>
  rw [q] at h
  exact r.get h
theorem o2_ix {K : PySem.W.Frag} : Op2 K (rIx K) ixW := by
 intro G H x y wx wy w Q s px py hf h
 unfold ixW at hf
 split at hf
 ·obtain ⟨a, xs, rfl, ha, ra⟩ := px
  cases py
  obtain ⟨v, hv, rv⟩ := ra.atI hf
  exact .inr (.inl ⟨a, xs, _, v, rfl, rfl, s.tup ha, hv, h G v H (.refl s) rv⟩)
 ·obtain ⟨a, xs, rfl, ha, ra⟩ := px
  cases py
  obtain ⟨v, hv, rv⟩ := ra.atI hf
  exact .inl ⟨a, xs, _, v, rfl, rfl, s.seq ha, hv, h G v H (.refl s) rv⟩
 ·cases px; cases py
  split at hf
  ·rename_i hl
   obtain ⟨c, hc, rfl⟩ := Option.map_eq_some_iff.mp hf
   exact .inr (.inr ⟨_, _, c, rfl, rfl, by rw [sizeLine_eq]; exact hl, hc, h G _ H (.refl s) rfl⟩)
  ·cases hf
 ·cases hf
noncomputable def S.look : S -> Option W
 | .fr w => some w
 | .own _ ws => some (.lst ws)
 | .no => none
 | .dic _ => none
 | .thr _ _ _ => none
 | .nest _ => none
 | .dw _ _ _ => none
noncomputable def dIxV (i : Nat) (d : Den W) : Den W := fun e => match e[i]?.bind S.look with
 | none => .no
 | some _ => (d e).bind fun k e1 => match e1[i]?.bind S.look with
  | none => .no
  | some w => ofOpt (ixW w k) e1
noncomputable def lenW : W -> Option W
 | .str z => if z.length <= 16777216 then some (.int z.length) else none
 | .tup ws => some (.int ws.length)
 | .lst ws => some (.int ws.length)
 | _ => none
noncomputable def len1 : List W -> Option W
 | [w] => lenW w
 | _ => none
section
variable {K : PySem.W.Frag}
theorem oN_len : OpN K (fun xs H Q => ∃ x n, xs = [x] /\ LenV K x H n /\ Q (.int n) H) len1 := by
 intro G H xs ws w Q s pr hf h
 unfold len1 at hf
 split at hf
 ·obtain ⟨x, r, rfl, px, pr⟩ := pr
  cases (show r = [] from pr)
  unfold lenW at hf
  split at hf
  ·split at hf
   ·rename_i hl
    cases hf; cases px
    exact ⟨_, _, rfl, ⟨by rw [sizeLine_eq]; exact hl, rfl⟩, h G _ H (.refl s) rfl⟩
   ·cases hf
  ·cases hf
   obtain ⟨a, xs, rfl, ha, ra⟩ := px
   exact ⟨_, _, rfl, .inr ⟨xs, s.tup ha, rfl⟩, h G _ H (.refl s) (by rw [ra.length]; rfl)⟩
  ·cases hf
   obtain ⟨a, xs, rfl, ha, ra⟩ := px
   exact ⟨_, _, rfl, .inl ⟨xs, s.seq ha, rfl⟩, h G _ H (.refl s) (by rw [ra.length]; rfl)⟩
  ·cases hf
 ·cases hf
end
noncomputable def scalW : W -> Bool
 | .non => true | .bl _ => true | .int _ => true | .str _ => true | _ => false
theorem scal_rep {K : PySem.W.Frag} {G G' : Hp} {w : W} {v : V} (h : scalW w = true) (p : Rep K G w v) : Rep K G' w v := by
 cases w with
 | non => exact p
 | bl b => exact p
 | int i => exact p
 | str x => exact p
 | _ => cases h
noncomputable def dFnV (i : Nat) (f : List W -> Option W) : Den W := fun e => match e[i]?.bind S.look with
 | none => .no
 | some w => match f [w] with
  | none => .no
  | some v => match e[i]? with
   | some (.fr _) => .ok v e
   | _ => if scalW v = true then .ok v e else .no
section
variable {X : Cx} {Z : Zt} {EE : St -> XK} {a b e : Expr} {es : List Expr} {d : Den W} {dA : Den (List W)} {pos p : Pos} {x : Str}
theorem de_ix (ha : DE Z X EE a d) {db : Den W} (hb : DE Z X EE b db) (hs : PlainIx b := by intro _ _; rfl) : DE Z X EE (.Subscript a b pos) (dOp ixW d db) := PE.mono (pe_ix ix_seq ha hb hs) (lift_op o2_ix)
theorem Rel.look {K : PySem.W.Frag} {G H : Hp} {σ : St} {e : List S} (r : Rel K Z G σ H e) {i : Nat} {w : W} (h : e[i]?.bind S.look = some w) : ∃ v, σ[i]? = some (some v) /\
  ((e[i]? = some (.fr w) /\ Rep K G w v) \/ ∃ b ws a xs, e[i]? = some (.own b ws) /\ w = .lst ws /\ v = .ref a /\ H a = some (.lst xs) /\ G a = none /\ Reps K G ws xs) := by
 obtain ⟨s, h1, h2⟩ := Option.bind_eq_some_iff.mp h
 cases s with
 | no => cases h2
 | dic _ => cases h2
 | thr _ _ _ => cases h2
 | nest _ => cases h2
 | dw _ _ _ => cases h2
 | fr w' =>
  cases h2
  obtain ⟨v, h3, h4⟩ := r.fr h1
  exact ⟨v, h3, .inl ⟨h1, h4⟩⟩
 | own b ws =>
  cases h2
  obtain ⟨a, xs, h3, h4, h5, h6, h7⟩ := r.own h1
  exact ⟨.ref a, h3, .inr ⟨b, ws, a, xs, h1, rfl, rfl, h4, h5, h7⟩⟩
theorem look_grow {K : PySem.W.Frag} {G H : Hp} {a : Addr} {xs : List V} (s : Same G H) (h : H a = some (.lst xs)) (hg : G a = none) : Same G (upd G a (.lst xs)) /\ Same (upd G a (.lst xs)) H :=
 ⟨same_upd hg _, fun c o z => by
  by_cases hc : c = a
  ·subst hc; rw [upd_same] at z; cases z; exact h
  ·rw [upd_ne hc] at z; exact s c o z⟩
theorem de_ixV (i : Nat) (hb : DE Z X EE b d) (hN : X.N[i]? = some x := by rfl) (hv : Vis X.env.scope x := by walk_at "1") (hd : (x == ("__debug__" : Str)) = false := by decide)
  (hcd : (x == ("__classdict__" : Str)) = false := by decide) (hs : PlainIx b := by intro _ _; rfl) : DE Z X EE (.Subscript (.Name x p) b pos) (dIxV i d) := by
 refine PE.mono (pe_ix ix_seq (pv i hN hv hd hcd) hb hs) ?_
 rintro σ H Q ⟨G, e, rel, h⟩
 unfold dIxV at h
 split at h
 ·exact h.elim
 ·rename_i w0 hw0
  obtain ⟨v, hv, _⟩ := rel.look hw0
  refine ⟨v, hv, G, e, rel, (R.holds_bind.mp h).imp (fun k e1 h G1 u H1 r1 s1 p1 => ?_) fun _ _ h => h⟩
  split at h
  ·exact h.elim
  ·rename_i w hw
   obtain ⟨w', hf, h2⟩ := ofOpt_holds.mp h
   obtain ⟨v', hv', q⟩ := r1.look hw
   rw [hv] at hv'; cases hv'
   rcases q with ⟨_, q⟩ | ⟨bb, ws, a, xs, he, rfl, rfl, q1, q2, q3⟩
   ·exact o2_ix G1 H1 v u w k w' Q r1.sub q p1 hf fun G' v H' g p => h2 G' v H' (r1.grow g) (s1.trans g.gg) p
   ·-- an item of one's own list
    unfold ixW at hf
    split at hf
    ·rename_i heq; cases heq
    ·rename_i heq
     cases heq
     cases p1
     obtain ⟨y, hy, ry⟩ := q3.atI hf
     exact .inl ⟨a, xs, _, y, rfl, rfl, SqL.of q1, hy, h2 G1 y H1 r1 s1 ry⟩
    ·rename_i heq; cases heq
    ·cases hf
theorem de_fnV {r : List V -> Hp -> VK -> Prop} {f : List W -> Option W} (i : Nat) {id : String} {pn : Pos} {fn : Str} (hc : CallR X (.builtin id) r) (hf : OpN X.K r f) (hv : bootBuiltins fn = some (.builtin id)) (hm : X.mg fn = none)
  (hN : X.N[i]? = some x := by rfl) (hvis : Vis X.env.scope x := by walk_at "1") (hd : (x == ("__debug__" : Str)) = false := by decide) (hcd : (x == ("__classdict__" : Str)) = false := by decide)
  (hg : Gl X fn := by rfl) (hn : fn ≠ "__name__" := by decide) (hdb : (fn == ("__debug__" : Str)) = false := by decide) (hs : starEach [.Name x p] X.env = (false, eval (.Name x p) X.env) :: starEach [] X.env := by rfl) (hpl : (backTo pos (starEach [] X.env)).any (·.1) = false := by rfl) :
  DE Z X EE (.Call (.Name fn pn) [.Name x p] [] pos) (dFnV i f) := by
 refine PE.mono (pe_callB hc hg hm hv (pa_cons (pv i hN hvis hd hcd) pa_nil hs) hn hdb hs hpl) ?_
 rintro σ H Q ⟨G, e, rel, h⟩
 unfold dFnV at h
 split at h
 ·exact h.elim
 ·rename_i w hw
  split at h
  ·exact h.elim
  ·rename_i y hy
   obtain ⟨v, hv, q⟩ := rel.look hw
   refine ⟨v, hv, ?_⟩
   rcases q with ⟨he, q⟩ | ⟨bb, ws, a, xs, he, rfl, rfl, q1, q2, q3⟩
   ·rw [he] at h
    exact hf G H [v] [w] y Q rel.sub (.one q) hy fun G' v H' g p => h G' v H' (rel.grow g) g.gg p
   ·rw [he] at h
    dsimp only at h
    split at h
    ·rename_i hsc
     obtain ⟨s1, s2⟩ := look_grow (K := X.K) rel.sub q1 q2
     refine hf (upd G a (.lst xs)) H [.ref a] [.lst ws] y Q s2 (.one ⟨a, xs, rfl, SqL.of upd_same, Reps.mono s1 ws q3⟩) hy fun G' v H' g p => ?_
     have g' : Grow G H G H' := ⟨g.hh, .refl _, rel.sub.trans g.hh, fun _ _ => rfl⟩
     exact (show ∀ G' v H', _ -> _ -> Rep X.K G' y v -> Q v H' from h) G v H' (rel.grow g') (.refl _) (scal_rep hsc p)
    ·exact h.elim
noncomputable def dApp (i : Nat) (d : Den (List W)) : List S -> SR := fun e => match e[i]? with
 | some (.own _ _) => (d e).stm fun ws e1 => match ws, e1[i]? with
  | [w], some (.own b xs) => if xs.length < 16777216 then .nx (e1.set i (.own b (xs ++ [w]))) else .no
  | _, _ => .no
 | _ => .no
theorem ds_app (i : Nat) {apos cpos : Pos} (ha : DA Z X EE (e :: es) dA) (hN : X.N[i]? = some x := by rfl) (hv : Vis X.env.scope x := by walk_at "1") (hd : (x == ("__debug__" : Str)) = false := by decide) (hcd : (x == ("__classdict__" : Str)) = false := by decide)
  (hbase : attributeBase (.Name x p) "append" X.env (eval (.Name x p) X.env) = eval (.Name x p) X.env := by rfl)
  (hfew : ((backTo cpos (starEach (e :: es) X.env)).all (fun x => !x.1) && (backToKw cpos (keywordEach [] X.env)).all (fun x => x.1.isSome) && decide ((e :: es).length + ([] : List Keyword).length + (if ([] : List Keyword).isEmpty then 0 else 1) < 30)) = true := by rfl)
  (hline : (apos.endLine == cpos.line) = true := by rfl) (hs : starEach (e :: es) X.env = (false, eval e X.env) :: starEach es X.env := by rfl) (hplain : (backTo cpos (starEach es X.env)).any (·.1) = false := by rfl)
  (hsw : swapsWith (.Call (.Attribute (.Name x p) "append" apos) (e :: es) [] cpos) none pos.line X.env = pure false := by rfl) :
  DS Z X EE (.Expr (.Call (.Attribute (.Name x p) "append" apos) (e :: es) [] cpos) pos) (dApp i dA) := by
 refine PS.mono (ps_expr (pe_app (pv i hN hv hd hcd) ha hbase hfew hline hs hplain) hsw) ?_
 rintro D σ H ⟨G, e, rel, h⟩
 unfold dApp at h
 split at h
 ·rename_i b0 ws0 he0
  obtain ⟨a, xs, h1, h2, h3, h4, h5⟩ := rel.own he0
  refine ⟨.ref a, h1, .inl ⟨rfl, xs, SqL.of h2⟩, G, e, rel, (post_stm h).imp (fun ws e1 h G1 vs H1 r1 s1 p1 => ?_) fun _ _ h => h⟩
  split at h
  ·rename_i w b ys he1
   obtain ⟨a', zs, g1, g2, g3, g4, g5⟩ := r1.own he1
   rw [h1] at g1; cases g1
   obtain ⟨y, r, rfl, py, pr⟩ := p1
   cases (show r = [] from pr)
   split at h
   ·rename_i hl
    refine ⟨a, zs, y, rfl, rfl, g2, by rw [g5.length, sizeLine_eq]; exact hl, ?_⟩
    exact h G1 σ _ (r1.mut he1 h1 (g5.append (.one py))) s1
   ·exact h.elim
  ·exact h.elim
 ·exact h.elim
end
end D
set_option Elab.async false
set_option linter.all false
set_option maxRecDepth 100000
set_option maxHeartbeats 1000000
namespace D
open PySem L2
noncomputable def compD (c : Den Bool) (d : Den W) (pe : List S) : List W -> Option (List W)
 | [] => some []
 | w :: ws => match c (.fr w :: pe) with
  | .ok true e1 => match d e1 with
   | .ok y _ => (compD c d pe ws).map (y :: ·)
   | _ => none
  | .ok false _ => compD c d pe ws
  | _ => none
noncomputable def frz1 (e : List S) (j : Nat) : List S := match e[j]? with
 | some (.own false ws) => e.set j (.fr (.lst ws))
 | _ => e
noncomputable def frzs (js : List Nat) (e : List S) : List S := js.foldl frz1 e
noncomputable def pj1 (e : List S) (j : Nat) : S := match e[j]? with
 | some (.fr w) => .fr w
 | _ => .no
noncomputable def pjS (js : List Nat) (e : List S) : List S := js.map (pj1 e)
noncomputable def compK (js : List Nat) (c : Den Bool) (d : Den W) (ws : List W) (e1 : List S) : R (List W) :=
 if ws.length <= 16777216 then (match compD c d (pjS js (frzs js e1)) ws with
  | some out => .ok out (frzs js e1)
  | none => .no) else .no
noncomputable def dCompR (g : List W -> Option (List W)) (js : List Nat) (di : Den (List W)) (c : Den Bool) (d : Den W) : Den (List W) := fun e => (di e).bind fun w e1 => match g w with
 | some ws => compK js c d ws e1
 | none => .no
noncomputable def dYes : Den Bool := fun e => .ok true e
section
variable {K : PySem.W.Frag} {Z : Zt} {G G1 H H1 : Hp} {σ : St} {e e1 : List S}
theorem Rel.frzs (r : Rel K Z G σ H e) : ∀ (js : List Nat), ∃ G', Same G G' /\ Rel K Z G' σ H (frzs js e) := by
 intro js
 induction js generalizing G e with
 | nil => exact ⟨G, .refl _, r⟩
 | cons j js ih =>
  have one : ∃ G', Same G G' /\ Rel K Z G' σ H (frz1 e j) := by
   unfold frz1
   split
   ·rename_i ws hw
    obtain ⟨v, G', _, s, _, r'⟩ := r.freeze hw
    exact ⟨G', s, r'⟩
   ·exact ⟨G, .refl _, r⟩
  obtain ⟨G1, s1, r1⟩ := one
  obtain ⟨G2, s2, r2⟩ := ih r1
  exact ⟨G2, s1.trans s2, r2⟩
theorem Rel.block (r : Rel K Z G σ H e) (js : List Nat) {w : W} {x : V} (p : Rep K G w x) : Rel K ⟨H, G, []⟩ G (some x :: pj js σ) H (.fr w :: pjS js e) := by
 have hfr : ∀ (i : Nat) (s : S), (S.fr w :: pjS js e)[i]? = some s -> s = .no \/ ∃ u, s = .fr u /\ ((i = 0 /\ u = w) \/ ∃ k j, i = k + 1 /\ js[k]? = some j /\ e[j]? = some (.fr u)) := fun i s h => by
  cases i with
  | zero => cases h; exact .inr ⟨w, rfl, .inl ⟨rfl, rfl⟩⟩
  | succ k =>
   rw [List.getElem?_cons_succ] at h
   unfold pjS at h
   rw [List.getElem?_map] at h
   obtain ⟨j, h1, h2⟩ := Option.map_eq_some_iff.mp h
   unfold pj1 at h2
   split at h2
   ·rename_i u hu
    subst h2
    exact .inr ⟨u, rfl, .inr ⟨k, j, rfl, h1, hu⟩⟩
   ·subst h2; exact .inl rfl
 refine ⟨r.sub, fun i s h => ?_, ?_, fun i j b b' w1 w2 a h1 h2 _ _ => ?_, fun a o h _ => h, (fun a h => nomatch h), fun a _ => rfl⟩
 ·rcases hfr i s h with rfl | ⟨u, rfl, ⟨rfl, rfl⟩ | ⟨k, j, rfl, h1, h2⟩⟩
  ·trivial
  ·exact ⟨x, rfl, p⟩
  ·obtain ⟨v, h3, h4⟩ := r.fr h2
   refine ⟨v, ?_, h4⟩
   rw [List.getElem?_cons_succ]
   unfold pj
   rw [List.getElem?_map, h1]
   simp [h3]
 ·simp [pjS, pj]
 ·rcases hfr i _ h1 with z | ⟨u, z, _⟩ <;> cases z
theorem Rel.mutFree (r : Rel K Z G σ H e) {a : Addr} {o : HO} (hg : G a = none) (hz : Z.H a = none) (hi : a ∉ Z.io) (hf : Free σ e a) {ls : List V} (hls : H a = some (.lst ls)) : Rel K Z G σ (upd H a o) e := by
 refine ⟨fun c u z => ?_, fun j s z => ?_, r.len, r.dis, fun c u z n => ?_, fun c z => ?_, r.gen⟩
 ·rw [upd_ne (ne_of_none z hg)]; exact r.sub c u z
 ·have y := r.slot j s z
  cases s with
  | no => trivial
  | fr w => exact y
  | own b2 w2 =>
   obtain ⟨c, ys, y1, y2, y3⟩ := y
   refine ⟨c, ys, y1, ?_, y3⟩
   rw [upd_ne]; exact y2
   rintro rfl
   obtain ⟨c', _, z1, _⟩ := r.own z
   rw [z1] at y1
   cases y1
   exact hf j b2 w2 z z1
  | dic kvs =>
   obtain ⟨c, y1, y2, y3⟩ := y
   refine ⟨c, y1, ?_, y3⟩
   rw [upd_ne (ne_of y2 hls (dO_ne rfl))]; exact y2
  | thr us w2 vs =>
   obtain ⟨t, l, o, xs2, ys, zs, y1, y2, y3, y4⟩ := y
   refine ⟨t, l, o, xs2, ys, zs, y1, y2, ?_, y4⟩
   rw [upd_ne (ne_of y3 hls (fun z => nomatch z))]; exact y3
  | nest wss => exact NestOk.move y (.refl _) fun l o ys k1 k2 k3 => ⟨by rw [upd_ne (ne_of k1 hls (fun z => nomatch z))]; exact k1, k2, k3⟩
  | dw sh ks ws => exact DwOk.move y (.refl _) fun l o ys k1 k2 k3 => ⟨by rw [upd_ne (ne_of k1 hls (fun z => nomatch z))]; exact k1, k2, k3⟩
 ·rw [upd_ne (ne_of_none z hz)]; exact r.ent c u z n
 ·by_cases hc : c = a
  ·subst hc; exact absurd z hi
  ·rw [upd_ne hc]; exact r.ion c z
structure Walk (J : It) (xs : List V) (SQ : Hp -> Prop) : Prop where
 go : ∀ i H, SQ H -> i < xs.length -> J.go i H
 yld : ∀ i H x H', SQ H -> J.yld i H x H' -> i < xs.length -> H' = H /\ xs[i]? = some x
 stop : ∀ i H, SQ H -> xs.length <= i -> J.stop i H
theorem walk_l {a : Addr} {xs : List V} : Walk (Itl K a) xs (fun H => SqL K H a xs) :=
 ⟨fun i H q h => ⟨xs, xs[i], q, by simp [h]⟩, fun i H x H' q ⟨e, y⟩ h => ⟨e, y xs q⟩, fun i H q h => ⟨xs, q, h⟩⟩
theorem walk_t {a : Addr} {xs : List V} : Walk (Itt K a) xs (fun H => SqT K H a xs) :=
 ⟨fun i H q h => ⟨xs, xs[i], q, by simp [h]⟩, fun i H x H' q ⟨e, y⟩ h => ⟨e, y xs q⟩, fun i H q h => ⟨xs, q, h⟩⟩
theorem walk_r {lo : Int} {n : Nat} : Walk (Itr lo n) ((List.range n).map fun k => V.int (lo + (k : Nat))) (fun _ => True) :=
 ⟨fun i H q h => show i < n by simpa using h, fun i H x H' q ⟨e, y⟩ h => ⟨e, by simp at h; simp [h, y]⟩, fun i H q h => show n <= i by simpa using h⟩
theorem comp_of {J : It} {xs : List V} {SQ : Hp -> Prop} {ws out : List W} {js : List Nat} {c : Den Bool} {d : Den W} {Q : VK} {G0 : Hp} (W0 : Walk J xs SQ) (r1 : Rel K Z G1 σ H1 e1) (s1 : Same G0 G1) (rp : Reps K G1 ws xs) (hSQ : ∀ G' H', Same G1 G' -> Same G' H' -> SQ H') (hl : ws.length <= 16777216)
  (hz : ∀ p, H1 p = none -> p ∉ Z.io) (hc : compD c d (pjS js e1) ws = some out)
  (h : ∀ G' a xs H', Rel K Z G' σ H' e1 -> Same G0 G' -> H' a = some (.lst xs) -> G' a = none -> Z.H a = none -> Free σ e1 a -> Reps K G' out xs -> Q (.ref a) H') :
  ∀ D, H1 D = none -> ∃ W : Nat -> Nat -> Hp -> Prop, (∃ m, W 0 m (upd H1 D (.lst []))) /\ ∀ i m H2, W i m H2 ->
   (J.stop i H2 /\ Q (.ref D) H2) \/ (J.go i H2 /\ ∀ x H3, J.yld i H2 x H3 -> gName 0 x (List.replicate 1 none ++ pj js σ) H3 fun σ4 H4 => Kp (List.replicate 1 none ++ pj js σ) σ4 /\ (fun σ H Q => ∃ Z', liftT K Z' (fun _ => E0) c σ H Q) σ4 H4 fun b H5 =>
    if b = true then (fun σ H Q => ∃ Z' G e, Rel K Z' G σ H e /\ (d e).holds (fun w e' => ∀ G' v H', Rel K Z' G' σ H' e' -> Same G G' -> Rep K G' w v -> Q v H') (XH K Z' (fun _ => E0) σ G)) σ4 H5 fun y H6 => ∃ ys, H6 D = some (.lst ys) /\ ys.length < sizeLine /\ ∃ m', m' < m /\ W (i + 1) m' (upd H6 D (.lst (ys ++ [y]))) else ∃ m', m' < m /\ W (i + 1) m' H5) := by
 intro D hD
 have hlen := rp.length
 refine ⟨fun i m H2 => m = ws.length - i /\ i <= ws.length /\ ∃ G2 ys done rest, Rel K Z G2 σ H2 e1 /\ Same G1 G2 /\ H2 D = some (.lst ys) /\ G2 D = none /\ Reps K G2 done ys /\ done.length <= i /\ compD c d (pjS js e1) (ws.drop i) = some rest /\ done ++ rest = out,
  ⟨ws.length, by omega, Nat.zero_le _, G1, [], [], out, r1.grow (Grow.hid r1.sub hD _), .refl _, upd_same, r1.sub.free hD, rfl, Nat.le_refl _, hc, rfl⟩, ?_⟩
 rintro i m H2 ⟨rfl, hi, G2, ys, done, rest, r2, s2, hd2, hg2, rp2, hdl, hc2, ho⟩
 have hfree : Free σ e1 D := free_new r1 hD
 have hzh : Z.H D = none := zh_new r1 hD
 by_cases hlt : i < ws.length
 ·refine .inr ⟨W0.go i H2 (hSQ G2 H2 s2 r2.sub) (by omega), fun x H3 hy => ?_⟩
  obtain ⟨rfl, hx⟩ := W0.yld i H2 x H3 (hSQ G2 H2 s2 r2.sub) hy (by omega)
  obtain ⟨w, hw, pw⟩ := rp.getV hx
  rw [drop_cons hw] at hc2
  refine ⟨Kp.one, ⟨H3, G2, []⟩, G2, .fr w :: pjS js e1, r2.block js (Rep.mono s2 w pw), ?_⟩
  unfold compD at hc2
  cases qc : c (.fr w :: pjS js e1) with
  | no => rw [qc] at hc2; cases hc2
  | ex _ _ => rw [qc] at hc2; cases hc2
  | ok k e2 =>
   rw [qc] at hc2
   intro G3 H5 r3 s3
   have g3 := r3.toGrow s3
   cases k with
   | false =>
    exact ⟨ws.length - (i + 1), by omega, rfl, hlt, G3, ys, done, rest, r2.grow g3, s2.trans s3, g3.hh _ _ hd2, by rw [g3.new D (by rw [hd2]; simp)]; exact hg2, Reps.mono s3 _ rp2, by omega, hc2, ho⟩
   | true =>
    refine ⟨⟨H3, G2, []⟩, G3, e2, r3, ?_⟩
    dsimp only at hc2
    cases qd : d e2 with
    | no => rw [qd] at hc2; cases hc2
    | ex _ _ => rw [qd] at hc2; cases hc2
    | ok y e3 =>
     rw [qd] at hc2
     intro G4 v H6 r4 s4 p4
     have g4 := r4.toGrow (s3.trans s4)
     obtain ⟨rest', hr, rfl⟩ := Option.map_eq_some_iff.mp hc2
     have hd6 : H6 D = some (.lst ys) := g4.hh _ _ hd2
     have hg6 : G4 D = none := by rw [g4.new D (by rw [hd2]; simp)]; exact hg2
     refine ⟨ys, hd6, ?_, ws.length - (i + 1), by omega, rfl, hlt, G4, ys ++ [v], done ++ [y], rest', (r2.grow g4).mutFree hg6 hzh (hz D hD) hfree hd6, s2.trans (s3.trans s4), upd_same, hg6, (Reps.mono (s3.trans s4) _ rp2).append (.one p4), by simp; omega, hr, by rw [List.append_assoc]; exact ho⟩
     rw [rp2.length, sizeLine_eq]; omega
 ·have : i = ws.length := by omega
  subst this
  rw [List.drop_length] at hc2
  cases hc2
  rw [List.append_nil] at ho
  subst ho
  exact .inl ⟨W0.stop _ H2 (hSQ G2 H2 s2 r2.sub) (by omega), h G2 D ys H2 r2 (s1.trans s2) hd2 hg2 hzh hfree rp2⟩
end
section
variable {X : Cx} {Z : Zt} {EE : St -> XK} {elt iter a b : Expr} {ifs : List Expr} {scope sc : Scope} {pos pt : Pos} {x : Str} {Nf N : List Str} {js : List Nat} {di : Den W} {dA : Den (List W)} {c : Den Bool} {d : Den W}
def DTs (Z : Zt) (X : Cx) (EE : St -> XK) (ifs : List Expr) (c : Den Bool) : Prop := PTs X ifs (liftT X.K Z EE c)
theorem dts_nil : DTs Z X EE [] dYes := fun pins s σ H Q I ⟨G, e, r, h⟩ => pts_nil pins s σ H Q I (h G H r (.refl _))
def cT (K : PySem.W.Frag) (c : Den Bool) : TT := fun σ H Q => ∃ Z', liftT K Z' (fun _ => E0) c σ H Q
def cE (K : PySem.W.Frag) (d : Den W) : TE := fun σ H Q => ∃ Z' G e, Rel K Z' G σ H e /\ (d e).holds (fun w e' => ∀ G' v H', Rel K Z' G' σ H' e' -> Same G G' -> Rep K G' w v -> Q v H') (XH K Z' (fun _ => E0) σ G)
theorem cT_ok {Y : List Str} (ht : ∀ Z' cl C s₀ H₀ ex, DTs Z' (X.cp Y scope cl C s₀ H₀ ex) (fun _ => E0) ifs c) : ∀ cl C s₀ H₀ ex, PTs (X.cp Y scope cl C s₀ H₀ ex) ifs (cT X.K c) := fun cl C s₀ H₀ ex pins s σ H Q I ⟨Z', h⟩ => ht Z' cl C s₀ H₀ ex pins s σ H Q I h
theorem cE_ok {Y : List Str} (he : ∀ Z' cl C s₀ H₀ ex, DE Z' (X.cp Y scope cl C s₀ H₀ ex) (fun _ => E0) elt d) : ∀ cl C s₀ H₀ ex, PE (X.cp Y scope cl C s₀ H₀ ex) elt (cE X.K d) := fun cl C s₀ H₀ ex pins s σ H Q I ⟨Z', h⟩ => he Z' cl C s₀ H₀ ex pins s σ H Q I h
theorem ionone {K : PySem.W.Frag} {G H : Hp} {σ : St} {e : List S} (r : Rel K Z G σ H e) : ∀ p, H p = none -> p ∉ Z.io := fun p hp hi => r.ion p hi hp
theorem lift_comp2 {K : PySem.W.Frag} : ∀ σ H Q, liftF K Z EE (dCompR rng2 js dA c d) σ H Q -> tComp (iRng2 (liftA K Z EE dA)) 1 js (gName 0) (cT K c) (cE K d) σ H Q := by
 rintro σ H Q ⟨G, e, rel, h⟩
 simp only [dCompR, R.holds_bind] at h
 refine ⟨G, e, rel, h.imp (fun ws e1 h G1 vs H1 r1 s1 p1 => ?_) fun _ _ h => h⟩
 unfold rng2 at h
 split at h
 ·rename_i us hh
  split at hh
  ·rename_i j k
   split at hh
   ·rename_i hj
    cases hh
    obtain ⟨y, r, rfl, e1, y2, r2', rfl, e2, e3⟩ := p1
    cases (show y = V.int j from e1)
    cases (show y2 = V.int k from e2)
    cases (show r2' = [] from e3)
    refine ⟨j, k, rfl, ⟨(okI_to hj.1).1, (okI_to hj.1).2, (okI_to hj.2).1, (okI_to hj.2).2⟩, ?_⟩
    unfold compK at h
    split at h
    ·rename_i hl
     split at h
     ·rename_i out ho
      obtain ⟨G2, s2, r2⟩ := r1.frzs js
      exact comp_of (J := Itr j (k - j).toNat) walk_r r2 (s1.trans s2) (reps_range (lo := j) (hi := k)) (fun _ _ _ _ => trivial) hl (ionone r2) ho h
     ·exact h.elim
    ·exact h.elim
   ·cases hh
  ·cases hh
 ·exact h.elim
theorem df_comp2 {p1 p2 : Pos} (hc : X.calm = true) (hm : X.mg "range" = none) (ha : DA Z X EE [a, b] dA) (ok : compOk sc scope N Nf js = true)
  (ht : ∀ Z' cl C s₀ H₀ ex, DTs Z' (X.cp ([x] ++ Nf) scope cl C s₀ H₀ ex) (fun _ => E0) ifs c) (he : ∀ Z' cl C s₀ H₀ ex, DE Z' (X.cp ([x] ++ Nf) scope cl C s₀ H₀ ex) (fun _ => E0) elt d)
  (hg : ∀ cl C s₀ H₀ ex, PG (X.cp ([x] ++ Nf) scope cl C s₀ H₀ ex) (.Name x pt) (gName 0))
  (hgr : Gl X "range" := by rfl) (hs1 : starEach [a, b] X.env = [(false, eval a X.env), (false, eval b X.env)] := by rfl) (hs2 : starEach [b] X.env = [(false, eval b X.env)] := by rfl) (hsc : X.env.scope = sc := by rfl) (hN : X.N = N := by rfl) (hs : ∀ x, foldedSetIterable (.Call (.Name "range" p1) [a, b] [] p2) X.env x = pure x := by intro _; rfl) :
  DF Z X EE (.ListComp elt [⟨.Name x pt, .Call (.Name "range" p1) [a, b] [] p2, ifs, 0⟩] scope pos) (dCompR rng2 js dA c d) := by
 exact PE.mono (pe_compK (Nl := [x]) (tc := cT X.K c) (te := cE X.K d) hc (pi_range2 hgr hm ha hs1 hs2) ok hg (cT_ok ht) (cE_ok he) hsc hN hs) lift_comp2
end
end D
set_option Elab.async false
set_option linter.all false
set_option maxRecDepth 100000
set_option maxHeartbeats 1000000
namespace D
open PySem L2
mutual
noncomputable def depW : W -> Nat
 | .tup ws => depWs ws + 1
 | .lst ws => depWs ws + 1
 | _ => 0
noncomputable def depWs : List W -> Nat
 | [] => 0
 | w :: ws => max (depW w) (depWs ws)
end
section
variable {X : Cx} {pins : List (Addr × Obj)} {σ : St} {H G : Hp} {s : Shared}
mutual
theorem rep_inj (I : Inv X pins σ H s) (sg : Same G H) : ∀ (w : W) {w' : W} {v : V} {k : Bool}, Rep X.K G w v -> Rep X.K G w' v -> eqW w w' = some k -> k = true
 | .non, w', v, k, h, h', e => by
  cases (show v = .non from h)
  cases w' <;> first | (cases e; done) | (cases h'; cases e; rfl) | (exfalso; obtain ⟨_, _, z, _⟩ := h'; first | done | cases z) | (exfalso; obtain ⟨_, z, _⟩ := h'; first | done | cases z)
 | .bl b, w', v, k, h, h', e => by
  cases (show v = .bl b from h)
  cases w' <;> first | (cases e; done) | (cases h'; cases e; exact beq_self_eq_true _) | (exfalso; obtain ⟨_, _, z, _⟩ := h'; first | done | cases z) | (exfalso; obtain ⟨_, z, _⟩ := h'; first | done | cases z)
 | .int b, w', v, k, h, h', e => by
  cases (show v = .int b from h)
  cases w' <;> first | (cases e; done) | (cases h'; cases e; exact beq_self_eq_true _) | (exfalso; obtain ⟨_, _, z, _⟩ := h'; first | done | cases z) | (exfalso; obtain ⟨_, z, _⟩ := h'; first | done | cases z)
 | .str b, w', v, k, h, h', e => by
  cases (show v = .str b from h)
  cases w' <;> first | (cases e; done) | (cases h'; cases e; exact beq_self_eq_true _) | (exfalso; obtain ⟨_, _, z, _⟩ := h'; first | done | cases z) | (exfalso; obtain ⟨_, z, _⟩ := h'; first | done | cases z)
 | .tup ws, w', v, k, h, h', e => by
  obtain ⟨a, xs, rfl, q, r⟩ := h
  cases w' with
  | tup ws' =>
   obtain ⟨a', xs', z, q', r'⟩ := h'
   cases z
   have := I.tuple_inj (sg.tup q) (sg.tup q')
   subst this
   exact reps_inj I sg ws r r' (e)
  | lst ws' =>
   obtain ⟨a', xs', z, q', r'⟩ := h'
   cases z
   obtain ⟨its, _, p1, _⟩ := I.tuple (sg.tup q)
   obtain ⟨its2, _, p2, _⟩ := I.list (sg.seq q')
   exact absurd rfl (SeqAt.ne_of_list_tuple p2.isList (show s.heap.IsTuple a _ from p1))
  | non => cases h'
  | bl _ => cases h'
  | int _ => cases h'
  | str _ => cases h'
  | exc _ => cases e
  | dic _ => cases e
  | dw _ _ _ _ => cases e
  | fn _ _ _ => cases e
 | .lst ws, w', v, k, h, h', e => by
  obtain ⟨a, xs, rfl, q, r⟩ := h
  cases w' with
  | lst ws' =>
   obtain ⟨a', xs', z, q', r'⟩ := h'
   cases z
   have := I.list_inj (sg.seq q) (sg.seq q')
   subst this
   exact reps_inj I sg ws r r' (e)
  | tup ws' =>
   obtain ⟨a', xs', z, q', r'⟩ := h'
   cases z
   obtain ⟨its, _, p1, _⟩ := I.tuple (sg.tup q')
   obtain ⟨its2, _, p2, _⟩ := I.list (sg.seq q)
   exact absurd rfl (SeqAt.ne_of_list_tuple p2.isList (show s.heap.IsTuple a _ from p1))
  | non => cases h'
  | bl _ => cases h'
  | int _ => cases h'
  | str _ => cases h'
  | exc _ => cases e
  | dic _ => cases e
  | dw _ _ _ _ => cases e
  | fn _ _ _ => cases e
 | .exc c, w', v, k, h, h', e => by cases w' <;> cases e
 | .dic c, w', v, k, h, h', e => by cases w' <;> cases e
 | .dw _ _ _ _, w', v, k, h, h', e => by cases w' <;> cases e
 | .fn _ _ _, w', v, k, h, h', e => by cases w' <;> cases e
theorem reps_inj (I : Inv X pins σ H s) (sg : Same G H) : ∀ (ws : List W) {ws' : List W} {vs : List V} {k : Bool}, Reps X.K G ws vs -> Reps X.K G ws' vs -> eqWs ws ws' = some k -> k = true
 | [], ws', vs, k, h, h', e => by
  cases h
  cases ws' with
  | nil => simp [eqWs] at e; exact e
  | cons _ _ => obtain ⟨_, _, z, _⟩ := h'; cases z
 | w :: ws, ws', vs, k, h, h', e => by
  obtain ⟨x, r, rfl, h1, h2⟩ := h
  cases ws' with
  | nil => cases h'
  | cons w' ws' =>
   obtain ⟨x', r', z, h1', h2'⟩ := h'
   cases z
   simp only [eqWs] at e
   cases q1 : eqW w w' with
   | none => rw [q1] at e; cases e
   | some b1 =>
    cases q2 : eqWs ws ws' with
    | none => rw [q1, q2] at e; cases e
    | some b2 =>
     rw [q1, q2] at e
     rw [rep_inj I sg w h1 h1' q1, reps_inj I sg ws h2 h2' q2] at e
     cases e; rfl
end
theorem eqWs_get : ∀ {xs ys : List W} {b : Bool}, eqWs xs ys = some b -> (∀ (j : Nat) x y, xs[j]? = some x -> ys[j]? = some y -> ∃ k, eqW x y = some k) /\ b = ((List.range (min xs.length ys.length)).all (fun j => ((eqW (xs.getD j .non) (ys.getD j .non)).getD false)) && xs.length == ys.length) := by
 intro xs
 induction xs with
 | nil =>
  intro ys b h
  refine ⟨fun j x y hx => by simp at hx, ?_⟩
  cases ys <;> simp [eqWs] at h <;> simp [<- h]
 | cons x xs ih =>
  intro ys b h
  cases ys with
  | nil => refine ⟨fun j x y hx hy => by simp at hy, ?_⟩; simp [eqWs] at h; simp [<- h]
  | cons y ys =>
   simp only [eqWs] at h
   cases q1 : eqW x y with
   | none => rw [q1] at h; cases h
   | some b1 =>
    cases q2 : eqWs xs ys with
    | none => rw [q1, q2] at h; cases h
    | some b2 =>
     rw [q1, q2] at h
     cases h
     obtain ⟨h1, h2⟩ := ih q2
     refine ⟨fun j x' y' hx hy => ?_, ?_⟩
     ·cases j with
      | zero => simp at hx hy; subst hx hy; exact ⟨_, q1⟩
      | succ j => exact h1 j x' y' (by simpa using hx) (by simpa using hy)
     ·rw [h2]
      simp only [List.length_cons, Nat.succ_min_succ, List.range_succ_eq_map, List.all_cons, List.all_map]
      have e0 : (eqW ((x :: xs).getD 0 .non) ((y :: ys).getD 0 .non)).getD false = b1 := by
       show (eqW x y).getD false = b1
       rw [q1]; rfl
      rw [e0, Bool.and_assoc]
      congr 1
      congr 1
      simp
theorem depWs_get : ∀ {xs : List W} {j : Nat} {x : W}, xs[j]? = some x -> depW x <= depWs xs
 | [], _, _, h => by simp at h
 | y :: ys, 0, x, h => by simp at h; subst h; simp only [depWs]; omega
 | y :: ys, j + 1, x, h => by
  have := depWs_get (xs := ys) (j := j) (by simpa using h)
  simp only [depWs]; omega
theorem getD_of {α : Type} {xs : List α} {j : Nat} {x d : α} (h : xs[j]? = some x) : xs.getD j d = x := by
 simp [List.getD, h]
theorem rc_mix (I : Inv X pins σ H s) (sg : Same G H) {w w' : W} {v v' : V} {u u' : Value} {b : Bool} {A : Around} (hu : A.units < cLine) (n1 : ∀ ws, w = .tup ws -> ∀ ws', w' ≠ .tup ws') (n2 : ∀ ws, w = .lst ws -> ∀ ws', w' ≠ .lst ws') (h : Rep X.K G w v) (h' : Rep X.K G w' v') (r : RelV v u) (r' : RelV v' u') (e : eqW w w' = some b) : SeqAt.RcAt A s u u' b := by
 have tl : ∀ {ws : List W} {v : V} {u : Value}, Rep X.K G (.lst ws) v -> RelV v u -> ∃ l items, u = .ref l /\ s.heap.IsList l items := fun h r => by
  obtain ⟨a, xs, rfl, q, _⟩ := h
  cases r
  obtain ⟨its, _, p, _⟩ := I.list (sg.seq q)
  exact ⟨a, _, rfl, p.isList⟩
 have tt : ∀ {ws : List W} {v : V} {u : Value}, Rep X.K G (.tup ws) v -> RelV v u -> ∃ l items, u = .ref l /\ s.heap.IsTuple l items := fun h r => by
  obtain ⟨a, xs, rfl, q, _⟩ := h
  cases r
  obtain ⟨its, _, p, _⟩ := I.tuple (sg.tup q)
  exact ⟨a, _, rfl, p⟩
 have tn : ∀ {v : V} {u : Value}, Rep X.K G .non v -> RelV v u -> u = .none := fun h r => by cases h; exact r
 have tb : ∀ {k : Bool} {v : V} {u : Value}, Rep X.K G (.bl k) v -> RelV v u -> u = .bool k := fun h r => by cases h; exact r
 have ti : ∀ {k : Int} {v : V} {u : Value}, Rep X.K G (.int k) v -> RelV v u -> ∃ t, u = .int k t := fun h r => by cases h; exact r
 have ts : ∀ {k : Str} {v : V} {u : Value}, Rep X.K G (.str k) v -> RelV v u -> ∃ t, u = .str k t := fun h r => by cases h; exact r
 cases w with
 | non =>
  obtain rfl := tn h r
  cases w' with
  | non => obtain rfl := tn h' r'; cases e; exact .none_none
  | bl k => obtain rfl := tb h' r'; cases e; exact .none_bool k
  | int k => obtain ⟨t, rfl⟩ := ti h' r'; cases e; exact .none_int k t
  | str k => obtain ⟨t, rfl⟩ := ts h' r'; cases e; exact .none_str k t
  | tup k => obtain ⟨l, it, rfl, p⟩ := tt h' r'; cases e; exact .none_tuple p hu
  | lst k => obtain ⟨l, it, rfl, p⟩ := tl h' r'; cases e; exact .none_list p hu
  | exc k => cases e
  | dic k => cases e
  | dw _ _ _ _ => cases e
  | fn _ _ _ => cases e
 | bl j =>
  obtain rfl := tb h r
  cases w' with
  | non => obtain rfl := tn h' r'; cases e; exact .bool_none j
  | bl k => obtain rfl := tb h' r'; cases e; exact .bool_bool j k
  | int k => obtain ⟨t, rfl⟩ := ti h' r'; cases e; exact .bool_int j k t
  | str k => obtain ⟨t, rfl⟩ := ts h' r'; cases e; exact .bool_str j k t
  | tup k => obtain ⟨l, it, rfl, p⟩ := tt h' r'; cases e; exact .bool_tuple j p hu
  | lst k => obtain ⟨l, it, rfl, p⟩ := tl h' r'; cases e; exact .bool_list j p hu
  | exc k => cases e
  | dic k => cases e
  | dw _ _ _ _ => cases e
  | fn _ _ _ => cases e
 | int j =>
  obtain ⟨t1, rfl⟩ := ti h r
  cases w' with
  | non => obtain rfl := tn h' r'; cases e; exact .int_none j t1
  | bl k => obtain rfl := tb h' r'; cases e; exact .int_bool j t1 k
  | int k => obtain ⟨t, rfl⟩ := ti h' r'; cases e; exact .int_int j t1 k t
  | str k => obtain ⟨t, rfl⟩ := ts h' r'; cases e; exact .int_str j t1 k t
  | tup k => obtain ⟨l, it, rfl, p⟩ := tt h' r'; cases e; exact .int_tuple j t1 p hu
  | lst k => obtain ⟨l, it, rfl, p⟩ := tl h' r'; cases e; exact .int_list j t1 p hu
  | exc k => cases e
  | dic k => cases e
  | dw _ _ _ _ => cases e
  | fn _ _ _ => cases e
 | str j =>
  obtain ⟨t1, rfl⟩ := ts h r
  cases w' with
  | non => obtain rfl := tn h' r'; cases e; exact .str_none j t1
  | bl k => obtain rfl := tb h' r'; cases e; exact .str_bool j t1 k
  | int k => obtain ⟨t, rfl⟩ := ti h' r'; cases e; exact .str_int j t1 k t
  | str k => obtain ⟨t, rfl⟩ := ts h' r'; cases e; exact .str_str j t1 k t
  | tup k => obtain ⟨l, it, rfl, p⟩ := tt h' r'; cases e; exact .str_tuple j t1 p hu
  | lst k => obtain ⟨l, it, rfl, p⟩ := tl h' r'; cases e; exact .str_list j t1 p hu
  | exc k => cases e
  | dic k => cases e
  | dw _ _ _ _ => cases e
  | fn _ _ _ => cases e
 | tup j =>
  obtain ⟨l1, it1, rfl, p1⟩ := tt h r
  cases w' with
  | non => obtain rfl := tn h' r'; cases e; exact .tuple_none p1 hu
  | bl k => obtain rfl := tb h' r'; cases e; exact .tuple_bool k p1 hu
  | int k => obtain ⟨t, rfl⟩ := ti h' r'; cases e; exact .tuple_int k t p1 hu
  | str k => obtain ⟨t, rfl⟩ := ts h' r'; cases e; exact .tuple_str k t p1 hu
  | tup k => exact absurd rfl (n1 j rfl k)
  | lst k => obtain ⟨l, it, rfl, p⟩ := tl h' r'; cases e; exact .tuple_list p1 p hu
  | exc k => cases e
  | dic k => cases e
  | dw _ _ _ _ => cases e
  | fn _ _ _ => cases e
 | lst j =>
  obtain ⟨l1, it1, rfl, p1⟩ := tl h r
  cases w' with
  | non => obtain rfl := tn h' r'; cases e; exact .list_none p1 hu
  | bl k => obtain rfl := tb h' r'; cases e; exact .list_bool k p1 hu
  | int k => obtain ⟨t, rfl⟩ := ti h' r'; cases e; exact .list_int k t p1 hu
  | str k => obtain ⟨t, rfl⟩ := ts h' r'; cases e; exact .list_str k t p1 hu
  | lst k => exact absurd rfl (n2 j rfl k)
  | tup k => obtain ⟨l, it, rfl, p⟩ := tt h' r'; cases e; exact .list_tuple p1 p hu
  | exc k => cases e
  | dic k => cases e
  | dw _ _ _ _ => cases e
  | fn _ _ _ => cases e
 | exc j => cases w' <;> cases e
 | dic j => cases w' <;> cases e
 | dw _ _ _ _ => cases w' <;> cases e
 | fn _ _ _ => cases w' <;> cases e
theorem rc_flat (I : Inv X pins σ H s) (sg : Same G H) {w w' : W} {v v' : V} {u u' : Value} {b : Bool} {A : Around} (hd : depW w <= 0) (hu : A.units < cLine) (h : Rep X.K G w v) (h' : Rep X.K G w' v') (r : RelV v u) (r' : RelV v' u') (e : eqW w w' = some b) : SeqAt.RcAt A s u u' b :=
 rc_mix I sg hu (fun ws z => by subst z; simp [depW] at hd) (fun ws z => by subst z; simp [depW] at hd) h h' r r' e
theorem rep_nofl {K : PySem.W.Frag} {G : Hp} {w : W} {v : V} (h : Rep K G w v) : ∀ x, v ≠ .flt x := fun x z => by
 subst z
 cases w with
 | tup ws => obtain ⟨_, _, z, _⟩ := h; cases z
 | lst ws => obtain ⟨_, _, z, _⟩ := h; cases z
 | exc c => obtain ⟨_, z, _⟩ := h; cases z
 | dic c => obtain ⟨_, z, _⟩ := h; cases z
 | dw _ _ _ _ => obtain ⟨_, _, _, z, _⟩ := h; cases z
 | fn _ _ _ => obtain ⟨_, _, _, _, z, _⟩ := h; cases z
 | _ => cases h
theorem eq_of_rc {A : Around} {v : V} {u u' : Value} {b : Bool} (rv : RelV v u) (hf : ∀ x, v ≠ .flt x) (h : SeqAt.RcAt A s u u' b) (hs : u = u' -> b = true) : SeqAt.EqAt A s u u' b := fun prog w E Q hq => by
 unfold eqBool
 refine wpAny_holding ?_
 refine wpAny_ite_split (fun hab => ?_) (fun _ => ?_)
 ·have hb := hs (eq_of_beq hab)
  subst hb
  exact wpAny_bind (wpAny_rule (wpAny_pure hq))
 ·have z := wpAny_bind (h prog w E (fun a s' => wpAny (model prog w) A (truthOfDropped a) Q E s') (wpAny_truthy_bool hq))
  cases v with
  | flt x => exact absurd rfl (hf x)
  | non => cases rv; exact z
  | bl _ => cases rv; exact z
  | int _ => obtain ⟨t, rfl⟩ := rv; exact z
  | str _ => obtain ⟨t, rfl⟩ := rv; exact z
  | byt _ => obtain ⟨t, rfl⟩ := rv; exact z
  | ref _ => cases rv; exact z
  | ty _ => cases rv; exact z
theorem rc_of (I : Inv X pins σ H s) (sg : Same G H) : ∀ (n : Nat) {w w' : W} {v v' : V} {u u' : Value} {b : Bool} {A : Around}, depW w <= n -> A.units + n < cLine -> Rep X.K G w v -> Rep X.K G w' v' -> RelV v u -> RelV v' u' -> eqW w w' = some b -> SeqAt.RcAt A s u u' b := by
 intro n
 induction n with
 | zero =>
  intro w w' v v' u u' b A hd hu h h' r r' e
  exact rc_flat I sg hd (by omega) h h' r r' e
 | succ n ih =>
  intro w w' v v' u u' b A hd hu h h' r r' e
  have items : ∀ {ws ws' : List W} {xs xs' : List V} {its its' : List Value} {k : Bool}, depWs ws <= n -> Reps X.K G ws xs -> Reps X.K G ws' xs' -> Vals xs its -> Vals xs' its' -> eqWs ws ws' = some k ->
    ∀ j (h1 : j < its.toArray.size) (h2 : j < its'.toArray.size), SeqAt.EqAt A.in1 s its.toArray[j] its'.toArray[j] ((eqW (ws.getD j .non) (ws'.getD j .non)).getD false) := by
   intro ws ws' xs xs' its its' k hd r1 r2 v1 v2 he j h1 h2
   have l1 := r1.length
   have l2 := r2.length
   have m1 := v1.length
   have m2 := v2.length
   have i1 : j < xs.length := by rw [m1]; simpa using h1
   have i2 : j < xs'.length := by rw [m2]; simpa using h2
   obtain ⟨u1, e1, ru1⟩ := v1.get (List.getElem?_eq_getElem i1)
   obtain ⟨u2, e2, ru2⟩ := v2.get (List.getElem?_eq_getElem i2)
   obtain ⟨w1, f1, p1⟩ := r1.getV (List.getElem?_eq_getElem i1)
   obtain ⟨w2, f2, p2⟩ := r2.getV (List.getElem?_eq_getElem i2)
   obtain ⟨b', hb'⟩ := (eqWs_get he).1 j w1 w2 f1 f2
   rw [getD_of f1, getD_of f2, hb']
   have g1 : its.toArray[j] = u1 := by
    obtain ⟨_, z⟩ := List.getElem?_eq_some_iff.mp e1
    simpa using z
   have g2 : its'.toArray[j] = u2 := by
    obtain ⟨_, z⟩ := List.getElem?_eq_some_iff.mp e2
    simpa using z
   rw [g1, g2]
   have hdw : depW w1 <= n := Nat.le_trans (depWs_get f1) hd
   have hun : A.in1.units + n < cLine := by
    have : A.in1.units = A.units + 1 := rfl
    omega
   refine eq_of_rc ru1 (rep_nofl p1) (ih hdw hun p1 p2 ru1 ru2 hb') fun z => ?_
   subst z
   have := ru1.inj ru2
   rw [this] at p1
   exact rep_inj I sg w1 p1 p2 hb'
  cases w with
  | tup ws =>
   cases w' with
   | tup ws' =>
    obtain ⟨a, xs, rfl, q1, r1⟩ := h
    obtain ⟨a', xs', rfl, q2, r2⟩ := h'
    cases r
    cases r'
    obtain ⟨its, v1, p1, _⟩ := I.tuple (sg.tup q1)
    obtain ⟨its', v2, p2, _⟩ := I.tuple (sg.tup q2)
    have e : eqWs ws ws' = some b := e
    have z := SeqAt.RcAt.tuples (show s.heap.IsTuple a _ from p1) (show s.heap.IsTuple a' _ from p2) (show A.units < cLine by omega) (items (by simp only [depW] at hd; omega) r1 r2 v1 v2 e)
    have l1 := r1.length
    have l2 := r2.length
    have m1 := v1.length
    have m2 := v2.length
    have eb := (eqWs_get e).2
    have n1 : its.length = ws.length := by omega
    have n2 : its'.length = ws'.length := by omega
    rw [eb]
    simp only [List.size_toArray, n1, n2] at z
    exact z
   | _ => exact rc_mix I sg (by omega) (by intro ws'; simp) (by intro ws'; simp) h h' r r' e
  | lst ws =>
   cases w' with
   | lst ws' =>
    obtain ⟨a, xs, rfl, q1, r1⟩ := h
    obtain ⟨a', xs', rfl, q2, r2⟩ := h'
    cases r
    cases r'
    obtain ⟨its, v1, p1, _⟩ := I.list (sg.seq q1)
    obtain ⟨its', v2, p2, _⟩ := I.list (sg.seq q2)
    have e : eqWs ws ws' = some b := e
    have l1 := r1.length
    have l2 := r2.length
    have m1 := v1.length
    have m2 := v2.length
    have eb := (eqWs_get e).2
    have n1 : its.length = ws.length := by omega
    have n2 : its'.length = ws'.length := by omega
    by_cases hl : ws.length = ws'.length
    ·have z := SeqAt.RcAt.lists p1.isList p2.isList (by simp only [List.size_toArray]; omega) (show A.units < cLine by omega) (items (by simp only [depW] at hd; omega) r1 r2 v1 v2 e)
     rw [eb, hl]
     simp only [List.size_toArray, n1, hl, Nat.min_self, beq_self_eq_true, Bool.and_true] at z |-
     exact z
    ·have z := SeqAt.RcAt.lists_lengths (A := A) p1.isList p2.isList (by simp only [List.size_toArray, bne_iff_ne]; omega) (show A.units < cLine by omega)
     have : b = false := by
      rw [eb]
      have : (ws.length == ws'.length) = false := by simp [hl]
      rw [this, Bool.and_false]
     rw [this]
     exact z
   | _ => exact rc_mix I sg (by omega) (by intro ws'; simp) (by intro ws'; simp) h h' r r' e
  | _ => exact rc_flat I sg (by simp [depW]) (by omega) h h' r r' e
theorem rcne_mix (I : Inv X pins σ H s) (sg : Same G H) {w w' : W} {v v' : V} {u u' : Value} {b : Bool} {A : Around} (hu : A.units < cLine) (n1 : ∀ ws, w = .tup ws -> ∀ ws', w' ≠ .tup ws') (n2 : ∀ ws, w = .lst ws -> ∀ ws', w' ≠ .lst ws') (h : Rep X.K G w v) (h' : Rep X.K G w' v') (r : RelV v u) (r' : RelV v' u') (e : eqW w w' = some b) : SeqAt.RcNeAt A s u u' (!b) := by
 have tl : ∀ {ws : List W} {v : V} {u : Value}, Rep X.K G (.lst ws) v -> RelV v u -> ∃ l items, u = .ref l /\ s.heap.IsList l items := fun h r => by
  obtain ⟨a, xs, rfl, q, _⟩ := h
  cases r
  obtain ⟨its, _, p, _⟩ := I.list (sg.seq q)
  exact ⟨a, _, rfl, p.isList⟩
 have tt : ∀ {ws : List W} {v : V} {u : Value}, Rep X.K G (.tup ws) v -> RelV v u -> ∃ l items, u = .ref l /\ s.heap.IsTuple l items := fun h r => by
  obtain ⟨a, xs, rfl, q, _⟩ := h
  cases r
  obtain ⟨its, _, p, _⟩ := I.tuple (sg.tup q)
  exact ⟨a, _, rfl, p⟩
 have tn : ∀ {v : V} {u : Value}, Rep X.K G .non v -> RelV v u -> u = .none := fun h r => by cases h; exact r
 have tb : ∀ {k : Bool} {v : V} {u : Value}, Rep X.K G (.bl k) v -> RelV v u -> u = .bool k := fun h r => by cases h; exact r
 have ti : ∀ {k : Int} {v : V} {u : Value}, Rep X.K G (.int k) v -> RelV v u -> ∃ t, u = .int k t := fun h r => by cases h; exact r
 have ts : ∀ {k : Str} {v : V} {u : Value}, Rep X.K G (.str k) v -> RelV v u -> ∃ t, u = .str k t := fun h r => by cases h; exact r
 cases w with
 | non =>
  obtain rfl := tn h r
  cases w' with
  | non => obtain rfl := tn h' r'; cases e; exact .none_none
  | bl k => obtain rfl := tb h' r'; cases e; exact .none_bool k
  | int k => obtain ⟨t, rfl⟩ := ti h' r'; cases e; exact .none_int k t
  | str k => obtain ⟨t, rfl⟩ := ts h' r'; cases e; exact .none_str k t
  | tup k => obtain ⟨l, it, rfl, p⟩ := tt h' r'; cases e; exact .none_tuple p hu
  | lst k => obtain ⟨l, it, rfl, p⟩ := tl h' r'; cases e; exact .none_list p hu
  | exc k => cases e
  | dic k => cases e
  | dw _ _ _ _ => cases e
  | fn _ _ _ => cases e
 | bl j =>
  obtain rfl := tb h r
  cases w' with
  | non => obtain rfl := tn h' r'; cases e; exact .bool_none j
  | bl k => obtain rfl := tb h' r'; cases e; exact .bool_bool j k
  | int k => obtain ⟨t, rfl⟩ := ti h' r'; cases e; exact .bool_int j k t
  | str k => obtain ⟨t, rfl⟩ := ts h' r'; cases e; exact .bool_str j k t
  | tup k => obtain ⟨l, it, rfl, p⟩ := tt h' r'; cases e; exact .bool_tuple j p hu
  | lst k => obtain ⟨l, it, rfl, p⟩ := tl h' r'; cases e; exact .bool_list j p hu
  | exc k => cases e
  | dic k => cases e
  | dw _ _ _ _ => cases e
  | fn _ _ _ => cases e
 | int j =>
  obtain ⟨t1, rfl⟩ := ti h r
  cases w' with
  | non => obtain rfl := tn h' r'; cases e; exact .int_none j t1
  | bl k => obtain rfl := tb h' r'; cases e; exact .int_bool j t1 k
  | int k => obtain ⟨t, rfl⟩ := ti h' r'; cases e; exact .int_int j t1 k t
  | str k => obtain ⟨t, rfl⟩ := ts h' r'; cases e; exact .int_str j t1 k t
  | tup k => obtain ⟨l, it, rfl, p⟩ := tt h' r'; cases e; exact .int_tuple j t1 p hu
  | lst k => obtain ⟨l, it, rfl, p⟩ := tl h' r'; cases e; exact .int_list j t1 p hu
  | exc k => cases e
  | dic k => cases e
  | dw _ _ _ _ => cases e
  | fn _ _ _ => cases e
 | str j =>
  obtain ⟨t1, rfl⟩ := ts h r
  cases w' with
  | non => obtain rfl := tn h' r'; cases e; exact .str_none j t1
  | bl k => obtain rfl := tb h' r'; cases e; exact .str_bool j t1 k
  | int k => obtain ⟨t, rfl⟩ := ti h' r'; cases e; exact .str_int j t1 k t
  | str k => obtain ⟨t, rfl⟩ := ts h' r'; cases e; exact .str_str j t1 k t
  | tup k => obtain ⟨l, it, rfl, p⟩ := tt h' r'; cases e; exact .str_tuple j t1 p hu
  | lst k => obtain ⟨l, it, rfl, p⟩ := tl h' r'; cases e; exact .str_list j t1 p hu
  | exc k => cases e
  | dic k => cases e
  | dw _ _ _ _ => cases e
  | fn _ _ _ => cases e
 | tup j =>
  obtain ⟨l1, it1, rfl, p1⟩ := tt h r
  cases w' with
  | non => obtain rfl := tn h' r'; cases e; exact .tuple_none p1 hu
  | bl k => obtain rfl := tb h' r'; cases e; exact .tuple_bool k p1 hu
  | int k => obtain ⟨t, rfl⟩ := ti h' r'; cases e; exact .tuple_int k t p1 hu
  | str k => obtain ⟨t, rfl⟩ := ts h' r'; cases e; exact .tuple_str k t p1 hu
  | tup k => exact absurd rfl (n1 j rfl k)
  | lst k => obtain ⟨l, it, rfl, p⟩ := tl h' r'; cases e; exact .tuple_list p1 p hu
  | exc k => cases e
  | dic k => cases e
  | dw _ _ _ _ => cases e
  | fn _ _ _ => cases e
 | lst j =>
  obtain ⟨l1, it1, rfl, p1⟩ := tl h r
  cases w' with
  | non => obtain rfl := tn h' r'; cases e; exact .list_none p1 hu
  | bl k => obtain rfl := tb h' r'; cases e; exact .list_bool k p1 hu
  | int k => obtain ⟨t, rfl⟩ := ti h' r'; cases e; exact .list_int k t p1 hu
  | str k => obtain ⟨t, rfl⟩ := ts h' r'; cases e; exact .list_str k t p1 hu
  | lst k => exact absurd rfl (n2 j rfl k)
  | tup k => obtain ⟨l, it, rfl, p⟩ := tt h' r'; cases e; exact .list_tuple p1 p hu
  | exc k => cases e
  | dic k => cases e
  | dw _ _ _ _ => cases e
  | fn _ _ _ => cases e
 | exc j => cases w' <;> cases e
 | dic j => cases w' <;> cases e
 | dw _ _ _ _ => cases w' <;> cases e
 | fn _ _ _ => cases w' <;> cases e
theorem rcne_flat (I : Inv X pins σ H s) (sg : Same G H) {w w' : W} {v v' : V} {u u' : Value} {b : Bool} {A : Around} (hd : depW w <= 0) (hu : A.units < cLine) (h : Rep X.K G w v) (h' : Rep X.K G w' v') (r : RelV v u) (r' : RelV v' u') (e : eqW w w' = some b) : SeqAt.RcNeAt A s u u' (!b) :=
 rcne_mix I sg hu (fun ws z => by subst z; simp [depW] at hd) (fun ws z => by subst z; simp [depW] at hd) h h' r r' e
theorem items_of (I : Inv X pins σ H s) (sg : Same G H) {A : Around} {n : Nat} (hu : A.units + (n + 1) < cLine) {ws ws' : List W} {xs xs' : List V} {its its' : List Value} {k : Bool} (hd : depWs ws <= n) (r1 : Reps X.K G ws xs) (r2 : Reps X.K G ws' xs') (v1 : Vals xs its) (v2 : Vals xs' its') (he : eqWs ws ws' = some k) :
  ∀ j (h1 : j < its.toArray.size) (h2 : j < its'.toArray.size), SeqAt.EqAt A.in1 s its.toArray[j] its'.toArray[j] ((eqW (ws.getD j .non) (ws'.getD j .non)).getD false) := by
 intro j h1 h2
 have l1 := r1.length
 have l2 := r2.length
 have m1 := v1.length
 have m2 := v2.length
 have i1 : j < xs.length := by rw [m1]; simpa using h1
 have i2 : j < xs'.length := by rw [m2]; simpa using h2
 obtain ⟨u1, e1, ru1⟩ := v1.get (List.getElem?_eq_getElem i1)
 obtain ⟨u2, e2, ru2⟩ := v2.get (List.getElem?_eq_getElem i2)
 obtain ⟨w1, f1, p1⟩ := r1.getV (List.getElem?_eq_getElem i1)
 obtain ⟨w2, f2, p2⟩ := r2.getV (List.getElem?_eq_getElem i2)
 obtain ⟨b', hb'⟩ := (eqWs_get he).1 j w1 w2 f1 f2
 rw [getD_of f1, getD_of f2, hb']
 have g1 : its.toArray[j] = u1 := by
  obtain ⟨_, z⟩ := List.getElem?_eq_some_iff.mp e1
  simpa using z
 have g2 : its'.toArray[j] = u2 := by
  obtain ⟨_, z⟩ := List.getElem?_eq_some_iff.mp e2
  simpa using z
 rw [g1, g2]
 have hdw : depW w1 <= n := Nat.le_trans (depWs_get f1) hd
 have hun : A.in1.units + n < cLine := by
  have : A.in1.units = A.units + 1 := rfl
  omega
 refine eq_of_rc ru1 (rep_nofl p1) (rc_of I sg n hdw hun p1 p2 ru1 ru2 hb') fun z => ?_
 subst z
 have := ru1.inj ru2
 rw [this] at p1
 exact rep_inj I sg w1 p1 p2 hb'
theorem rcne_of (I : Inv X pins σ H s) (sg : Same G H) (n : Nat) {w w' : W} {v v' : V} {u u' : Value} {b : Bool} {A : Around} (hd : depW w <= n + 1) (hu : A.units + (n + 1) < cLine) (h : Rep X.K G w v) (h' : Rep X.K G w' v') (r : RelV v u) (r' : RelV v' u') (e : eqW w w' = some b) : SeqAt.RcNeAt A s u u' (!b) := by
 cases w with
 | tup ws =>
  cases w' with
  | tup ws' =>
   obtain ⟨a, xs, rfl, q1, r1⟩ := h
   obtain ⟨a', xs', rfl, q2, r2⟩ := h'
   cases r
   cases r'
   obtain ⟨its, v1, p1, _⟩ := I.tuple (sg.tup q1)
   obtain ⟨its', v2, p2, _⟩ := I.tuple (sg.tup q2)
   have e : eqWs ws ws' = some b := e
   have z := SeqAt.RcNeAt.tuples (show s.heap.IsTuple a _ from p1) (show s.heap.IsTuple a' _ from p2) (show A.units < cLine by omega) (items_of I sg hu (by simp only [depW] at hd; omega) r1 r2 v1 v2 e)
   have l1 := r1.length
   have l2 := r2.length
   have m1 := v1.length
   have m2 := v2.length
   have eb := (eqWs_get e).2
   have n1 : its.length = ws.length := by omega
   have n2 : its'.length = ws'.length := by omega
   rw [eb]
   simp only [List.size_toArray, n1, n2] at z
   exact z
  | _ => exact rcne_mix I sg (by omega) (by intro ws'; simp) (by intro ws'; simp) h h' r r' e
 | lst ws =>
  cases w' with
  | lst ws' =>
   obtain ⟨a, xs, rfl, q1, r1⟩ := h
   obtain ⟨a', xs', rfl, q2, r2⟩ := h'
   cases r
   cases r'
   obtain ⟨its, v1, p1, _⟩ := I.list (sg.seq q1)
   obtain ⟨its', v2, p2, _⟩ := I.list (sg.seq q2)
   have e : eqWs ws ws' = some b := e
   have l1 := r1.length
   have l2 := r2.length
   have m1 := v1.length
   have m2 := v2.length
   have eb := (eqWs_get e).2
   have n1 : its.length = ws.length := by omega
   have n2 : its'.length = ws'.length := by omega
   by_cases hl : ws.length = ws'.length
   ·have z := SeqAt.RcNeAt.lists p1.isList p2.isList (by simp only [List.size_toArray]; omega) (show A.units < cLine by omega) (items_of I sg hu (by simp only [depW] at hd; omega) r1 r2 v1 v2 e)
    rw [eb, hl]
    simp only [List.size_toArray, n1, hl, Nat.min_self, beq_self_eq_true, Bool.and_true] at z |-
    exact z
   ·have z := SeqAt.RcNeAt.lists_lengths (A := A) p1.isList p2.isList (by simp only [List.size_toArray, bne_iff_ne]; omega) (show A.units < cLine by omega)
    have : b = false := by
     rw [eb]
     have : (ws.length == ws'.length) = false := by simp [hl]
     rw [this, Bool.and_false]
    rw [this]
    exact z
  | _ => exact rcne_mix I sg (by omega) (by intro ws'; simp) (by intro ws'; simp) h h' r r' e
 | _ => exact rcne_flat I sg (by simp [depW]) (by omega) h h' r r' e
noncomputable def eq2 (x y : W) : Option W := if depW x <= 150 then (eqW x y).map .bl else none
def rEqD (K : PySem.W.Frag) : R2 := fun x y H Q => ∃ G wx wy b, Same G H /\ depW wx <= 150 /\ Rep K G wx x /\ Rep K G wy y /\ eqW wx wy = some b /\ Q (.bl b) H
theorem op_eqD {X : Cx} (hu : X.A.units + 150 < cLine) : OpR X (compareOp .Eq) (rEqD X.K) := by
 intro pins s σ H x y v u Q I rx ry h
 obtain ⟨G, wx, wy, b, sg, hd, hx, hy, e, q⟩ := h
 exact rc_of I sg 150 hd hu hx hy rx ry e _ _ _ _ ⟨.bl b, H, I, rfl, q⟩
theorem o2_eq {K : PySem.W.Frag} : Op2 K (rEqD K) eq2 := by
 intro G H x y wx wy w Q s px py hf h
 unfold eq2 at hf
 split at hf
 ·rename_i hd
  obtain ⟨b, hb, rfl⟩ := Option.map_eq_some_iff.mp hf
  exact ⟨G, wx, wy, b, s, hd, px, py, hb, h G _ H (.refl s) rfl⟩
 ·cases hf
noncomputable def ne2 (x y : W) : Option W := if depW x <= 150 then (eqW x y).map fun b => .bl (!b) else none
def rNeD (K : PySem.W.Frag) : R2 := fun x y H Q => ∃ G wx wy b, Same G H /\ depW wx <= 150 /\ Rep K G wx x /\ Rep K G wy y /\ eqW wx wy = some b /\ Q (.bl (!b)) H
theorem op_neD {X : Cx} (hu : X.A.units + 150 < cLine) : OpR X (compareOp .NotEq) (rNeD X.K) := by
 intro pins s σ H x y v u Q I rx ry h
 obtain ⟨G, wx, wy, b, sg, hd, hx, hy, e, q⟩ := h
 exact rcne_of I sg 149 hd hu hx hy rx ry e _ _ _ _ ⟨.bl (!b), H, I, rfl, q⟩
theorem o2_ne {K : PySem.W.Frag} : Op2 K (rNeD K) ne2 := by
 intro G H x y wx wy w Q s px py hf h
 unfold ne2 at hf
 split at hf
 ·rename_i hd
  obtain ⟨b, hb, rfl⟩ := Option.map_eq_some_iff.mp hf
  exact ⟨G, wx, wy, b, s, hd, px, py, hb, h G _ H (.refl s) rfl⟩
 ·cases hf
end
end D
set_option Elab.async false
set_option linter.all false
set_option maxRecDepth 100000
set_option maxHeartbeats 1000000
namespace D
open PySem L2
section
variable {K : PySem.W.Frag}
end
section
variable {X : Cx} {Z : Zt} {EE : St -> XK} {a b c e : Expr} {es : List Expr} {da db : Den W} {dA : Den (List W)} {pos p : Pos} {x : Str}
theorem de_add (ha : DE Z X EE a da) (hb : DE Z X EE b db) : DE Z X EE (.BinOp a .Add b pos) (dOp addW da db) := de_op (op_add.or (op_add_str.or (op_catT.or op_catS))) o2_add ha hb
theorem de_sub (ha : DE Z X EE a da) (hb : DE Z X EE b db) : DE Z X EE (.BinOp a .Sub b pos) (dOp subW da db) := de_op op_sub o2_sub ha hb
theorem de_mul (ha : DE Z X EE a da) (hb : DE Z X EE b db) : DE Z X EE (.BinOp a .Mult b pos) (dOp mulW da db) := de_op op_mul o2_mul ha hb
theorem de_fdiv (ha : DE Z X EE a da) (hb : DE Z X EE b db) : DE Z X EE (.BinOp a .FloorDiv b pos) (dOp fdivW da db) := de_op op_fdiv o2_fdiv ha hb
theorem de_mod (ha : DE Z X EE a da) (hb : DE Z X EE b db) : DE Z X EE (.BinOp a .Mod b pos) (dOp modW da db) := de_op op_mod o2_mod ha hb
theorem de_neg (ha : DE Z X EE a da) : DE Z X EE (.UnaryOp .USub a pos) (dUn negW da) := de_un un_neg o1_neg ha
theorem de_lt (ha : DE Z X EE a da) (hb : DE Z X EE b db) : DE Z X EE (.Compare a [.Lt] [b] pos) (dOp ltW da db) := de_cmp op_lt o2_lt ha hb (nomark _)
theorem de_le (ha : DE Z X EE a da) (hb : DE Z X EE b db) : DE Z X EE (.Compare a [.LtE] [b] pos) (dOp leW da db) := de_cmp op_le o2_le ha hb (nomark _)
theorem de_gt (ha : DE Z X EE a da) (hb : DE Z X EE b db) : DE Z X EE (.Compare a [.Gt] [b] pos) (dOp gtW da db) := de_cmp op_gt o2_gt ha hb (nomark _)
theorem de_eq (hu : X.A.units + 150 < cLine) (ha : DE Z X EE a da) (hb : DE Z X EE b db) : DE Z X EE (.Compare a [.Eq] [b] pos) (dOp eq2 da db) := de_cmp (op_eqD hu) o2_eq ha hb (nomark _)
theorem de_ne (hu : X.A.units + 150 < cLine) (ha : DE Z X EE a da) (hb : DE Z X EE b db) : DE Z X EE (.Compare a [.NotEq] [b] pos) (dOp ne2 da db) := de_cmp (op_neD hu) o2_ne ha hb (nomark _)
theorem dt_lt (ha : DE Z X EE a da) (hb : DE Z X EE b db) : DT Z X EE (.Compare a [.Lt] [b] pos) (dTest (dOp ltW da db)) := dt_cmp op_lt o2_lt ha hb (nomark _)
theorem dt_gt (ha : DE Z X EE a da) (hb : DE Z X EE b db) : DT Z X EE (.Compare a [.Gt] [b] pos) (dTest (dOp gtW da db)) := dt_cmp op_gt o2_gt ha hb (nomark _)
theorem dt_eq (hu : X.A.units + 150 < cLine) (ha : DE Z X EE a da) (hb : DE Z X EE b db) : DT Z X EE (.Compare a [.Eq] [b] pos) (dTest (dOp eq2 da db)) := dt_cmp (op_eqD hu) o2_eq ha hb (nomark _)
theorem dt_ne (hu : X.A.units + 150 < cLine) (ha : DE Z X EE a da) (hb : DE Z X EE b db) : DT Z X EE (.Compare a [.NotEq] [b] pos) (dTest (dOp ne2 da db)) := dt_cmp (op_neD hu) o2_ne ha hb (nomark _)
theorem room_eq {k : Nat} {A : Around} (h : Room k A) : A.units + 150 < cLine := by have := h.un; omega
noncomputable def cutW (xs : List W) (lo hi : Option Int) : List W := (xs.drop (HT.sIx xs.length 0 lo)).take (HT.sIx xs.length xs.length hi - HT.sIx xs.length 0 lo)
def DO (Z : Zt) (X : Cx) (EE : St -> XK) (e : Option Expr) (d : Den (Option Int)) : Prop := PO X e (fun σ H Q => ∃ G e, Rel X.K Z G σ H e /\ (d e).holds (fun o e' => ∀ G' H', Rel X.K Z G' σ H' e' -> Same G G' -> Q o H') (XH X.K Z EE σ G))
noncomputable def slW : W -> Option Int -> Option Int -> Option W
 | .lst ws, lo, hi => some (.lst (cutW ws lo hi))
 | .tup ws, lo, hi => if ¬ (HT.sIx ws.length 0 lo = 0 /\ HT.sIx ws.length ws.length hi = ws.length) then some (.tup (cutW ws lo hi)) else none
 | _, _, _ => none
noncomputable def tyW : W -> Value
 | .non => .type "NoneType"
 | .bl _ => .type "bool"
 | .int _ => .type "int"
 | .str _ => .type "str"
 | .tup _ => .type "tuple"
 | .lst _ => .type "list"
 | .exc c => c
 | .dic _ => .type "dict"
 | .dw _ _ _ _ => .type "dict"
 | .fn _ _ _ => .type "dict"
noncomputable def isiW (K : PySem.W.Frag) (cv : Value) : W -> Option W
 | .exc (.ref D) => if excClsIn K D = true then (PySem.W.kitOne K (.ref D) cv).map .bl else none
 | .exc _ => none
 | .dic _ => none
 | .dw _ _ _ _ => none
 | .fn _ _ _ => none
 | w => (PySem.W.kitOne K (tyW w) cv).map .bl
noncomputable def tup1 : List W -> Option W
 | [.lst ws] => some (.tup ws)
 | [.tup ws] => some (.tup ws)
 | _ => none
theorem oN_tup {K : PySem.W.Frag} : OpN K (fun xs H Q => ∃ p ys, xs = [.ref p] /\ ((SqL K H p ys /\ ∀ l, H l = none -> Q (.ref l) (upd H l (.tup ys))) \/ (SqT K H p ys /\ Q (.ref p) H))) tup1 := by
 intro G H xs ws w Q s pr hf h
 unfold tup1 at hf
 split at hf
 ·cases hf
  obtain ⟨x, r, rfl, px, pr⟩ := pr
  cases (show r = [] from pr)
  obtain ⟨a, ys, rfl, ha, ra⟩ := px
  refine ⟨a, ys, rfl, .inl ⟨s.seq ha, fun l hl => ?_⟩⟩
  have g := Grow.laid s hl (.tup ys)
  exact h _ _ _ g ⟨l, ys, rfl, SqT.of upd_same, Reps.mono g.gg _ ra⟩
 ·cases hf
  obtain ⟨x, r, rfl, px, pr⟩ := pr
  cases (show r = [] from pr)
  obtain ⟨a, ys, rfl, ha, ra⟩ := px
  exact ⟨a, ys, rfl, .inr ⟨s.tup ha, h G _ H (.refl s) ⟨a, ys, rfl, ha, ra⟩⟩⟩
 ·cases hf
theorem de_tuple (hm : X.mg "tuple" = none) (ha : DA Z X EE [e] dA) (hg : Gl X "tuple" := by rfl) (he : starEach [e] X.env = (false, eval e X.env) :: starEach [] X.env := by rfl) (hpl : (backTo pos (starEach [] X.env)).any (·.1) = false := by rfl) : DE Z X EE (.Call (.Name "tuple" p) [e] [] pos) (dFn tup1 dA) :=
 de_bty call_tuple_of oN_tup PyProof.Rows.Boot.«tuple» hm ha hg (by decide) (by decide) he hpl
theorem de_len (hm : X.mg "len" = none) (ha : DA Z X EE [e] dA) (hg : Gl X "len" := by rfl) (he : starEach [e] X.env = (false, eval e X.env) :: starEach [] X.env := by rfl) (hpl : (backTo pos (starEach [] X.env)).any (·.1) = false := by rfl) : DE Z X EE (.Call (.Name "len" p) [e] [] pos) (dFn len1 dA) :=
 de_blt call_len oN_len PySem.boot_len hm ha hg (by decide) (by decide) he hpl
theorem de_lenV (i : Nat) {pn : Pos} (hm : X.mg "len" = none) (hN : X.N[i]? = some x := by rfl) (hvis : Vis X.env.scope x := by walk_at "1") (hd : (x == ("__debug__" : Str)) = false := by decide) (hcd : (x == ("__classdict__" : Str)) = false := by decide)
  (hg : Gl X "len" := by rfl) (hs : starEach [.Name x p] X.env = (false, eval (.Name x p) X.env) :: starEach [] X.env := by rfl) (hpl : (backTo pos (starEach [] X.env)).any (·.1) = false := by rfl) : DE Z X EE (.Call (.Name "len" pn) [.Name x p] [] pos) (dFnV i len1) :=
 de_fnV i call_len oN_len PySem.boot_len hm hN hvis hd hcd hg (by decide) (by decide) hs hpl
noncomputable def lst1 : List W -> Option (List W)
 | [.lst ws] => some ws
 | [.tup ws] => some ws
 | _ => none
noncomputable def dList (dA : Den (List W)) : Den (List W) := fun e => (dA e).bind fun ws e1 => ofOpt (lst1 ws) e1
theorem df_list (hm : X.mg "list" = none) (ha : DA Z X EE [e] dA) (hg : Gl X "list" := by rfl) (he : starEach [e] X.env = (false, eval e X.env) :: starEach [] X.env := by rfl) (hpl : (backTo pos (starEach [] X.env)).any (·.1) = false := by rfl) : DF Z X EE (.Call (.Name "list" p) [e] [] pos) (dList dA) := by
 refine PE.mono (pe_callTy call_list_of hg hm PyProof.Rows.Boot.«list» ha (by decide) (by decide) he hpl) ?_
 rintro σ H Q ⟨G, e, rel, h⟩
 simp only [dList, R.holds_bind, ofOpt_holds] at h
 refine ⟨G, e, rel, h.imp (fun ws e1 h G1 vs H1 r1 s1 p1 => ?_) fun _ _ h => h⟩
 obtain ⟨out, hf, h⟩ := h
 unfold lst1 at hf
 split at hf
 ·cases hf
  obtain ⟨y, r, rfl, py, pr⟩ := p1
  cases (show r = [] from pr)
  obtain ⟨a, ys, rfl, hq, rq⟩ := py
  exact ⟨a, ys, rfl, .inl (r1.sub.seq hq), new_list r1 s1 rq h⟩
 ·cases hf
  obtain ⟨y, r, rfl, py, pr⟩ := p1
  cases (show r = [] from pr)
  obtain ⟨a, ys, rfl, hq, rq⟩ := py
  exact ⟨a, ys, rfl, .inr (r1.sub.tup hq), new_list r1 s1 rq h⟩
 ·cases hf
end
end D
set_option Elab.async false
set_option linter.all false
set_option maxRecDepth 100000
set_option maxHeartbeats 1000000
namespace D
open PySem L2
section
variable {P : Program} {w : World} {K : PySem.W.Frag} {mg : Str -> Option Value} {base : Heap}
theorem spF_no {F : List W -> FR} (hF : ∀ ws, F ws = .no) {vs : List V} {H : Hp} {Q : VK} {E : XK} (h : spF K F vs H Q E) : False := by
 obtain ⟨G, ws, hn, _⟩ := spF_ne h
 exact hn (hF ws)
theorem conF {x : Str} {st : Stmt} {N ps : List Str} {k : Nat} {F : List W -> FR} {f : Addr} {fd : FuncData} (A : Fun K x x st f fd) (sc : FnScope N ps (defScope st)) (len : ∀ ws, F ws ≠ .no -> ws.length = ps.length)
  (hb : ∀ ws, F ws ≠ .no -> ∀ (cdv : Value) (A : Around) (outer : List Env) (s : Shared) (H : Hp) (E : XK) (Z : Zt), Room k (A.deeper (PyProof.Rows.envOfC x (defScope st) s.heap.objs.size f cdv)) ->
   ∃ d, DSs Z (cxOf (CX1 P w) P w K mg base N x (defScope st) f cdv A outer s H E) (fun _ => E) (defBody st) d /\ (d (init N.length ws)).fn = F ws) : FnOk P w K mg base (CX1 P w) (k + 1) f fd ps (spF K F) := by
 refine A.okX sc (fun vs H Q E h => ?_) (fun cdv A outer s H vs Q E hr h => ?_)
 ·obtain ⟨G, ws, hn, r⟩ := spF_ne h
  rw [r.length]; exact len ws hn
 ·obtain ⟨G, ws, sg, rp, h⟩ := h
  have hn : F ws ≠ .no := fun z => by rw [z] at h; exact h
  obtain ⟨d, hd, he⟩ := hb ws hn cdv A outer s H E ⟨H, G, []⟩ hr
  exact ⟨_, hd, G, init N.length ws, rel_init sg rp, post_fn he h⟩
noncomputable def spLaw (K : PySem.W.Frag) : Sp := fun vs H Q _ => ∃ (a : Addr) (ns : List Int), vs = [.ref a] /\ SqL K H a (ns.map V.int) /\ ns.length <= 63 /\ ∀ H', Q (.bl true) H'
theorem reps_ints {G : Hp} : ∀ (ns : List Int), Reps K G (ns.map W.int) (ns.map V.int)
 | [] => rfl
 | n :: ns => ⟨_, _, rfl, rfl, reps_ints ns⟩
theorem spLaw_of {F : List W -> FR} (hF : ∀ ns : List Int, ns.length <= 63 -> F [.lst (ns.map .int)] = .ok (.fr (.bl true))) {vs : List V} {H : Hp} {Q : VK} {E : XK} (h : spLaw K vs H Q E) : spF K F vs H Q E := by
 obtain ⟨a, ns, rfl, hS, hl, q⟩ := h
 refine ⟨fun b => if b = a then H a else none, [.lst (ns.map .int)], fun b o z => ?_, ⟨.ref a, [], rfl, ⟨a, ns.map V.int, rfl, ?_, reps_ints ns⟩, rfl⟩, ?_⟩
 ·by_cases hb : b = a
  ·subst hb; simpa using z
  ·simp [hb] at z
 ·rcases hS with (h | ⟨o, h⟩) | h
  ·exact .inl (.inl (by simpa using h))
  ·exact .inl (.inr ⟨o, by simpa using h⟩)
  ·exact .inr h
 ·rw [hF ns hl]
  intro G' H' v g sl
  obtain ⟨u, h1, h2⟩ := sl
  cases h1
  cases (show v = V.bl true from h2)
  exact q H'
theorem cx1_no {P : Program} {w : World} {H : Hp} {s : Shared} {e : Value} {s' : Shared} (z : CX1 P w [] H s (fun _ _ _ => False) e s') : False := by
 obtain ⟨_, _, _, _, _, _, _, _, _, _, h⟩ := z
 exact h
theorem con0 {x : Str} {st : Stmt} {ps : List Str} {F : List W -> FR} (A : At K mg x st ps) (hF : ∀ ws, F ws = .no := by intro _; rfl) : Cal P w K mg base 0 x ps (spF K F) := by
 obtain ⟨f, fd, F0, m, b⟩ := A.ex
 exact ⟨f, fd, ⟨fun vs H Q E h => (spF_no hF h).elim, fun A outer s H args us vs Q E _ _ _ _ h => (spF_no hF h).elim⟩, m, F0.kp, b⟩
end
noncomputable def fmtW : W -> Option Str
 | .int i => if i.natAbs.log2 < 1000 then some (Str.ofString (toString i)) else none
 | .str z => if z.length <= 1000000 then some z else none
 | _ => none
noncomputable def fVal (d : Den W) (r : Den Str) : Den Str := fun e => (d e).bind fun w e1 => match fmtW w with
 | some x => (r e1).bind fun y e2 => .ok (x ++ y) e2
 | none => .no
section
variable {X : Cx} {Z : Zt} {EE : St -> XK} {e : Expr} {es : List Expr} {d : Den Str} {da : Den W} {pos : Pos} {n : Nat}
def DFm (Z : Zt) (X : Cx) (EE : St -> XK) (n : Nat) (es : List Expr) (d : Den Str) : Prop := PF X es (fun acc σ H Q => acc.length + n * 1000001 <= 16777216 /\ ∃ G e, Rel X.K Z G σ H e /\ (d e).holds (fun y e' => ∀ G' H', Rel X.K Z G' σ H' e' -> Same G G' -> Q (acc ++ y) H') (XH X.K Z EE σ G))
end
end D
set_option Elab.async false
set_option linter.all false
set_option maxRecDepth 100000
set_option maxHeartbeats 1000000
namespace D
open PySem L2
section
variable {α β : Type} {c : Prop} [Decidable c] {a : α} {e e' : List S} {k : α -> List S -> R β} {ks : α -> List S -> SR} {x y : R α} {s t : SR} {w : W} {ws : List W} {v : Value} {st : S}
theorem bind_ok : (R.ok a e).bind k = k a e := rfl
theorem bind_ex : (R.ex v e : R α).bind k = .ex v e := rfl
theorem bind_no : (R.no : R α).bind k = .no := rfl
theorem bind_ite : (if c then x else y).bind k = if c then x.bind k else y.bind k := by split <;> rfl
theorem stm_ok : (R.ok a e).stm ks = ks a e := rfl
theorem stm_ex : (R.ex v e : R α).stm ks = .ex v e := rfl
theorem stm_no : (R.no : R α).stm ks = .no := rfl
theorem stm_ite : (if c then x else y).stm ks = if c then x.stm ks else y.stm ks := by split <;> rfl
noncomputable def SR.seq : SR -> (List S -> SR) -> SR
 | .nx e, b => b e
 | r, _ => r
theorem dSeq_s {p q : List S -> SR} : dSeq p q e = (p e).seq q := by
 unfold dSeq SR.seq
 cases p e <;> rfl
theorem seq_nx {q : List S -> SR} : (SR.nx e).seq q = q e := rfl
theorem seq_rt {q : List S -> SR} : (SR.rt st e).seq q = .rt st e := rfl
theorem seq_ex {q : List S -> SR} : (SR.ex v e).seq q = .ex v e := rfl
theorem seq_bk {q : List S -> SR} : (SR.bk e).seq q = .bk e := rfl
theorem seq_ct {q : List S -> SR} : (SR.ct e).seq q = .ct e := rfl
theorem seq_no {q : List S -> SR} : (SR.no).seq q = .no := rfl
theorem seq_ite {q : List S -> SR} : (if c then s else t).seq q = if c then s.seq q else t.seq q := by split <;> rfl
theorem fn_nx : (SR.nx e).fn = .ok (.fr .non) := rfl
theorem fn_rt : (SR.rt st e).fn = .ok st := rfl
theorem fn_ex : (SR.ex v e).fn = .ex v := rfl
theorem fn_no : (SR.no).fn = .no := rfl
theorem fn_ite : (if c then s else t).fn = if c then s.fn else t.fn := by split <;> rfl
theorem ofOpt_some : ofOpt (some a) e = .ok a e := rfl
theorem ofOpt_none : ofOpt (none : Option α) e = .no := rfl
theorem ofOpt_ite {o p : Option α} : ofOpt (if c then o else p) e = if c then ofOpt o e else ofOpt p e := by split <;> rfl
noncomputable def varS (i : Nat) (e : List S) : Option S -> R W
 | some (.fr w) => .ok w e
 | some (.own false ws) => .ok (.lst ws) (e.set i (.fr (.lst ws)))
 | _ => .no
theorem dVar_s {i : Nat} : dVar i e = varS i e e[i]? := by
 unfold dVar varS
 cases e[i]? with
 | none => rfl
 | some s => cases s with
  | own b ws => cases b <;> rfl
  | _ => rfl
theorem var_fr {i : Nat} : varS i e (some (.fr w)) = .ok w e := rfl
theorem var_own {i : Nat} : varS i e (some (.own false ws)) = .ok (.lst ws) (e.set i (.fr (.lst ws))) := rfl
theorem dC_s : dC w e = .ok w e := rfl
theorem dOp_s {f : W -> W -> Option W} {da db : Den W} : dOp f da db e = (da e).bind fun x e1 => (db e1).bind fun y e2 => ofOpt (f x y) e2 := rfl
theorem dUn_s {f : W -> Option W} {da : Den W} : dUn f da e = (da e).bind fun x e1 => ofOpt (f x) e1 := rfl
noncomputable def testW (e : List S) : W -> R Bool
 | .bl k => .ok k e
 | _ => .no
theorem dTest_s {da : Den W} : dTest da e = (da e).bind fun x e1 => testW e1 x := rfl
theorem test_bl {b : Bool} : testW e (.bl b) = .ok b e := rfl
theorem dTru_s {da : Den W} : dTru da e = (da e).bind fun x e1 => ofOpt (truW x) e1 := rfl
theorem dOr_s {p q : Den Bool} : dOr p q e = (p e).bind fun x e1 => if x = true then .ok true e1 else q e1 := rfl
theorem dNot_s {p : Den Bool} : dNot p e = (p e).bind fun x e1 => .ok (!x) e1 := rfl
noncomputable def andK (q : Den W) (e : List S) : W -> R W
 | .bl true => q e
 | .bl false => .ok (.bl false) e
 | _ => .no
theorem dAndV_s {p q : Den W} : dAndV p q e = (p e).bind fun x e1 => andK q e1 x := rfl
theorem and_bl {q : Den W} {b : Bool} : andK q e (.bl b) = if b = true then q e else .ok (.bl false) e := by cases b <;> rfl
theorem dNil_s : dNil e = .ok [] e := rfl
theorem dCons_s {p : Den W} {q : Den (List W)} : dCons p q e = (p e).bind fun x e1 => (q e1).bind fun xs e2 => .ok (x :: xs) e2 := rfl
theorem dTup_s {p : Den (List W)} : dTup p e = (p e).bind fun xs e1 => if xs.length <= 16777216 then .ok (.tup xs) e1 else .no := rfl
theorem dLst_s {p : Den (List W)} : dLst p e = (p e).bind fun xs e1 => if xs.length <= 16777216 then .ok xs e1 else .no := rfl
theorem dFz_s {p : Den (List W)} : dFz p e = (p e).bind fun xs e1 => .ok (.lst xs) e1 := rfl
theorem dFn_s {f : List W -> Option W} {p : Den (List W)} : dFn f p e = (p e).bind fun xs e1 => ofOpt (f xs) e1 := rfl
theorem dList_s {p : Den (List W)} : dList p e = (p e).bind fun xs e1 => ofOpt (lst1 xs) e1 := rfl
theorem dNx_s : dNx e = .nx e := rfl
theorem dDrop_s {d : Den W} : dDrop d e = (d e).stm fun _ e' => .nx e' := rfl
theorem dRet_s {d : Den W} : dRet d e = (d e).stm fun w e' => .rt (.fr w) e' := rfl
theorem dRetF_s {d : Den (List W)} : dRetF d e = (d e).stm fun w e' => .rt (.own false w) e' := rfl
noncomputable def retS (e : List S) : Option S -> SR
 | some (.own false ws) => .rt (.own false ws) e
 | some (.fr w) => .rt (.fr w) e
 | _ => .no
theorem dRetO_s {i : Nat} : dRetO i e = retS e e[i]? := by
 unfold dRetO retS
 cases e[i]? with
 | none => rfl
 | some s => cases s with
  | own b ws => cases b <;> rfl
  | _ => rfl
theorem ret_own : retS e (some (.own false ws)) = .rt (.own false ws) e := rfl
theorem ret_fr : retS e (some (.fr w)) = .rt (.fr w) e := rfl
theorem dIfS_s {p : Den Bool} {q q' : List S -> SR} : dIfS p q q' e = (p e).stm fun x e1 => if x = true then q e1 else q' e1 := rfl
theorem dSet_s {i : Nat} {d : Den W} : dSet i d e = (d e).stm fun w e' => .nx (e'.set i (.fr w)) := rfl
theorem dSetO_s {i : Nat} {d : Den (List W)} : dSetO i d e = (d e).stm fun w e' => .nx (e'.set i (.own false w)) := rfl
noncomputable def callR (e : List S) : FR -> R W
 | .ok (.fr w) => .ok w e
 | .ok (.own false ws) => .ok (.lst ws) e
 | .ok (.dic kvs) => .ok (.dic kvs) e
 | .ok (.thr us ws vs) => .ok (.tup (us ++ .lst ws :: vs)) e
 | .ex c => .ex c e
 | _ => .no
theorem call_thr {us ws vs : List W} : callR e (.ok (.thr us ws vs)) = .ok (.tup (us ++ .lst ws :: vs)) e := rfl
theorem dCall_s {F : List W -> FR} {d : Den (List W)} : dCall F d e = (d e).bind fun ws e1 => callR e1 (F ws) := by
 unfold dCall
 congr 1
theorem call_fr : callR e (.ok (.fr w)) = .ok w e := rfl
theorem call_own : callR e (.ok (.own false ws)) = .ok (.lst ws) e := rfl
theorem call_ex : callR e (.ex v) = .ex v e := rfl
theorem call_no : callR e .no = .no := rfl
theorem call_ite {f g : FR} : callR e (if c then f else g) = if c then callR e f else callR e g := by split <;> rfl
noncomputable def callF (e : List S) : FR -> R (List W)
 | .ok (.own false ws) => .ok ws e
 | .ex c => .ex c e
 | _ => .no
theorem dCallF_s {F : List W -> FR} {d : Den (List W)} : dCallF F d e = (d e).bind fun ws e1 => callF e1 (F ws) := by
 unfold dCallF
 congr 1
theorem callF_own : callF e (.ok (.own false ws)) = .ok ws e := rfl
theorem callF_ex : callF e (.ex v) = .ex v e := rfl
theorem callF_ite {f g : FR} : callF e (if c then f else g) = if c then callF e f else callF e g := by split <;> rfl
noncomputable def callH (e : List S) : FR -> R W
 | .ok (.fr w) => .ok w e
 | .ok (.own false ws) => .ok (.lst ws) e
 | _ => .no
theorem dCallH_s {F : List W -> FR} {d : Den (List W)} : dCallH F d e = (d e).bind fun ws e1 => callH e1 (F ws) := by
 unfold dCallH
 congr 1
theorem callH_fr : callH e (.ok (.fr w)) = .ok w e := rfl
theorem callH_own : callH e (.ok (.own false ws)) = .ok (.lst ws) e := rfl
noncomputable def forW (i : Nat) (b : List S -> SR) (e : List S) : Option (List W) -> SR
 | some ws => forD i b ws e
 | none => .no
theorem dFor_s {i : Nat} {d : Den W} {b : List S -> SR} : dFor i d b e = (d e).stm fun w e1 => forW i b e1 (seqW w) := by
 unfold dFor
 congr 1
theorem dForR_s {i : Nat} {g : List W -> Option (List W)} {d : Den (List W)} {b : List S -> SR} : dForR i g d b e = (d e).stm fun w e1 => forW i b e1 (g w) := by
 unfold dForR
 congr 1
theorem forW_some {i : Nat} {b : List S -> SR} : forW i b e (some ws) = forD i b ws e := rfl
noncomputable def SR.turn : SR -> (List S -> SR) -> SR
 | .nx e, k => k e
 | .ct e, k => k e
 | .bk e, _ => .nx e
 | .rt s e, _ => .rt s e
 | .ex c e, _ => .ex c e
 | .no, _ => .no
theorem for_cons {i : Nat} {b : List S -> SR} : forD i b (w :: ws) e = (b (e.set i (.fr w))).turn (forD i b ws) := by
 show (match b (e.set i (.fr w)) with | .nx e' => forD i b ws e' | .ct e' => forD i b ws e' | .bk e' => .nx e' | .rt s e' => .rt s e' | .ex c e' => .ex c e' | .no => .no) = _
 cases b (e.set i (.fr w)) <;> rfl
theorem turn_nx {q : List S -> SR} : (SR.nx e).turn q = q e := rfl
theorem turn_ct {q : List S -> SR} : (SR.ct e).turn q = q e := rfl
theorem turn_bk {q : List S -> SR} : (SR.bk e).turn q = .nx e := rfl
theorem turn_rt {q : List S -> SR} : (SR.rt st e).turn q = .rt st e := rfl
theorem turn_ex {q : List S -> SR} : (SR.ex v e).turn q = .ex v e := rfl
theorem turn_no {q : List S -> SR} : (SR.no).turn q = .no := rfl
theorem turn_ite {q : List S -> SR} : (if c then s else t).turn q = if c then s.turn q else t.turn q := by split <;> rfl
theorem while_s {p : Den Bool} {b : List S -> SR} {n : Nat} : whileD p b (n + 1) e = (p e).stm fun x e1 => if x = true then (b e1).turn (whileD p b n) else .nx e1 := by
 show (p e).stm _ = _
 congr 1
 funext x e1
 split
 ·cases b e1 <;> rfl
 ·rfl
noncomputable def look1 (k : W -> R W) : Option W -> R W
 | none => .no
 | some w => k w
theorem dIxV_s {i : Nat} {d : Den W} : dIxV i d e = look1 (fun _ => (d e).bind fun k e1 => look1 (fun w => ofOpt (ixW w k) e1) (e1[i]?.bind S.look)) (e[i]?.bind S.look) := by
 unfold dIxV look1
 cases e[i]?.bind S.look with
 | none => rfl
 | some w =>
  dsimp only
  try congr 1
theorem look_some {k : W -> R W} : look1 k (some w) = k w := rfl
theorem lk_fr : S.look (.fr w) = some w := rfl
theorem lk_own {b : Bool} : S.look (.own b ws) = some (.lst ws) := rfl
noncomputable def fnV2 (e : List S) (y : Option W) : Option S -> R W
 | some (.fr _) => ofOpt y e
 | _ => match y with
  | none => .no
  | some v => if scalW v = true then .ok v e else .no
theorem dFnV_s {i : Nat} {f : List W -> Option W} : dFnV i f e = look1 (fun w => fnV2 e (f [w]) e[i]?) (e[i]?.bind S.look) := by
 unfold dFnV look1
 cases q : e[i]? with
 | none => rfl
 | some s =>
  cases s with
  | no => rfl
  | dic _ => rfl
  | thr _ _ _ => rfl
  | nest _ => rfl
  | dw _ _ _ => rfl
  | fr w =>
   show (match f [w] with | none => R.no | some v => R.ok v e) = fnV2 e (f [w]) (some (.fr w))
   generalize f [w] = y
   cases y <;> rfl
  | own b ws =>
   show (match f [W.lst ws] with | none => R.no | some v => if scalW v = true then R.ok v e else R.no) = fnV2 e (f [W.lst ws]) (some (.own b ws))
   generalize f [W.lst ws] = y
   cases y <;> rfl
theorem fnV_fr {y : Option W} : fnV2 e y (some (.fr w)) = ofOpt y e := rfl
theorem fnV_own {b : Bool} {v : W} : fnV2 e (some v) (some (.own b ws)) = if scalW v = true then .ok v e else .no := rfl
noncomputable def appK (i : Nat) (e : List S) : List W -> Option S -> SR
 | [w], some (.own b xs) => if xs.length < 16777216 then .nx (e.set i (.own b (xs ++ [w]))) else .no
 | _, _ => .no
noncomputable def ownQ (k : SR) : Option S -> SR
 | some (.own _ _) => k
 | _ => .no
theorem dApp_s {i : Nat} {d : Den (List W)} : dApp i d e = ownQ ((d e).stm fun ws e1 => appK i e1 ws e1[i]?) e[i]? := by
 unfold dApp ownQ
 cases e[i]? with
 | none => rfl
 | some s => cases s with
  | own b xs =>
   dsimp only
   try congr 1
  | _ => rfl
theorem own_q {k : SR} {b : Bool} : ownQ k (some (.own b ws)) = k := rfl
theorem app_k {i : Nat} {b : Bool} {xs : List W} : appK i e [w] (some (.own b xs)) = if xs.length < 16777216 then .nx (e.set i (.own b (xs ++ [w]))) else .no := rfl
theorem dRaise_s {C : Addr} {d : Den (List W)} : dRaise C d e = (d e).stm fun ws e1 => if ws.length <= 16777216 then .ex (.ref C) e1 else .no := rfl
noncomputable def compR (e : List S) : Option (List W) -> R (List W)
 | some out => .ok out e
 | none => .no
theorem compK_s {js : List Nat} {cc : Den Bool} {d : Den W} : compK js cc d ws e = if ws.length <= 16777216 then compR (frzs js e) (compD cc d (pjS js (frzs js e)) ws) else .no := by
 unfold compK compR
 split
 ·cases compD cc d (pjS js (frzs js e)) ws <;> rfl
 ·rfl
noncomputable def compW (js : List Nat) (cc : Den Bool) (d : Den W) (e : List S) : Option (List W) -> R (List W)
 | some ws => compK js cc d ws e
 | none => .no
theorem dCompR_s {g : List W -> Option (List W)} {js : List Nat} {di : Den (List W)} {cc : Den Bool} {d : Den W} : dCompR g js di cc d e = (di e).bind fun w e1 => compW js cc d e1 (g w) := by
 unfold dCompR
 congr 1
theorem compW_some {js : List Nat} {cc : Den Bool} {d : Den W} : compW js cc d e (some ws) = compK js cc d ws e := rfl
theorem compR_some {out : List W} : compR e (some out) = .ok out e := rfl
theorem dYes_s : dYes e = .ok true e := rfl
theorem frzs_nil : frzs [] e = e := rfl
theorem frzs_cons {j : Nat} {js : List Nat} : frzs (j :: js) e = frzs js (frz1 e j) := rfl
theorem pjS_nil : pjS [] e = [] := rfl
theorem pjS_cons {j : Nat} {js : List Nat} : pjS (j :: js) e = pj1 e j :: pjS js e := rfl
theorem comp_map {d : Den W} {pe : List S} {g : W -> W} : ∀ (ws : List W), (∀ w ∈ ws, ∃ e', d (.fr w :: pe) = .ok (g w) e') -> compD dYes d pe ws = some (ws.map g)
 | [], _ => rfl
 | w :: ws, h => by
  obtain ⟨e', he⟩ := h w (by simp)
  show (match d (.fr w :: pe) with | .ok y _ => (compD dYes d pe ws).map (y :: ·) | _ => none) = _
  rw [he, comp_map ws fun u hu => h u (by simp [hu])]
  rfl
end
end D
set_option Elab.async false
set_option linter.all false
set_option maxRecDepth 100000
set_option maxHeartbeats 1000000
namespace D
open PySem L2
section
variable {i j : Int} {x y : Str} {b c : Bool} {ws us : List W} {w : W}
theorem add_ii : addW (.int i) (.int j) = some (.int (i + j)) := rfl
theorem add_ss : addW (.str x) (.str y) = if x.length + y.length <= 16777216 then some (.str (x ++ y)) else none := rfl
theorem add_ll : addW (.lst ws) (.lst us) = if ws.length + us.length <= 16777216 then some (.lst (ws ++ us)) else none := rfl
theorem sub_ii : subW (.int i) (.int j) = some (.int (i - j)) := rfl
theorem mul_ii : mulW (.int i) (.int j) = if (-18446744073709551616 < i /\ i < 18446744073709551616) \/ (-18446744073709551616 < j /\ j < 18446744073709551616) then some (.int (i * j)) else none := rfl
theorem fdiv_ii : fdivW (.int i) (.int j) = if 0 < j /\ j < 1073741824 then some (.int (i / j)) else none := rfl
theorem mod_ii : modW (.int i) (.int j) = if 0 < j then some (.int (i % j)) else none := rfl
theorem lt_ii : ltW (.int i) (.int j) = some (.bl (decide (i < j))) := rfl
theorem le_ii : leW (.int i) (.int j) = some (.bl (decide (i <= j))) := rfl
theorem gt_ii : gtW (.int i) (.int j) = some (.bl (decide (j < i))) := rfl
theorem neg_i : negW (.int i) = some (.int (-i)) := rfl
theorem eq_ii : eq2 (.int i) (.int j) = some (.bl (decide (i = j))) := by
 show some (W.bl (i == j)) = _
 congr 2
theorem eq_ss : eq2 (.str x) (.str y) = some (.bl (decide (x = y))) := by
 show some (W.bl (x == y)) = _
 congr 2
theorem eq_bb : eq2 (.bl b) (.bl c) = some (.bl (decide (b = c))) := by
 show some (W.bl (b == c)) = _
 congr 2
theorem ne_ii : ne2 (.int i) (.int j) = some (.bl (!decide (i = j))) := by
 show some (W.bl (!(i == j))) = _
 congr 2
theorem ne_ss : ne2 (.str x) (.str y) = some (.bl (!decide (x = y))) := by
 show some (W.bl (!(x == y))) = _
 congr 2
theorem ne_bb : ne2 (.bl b) (.bl c) = some (.bl (!decide (b = c))) := by
 show some (W.bl (!(b == c))) = _
 congr 2
theorem ix_t : ixW (.tup ws) (.int i) = atI ws i := rfl
theorem ix_l : ixW (.lst ws) (.int i) = atI ws i := rfl
theorem len_t : len1 [.tup ws] = some (.int ws.length) := rfl
theorem len_l : len1 [.lst ws] = some (.int ws.length) := rfl
theorem tup_l : tup1 [.lst ws] = some (.tup ws) := rfl
theorem tup_t : tup1 [.tup ws] = some (.tup ws) := rfl
theorem lst_l : lst1 [.lst ws] = some ws := rfl
theorem lst_t : lst1 [.tup ws] = some ws := rfl
theorem tru_b : truW (.bl b) = some b := rfl
theorem tru_i : truW (.int i) = some (i != 0) := rfl
theorem tru_n : truW .non = some false := rfl
theorem tru_t : truW (.tup ws) = some (!ws.isEmpty) := rfl
theorem tru_l : truW (.lst ws) = some (!ws.isEmpty) := rfl
theorem seq_t : seqW (.tup ws) = some ws := rfl
theorem seq_l : seqW (.lst ws) = some ws := rfl
theorem sc_i : scalW (.int i) = true := rfl
theorem sc_b : scalW (.bl b) = true := rfl
theorem sc_s : scalW (.str x) = true := rfl
theorem sc_n : scalW .non = true := rfl
theorem sl_l {lo hi : Option Int} : slW (.lst ws) lo hi = some (.lst (cutW ws lo hi)) := rfl
theorem at0 {α : Type} {xs : List α} : atI xs 0 = xs[0]? := by
 cases xs with
 | nil => rfl
 | cons a l => exact atI_nat (j := 0) rfl
theorem at1 {α : Type} {xs : List α} : atI xs 1 = xs[1]? := by
 cases xs with
 | nil => rfl
 | cons a l =>
  cases l with
  | nil => rfl
  | cons b l => exact atI_nat (j := 1) rfl
theorem at2 {α : Type} {xs : List α} : atI xs 2 = xs[2]? := by
 cases xs with
 | nil => rfl
 | cons a l =>
  cases l with
  | nil => rfl
  | cons b l =>
   cases l with
   | nil => rfl
   | cons c l => exact atI_nat (j := 2) rfl
theorem at_pos {α : Type} {xs : List α} {k : Int} (h0 : 0 <= k) : atI xs k = xs[k.toNat]? := by
 unfold atI ixN
 rw [if_pos h0]
 by_cases h : k < xs.length
 ·rw [if_pos h]; rfl
 ·rw [if_neg h]
  exact (List.getElem?_eq_none (by omega)).symm
theorem ofString_inj {a b : String} (h : Str.ofString a = Str.ofString b) : a = b := by
 rw [Str.ofString_eq_toList, Str.ofString_eq_toList] at h
 have h1 : (a.toList.map Char.toNat).toArray = (b.toList.map Char.toNat).toArray := congrArg Str.cps h
 have h2 : a.toList.map Char.toNat = b.toList.map Char.toNat := by simpa using congrArg Array.toList h1
 have h3 : a.toList = b.toList := by
  have inj : ∀ c d : Char, c.toNat = d.toNat -> c = d := fun c d e => by
   apply Char.ext
   exact UInt32.toNat_inj.mp e
  exact (List.map_inj_right inj).mp h2
 exact String.toList_inj.mp h3
theorem str_eq {a b : String} : (Str.ofString a = Str.ofString b) = (a = b) := propext ⟨ofString_inj, fun h => by rw [h]⟩
end
end D
set_option Elab.async false
set_option linter.all false
set_option maxRecDepth 100000
set_option maxHeartbeats 1000000
namespace D
open PySem L2
noncomputable def min2 : List W -> Option W
 | [.int i, .int j] => some (.int (if j < i then j else i))
 | _ => none
noncomputable def int1 : List W -> Option W
 | [.int i] => some (.int i)
 | [.bl b] => some (.int (if b then 1 else 0))
 | _ => none
noncomputable def eqS (y x : W) : Bool := (eqW y x).getD false
noncomputable def ninW : W -> W -> Option W
 | x, .tup ws => if scalW x = true /\ ws.all scalW = true then some (.bl (!ws.any fun y => eqS y x)) else none
 | x, .lst ws => if scalW x = true /\ ws.all scalW = true then some (.bl (!ws.any fun y => eqS y x)) else none
 | _, _ => none
section
variable {K : PySem.W.Frag} {G : Hp}
theorem scal_flat {w : W} {v : V} (h : scalW w = true) (p : Rep K G w v) : flatV v = true := by
 cases w with
 | non => cases p; rfl
 | bl b => cases p; rfl
 | int b => cases p; rfl
 | str b => cases p; rfl
 | _ => cases h
theorem scal_eq {w u : W} {v x : V} (h : scalW w = true) (h' : scalW u = true) (p : Rep K G w v) (q : Rep K G u x) : eqV v x = eqS w u := by
 cases w <;> cases u <;> first | (cases p; cases q; rfl) | exact absurd (show false = true from h') Bool.false_ne_true | exact absurd (show false = true from h) Bool.false_ne_true
theorem scals_in {u : W} {x : V} (hu : scalW u = true) (q : Rep K G u x) : ∀ {ws : List W} {xs : List V}, ws.all scalW = true -> Reps K G ws xs -> xs.all flatV = true /\ inV x xs = ws.any fun y => eqS y u
 | [], xs, _, r => by cases r; exact ⟨rfl, rfl⟩
 | w :: ws, xs, h, r => by
  obtain ⟨y, r', rfl, p, r⟩ := r
  rw [List.all_cons, Bool.and_eq_true] at h
  obtain ⟨i1, i2⟩ := scals_in hu q h.2 r
  refine ⟨by rw [List.all_cons, scal_flat h.1 p, i1]; rfl, ?_⟩
  show (eqV y x || inV x r') = (eqS w u || ws.any _)
  rw [scal_eq h.1 hu p q, i2]
theorem o2_nin : Op2 K (rIn K true) ninW := by
 intro G H x y wx wy w Q s px py hf h
 cases wy with
 | tup ws =>
  simp only [ninW] at hf
  split at hf
  ·rename_i hc
   cases hf
   obtain ⟨a, xs, rfl, ha, ra⟩ := py
   obtain ⟨i1, i2⟩ := scals_in hc.1 px hc.2 ra
   refine ⟨a, xs, rfl, .inr (s.tup ha), scal_flat hc.1 px, i1, ?_⟩
   rw [i2]
   exact h G _ H (.refl s) rfl
  ·cases hf
 | lst ws =>
  simp only [ninW] at hf
  split at hf
  ·rename_i hc
   cases hf
   obtain ⟨a, xs, rfl, ha, ra⟩ := py
   obtain ⟨i1, i2⟩ := scals_in hc.1 px hc.2 ra
   refine ⟨a, xs, rfl, .inl (s.seq ha), scal_flat hc.1 px, i1, ?_⟩
   rw [i2]
   exact h G _ H (.refl s) rfl
  ·cases hf
 | _ => simp [ninW] at hf
end
section
variable {K : PySem.W.Frag}
theorem oN_min : OpN K (fun xs H Q => ∃ i j, xs = [.int i, .int j] /\ Q (.int (if j < i then j else i)) H) min2 := by
 intro G H xs ws w Q s pr hf h
 unfold min2 at hf
 split at hf
 ·cases hf
  obtain ⟨x, r, rfl, px, y, r2, rfl, py, pr⟩ := pr
  cases (show r2 = [] from pr)
  cases px; cases py
  exact ⟨_, _, rfl, h G _ H (.refl s) rfl⟩
 ·cases hf
theorem oN_int : OpN K (fun xs H Q => (∃ i, xs = [.int i] /\ Q (.int i) H) \/ ∃ k, xs = [.bl k] /\ Q (.int (if k then 1 else 0)) H) int1 := by
 intro G H xs ws w Q s pr hf h
 unfold int1 at hf
 split at hf
 ·cases hf
  obtain ⟨x, r, rfl, px, pr⟩ := pr
  cases (show r = [] from pr)
  cases px
  exact .inl ⟨_, rfl, h G _ H (.refl s) rfl⟩
 ·cases hf
  obtain ⟨x, r, rfl, px, pr⟩ := pr
  cases (show r = [] from pr)
  cases px
  exact .inr ⟨_, rfl, h G _ H (.refl s) rfl⟩
 ·cases hf
end
section
variable {X : Cx} {Z : Zt} {EE : St -> XK} {a b c e : Expr} {es : List Expr} {da db : Den W} {dA : Den (List W)} {pos p p1 p2 pos1 pos2 : Pos} {x : Str}
theorem dt_nin (hu : X.A.units + 150 < cLine) (ha : DE Z X EE a da) (hb : DE Z X EE b db) (hm : behindInMarks .NotIn b = false := by with_unfolding_all rfl) : DT Z X EE (.Compare a [.NotIn] [b] pos) (dTest (dOp ninW da db)) := dt_cmp op_notIn_seq o2_nin ha hb hm
theorem de_min2 (hc : X.calm = true) (hm : X.mg "min" = none) (ha : DA Z X EE [a, b] dA) (hg : Gl X "min" := by rfl) (he : starEach [a, b] X.env = (false, eval a X.env) :: starEach [b] X.env := by rfl) (hpl : (backTo pos (starEach [b] X.env)).any (·.1) = false := by rfl) : DE Z X EE (.Call (.Name "min" p) [a, b] [] pos) (dFn min2 dA) :=
 de_blt (call_min2 hc) oN_min PyProof.Rows.Boot.«min» hm ha hg (by decide) (by decide) he hpl
theorem de_int1 (hm : X.mg "int" = none) (ha : DA Z X EE [e] dA) (hg : Gl X "int" := by rfl) (he : starEach [e] X.env = (false, eval e X.env) :: starEach [] X.env := by rfl) (hpl : (backTo pos (starEach [] X.env)).any (·.1) = false := by rfl) : DE Z X EE (.Call (.Name "int" p) [e] [] pos) (dFn int1 dA) :=
 de_bty call_int1 oN_int PyProof.Rows.Boot.«int» hm ha hg (by decide) (by decide) he hpl
end
theorem min_ii {i j : Int} : min2 [.int i, .int j] = some (.int (if j < i then j else i)) := rfl
theorem int_i {i : Int} : int1 [.int i] = some (.int i) := rfl
theorem int_b {b : Bool} : int1 [.bl b] = some (.int (if b then 1 else 0)) := rfl
theorem cast0 : ((0 : Nat) : Int) = 0 := rfl
theorem cast1 : ((1 : Nat) : Int) = 1 := rfl
noncomputable def fmtK (r : Den Str) (e : List S) : Option Str -> R Str
 | some x => (r e).bind fun y e2 => .ok (x ++ y) e2
 | none => .no
theorem fVal_s {d : Den W} {r : Den Str} {e : List S} : fVal d r e = (d e).bind fun w e1 => fmtK r e1 (fmtW w) := by
 unfold fVal
 congr 1
theorem fmtK_some {r : Den Str} {e : List S} {x : Str} : fmtK r e (some x) = (r e).bind fun y e2 => .ok (x ++ y) e2 := rfl
theorem for_ix {i : Nat} {b : List S -> SR} (I : Nat -> List S -> Prop) : ∀ (ws : List W) (k : Nat) (e : List S), I k e -> (∀ (j : Nat) (w : W) (e : List S), ws[j]? = some w -> I (k + j) e -> ∃ e', b (e.set i (.fr w)) = .nx e' /\ I (k + j + 1) e') -> ∃ e', forD i b ws e = .nx e' /\ I (k + ws.length) e'
 | [], k, e, h0, _ => ⟨e, rfl, h0⟩
 | w :: ws, k, e, h0, h => by
  obtain ⟨e1, h1, h2⟩ := h 0 w e rfl h0
  obtain ⟨e2, h3, h4⟩ := for_ix I ws (k + 1) e1 h2 fun j u e hu hI => by
   have z := h (j + 1) u e (by simpa using hu) (by rw [show k + (j + 1) = k + 1 + j by omega]; exact hI)
   rw [show k + (j + 1) + 1 = k + 1 + j + 1 by omega] at z
   exact z
  refine ⟨e2, ?_, ?_⟩
  ·rw [for_cons, h1, turn_nx, h3]
  ·rw [List.length_cons, show k + (ws.length + 1) = k + 1 + ws.length by omega]; exact h4
theorem len_range {lo hi : Int} : (rangeW lo hi).length = (hi - lo).toNat := by simp [rangeW]
theorem get_range {lo hi : Int} {j : Nat} {w : W} (h : (rangeW lo hi)[j]? = some w) : w = .int (lo + j) /\ j < (hi - lo).toNat := by
 unfold rangeW at h
 rw [List.getElem?_map] at h
 obtain ⟨k, h1, rfl⟩ := Option.map_eq_some_iff.mp h
 obtain ⟨h2, h3⟩ := List.getElem?_eq_some_iff.mp h1
 simp at h2 h3
 subst h3
 exact ⟨rfl, by omega⟩
theorem for_rangeI {i : Nat} {b : List S -> SR} {lo hi : Int} (n : Nat) (hn : (hi - lo).toNat = n) (I : Nat -> List S -> Prop) (e : List S) (h0 : I 0 e) (h : ∀ (j : Nat) (e : List S), j < n -> I j e -> ∃ e', b (e.set i (.fr (.int (lo + j)))) = .nx e' /\ I (j + 1) e') : ∃ e', forD i b (rangeW lo hi) e = .nx e' /\ I n e' := by
 obtain ⟨e', h1, h2⟩ := for_ix (b := b) (i := i) I (rangeW lo hi) 0 e h0 fun j w e hw hI => by
  obtain ⟨rfl, hj⟩ := get_range hw
  rw [Nat.zero_add] at hI |-
  exact h j e (by omega) hI
 rw [len_range, hn, Nat.zero_add] at h2
 exact ⟨e', h1, h2⟩
end D
set_option Elab.async false
set_option linter.all false
set_option maxRecDepth 100000
set_option maxHeartbeats 1000000
namespace D
open PySem L2
noncomputable def dLend (F : List W -> FR) (i : Nat) (dA : Den (List W)) : Den W := fun e => match e[i]? with
 | some (.own _ _) => (dA e).bind fun us e1 => match e1[i]? with
  | some (.own _ ws) => match F (.lst ws :: us) with
   | .ok (.fr w) => if scalW w = true then .ok w e1 else .no
   | _ => .no
  | _ => .no
 | _ => .no
section
variable {X : Cx} {Z : Zt} {EE : St -> XK} {es : List Expr} {dA : Den (List W)} {pos p pn : Pos} {k : Nat} {ps : List Str} {F : List W -> FR} {x f : Str}
end
mutual
noncomputable def conIn (K : PySem.W.Frag) : W -> Value -> Bool
 | .non, u => match u with | .none => true | _ => false
 | .bl b, u => match u with | .bool c => b == c | _ => false
 | .int i, u => match u with | .int j _ => decide (i = j) | _ => false
 | .str x, u => match u with | .str y _ => decide (x = y) | _ => false
 | .tup ws, u => match u with
  | .ref a => match K.lookup a with
   | some o => (o.cls == .type "tuple" && o.dict.isNone) && (match o.data with | .seq its _ => Nat.ble its.size 1000000 && consIn K ws its.toList | _ => false)
   | none => false
  | _ => false
 | .lst _, _ => false
 | .exc _, _ => false
 | .dic _, _ => false
 | .dw _ _ _ _, _ => false
 | .fn _ _ _, _ => false
noncomputable def consIn (K : PySem.W.Frag) : List W -> List Value -> Bool
 | [], us => us.isEmpty
 | w :: ws, us => match us with
  | u :: us => conIn K w u && consIn K ws us
  | [] => false
end
section
variable {X : Cx} {Z : Zt} {EE : St -> XK} {e : Expr} {es : List Expr} {dA : Den (List W)} {pos p : Pos} {x : Str}
end
end D
set_option Elab.async false
set_option linter.all false
set_option maxRecDepth 100000
set_option maxHeartbeats 1000000
namespace D
open PySem L2
noncomputable def dPut (i : Nat) (dv dk : Den W) : List S -> SR := fun e => (dv e).stm fun w e1 => match e1[i]? with
 | some (.own _ _) => (dk e1).stm fun k e2 => match k, e2[i]? with
  | .int k, some (.own b ws) => match ixN ws.length k with
   | some j => .nx (e2.set i (.own b (ws.set j w)))
   | none => .no
  | _, _ => .no
 | _ => .no
section
variable {X : Cx} {Z : Zt} {EE : St -> XK} {e k : Expr} {d dk : Den W} {pos p tpos : Pos} {x : Str}
theorem ds_put (i : Nat) (he : DE Z X EE e d) (hk : DE Z X EE k dk) (hN : X.N[i]? = some x := by rfl) (hv : Vis X.env.scope x := by walk_at "1") (hd : (x == ("__debug__" : Str)) = false := by decide) (hcd : (x == ("__classdict__" : Str)) = false := by decide)
  (ha : ∀ v, assign (.Subscript (.Name x p) k tpos) X.env v = (do
   let ov <- holding [v] (eval (.Name x p) X.env)
   let iv <- holding [v, ov] (eval k X.env)
   standAt tpos
   holding [v, ov, iv] (setItem ov iv v)
   release [v, ov, iv] []) := by intro _; rfl)
  (hs : swapsWithSole [.Subscript (.Name x p) k tpos] e pos.line X.env = pure false := by rfl) (hw : swappedStores [.Subscript (.Name x p) k tpos] e X.env = pure none := by rfl)
  (h1 : (assignEach [.Subscript (.Name x p) k tpos] X.env).map (·.2) = [assign (.Subscript (.Name x p) k tpos) X.env] := by rfl) :
  DS Z X EE (.Assign [.Subscript (.Name x p) k tpos] e pos) (dPut i d dk) := by
 refine PS.mono (ps_asg he (pg_sub (pv i hN hv hd hcd) hk set_list ha) hs hw h1) ?_
 rintro D σ H ⟨G, e, rel, h⟩
 refine ⟨G, e, rel, (post_stm h).imp (fun w e1 h G1 v1 H1 r1 s1 p1 => ?_) fun _ _ h => h⟩
 split at h
 ·rename_i b0 ws0 he0
  obtain ⟨a, xs, q1, q2, q3, q4, q5⟩ := r1.own he0
  refine ⟨.ref a, q1, G1, e1, r1, (post_stm (σ := σ) h).imp (fun kw e2 h G2 v2 H2 r2 s2 p2 => ?_) fun _ _ h G' H' r s => h G' H' r (s1.trans s)⟩
  ·split at h
   ·rename_i kk b ws he2
    obtain ⟨a', zs, g1, g2, g3, g4, g5⟩ := r2.own he2
    rw [q1] at g1; cases g1
    cases p2
    split at h
    ·rename_i j hj
     refine ⟨a, zs, _, j, rfl, rfl, g2, by rw [g5.length]; exact hj, ?_⟩
     exact h G2 σ _ (r2.mut he2 q1 (g5.set j (Rep.mono s2 w p1))) (s1.trans s2)
    ·exact h.elim
   ·exact h.elim
 ·exact h.elim
end
section
variable {X : Cx} {Z : Zt} {EE : St -> XK} {a b : Expr} {da db : Den W} {pos : Pos}
end
def OpM (K : PySem.W.Frag) (r : V -> List V -> Hp -> VK -> Prop) (f : W -> List W -> Option W) : Prop := ∀ (G H : Hp) (x : V) (xs : List V) (wx : W) (ws : List W) (w : W) (Q : VK), Same G H -> Rep K G wx x -> Reps K G ws xs -> f wx ws = some w -> (∀ G' v H', Grow G H G' H' -> Rep K G' w v -> Q v H') -> r x xs H Q
noncomputable def kindW (T : String) : W -> Bool
 | .str _ => T == "str"
 | .lst _ => T == "list"
 | _ => false
noncomputable def dMeth (T : String) (f : W -> List W -> Option W) (d : Den W) (dA : Den (List W)) : Den W := fun e => (d e).bind fun x e1 => if kindW T x = true then (dA e1).bind fun ws e2 => ofOpt (f x ws) e2 else .no
section
variable {X : Cx} {Z : Zt} {EE : St -> XK} {o e : Expr} {es : List Expr} {d : Den W} {dA : Den (List W)} {pos p : Pos} {x : Str}
theorem de_meth {T id : String} {name : Str} {r : V -> List V -> Hp -> VK -> Prop} {f : W -> List W -> Option W} {apos cpos : Pos} (pa : PlainAttrs T) (slot : Slot T name id) (hty : typeOf (.builtin id) = pure (.type "method_descriptor")) (hm : MtR X id r) (hf : OpM X.K r f) (ho : DE Z X EE o d) (ha : DA Z X EE (e :: es) dA)
  (hbase : attributeBase o name X.env (eval o X.env) = eval o X.env := by rfl)
  (hfew : ((backTo cpos (starEach (e :: es) X.env)).all (fun x => !x.1) && (backToKw cpos (keywordEach [] X.env)).all (fun x => x.1.isSome) && decide ((e :: es).length + ([] : List Keyword).length + (if ([] : List Keyword).isEmpty then 0 else 1) < 30)) = true := by rfl)
  (hline : (apos.endLine == cpos.line) = true := by rfl) (hs : starEach (e :: es) X.env = (false, eval e X.env) :: starEach es X.env := by rfl) (hplain : (backTo cpos (starEach es X.env)).any (·.1) = false := by rfl) :
  DE Z X EE (.Call (.Attribute o name apos) (e :: es) [] cpos) (dMeth T f d dA) := by
 refine PE.mono (pe_bm pa slot hty hm ho ha hbase hfew hline hs hplain) ?_
 rintro σ H Q ⟨G, e, rel, h⟩
 simp only [dMeth, R.holds_bind] at h
 refine ⟨G, e, rel, h.imp (fun wx e1 h G1 v1 H1 r1 s1 p1 => ?_) fun _ _ h => h⟩
 split at h
 ·rename_i hk
  refine ⟨?_, G1, e1, r1, (R.holds_bind.mp h).imp (fun ws e2 h G2 vs H2 r2 s2 p2 => ?_) fun _ _ h => XH.trans s1 h⟩
  ·cases wx with
   | str z => cases p1; exact (by simpa [kindW] using hk : T = "str")
   | lst ws =>
    obtain ⟨a, xs, rfl, q, _⟩ := p1
    exact .inl ⟨by simpa [kindW] using hk, xs, r1.sub.seq q⟩
   | _ => cases hk
  ·obtain ⟨w, hw, h⟩ := ofOpt_holds.mp h
   exact hf G2 H2 v1 vs wx ws w Q r2.sub (Rep.mono s2 wx p1) p2 hw fun G' v H' g p => h G' v H' (r2.grow g) ((s1.trans s2).trans g.gg) p
 ·exact h.elim
end
section
variable {X : Cx} {Z : Zt} {EE : St -> XK} {o e : Expr} {d : Den W} {dA : Den (List W)}
end
end D
set_option Elab.async false
set_option linter.all false
set_option maxRecDepth 100000
set_option maxHeartbeats 1000000
namespace D
open PySem L2
noncomputable def SR.turnT (r : SR) (k : List S -> SR) : SR := match r with
 | .nx e' => k e'
 | .ct e' => k e'
 | .bk e' => .nx e'
 | .rt s e' => .rt s e'
 | .ex c e' => .ex c e'
 | .no => .no
section
variable {X : Cx} {Z : Zt} {EE : St -> XK} {e : Expr} {body : List Stmt} {d : Den W} {s1 : List S -> SR} {pos : Pos}
end
section
variable {X : Cx} {Z : Zt} {EE : St -> XK} {o e : Expr} {d : Den W} {dA : Den (List W)}
end
end D
set_option Elab.async false
set_option linter.all false
set_option maxRecDepth 100000
set_option maxHeartbeats 1000000
namespace D
open PySem L2
structure TabK (P : Program) (w : World) (K : PySem.W.Frag) (d : Addr) (tb : List (Str × Int)) : Prop where
 tab : ∀ h, K.In h -> PyProof.Rows.StrTab P w h d (PySem.W.kdpD tb)
 obj : ∃ o, K.lookup d = some o /\ o.cls = .type "dict" /\ o.dict = none
section
variable {X : Cx} {Z : Zt} {EE : St -> XK} {e k : Expr} {es : List Expr} {dk : Den W} {dA : Den (List W)} {pos p : Pos} {x : Str} {d : Addr} {tb : List (Str × Int)}
end
end D
set_option Elab.async false
set_option linter.all false
set_option maxRecDepth 100000
set_option maxHeartbeats 1000000
namespace D
open PySem L2
section
variable {e : List S} {w : W} {ws : List W}
noncomputable def putC (i : Nat) (e : List S) (b : Bool) (ws : List W) (w : W) : Option Nat -> SR
 | some j => .nx (e.set i (.own b (ws.set j w)))
 | none => .no
noncomputable def putB (i : Nat) (e : List S) (w : W) : W -> Option S -> SR
 | .int k, some (.own b ws) => putC i e b ws w (ixN ws.length k)
 | _, _ => .no
noncomputable def putA (i : Nat) (dk : Den W) (w : W) (e : List S) : Option S -> SR
 | some (.own _ _) => (dk e).stm fun k e2 => putB i e2 w k e2[i]?
 | _ => .no
theorem dPut_s {i : Nat} {dv dk : Den W} : dPut i dv dk e = (dv e).stm fun w e1 => putA i dk w e1 e1[i]? := by
 unfold dPut
 congr 1
theorem putA_own {i : Nat} {dk : Den W} {b : Bool} : putA i dk w e (some (.own b ws)) = (dk e).stm fun k e2 => putB i e2 w k e2[i]? := rfl
theorem putB_own {i : Nat} {b : Bool} {k : Int} : putB i e w (.int k) (some (.own b ws)) = putC i e b ws w (ixN ws.length k) := rfl
theorem putC_some {i j : Nat} {b : Bool} : putC i e b ws w (some j) = .nx (e.set i (.own b (ws.set j w))) := rfl
noncomputable def lendC (e : List S) : FR -> R W
 | .ok (.fr w) => if scalW w = true then .ok w e else .no
 | _ => .no
noncomputable def lendB (F : List W -> FR) (us : List W) (e : List S) : Option S -> R W
 | some (.own _ ws) => lendC e (F (.lst ws :: us))
 | _ => .no
noncomputable def lendA (F : List W -> FR) (i : Nat) (dA : Den (List W)) (e : List S) : Option S -> R W
 | some (.own _ _) => (dA e).bind fun us e1 => lendB F us e1 e1[i]?
 | _ => .no
theorem dLend_s {F : List W -> FR} {i : Nat} {dA : Den (List W)} : dLend F i dA e = lendA F i dA e e[i]? := by
 unfold dLend lendA
 cases e[i]? with
 | none => rfl
 | some s => cases s with
  | own b ws =>
   dsimp only
   congr 1
  | _ => rfl
theorem lendA_own {F : List W -> FR} {i : Nat} {dA : Den (List W)} {b : Bool} : lendA F i dA e (some (.own b ws)) = (dA e).bind fun us e1 => lendB F us e1 e1[i]? := rfl
theorem lendB_own {F : List W -> FR} {us : List W} {b : Bool} : lendB F us e (some (.own b ws)) = lendC e (F (.lst ws :: us)) := rfl
theorem lendC_fr : lendC e (.ok (.fr w)) = if scalW w = true then .ok w e else .no := rfl
theorem dMeth_s {T : String} {f : W -> List W -> Option W} {d : Den W} {dA : Den (List W)} : dMeth T f d dA e = (d e).bind fun x e1 => if kindW T x = true then (dA e1).bind fun ws e2 => ofOpt (f x ws) e2 else .no := rfl
theorem kind_s {z : Str} : kindW "str" (.str z) = true := rfl
theorem kind_l : kindW "list" (.lst ws) = true := rfl
end
noncomputable def forP (i j : Nat) (b : List S -> SR) : List (W × W) -> List S -> SR
 | [], e => .nx e
 | p :: ps, e => (b ((e.set i (.fr p.1)).set j (.fr p.2))).turnT (forP i j b ps)
noncomputable def dForP (i j : Nat) (d : Den (List (W × W))) (b : List S -> SR) : List S -> SR := fun e => (d e).stm fun ps e1 => forP i j b ps e1
noncomputable def compP (c : Den Bool) (d : Den W) (pe : List S) : List (W × W) -> Option (List W)
 | [] => some []
 | p :: ps => match c (.fr p.1 :: .fr p.2 :: pe) with
  | .ok true e1 => match d e1 with
   | .ok y _ => (compP c d pe ps).map (y :: ·)
   | _ => none
  | .ok false _ => compP c d pe ps
  | _ => none
noncomputable def compPK (js : List Nat) (c : Den Bool) (d : Den W) (ps : List (W × W)) (e1 : List S) : R (List W) :=
 if ps.length <= 16777216 then (match compP c d (pjS js (frzs js e1)) ps with
  | some out => .ok out (frzs js e1)
  | none => .no) else .no
noncomputable def dCompP (js : List Nat) (di : Den (List (W × W))) (c : Den Bool) (d : Den W) : Den (List W) := fun e => (di e).bind fun ps e1 => compPK js c d ps e1
structure Walk2 (K : PySem.W.Frag) (G1 : Hp) (J : It) (ps : List (W × W)) : Prop where
 go : ∀ (i : Nat) (G H : Hp), Same G1 G -> Same G H -> i < ps.length -> J.go i H
 yld : ∀ (i : Nat) (G H : Hp) (x : V) (H' : Hp), Same G1 G -> Same G H -> J.yld i H x H' -> ∀ u v, ps[i]? = some (u, v) ->
  Grow G H G H' /\ ∀ (m n : Nat) (σ : St) (Q : St -> Hp -> Prop), (∀ y z, Rep K G u y -> Rep K G v z -> Q ((σ.set m (some y)).set n (some z)) H') -> gTup K 2 (gCons (gName m) (gCons (gName n) gNil)) x σ H' Q
 stop : ∀ (i : Nat) (G H : Hp), Same G1 G -> Same G H -> ps.length <= i -> J.stop i H
def liftI (K : PySem.W.Frag) (Z : Zt) (EE : St -> XK) (d : Den (List (W × W))) : TI := fun σ H R => ∃ G e, Rel K Z G σ H e /\ (d e).holds (fun ps e1 => ∀ G1 H1 J, Rel K Z G1 σ H1 e1 -> Same G G1 -> Walk2 K G1 J ps -> R J H1) (XH K Z EE σ G)
def DI (Z : Zt) (X : Cx) (EE : St -> XK) (tg iter : Expr) (d : Den (List (W × W))) : Prop := PI X tg iter (liftI X.K Z EE d)
theorem PI.mono {X : Cx} {tg iter : Expr} {wi wi' : TI} (h : PI X tg iter wi) (m : ∀ σ H R, wi' σ H R -> wi σ H R) : PI X tg iter wi' := fun pins s σ H R I q => h pins s σ H R I (m σ H R q)
section
variable {K : PySem.W.Frag} {Z : Zt} {EE : St -> XK}
theorem for_turnP {i j : Nat} {D : Ends} {Pv : St -> Hp -> Prop} {G1 G' : Hp} {σ : St} {H : Hp} {e : List S} {p : W × W} {x y : V} {ps : List (W × W)} {s1 : List S -> SR} (r : Rel K Z G' σ H e) (s : Same G1 G') (pu : Rep K G' p.1 x) (pv : Rep K G' p.2 y)
  (h : PostS K Z EE D G1 (forP i j s1 (p :: ps) e)) (hP : ∀ G'' σ'' H'' e'', Rel K Z G'' σ'' H'' e'' -> Same G1 G'' -> PostS K Z EE D G1 (forP i j s1 ps e'') -> Pv σ'' H'') :
  liftS K Z EE s1 { D with nx := Pv, ct := Pv, bk := D.nx } ((σ.set i (some x)).set j (some y)) H := by
 refine ⟨G', _, (r.set pu).set pv, ?_⟩
 unfold forP at h
 cases q : s1 ((e.set i (.fr p.1)).set j (.fr p.2)) with
 | nx e' => rw [q] at h; exact fun G'' σ'' H'' r'' s'' => hP G'' σ'' H'' e' r'' (s.trans s'') h
 | ct e' => rw [q] at h; exact fun G'' σ'' H'' r'' s'' => hP G'' σ'' H'' e' r'' (s.trans s'') h
 | bk e' => rw [q] at h; exact fun G'' σ'' H'' r'' s'' => h G'' σ'' H'' r'' (s.trans s'')
 | rt t e' => rw [q] at h; exact fun G'' σ'' v H'' r'' s'' p => h G'' σ'' v H'' r'' (s.trans s'') p
 | ex c e' => rw [q] at h; exact fun G'' σ'' H'' r'' s'' => h G'' σ'' H'' r'' (s.trans s'')
 | no => rw [q] at h; exact h
theorem drop_consP {ps : List (W × W)} {k : Nat} {p : W × W} (h : ps[k]? = some p) : ps.drop k = p :: ps.drop (k + 1) := by
 obtain ⟨h1, h2⟩ := List.getElem?_eq_some_iff.mp h
 rw [List.drop_eq_getElem_cons h1, h2]
theorem Rel.block2 {G H : Hp} {σ : St} {e : List S} (r : Rel K Z G σ H e) (js : List Nat) {u w : W} {y x : V} (q : Rep K G u y) (p : Rep K G w x) : Rel K ⟨H, G, []⟩ G (some y :: some x :: pj js σ) H (.fr u :: .fr w :: pjS js e) := by
 have b := r.block js p
 have hfr : ∀ (i : Nat) (s : S), (S.fr w :: pjS js e)[i]? = some s -> s = .no \/ ∃ u, s = .fr u := fun i s h => by
  cases i with
  | zero => cases h; exact .inr ⟨w, rfl⟩
  | succ k =>
   rw [List.getElem?_cons_succ] at h
   unfold pjS at h
   rw [List.getElem?_map] at h
   obtain ⟨j, h1, h2⟩ := Option.map_eq_some_iff.mp h
   unfold pj1 at h2
   split at h2
   ·subst h2; exact .inr ⟨_, rfl⟩
   ·subst h2; exact .inl rfl
 refine ⟨b.sub, fun i s h => ?_, ?_, fun i j b1 b2 w1 w2 a h1 h2 _ _ => ?_, b.ent, b.ion, b.gen⟩
 ·cases i with
  | zero => cases h; exact ⟨y, rfl, q⟩
  | succ i =>
   rw [List.getElem?_cons_succ] at h
   have z := b.slot i s h
   rcases hfr i s h with rfl | ⟨u', rfl⟩
   ·trivial
   ·obtain ⟨v, z1, z2⟩ := b.fr h
    exact ⟨v, by rw [List.getElem?_cons_succ, z1]; rfl, z2⟩
 ·have := b.len
  simp only [List.length_cons] at this |-
  omega
 ·cases i with
  | zero => cases h1
  | succ i =>
   rw [List.getElem?_cons_succ] at h1
   rcases hfr i _ h1 with z | ⟨u', z⟩ <;> cases z
theorem compP_of {J : It} {ps : List (W × W)} {out : List W} {js : List Nat} {c : Den Bool} {d : Den W} {Q : VK} {G0 G1 H1 : Hp} {σ : St} {e1 : List S} (W0 : Walk2 K G1 J ps) (r1 : Rel K Z G1 σ H1 e1) (s1 : Same G0 G1) (hl : ps.length <= 16777216)
  (hz : ∀ p, H1 p = none -> p ∉ Z.io) (hc : compP c d (pjS js e1) ps = some out)
  (h : ∀ G' a xs H', Rel K Z G' σ H' e1 -> Same G0 G' -> H' a = some (.lst xs) -> G' a = none -> Z.H a = none -> Free σ e1 a -> Reps K G' out xs -> Q (.ref a) H') :
  ∀ D, H1 D = none -> ∃ W : Nat -> Nat -> Hp -> Prop, (∃ m, W 0 m (upd H1 D (.lst []))) /\ ∀ i m H2, W i m H2 ->
   (J.stop i H2 /\ Q (.ref D) H2) \/ (J.go i H2 /\ ∀ x H3, J.yld i H2 x H3 -> gTup K 2 (gCons (gName 0) (gCons (gName 1) gNil)) x (List.replicate 2 none ++ pj js σ) H3 fun σ4 H4 => Kp (List.replicate 2 none ++ pj js σ) σ4 /\ cT K c σ4 H4 fun b H5 =>
    if b = true then cE K d σ4 H5 fun y H6 => ∃ ys, H6 D = some (.lst ys) /\ ys.length < sizeLine /\ ∃ m', m' < m /\ W (i + 1) m' (upd H6 D (.lst (ys ++ [y]))) else ∃ m', m' < m /\ W (i + 1) m' H5) := by
 intro D hD
 refine ⟨fun i m H2 => m = ps.length - i /\ i <= ps.length /\ ∃ G2 ys done rest, Rel K Z G2 σ H2 e1 /\ Same G1 G2 /\ H2 D = some (.lst ys) /\ G2 D = none /\ Reps K G2 done ys /\ done.length <= i /\ compP c d (pjS js e1) (ps.drop i) = some rest /\ done ++ rest = out,
  ⟨ps.length, by omega, Nat.zero_le _, G1, [], [], out, r1.grow (Grow.hid r1.sub hD _), .refl _, upd_same, r1.sub.free hD, rfl, Nat.le_refl _, hc, rfl⟩, ?_⟩
 rintro i m H2 ⟨rfl, hi, G2, ys, done, rest, r2, s2, hd2, hg2, rp2, hdl, hc2, ho⟩
 have hfree : Free σ e1 D := free_new r1 hD
 have hzh : Z.H D = none := zh_new r1 hD
 by_cases hlt : i < ps.length
 ·refine .inr ⟨W0.go i G2 H2 s2 r2.sub hlt, fun x H3 hy => ?_⟩
  have hp : ps[i]? = some ((ps[i]).1, (ps[i]).2) := by rw [List.getElem?_eq_getElem hlt]
  obtain ⟨g3, hgo⟩ := W0.yld i G2 H2 x H3 s2 r2.sub hy _ _ hp
  have r2' := r2.grow g3
  have hd3 : H3 D = some (.lst ys) := g3.hh _ _ hd2
  rw [drop_consP hp] at hc2
  refine hgo 0 1 _ _ fun yv zv py pz => ⟨Kp.two, ⟨H3, G2, []⟩, G2, .fr (ps[i]).1 :: .fr (ps[i]).2 :: pjS js e1, r2'.block2 js py pz, ?_⟩
  unfold compP at hc2
  cases qc : c (.fr (ps[i]).1 :: .fr (ps[i]).2 :: pjS js e1) with
  | no => rw [qc] at hc2; cases hc2
  | ex _ _ => rw [qc] at hc2; cases hc2
  | ok k e2 =>
   rw [qc] at hc2
   intro G3 H5 r3 s3
   have g3 := r3.toGrow s3
   cases k with
   | false =>
    exact ⟨ps.length - (i + 1), by omega, rfl, hlt, G3, ys, done, rest, r2'.grow g3, s2.trans s3, g3.hh _ _ hd3, by rw [g3.new D (by rw [hd3]; simp)]; exact hg2, Reps.mono s3 _ rp2, by omega, hc2, ho⟩
   | true =>
    refine ⟨⟨H3, G2, []⟩, G3, e2, r3, ?_⟩
    dsimp only at hc2
    cases qd : d e2 with
    | no => rw [qd] at hc2; cases hc2
    | ex _ _ => rw [qd] at hc2; cases hc2
    | ok y e3 =>
     rw [qd] at hc2
     intro G4 v H6 r4 s4 p4
     have g4 := r4.toGrow (s3.trans s4)
     obtain ⟨rest', hr, rfl⟩ := Option.map_eq_some_iff.mp hc2
     have hd6 : H6 D = some (.lst ys) := g4.hh _ _ hd3
     have hg6 : G4 D = none := by rw [g4.new D (by rw [hd3]; simp)]; exact hg2
     refine ⟨ys, hd6, ?_, ps.length - (i + 1), by omega, rfl, hlt, G4, ys ++ [v], done ++ [y], rest', (r2'.grow g4).mutFree hg6 hzh (hz D hD) hfree hd6, s2.trans (s3.trans s4), upd_same, hg6, (Reps.mono (s3.trans s4) _ rp2).append (.one p4), by simp; omega, hr, by rw [List.append_assoc]; exact ho⟩
     rw [rp2.length, sizeLine_eq]; omega
 ·have : i = ps.length := by omega
  subst this
  rw [List.drop_length] at hc2
  cases hc2
  rw [List.append_nil] at ho
  subst ho
  exact .inl ⟨W0.stop _ G2 H2 s2 r2.sub (by omega), h G2 D ys H2 r2 (s1.trans s2) hd2 hg2 hzh hfree rp2⟩
end
end D
set_option Elab.async false
set_option linter.all false
set_option maxRecDepth 100000
set_option maxHeartbeats 1000000
namespace D
open PySem L2
section
variable {X : Cx} {Z : Zt} {EE : St -> XK} {elt iter e a : Expr} {body : List Stmt} {ifs : List Expr} {scope sc : Scope} {pos pt p1 p2 p3 : Pos} {x y : Str} {Nf N : List Str} {js : List Nat} {di : Den (List (W × W))} {dA : Den (List W)} {d0 : Den W} {c : Den Bool} {d : Den W} {s1 : List S -> SR} {kt : Nat}
theorem ds_forP (i j : Nat) (hN : X.N.Nodup) (hp : PassesOwn (model X.prog X.w) X.A X.env X.xe) (hc : X.calm = true) (hl : DI Z X EE (.Tuple [.Name x p1, .Name y p2] kt p3) e di) (hb : DSs Z X EE body s1)
  (hi : X.N[i]? = some x := by rfl) (hx : Loc X.env.scope x := by walk_at "3") (hf : X.fn x = true \/ X.env.scope.names.lookup x = some .local := by walk_at "2")
  (hj : X.N[j]? = some y := by rfl) (hy : Loc X.env.scope y := by walk_at "3") (hf' : X.fn y = true \/ X.env.scope.names.lookup y = some .local := by walk_at "2")
  (hn : (assignEach [.Name x p1, .Name y p2] X.env).length = 2 := by rfl) (hst : (assignEach [.Name x p1, .Name y p2] X.env).findIdx? (·.1) = none := by rfl)
  (g1 : (assignEach [.Name x p1, .Name y p2] X.env).map (·.2) = assign (.Name x p1) X.env :: (assignEach [.Name y p2] X.env).map (·.2) := by rfl) (g2 : (assignEach [.Name y p2] X.env).map (·.2) = assign (.Name y p2) X.env :: (assignEach [] X.env).map (·.2) := by rfl)
  (hs : ∀ x, foldedSetIterable e X.env x = pure x := by intro _; rfl) :
  DS Z X EE (.For (.Tuple [.Name x p1, .Name y p2] kt p3) e body [] pos) (dForP i j di s1) := by
 refine PS.mono (ps_for hp hc hl (pg_tup hc (pgs_cons (pg_nm i hN hi hx hf) (pgs_cons (pg_nm j hN hj hy hf') pgs_nil g2) g1) hn hst) hb hs) ?_
 rintro D σ H ⟨G, e, rel, h⟩
 refine ⟨G, e, rel, (post_stm h).imp (fun ps e1 h G1 H1 J r1 q1 W0 => ?_) fun _ _ h => h⟩
 have h := PostS.trans q1 h
 refine ⟨fun k m σ' H' => m = ps.length - k /\ k <= ps.length /\ ∃ G' e', Rel X.K Z G' σ' H' e' /\ Same G1 G' /\ PostS X.K Z EE D G1 (forP i j s1 (ps.drop k) e'), ⟨ps.length, by omega, Nat.zero_le _, G1, e1, r1, .refl _, h⟩, ?_⟩
 rintro k m σ' H' ⟨rfl, hk, G', e', r', s', h'⟩
 by_cases hlt : k < ps.length
 ·refine .inr ⟨W0.go k G' H' s' r'.sub hlt, fun σ'' H'' => ∃ G' e', Rel X.K Z G' σ'' H'' e' /\ Same G1 G' /\ PostS X.K Z EE D G1 (forP i j s1 (ps.drop (k + 1)) e'), ?_, fun v H2 hy => ?_⟩
  ·rintro σ'' H'' ⟨G'', e'', r'', s'', h''⟩
   exact ⟨ps.length - (k + 1), by omega, rfl, hlt, G'', e'', r'', s'', h''⟩
  ·have hp : ps[k]? = some ((ps[k]).1, (ps[k]).2) := by rw [List.getElem?_eq_getElem hlt]
   obtain ⟨g3, hgo⟩ := W0.yld k G' H' v H2 s' r'.sub hy _ _ hp
   rw [drop_consP hp] at h'
   exact hgo i j σ' _ fun y z py pz => for_turnP (p := ((ps[k]).1, (ps[k]).2)) (r'.grow g3) s' py pz h' fun G'' σ'' H'' e'' r'' s'' h'' => ⟨G'', e'', r'', s'', h''⟩
 ·have : k = ps.length := by omega
  subst this
  rw [List.drop_length] at h'
  exact .inl ⟨W0.stop _ G' H' s' r'.sub (by omega), h' G' σ' H' r' s'⟩
theorem lift_compP {K : PySem.W.Frag} : ∀ σ H Q, liftF K Z EE (dCompP js di c d) σ H Q -> tComp (liftI K Z EE di) 2 js (gTup K 2 (gCons (gName 0) (gCons (gName 1) gNil))) (cT K c) (cE K d) σ H Q := by
 rintro σ H Q ⟨G, e, rel, h⟩
 simp only [dCompP, R.holds_bind] at h
 refine ⟨G, e, rel, h.imp (fun ps e1 h G1 H1 J r1 s1 W0 => ?_) fun _ _ h => h⟩
 unfold compPK at h
 split at h
 ·rename_i hl
  split at h
  ·rename_i out ho
   obtain ⟨G2, s2, r2⟩ := r1.frzs js
   have W1 : Walk2 K G2 J ps := ⟨fun i G H a => W0.go i G H (s2.trans a), fun i G H x H' a => W0.yld i G H x H' (s2.trans a), fun i G H a => W0.stop i G H (s2.trans a)⟩
   exact compP_of W1 r2 (s1.trans s2) hl (ionone r2) ho h
  ·exact h.elim
 ·exact h.elim
theorem df_compP (hc : X.calm = true) (hi : DI Z X EE (.Tuple [.Name x p1, .Name y p2] kt p3) iter di) (ok : compOk sc scope N Nf js = true)
  (ht : ∀ Z' cl C s₀ H₀ ex, DTs Z' (X.cp ([x, y] ++ Nf) scope cl C s₀ H₀ ex) (fun _ => E0) ifs c) (he : ∀ Z' cl C s₀ H₀ ex, DE Z' (X.cp ([x, y] ++ Nf) scope cl C s₀ H₀ ex) (fun _ => E0) elt d)
  (hg : ∀ cl C s₀ H₀ ex, PG (X.cp ([x, y] ++ Nf) scope cl C s₀ H₀ ex) (.Tuple [.Name x p1, .Name y p2] kt p3) (gTup X.K 2 (gCons (gName 0) (gCons (gName 1) gNil))))
  (hsc : X.env.scope = sc := by rfl) (hN : X.N = N := by rfl) (hs : ∀ x, foldedSetIterable iter X.env x = pure x := by intro _; rfl) :
  DF Z X EE (.ListComp elt [⟨.Tuple [.Name x p1, .Name y p2] kt p3, iter, ifs, 0⟩] scope pos) (dCompP js di c d) := by
 exact PE.mono (pe_compK (Nl := [x, y]) (tc := cT X.K c) (te := cE X.K d) hc hi ok hg (cT_ok ht) (cE_ok he) hsc hN hs) lift_compP
noncomputable def pairsW : List W -> Option (List (W × W))
 | [] => some []
 | .tup [u, v] :: ws => (pairsW ws).map ((u, v) :: ·)
 | _ => none
noncomputable def srcP (d : Den W) : Den (List (W × W)) := fun e => (d e).bind fun w e1 => match seqW w with
 | some ws => ofOpt (pairsW ws) e1
 | none => .no
theorem pairs_get : ∀ {ws : List W} {ps : List (W × W)}, pairsW ws = some ps -> ws.length = ps.length /\ ∀ (i : Nat) u v, ps[i]? = some (u, v) -> ws[i]? = some (.tup [u, v])
 | [], ps, h => by cases h; exact ⟨rfl, fun i u v z => by simp at z⟩
 | w :: ws, ps, h => by
  unfold pairsW at h
  split at h
  ·rename_i z; cases z
  ·rename_i u v ws' z
   cases z
   obtain ⟨q, hq, rfl⟩ := Option.map_eq_some_iff.mp h
   obtain ⟨h1, h2⟩ := pairs_get hq
   refine ⟨by simp [h1], fun i u' v' z => ?_⟩
   cases i with
   | zero => simp at z; simp [z.1, z.2]
   | succ i => simp only [List.getElem?_cons_succ] at z |-; exact h2 i _ _ z
  ·cases h
theorem walk2_seq {K : PySem.W.Frag} {G1 : Hp} {J : It} {ws : List W} {ps : List (W × W)} {xs : List V} {SQ : Hp -> Prop} (W0 : Walk J xs SQ) (rp : Reps K G1 ws xs) (hp : pairsW ws = some ps) (hSQ : ∀ G' H', Same G1 G' -> Same G' H' -> SQ H') : Walk2 K G1 J ps := by
 obtain ⟨hl, hg⟩ := pairs_get hp
 have hx := rp.length
 refine ⟨fun i G H a b h => W0.go i H (hSQ G H a b) (by omega), fun i G H x H' a b hy u v h => ?_, fun i G H a b h => W0.stop i H (hSQ G H a b) (by omega)⟩
 have hlt : i < ps.length := (List.getElem?_eq_some_iff.mp h).1
 obtain ⟨rfl, hx'⟩ := W0.yld i H x H' (hSQ G H a b) hy (by omega)
 refine ⟨Grow.refl b, fun m n σ Q hQ => ?_⟩
 obtain ⟨w, hw, pw⟩ := rp.getV hx'
 rw [hg i u v h] at hw
 cases hw
 have pw := Rep.mono a _ pw
 obtain ⟨c, ys, rfl, hq, y1, q1, rfl, p1, y2, q2, rfl, p2, rfl⟩ := pw
 exact ⟨c, [y1, y2], rfl, b.tup hq, rfl, y1, [y2], rfl, y2, [], rfl, rfl, hQ y1 y2 p1 p2⟩
theorem di_pairs {tg l : Expr} (hl : DE Z X EE l d0) : DI Z X EE tg l (srcP d0) := by
 refine PI.mono (pi_seq hl) ?_
 rintro σ H RR ⟨G, e, rel, h⟩
 simp only [srcP, R.holds_bind] at h
 refine ⟨G, e, rel, h.imp (fun w e1 h G1 v1 H1 r1 s1 p1 => ?_) fun _ _ h => h⟩
 split at h
 ·rename_i ws hw
  obtain ⟨ps, hp, h⟩ := ofOpt_holds.mp h
  cases w with
  | tup us =>
   cases hw
   obtain ⟨a, xs, rfl, hq, rp⟩ := p1
   exact ⟨a, rfl, .inr ⟨⟨xs, r1.sub.tup hq⟩, h _ _ _ r1 s1 (walk2_seq walk_t rp hp fun G' H' s s' => Same.tup s' (Same.tup s hq))⟩⟩
  | lst us =>
   cases hw
   obtain ⟨a, xs, rfl, hq, rp⟩ := p1
   exact ⟨a, rfl, .inl ⟨⟨xs, r1.sub.seq hq⟩, h _ _ _ r1 s1 (walk2_seq walk_l rp hp fun G' H' s s' => Same.seq s' (Same.seq s hq))⟩⟩
  | _ => cases hw
 ·exact h.elim
noncomputable def enumL : Nat -> List W -> List (W × W)
 | _, [] => []
 | k, w :: ws => (.int k, w) :: enumL (k + 1) ws
noncomputable def srcE (dA : Den (List W)) : Den (List (W × W)) := fun e => (dA e).bind fun ws e1 => match ws with
 | [.lst us] => .ok (enumL 0 us) e1
 | _ => .no
end
end D
set_option Elab.async false
set_option linter.all false
set_option maxRecDepth 100000
set_option maxHeartbeats 1000000
namespace D
open PySem L2
theorem pg_two {X : Cx} {x y : Str} {p1 p2 p3 : Pos} {kt : Nat} (hN : X.N.Nodup) (hc : X.calm = true)
  (hi : X.N[0]? = some x := by rfl) (hx : Loc X.env.scope x := by walk_at "3") (hf : X.fn x = true \/ X.env.scope.names.lookup x = some .local := by walk_at "2")
  (hj : X.N[1]? = some y := by rfl) (hy : Loc X.env.scope y := by walk_at "3") (hf' : X.fn y = true \/ X.env.scope.names.lookup y = some .local := by walk_at "2")
  (hn : (assignEach [.Name x p1, .Name y p2] X.env).length = 2 := by rfl) (hst : (assignEach [.Name x p1, .Name y p2] X.env).findIdx? (·.1) = none := by rfl)
  (g1 : (assignEach [.Name x p1, .Name y p2] X.env).map (·.2) = assign (.Name x p1) X.env :: (assignEach [.Name y p2] X.env).map (·.2) := by rfl) (g2 : (assignEach [.Name y p2] X.env).map (·.2) = assign (.Name y p2) X.env :: (assignEach [] X.env).map (·.2) := by rfl) :
  PG X (.Tuple [.Name x p1, .Name y p2] kt p3) (gTup X.K 2 (gCons (gName 0) (gCons (gName 1) gNil))) :=
 pg_tup hc (pgs_cons (pg_nm 0 hN hi hx hf) (pgs_cons (pg_nm 1 hN hj hy hf') pgs_nil g2) g1) hn hst
section
variable {e : List S} {w : W} {ws : List W} {ps : List (W × W)} {di : Den (List (W × W))} {b : List S -> SR} {i j : Nat} {c : Prop} [Decidable c] {s t : SR} {k : List S -> SR} {v : Value} {st : S}
theorem dForP_s : dForP i j di b e = (di e).stm fun ps e1 => forP i j b ps e1 := rfl
theorem turnT_nx : (SR.nx e).turnT k = k e := rfl
theorem turnT_ct : (SR.ct e).turnT k = k e := rfl
theorem turnT_bk : (SR.bk e).turnT k = .nx e := rfl
theorem turnT_rt : (SR.rt st e).turnT k = .rt st e := rfl
theorem turnT_ex : (SR.ex v e).turnT k = .ex v e := rfl
theorem turnT_no : (SR.no).turnT k = .no := rfl
theorem turnT_ite : (if c then s else t).turnT k = if c then s.turnT k else t.turnT k := by split <;> rfl
noncomputable def srcEW (e : List S) : List W -> R (List (W × W))
 | [.lst us] => .ok (enumL 0 us) e
 | _ => .no
theorem srcE_s {dA : Den (List W)} : srcE dA e = (dA e).bind fun ws e1 => srcEW e1 ws := by
 unfold srcE
 congr 1
theorem srcEW_l : srcEW e [.lst ws] = .ok (enumL 0 ws) e := rfl
noncomputable def srcPW (e : List S) : Option (List W) -> R (List (W × W))
 | some ws => ofOpt (pairsW ws) e
 | none => .no
theorem srcP_s {d : Den W} : srcP d e = (d e).bind fun w e1 => srcPW e1 (seqW w) := by
 unfold srcP
 congr 1
theorem srcPW_some : srcPW e (some ws) = ofOpt (pairsW ws) e := rfl
theorem compPK_s {js : List Nat} {cc : Den Bool} {d : Den W} : compPK js cc d ps e = if ps.length <= 16777216 then compR (frzs js e) (compP cc d (pjS js (frzs js e)) ps) else .no := by
 unfold compPK compR
 split
 ·cases compP cc d (pjS js (frzs js e)) ps <;> rfl
 ·rfl
theorem dCompP_s {js : List Nat} {cc : Den Bool} {d : Den W} : dCompP js di cc d e = (di e).bind fun ps e1 => compPK js cc d ps e1 := rfl
theorem compP_cons {cc : Den Bool} {d : Den W} {pe : List S} {p : W × W} : compP cc d pe (p :: ps) = (match cc (.fr p.1 :: .fr p.2 :: pe) with
  | .ok true e1 => (match d e1 with | .ok y _ => (compP cc d pe ps).map (y :: ·) | _ => none)
  | .ok false _ => compP cc d pe ps
  | _ => none) := rfl
theorem compP_map {cc : Den Bool} {d : Den W} {pe : List S} {q : W × W -> Bool} {g : W × W -> W} : ∀ (ps : List (W × W)), (∀ p ∈ ps, ∃ e1, cc (.fr p.1 :: .fr p.2 :: pe) = .ok (q p) e1 /\ (q p = true -> ∃ e2, d e1 = .ok (g p) e2)) -> compP cc d pe ps = some ((ps.filter q).map g)
 | [], _ => rfl
 | p :: ps, h => by
  obtain ⟨e1, h1, h2⟩ := h p (by simp)
  have ih := compP_map (cc := cc) (d := d) (pe := pe) (q := q) (g := g) ps fun u hu => h u (by simp [hu])
  rw [compP_cons, h1, ih]
  cases hq : q p with
  | true =>
   obtain ⟨e2, h3⟩ := h2 hq
   simp only [hq, h3, List.filter_cons, if_true]
   rfl
  | false => simp [hq, List.filter_cons]
end
end D
set_option Elab.async false
set_option linter.all false
set_option maxRecDepth 100000
set_option maxHeartbeats 1000000
namespace D
open PySem L2
theorem list_mulW (l : Addr) (items : Array Value) (n : Nat) (x : Int) (u : Tok) (dd : Option Addr) (sl : Array (Option Value)) (hc0 : ¬(!Builtin.List.listFitsIndex x) = true) (hc1 : ¬items.size * x.toNat > (2 ^ 63 - 1) / 8) (hc2 : ¬Builtin.List.listTooLong (items.size * x.toNat) = true) :
  Meets (Builtin.«list.__mul__» ⟨[.ref l, .int x u], []⟩) (fun _ R s => s.heap.get? l = some { cls := .type "list", dict := dd, data := .seq items n, slots := sl } /\ R (.ok (.ret (Value.ref s.heap.objs.size))) { s with heap := s.heap.push { cls := Value.type "list", data := Data.seq (List.foldl (fun x1 x2 => x1 ++ x2) #[] (List.replicate (if items.isEmpty = true then 0 else x.toNat) items)) }, toks := s.toks }) :=
 .of_wp fun prog w A R s h => by
  obtain ⟨hp, g, d, tk, os⟩ := s; obtain ⟨hl, h⟩ := h
  have hsz := PySem.AutoListH.joined_fits hc2
  wp_walk; refine wpAny_ite_false (decide_eq_false (Nat.not_lt.mpr hsz)) ?_; wp_walk; exact ⟨_, rfl, h⟩
theorem int_rmulW (a : Int) (t : Tok) (l : Addr) (items : Array Value) (n : Nat) (dd : Option Addr) (sl : Array (Option Value)) :
  Meets (Builtin.«int.__rmul__» ⟨[.int a t, .ref l], []⟩) (fun _ R s => s.heap.get? l = some { cls := .type "list", dict := dd, data := .seq items n, slots := sl } /\ R (.ok (.ret Value.notImplemented)) s) :=
 .of_wp fun prog w A R s h => by obtain ⟨hp, g, d, tk, os⟩ := s; obtain ⟨hl, h⟩ := h; wp_walk; exact ⟨_, rfl, h⟩
def rRepS (K : PySem.W.Frag) : R2 := fun x y H Q => ∃ l k xs, x = .ref l /\ y = .int k /\ SqL K H l xs /\ -(2 ^ 63) <= k /\ k < 2 ^ 63 /\ xs.length * k.toNat <= sizeLine /\
 ∀ p, H p = none -> Q (.ref p) (upd H p (.lst (List.replicate k.toNat xs).flatten))
theorem op_repS {X : Cx} : OpR X (binaryOp .Mult) (rRepS X.K) := by
 intro pins s σ H x y v u Q I rx ry h
 obtain ⟨l, k, xs, rfl, rfl, hH, h1, h2, hz, q⟩ := h
 cases rx
 obtain ⟨t, rfl⟩ := ry
 obtain ⟨its, r, p1, _⟩ := I.list hH
 obtain ⟨⟨cls, dd, data, sl⟩, ho, hc, n, hd⟩ := id p1.isList
 simp only at hc hd
 subst hc hd
 have hl := r.length
 have hlen : its.toArray.size * k.toNat <= sizeLine := by rw [List.size_toArray, <- hl]; exact hz
 have hcap : ¬ its.toArray.size * k.toNat > (2 ^ 63 - 1) / 8 := by
  have : (sizeLine : Nat) <= (2 ^ 63 - 1) / 8 := by decide
  omega
 have hfit : ¬ (!Builtin.List.listFitsIndex k) = true := by
  rw [fitsIndex_both h1 h2]
  exact Bool.false_ne_true
 have hlong : ¬ Builtin.List.listTooLong (its.toArray.size * k.toNat) = true := by
  rw [notLongL hlen]
  exact Bool.false_ne_true
 have hnew : List.foldl (fun x1 x2 => x1 ++ x2) #[] (List.replicate (if its.toArray.isEmpty = true then 0 else k.toNat) its.toArray) = (List.replicate k.toNat its).flatten.toArray := by
  have f0 : ∀ m : Nat, List.foldl (fun x1 x2 => x1 ++ x2) #[] (List.replicate m its.toArray) = (List.replicate m its).flatten.toArray := fun m => by
   have := foldl_rep its m []
   rw [List.nil_append] at this
   exact this
  rw [f0]
  cases its with
  | nil => simp
  | cons a r' => rw [if_neg (by simp)]
 refine wpAny_binaryOp_repeat_ref (T := "list") (U := "int") (by decide) ⟨_, ho, rfl⟩ (fun s' => typeIs_int s' k t) noFill_list_mul F.fills_int_mul F.slot_int_rmul repeat_list F.slot_int_index.lookup
  (PySem.call_meets F.slot_int_rmul (typeIs_int s k t) F.entry_int_rmul (F.args_int_rmul_2 _ _) (int_rmulW k t l its.toArray n dd sl)
   ⟨ho, rfl, ⟨_, ho, rfl⟩, PySem.call_meets F.slot_list_mul ⟨_, ho, rfl⟩ F.entry_list_mul (F.args_list_mul_2 _ _) (list_mulW l its.toArray n k t dd sl hfit hcap hlong) ⟨ho, ?_⟩⟩)
 rw [hnew]
 exact ⟨.ref _, _, I.lnew (t' := s.toks) (r.rep k.toNat) (by rw [len_rep, Nat.mul_comm]; exact hz), rfl, q _ I.fresh⟩
noncomputable def repW : W -> W -> Option W
 | .lst ws, .int k => if okI k = true /\ ws.length * k.toNat <= 16777216 then some (.lst (List.replicate k.toNat ws).flatten) else none
 | _, _ => none
theorem reps_rep {K : PySem.W.Frag} {G : Hp} {ws : List W} {xs : List V} (r : Reps K G ws xs) : ∀ k : Nat, Reps K G (List.replicate k ws).flatten (List.replicate k xs).flatten
 | 0 => rfl
 | k + 1 => by
  rw [List.replicate_succ, List.replicate_succ, List.flatten_cons, List.flatten_cons]
  exact r.append (reps_rep r k)
theorem o2_rep {K : PySem.W.Frag} : Op2 K (rRepS K) repW := by
 intro G H x y wx wy w Q s px py hf h
 unfold repW at hf
 split at hf
 ·rename_i ws k
  split at hf
  ·rename_i hc
   cases hf
   cases (show y = V.int k from py)
   obtain ⟨l, xs, rfl, hq, rp⟩ := px
   have hb := okI_to hc.1
   refine ⟨l, k, xs, rfl, rfl, s.seq hq, by omega, by omega, by rw [sizeLine_eq, rp.length]; exact hc.2, fun p hp => ?_⟩
   have g : Grow G H (upd G p (.lst (List.replicate k.toNat xs).flatten)) (upd H p (.lst (List.replicate k.toNat xs).flatten)) := Grow.laid s hp _
   exact h _ _ _ g ⟨p, _, rfl, SqL.of upd_same, Reps.mono g.gg _ (reps_rep rp _)⟩
  ·cases hf
 ·cases hf
section
variable {X : Cx} {Z : Zt} {EE : St -> XK} {a b : Expr} {da db : Den W} {pos : Pos}
theorem de_rep (ha : DE Z X EE a da) (hb : DE Z X EE b db) : DE Z X EE (.BinOp a .Mult b pos) (dOp repW da db) := de_op op_repS o2_rep ha hb
end
theorem rep_li {ws : List W} {k : Int} : repW (.lst ws) (.int k) = if okI k = true /\ ws.length * k.toNat <= 16777216 then some (.lst (List.replicate k.toNat ws).flatten) else none := rfl
end D
set_option Elab.async false
set_option linter.all false
set_option maxRecDepth 100000
set_option maxHeartbeats 1000000
namespace D
open PySem L2
noncomputable def idxI (x : Int) : List Int -> Option Nat
 | [] => none
 | y :: ys => if y = x then some 0 else (idxI x ys).map (· + 1)
theorem idxI_get {x : Int} : ∀ {ys : List Int} {j : Nat}, idxI x ys = some j -> ys[j]? = some x /\ ∀ (m : Nat) (y : Int), m < j -> ys[m]? = some y -> y ≠ x
 | [], j, h => by cases h
 | y :: ys, j, h => by
  unfold idxI at h
  split at h
  ·rename_i hy
   cases h
   exact ⟨by rw [hy]; rfl, fun m y hm _ => by omega⟩
  ·rename_i hy
   obtain ⟨k, h1, rfl⟩ := Option.map_eq_some_iff.mp h
   obtain ⟨h2, h3⟩ := idxI_get h1
   refine ⟨by simpa using h2, fun m z hm hz => ?_⟩
   cases m with
   | zero => simp at hz; rw [<- hz]; exact hy
   | succ m => exact h3 m z (by omega) (by simpa using hz)
noncomputable def intsW : List W -> Option (List Int)
 | [] => some []
 | .int x :: r => (intsW r).map (x :: ·)
 | _ => none
theorem ints_rep {K : PySem.W.Frag} {G : Hp} : ∀ {ws : List W} {ys : List Int} {xs : List V}, intsW ws = some ys -> Reps K G ws xs -> xs = ys.map V.int
 | [], ys, xs, h, r => by cases h; cases (show xs = [] from r); rfl
 | w :: ws, ys, xs, h, r => by
  unfold intsW at h
  split at h
  ·rename_i z; cases z
  ·rename_i y r' z
   cases z
   obtain ⟨ys', h1, rfl⟩ := Option.map_eq_some_iff.mp h
   obtain ⟨v, vs, rfl, p1, p2⟩ := r
   cases (show v = V.int y from p1)
   rw [ints_rep h1 p2]
   rfl
  ·cases h
noncomputable def indexI : W -> List W -> Option W
 | .lst ws, [.int x] => match intsW ws with
  | some ys => match idxI x ys with
   | some j => some (.int j)
   | none => none
  | none => none
 | _, _ => none
def rIndexI (K : PySem.W.Frag) : V -> List V -> Hp -> VK -> Prop := fun v vs H Q => ∃ b ys x j, v = .ref b /\ vs = [.int x] /\ SqL K H b (ys.map V.int) /\ idxI x ys = some j /\ Q (.int (j : Nat)) H
theorem ints_at : ∀ {ys : List Int} {its : List Value}, Vals (ys.map V.int) its -> ∀ (m : Nat) (u : Value), its[m]? = some u -> ∃ y t, ys[m]? = some y /\ u = .int y t
 | [], its, h, m, u, hu => by cases h; simp at hu
 | y :: ys, its, h, m, u, hu => by
  cases h with
  | cons r t =>
   obtain ⟨k, rfl⟩ := r
   cases m with
   | zero => simp at hu; exact ⟨y, k, rfl, hu.symm⟩
   | succ m => simpa using ints_at t m u (by simpa using hu)
theorem mt_indexI {X : Cx} : MtR X "list.index" (rIndexI X.K) := by
 intro pins s σ H x vs v us Q I rx rv h
 obtain ⟨b, ys, x0, j, rfl, rfl, hB, hj, q⟩ := h
 cases rx
 obtain ⟨u, rfl, ru⟩ := rv.one
 obtain ⟨t, rfl⟩ := ru
 obtain ⟨its, r, pl, hz⟩ := I.list hB
 obtain ⟨⟨cls, dd, data, sl⟩, ho, hc, n, hd⟩ := pl.isList
 simp only at hc hd
 subst hc hd
 obtain ⟨h1, h2⟩ := idxI_get hj
 have hlen := r.length
 rw [List.length_map] at hlen hz
 have hjl : j < ys.length := (List.getElem?_eq_some_iff.mp h1).1
 have hl63 := line63
 let e : Value -> Bool := fun u => match u with | .int y _ => y == x0 | _ => false
 have at' : ∀ (m : Nat) (hm : m < its.toArray.size), ∃ y k, ys[m]? = some y /\ its.toArray[m] = .int y k := fun m hm => by
  have hm' : m < its.length := by simpa using hm
  obtain ⟨y, k, z1, z2⟩ := ints_at r m its[m] (List.getElem?_eq_getElem hm')
  exact ⟨y, k, z1, by simpa using z2⟩
 refine call_meets F.slot_list_index ⟨_, ho, rfl⟩ F.entry_list_index (F.args_list_index_2 _ _) (SeqAt.list_indexAt b its.toArray n dd sl (.int x0 t) e j (by simp only [List.size_toArray]; omega) (by omega) ?_ ?_) ⟨ho, ?_, ?_⟩
 ·obtain ⟨y, k, z1, z2⟩ := at' j (by simp only [List.size_toArray]; omega)
  rw [h1] at z1
  cases z1
  rw [z2]
  simp [e]
 ·intro m hm hlt
  obtain ⟨y, k, z1, z2⟩ := at' m hm
  rw [z2]
  simpa [e] using h2 m y hlt z1
 ·intro y hy
  obtain ⟨m, hm, rfl⟩ := Array.mem_iff_getElem.mp hy
  obtain ⟨y, k, z1, z2⟩ := at' m hm
  rw [z2]
  exact SeqAt.EqAt.int_int y k x0 t
 ·exact ⟨.int j, H, I.tok _, ⟨_, rfl⟩, q⟩
theorem oM_indexI {K : PySem.W.Frag} : OpM K (rIndexI K) indexI := by
 intro G H x xs wx ws w Q s px pr hf h
 unfold indexI at hf
 split at hf
 ·rename_i us x0
  obtain ⟨y, r, rfl, py, pr⟩ := pr
  cases (show r = [] from pr)
  cases py
  split at hf
  ·rename_i ys hy
   split at hf
   ·rename_i j hj
    cases hf
    obtain ⟨a, cs, rfl, hq, rp⟩ := px
    have := ints_rep hy rp
    subst this
    exact ⟨a, ys, x0, j, rfl, rfl, s.seq hq, hj, h G _ H (.refl s) rfl⟩
   ·cases hf
  ·cases hf
 ·cases hf
section
variable {X : Cx} {Z : Zt} {EE : St -> XK} {o e : Expr} {d : Den W} {dA : Den (List W)}
theorem de_indexI {apos cpos : Pos} (ho : DE Z X EE o d) (ha : DA Z X EE [e] dA)
  (hbase : attributeBase o "index" X.env (eval o X.env) = eval o X.env := by rfl)
  (hfew : ((backTo cpos (starEach [e] X.env)).all (fun x => !x.1) && (backToKw cpos (keywordEach [] X.env)).all (fun x => x.1.isSome) && decide ([e].length + ([] : List Keyword).length + (if ([] : List Keyword).isEmpty then 0 else 1) < 30)) = true := by rfl)
  (hline : (apos.endLine == cpos.line) = true := by rfl) (hs : starEach [e] X.env = (false, eval e X.env) :: starEach [] X.env := by rfl) (hplain : (backTo cpos (starEach [] X.env)).any (·.1) = false := by rfl) :
  DE Z X EE (.Call (.Attribute o "index" apos) [e] [] cpos) (dMeth "list" indexI d dA) :=
 de_meth PySem.F.plainAttrs_list PySem.F.slot_list_index PySem.F.type_list_index mt_indexI oM_indexI ho ha hbase hfew hline hs hplain
end
end D
set_option Elab.async false
set_option linter.all false
set_option maxRecDepth 100000
set_option maxHeartbeats 1000000
namespace D
open PySem L2
section
variable {prog : Program} {w : World} {A : Around} {E : Value -> Shared -> Prop} {s : Shared}
structure Apart (z I O i j a b : Addr) : Prop where
 Iz : I ≠ z
 Oz : O ≠ z
 iz : i ≠ z
 jz : j ≠ z
 IO : I ≠ O
 Ii : I ≠ i
 Ij : I ≠ j
 Oi : O ≠ i
 Oj : O ≠ j
 ij : i ≠ j
 az : a ≠ z
 aO : a ≠ O
 ai : a ≠ i
 aj : a ≠ j
 bz : b ≠ z
 bO : b ≠ O
 bi : b ≠ i
 bj : b ≠ j
end
end D
set_option Elab.async false
set_option linter.all false
set_option maxRecDepth 100000
set_option maxHeartbeats 1000000
namespace D
open PySem L2
section
variable {prog : Program} {w : World} {A : Around} {E : Value -> Shared -> Prop} {s : Shared}
end
section
variable {X : Cx} {Z : Zt} {EE : St -> XK} {e1 e2 : Expr} {pos pt : Pos} {dA : Den (List W)} {kt : Nat}
end
end D
set_option Elab.async false
set_option linter.all false
set_option maxRecDepth 100000
set_option maxHeartbeats 1000000
namespace D
open PySem L2
section
variable {X : Cx} {Z : Zt} {EE : St -> XK} {a1 a2 : Expr} {pos pt : Pos} {dA : Den (List W)} {kt : Nat}
end
section
variable {e : List S} {us vs : List W}
end
end D
set_option Elab.async false
set_option linter.all false
set_option maxRecDepth 100000
set_option maxHeartbeats 1000000
namespace D
open PySem L2
noncomputable def dMut0 (i : Nat) (f : List W -> List W) : List S -> SR := fun e => match e[i]? with
 | some (.own b ws) => .nx (e.set i (.own b (f ws)))
 | _ => .no
theorem Reps.rev {K : PySem.W.Frag} {G : Hp} : ∀ {ws : List W} {xs : List V}, Reps K G ws xs -> Reps K G ws.reverse xs.reverse
 | [], xs, h => by cases (show xs = [] from h); exact rfl
 | w :: ws, xs, h => by
  obtain ⟨v, vs, rfl, p, r⟩ := h
  rw [List.reverse_cons, List.reverse_cons]
  exact (Reps.rev r).append (.one p)
section
variable {X : Cx} {Z : Zt} {EE : St -> XK} {x : Str} {p pos : Pos}
theorem ds_rev (i : Nat) {apos cpos : Pos} (hN : X.N[i]? = some x := by rfl) (hv : Vis X.env.scope x := by walk_at "1") (hd : (x == ("__debug__" : Str)) = false := by decide) (hcd : (x == ("__classdict__" : Str)) = false := by decide)
  (hbase : attributeBase (.Name x p) "reverse" X.env (eval (.Name x p) X.env) = eval (.Name x p) X.env := by rfl) (hline : (apos.endLine == cpos.line) = true := by rfl) (hsw : swapsWith (.Call (.Attribute (.Name x p) "reverse" apos) [] [] cpos) none pos.line X.env = pure false := by rfl) :
  DS Z X EE (.Expr (.Call (.Attribute (.Name x p) "reverse" apos) [] [] cpos) pos) (dMut0 i List.reverse) := by
 refine PS.mono (ps_expr (pe_bm0 PySem.F.plainAttrs_list PySem.F.slot_list_reverse PySem.F.type_list_reverse mt_reverse (pv i hN hv hd hcd) hbase hline) hsw) ?_
 rintro D σ H ⟨G, e, rel, h⟩
 unfold dMut0 at h
 split at h
 ·rename_i b ws he
  obtain ⟨a, xs, h1, h2, h3, h4, h5⟩ := rel.own he
  refine ⟨.ref a, h1, .inl ⟨rfl, xs, SqL.of h2⟩, a, xs, rfl, rfl, h2, ?_⟩
  exact h G σ _ (rel.mut he h1 (Reps.rev h5)) (.refl _)
 ·exact h.elim
end
section
variable {X : Cx} {Z : Zt} {EE : St -> XK} {o e a b c : Expr} {d da db dc : Den W} {dA : Den (List W)} {pos p1 p2 p3 : Pos} {kt : Nat} {x y : Str}
end
section
variable {e : List S} {w : W} {ws : List W}
noncomputable def mut0K (i : Nat) (f : List W -> List W) (e : List S) : Option S -> SR
 | some (.own b ws) => .nx (e.set i (.own b (f ws)))
 | _ => .no
theorem dMut0_s {i : Nat} {f : List W -> List W} : dMut0 i f e = mut0K i f e e[i]? := by
 unfold dMut0 mut0K
 cases e[i]? with
 | none => rfl
 | some s => cases s <;> rfl
theorem mut0_own {i : Nat} {f : List W -> List W} {b : Bool} : mut0K i f e (some (.own b ws)) = .nx (e.set i (.own b (f ws))) := rfl
end
end D
set_option Elab.async false
set_option linter.all false
set_option maxRecDepth 100000
set_option maxHeartbeats 1000000
namespace D
open PySem L2
section
variable {X : Cx} {Z : Zt} {EE : St -> XK} {e : Expr} {dA : Den (List W)} {pos p : Pos}
end
theorem ints_of : ∀ ns : List Int, intsW (ns.map .int) = some ns
 | [] => rfl
 | n :: ns => by rw [List.map_cons]; show (intsW (ns.map .int)).map (n :: ·) = _; rw [ints_of ns]; rfl
end D
set_option Elab.async false
set_option linter.all false
set_option maxRecDepth 100000
set_option maxHeartbeats 1000000
namespace D
open PySem L2
noncomputable def hide1 : S -> S
 | .own _ ws => .fr (.lst ws)
 | .dic kvs => .fr (.dic kvs)
 | .thr us ws vs => .fr (.tup (us ++ .lst ws :: vs))
 | .nest wss => .fr (.lst (wss.map W.lst))
 | .dw sh ks ws => .fr (.dw false sh ks ws)
 | s => s
theorem NestIn.reps {K : PySem.W.Frag} {Z : Zt} {G H G' : Hp} (sg : Same G G') (hf : ∀ l o ys, FzAt Z G H l o ys -> G' l = some (.frz o (.lst ys))) : ∀ {ls : List Addr} {wss : List (List W)}, NestIn K Z G H ls wss -> Reps K G' (wss.map W.lst) (ls.map V.ref)
 | [], [], _ => rfl
 | l :: ls, ws :: wss, ⟨⟨o, ys, h1, h4⟩, h⟩ => ⟨.ref l, ls.map V.ref, rfl, ⟨l, ys, rfl, .inl (.inr ⟨o, hf l o ys h1⟩), Reps.mono sg ws h4⟩, h.reps sg hf⟩
 | [], _ :: _, h => h.elim
 | _ :: _, [], h => h.elim
noncomputable def hideS (e : List S) : List S := e.map hide1
noncomputable def borrowR (e : List S) : R W -> R W
 | .ok w _ => if scalW w = true then .ok w e else .no
 | .ex c _ => .ex c e
 | .no => .no
noncomputable def dBorrow (d : Den W) : Den W := fun e => borrowR e (d (hideS e))
noncomputable def borrowT (e : List S) : R Bool -> R Bool
 | .ok b _ => .ok b e
 | .ex c _ => .ex c e
 | .no => .no
noncomputable def dBorrowT (d : Den Bool) : Den Bool := fun e => borrowT e (d (hideS e))
theorem Rel.hide {K : PySem.W.Frag} {Z : Zt} {G H : Hp} {σ : St} {e : List S} (r : Rel K Z G σ H e) : Rel K ⟨H, H, []⟩ H σ H (hideS e) := by
 have g : ∀ (i : Nat) (s : S), (hideS e)[i]? = some s -> ∃ s0, e[i]? = some s0 /\ s = hide1 s0 := fun i s h => by
  unfold hideS at h
  rw [List.getElem?_map] at h
  obtain ⟨s0, h1, h2⟩ := Option.map_eq_some_iff.mp h
  exact ⟨s0, h1, h2.symm⟩
 refine ⟨.refl _, fun i s h => ?_, by unfold hideS; rw [List.length_map]; exact r.len, fun i j b b' ws ws' a h1 _ _ _ => ?_, fun a o h _ => h, (fun a h => nomatch h), fun a _ => rfl⟩
 ·obtain ⟨s0, h0, rfl⟩ := g i s h
  have q := r.slot i s0 h0
  cases s0 with
  | no => trivial
  | fr w =>
   obtain ⟨u, q1, q2⟩ := q
   exact ⟨u, q1, Rep.mono r.sub w q2⟩
  | own b ws =>
   obtain ⟨a, xs, q1, q2, q3, q4, q5⟩ := q
   exact ⟨.ref a, q1, a, xs, rfl, SqL.of q2, Reps.mono r.sub ws q5⟩
  | dic kvs =>
   obtain ⟨a, q1, q2, _⟩ := q
   exact ⟨.ref a, q1, a, rfl, q2⟩
  | thr us ws vs =>
   obtain ⟨t, l, o, xs, ys, zs, q1, q2, q3, _, _, q6, q7, q8⟩ := q
   exact ⟨.ref t, q1, t, _, rfl, SqT.of (r.sub _ _ q2), (Reps.mono r.sub us q6).append ⟨.ref l, zs, rfl, ⟨l, ys, rfl, .inl (.inr ⟨o, q3⟩), Reps.mono r.sub ws q7⟩, Reps.mono r.sub vs q8⟩⟩
  | nest wss =>
   obtain ⟨a, ls, q1, q2, _, q4⟩ := q
   exact ⟨.ref a, q1, a, _, rfl, SqL.of (r.sub _ _ q2), q4.reps r.sub fun l o ys z => z.1⟩
  | dw sh ks ws =>
   obtain ⟨a, kvs, kas, q1, q2, _, _, q5, q6, q7⟩ := q
   exact ⟨.ref a, q1, a, kvs, kas, rfl, q2, q5, q6.mono r.sub, Reps.mono r.sub ws q7⟩
 ·obtain ⟨s0, _, h2⟩ := g i _ h1
  cases s0 <;> cases h2
theorem Rel.back {K : PySem.W.Frag} {Z : Zt} {G G2 H H2 : Hp} {σ : St} {e e2 : List S} (r : Rel K Z G σ H e) (r2 : Rel K ⟨H, H, []⟩ G2 σ H2 e2) : Rel K Z G σ H2 e := by
 have hh : Same H H2 := fun a o h => r2.ent a o h (fun z => nomatch z)
 exact r.grow ⟨hh, .refl _, fun a o h => hh a o (r.sub a o h), fun _ _ => rfl⟩
theorem scal_any {K : PySem.W.Frag} {G G' : Hp} {w : W} {v : V} (h : scalW w = true) (p : Rep K G w v) : Rep K G' w v := by
 cases w with
 | non => exact p
 | bl b => exact p
 | int b => exact p
 | str b => exact p
 | _ => cases h
section
variable {X : Cx} {Z : Zt} {EE : St -> XK} {e : Expr} {d : Den W} {c : Den Bool}
theorem de_borrow (he : ∀ Z', DE Z' X EE e d) : DE Z X EE e (dBorrow d) := by
 intro pins s σ H Q I hq
 obtain ⟨G, e0, rel, h⟩ := hq
 refine he ⟨H, H, []⟩ pins s σ H Q I ⟨H, hideS e0, rel.hide, ?_⟩
 unfold dBorrow borrowR at h
 cases q : d (hideS e0) with
 | ok w e2 =>
  rw [q] at h
  dsimp only at h
  split at h
  ·rename_i hs
   intro G2 v H2 r2 s2 p
   exact h G v H2 (rel.back r2) (.refl _) (scal_any hs p)
  ·exact h.elim
 | ex k e2 =>
  rw [q] at h
  intro G2 H2 r2 s2
  exact h G H2 (rel.back r2) (.refl _)
 | no => rw [q] at h; exact h.elim
theorem dt_borrow (he : ∀ Z', DT Z' X EE e c) : DT Z X EE e (dBorrowT c) := by
 intro pins s σ H Q I hq
 obtain ⟨G, e0, rel, h⟩ := hq
 refine he ⟨H, H, []⟩ pins s σ H Q I ⟨H, hideS e0, rel.hide, ?_⟩
 unfold dBorrowT borrowT at h
 cases q : c (hideS e0) with
 | ok w e2 =>
  rw [q] at h
  intro G2 H2 r2 s2
  exact h G H2 (rel.back r2) (.refl _)
 | ex k e2 =>
  rw [q] at h
  intro G2 H2 r2 s2
  exact h G H2 (rel.back r2) (.refl _)
 | no => rw [q] at h; exact h.elim
end
section
variable {e e' : List S} {w : W} {ws : List W} {v : Value} {k : Bool} {s : S} {p : Prop} [Decidable p]
theorem dBorrow_s {d : Den W} : dBorrow d e = borrowR e (d (hideS e)) := rfl
theorem dBorrowT_s {d : Den Bool} : dBorrowT d e = borrowT e (d (hideS e)) := rfl
theorem borrow_ok : borrowR e (.ok w e') = if scalW w = true then .ok w e else .no := rfl
theorem borrow_ex : borrowR e (.ex v e') = .ex v e := rfl
theorem borrowT_ok : borrowT e (.ok k e') = .ok k e := rfl
theorem borrowT_ex : borrowT e (.ex v e') = .ex v e := rfl
theorem borrow_ite {x y : R W} : borrowR e (if p then x else y) = if p then borrowR e x else borrowR e y := by split <;> rfl
theorem borrowT_ite {x y : R Bool} : borrowT e (if p then x else y) = if p then borrowT e x else borrowT e y := by split <;> rfl
theorem hide_nil : hideS [] = [] := rfl
theorem hide_cons : hideS (s :: e) = hide1 s :: hideS e := rfl
theorem hide_own {b : Bool} : hide1 (.own b ws) = .fr (.lst ws) := rfl
theorem hide_fr : hide1 (.fr w) = .fr w := rfl
theorem hide_no : hide1 .no = .no := rfl
end
end D
set_option Elab.async false
set_option linter.all false
set_option maxRecDepth 100000
set_option maxHeartbeats 4000000
namespace L2
open PySem PySem.Spec PyProof.Rows
structure FlyA (outer : List Env) (H H' : Hp) (h h' : Heap) (e : Addr) (cls : Value) (B : Heap) : Prop where
 stay : B.StaysIn h'
 bare : B.get? e = none
 ff : h'.FunFrames B outer
 tr : ∃ a0 fl, h'.TracedAtW B e cls a0 fl
 old : ∀ b o, h.get? b = some o -> H b = none -> b ∉ frs outer -> B.get? b = some o
 trk : ∀ b u o, H' b = some u -> h'.get? b = some o -> B.get? b = some o
 all : ∀ b o, h.get? b = some o -> b ∈ frs outer \/ ∃ o', B.get? b = some o'
 new : h.get? e = none
section
variable {M : Model} {A : Around} {E : Value -> Shared -> Prop} {s : Shared}
end
section
variable {P : Program} {w : World} {K : PySem.W.Frag} {mg : Str -> Option Value} {base : Heap} {N : List Str} {qual : Str} {scope : Scope} {f : Addr} {cd : Value} {A : Around} {outer : List Env} {s₀ : Shared} {H₀ : Hp} {E : XK}
end
section
variable {X : Cx} {pins : List (Addr × Obj)} {σ : St} {H : Hp} {s : Shared}
end
section
variable {X : Cx} {elt target iter : Expr} {ifs : List Expr} {scope : Scope} {pos : Pos} {wi : TI} {g : TG} {tc : (St -> XK) -> TT} {te : (St -> XK) -> TE}
end
end L2
set_option Elab.async false
set_option linter.all false
set_option maxRecDepth 100000
set_option maxHeartbeats 1000000
namespace D
open PySem L2
noncomputable def compX (c : Den Bool) (d : Den W) (pe : List S) : List W -> Option (Value ⊕ List W)
 | [] => some (.inr [])
 | w :: ws => match c (.fr w :: pe) with
  | .ok true e1 => match d e1 with
   | .ok y _ => (compX c d pe ws).map (Sum.map id (y :: ·))
   | .ex k _ => some (.inl k)
   | .no => none
  | .ok false _ => compX c d pe ws
  | .ex k _ => some (.inl k)
  | .no => none
noncomputable def compXR (e : List S) : Option (Value ⊕ List W) -> R (List W)
 | some (.inr out) => .ok out e
 | some (.inl k) => .ex k e
 | none => .no
noncomputable def compKX (js : List Nat) (c : Den Bool) (d : Den W) (ws : List W) (e1 : List S) : R (List W) :=
 if ws.length <= 16777216 then compXR (frzs js e1) (compX c d (pjS js (frzs js e1)) ws) else .no
theorem compKX_s {js : List Nat} {cc : Den Bool} {d : Den W} {ws : List W} {e : List S} : compKX js cc d ws e = if ws.length <= 16777216 then compXR (frzs js e) (compX cc d (pjS js (frzs js e)) ws) else .no := rfl
theorem compXR_ok {out : List W} {e : List S} : compXR e (some (.inr out)) = .ok out e := rfl
theorem compXR_ex {k : Value} {e : List S} : compXR e (some (.inl k)) = .ex k e := rfl
section
variable {K : PySem.W.Frag} {Z : Zt} {G G1 H H1 : Hp} {σ : St} {e e1 : List S}
end
section
variable {X : Cx} {Z : Zt} {EE : St -> XK} {elt iter a b : Expr} {ifs : List Expr} {scope sc : Scope} {pos pt : Pos} {x : Str} {Nf N : List Str} {js : List Nat} {di : Den W} {dA : Den (List W)} {c : Den Bool} {d : Den W}
theorem compKX_holds {ws : List W} {P : List W -> List S -> Prop} {Ex : Value -> List S -> Prop} {e1 : List S} (h : (compKX js c d ws e1).holds P Ex) : ws.length <= 16777216 /\ ∃ out, compX c d (pjS js (frzs js e1)) ws = some out /\ Sum.elim (fun k => Ex k (frzs js e1)) (fun o => P o (frzs js e1)) out := by
 unfold compKX at h
 split at h
 ·rename_i hl
  cases ho : compX c d (pjS js (frzs js e1)) ws with
  | none => rw [ho] at h; exact h.elim
  | some out => rw [ho] at h; exact ⟨hl, out, rfl, by cases out <;> exact h⟩
 ·exact h.elim
end
end D
set_option Elab.async false
set_option linter.all false
set_option maxRecDepth 100000
set_option maxHeartbeats 4000000
namespace L2
open PySem PySem.Spec PyProof.Rows
def Rise (t : SetTable) : Prop := t.place.toList.Pairwise (· < ·) /\ t.dummies = #[]
noncomputable def valI : Value -> Int
 | .int n _ => n
 | _ => 0
structure SetData (prog : Program) (w : World) (es : Array (Int × Value)) (t : SetTable) (S : List Int) : Prop where
 el : ElemsOf (intKind prog w) es.toList
 sz : es.size < scanBound
 fit : t.fits es.size = true
 rise : Rise t
 led : t.led = !w.params.followText "set-order"
 whole : ∀ e ∈ es.toList, ∃ n k, e.2 = Value.int n k
 perm : (es.toList.map fun e => valI e.2).Perm S
noncomputable def stepD (S : List Int) (k : Int) : List Int := if k ∈ S then S else S ++ [k]
section
variable {prog : Program} {w : World} {A : Around} {E : Value -> Shared -> Prop} {s : Shared} {a : Addr} {S : List Int} {es : Array (Int × Value)} {t : SetTable} {ep : Nat} {o : Obj}
end
end L2
set_option Elab.async false
set_option linter.all false
set_option maxRecDepth 100000
set_option maxHeartbeats 4000000
namespace L2
open PySem PySem.Spec PyProof.Rows
theorem fold_len : ∀ (ns S : List Int), (ns.foldl stepD S).length <= S.length + ns.length
 | [], S => by simp
 | n :: ns, S => by
  have := fold_len ns (stepD S n)
  have h2 : (stepD S n).length <= S.length + 1 := by unfold stepD; split <;> simp
  simp only [List.foldl_cons, List.length_cons]
  omega
section
variable {prog : Program} {w : World} {A : Around} {E : Value -> Shared -> Prop} {s : Shared}
end
end L2
set_option Elab.async false
set_option linter.all false
set_option maxRecDepth 100000
set_option maxHeartbeats 4000000
namespace L2
open PySem PySem.Spec PyProof.Rows
noncomputable def slotAt (t : SetTable) (i : Nat) : Nat := match i with
 | 0 => 0
 | i + 1 => t.place.getD i 0 + 1
section
variable {prog : Program} {w : World} {A : Around} {E : Value -> Shared -> Prop} {s : Shared}
end
section
variable {prog : Program} {w : World} {A : Around} {E : Value -> Shared -> Prop} {s : Shared} {a : Addr} {o : Obj} {es : Array (Int × Value)} {ep : Nat} {t : SetTable} {ord : List Value} {i sl : Nat}
end
end L2
set_option Elab.async false
set_option linter.all false
set_option maxRecDepth 100000
set_option maxHeartbeats 4000000
namespace L2
open PySem PySem.Spec PyProof.Rows
namespace SI
theorem own : Manifest.owners.lookup (String.ofList ['r', 'o', 't', 'a', 'r', 'e', 't', 'i', '_', 't', 'e', 's'].reverse) = some Manifest.sig_set_iterator := by kernel_rfl
theorem next : Slot "set_iterator" "__next__" "set_iterator.__next__" := .of (owner := "set_iterator") (n := "__next__") (by rw [typeLookup_type, builtinLookup_eq_fast]; kernel_rfl) (by decide +kernel) (by decide +kernel) (by decide +kernel) (by first | exact .inl (by decide +kernel) | exact .inr (by decide +kernel)) (by rw [isSubtype_type]; kernel_rfl)
theorem iter : Slot "set_iterator" "__iter__" "set_iterator.__iter__" := .of (owner := "set_iterator") (n := "__iter__") (by rw [typeLookup_type, builtinLookup_eq_fast]; kernel_rfl) (by decide +kernel) (by decide +kernel) (by decide +kernel) (by first | exact .inl (by decide +kernel) | exact .inr (by decide +kernel)) (by rw [isSubtype_type]; kernel_rfl)
end SI
section
variable {prog : Program} {w : World} {A : Around} {E : Value -> Shared -> Prop} {s : Shared} {I a T : Addr} {es : Array (Int × Value)} {ep : Nat} {t : SetTable} {ord : List Value} {i : Nat}
end
end L2
set_option Elab.async false
set_option linter.all false
set_option maxRecDepth 100000
set_option maxHeartbeats 4000000
namespace L2
open PySem PySem.Spec PyProof.Rows
section
variable {prog : Program} {w : World} {A : Around} {E : Value -> Shared -> Prop} {s : Shared} {I a T : Addr} {es : Array (Int × Value)} {ep : Nat} {t : SetTable} {ord : List Value} {S : List Int}
end
end L2
set_option Elab.async false
set_option linter.all false
set_option maxRecDepth 100000
set_option maxHeartbeats 1000000
namespace D
open PySem L2
section
variable {X : Cx} {Z : Zt} {EE : St -> XK} {e : Expr} {dA : Den (List W)} {p1 p2 pos1 pos2 : Pos}
end
end D
set_option Elab.async false
set_option linter.all false
set_option maxRecDepth 100000
set_option maxHeartbeats 1000000
namespace D
open PySem L2
section
variable (l : Addr) (items : Array Value) (n : Nat) (k : Int) (u : Tok) (dd : Option Addr) (sl : Array (Option Value))
end
section
variable {X : Cx} {Z : Zt} {EE : St -> XK} {a b : Expr} {da db : Den W} {pos : Pos}
end
end D
set_option Elab.async false
set_option linter.all false
set_option maxRecDepth 100000
set_option maxHeartbeats 1000000
namespace D
open PySem L2
section
variable {X : Cx} {Z : Zt} {EE : St -> XK} {e : Expr} {dA : Den (List W)} {pos p : Pos}
end
section
variable {X : Cx} {Z : Zt} {EE : St -> XK} {a b : Expr} {da db : Den W} {pos : Pos}
end
section
variable {X : Cx} {pins : List (Addr × Obj)} {σ : St} {H G : Hp} {s : Shared}
end
section
variable {X : Cx} {Z : Zt} {EE : St -> XK} {e : Expr} {dA : Den (List W)} {pos p : Pos}
end
end D
set_option Elab.async false
set_option linter.all false
set_option maxRecDepth 100000
set_option maxHeartbeats 1000000
namespace D
open PySem L2
mutual
noncomputable def plainW : W -> Bool
 | .non => true
 | .bl _ => true
 | .int i => decide (0 <= i /\ i < 32)
 | .tup ws => plainWs ws
 | .lst ws => plainWs ws
 | _ => false
noncomputable def plainWs : List W -> Bool
 | [] => true
 | w :: ws => plainW w && plainWs ws
end
mutual
noncomputable def wgt : W -> Nat
 | .int i => (PyData.int i).weight
 | .tup ws => wgts ws
 | .lst ws => wgts ws
 | _ => 0
noncomputable def wgts : List W -> Nat
 | [] => 0
 | w :: ws => wgt w + 1 + wgts ws
end
theorem plain_bools : ∀ bs : List Bool, plainWs (bs.map .bl) = true /\ depWs (bs.map .bl) = 0 /\ wgts (bs.map .bl) = bs.length
 | [] => ⟨rfl, rfl, rfl⟩
 | b :: bs => by
  obtain ⟨h1, h2, h3⟩ := plain_bools bs
  refine ⟨h1, ?_, ?_⟩
  ·show max 0 (depWs (bs.map .bl)) = 0; omega
  ·show 0 + 1 + wgts (bs.map .bl) = _; rw [h3, List.length_cons]; omega
end D
set_option Elab.async false
set_option linter.all false
set_option maxRecDepth 100000
set_option maxHeartbeats 1000000
namespace D
open PySem L2
theorem getD_lt {l : List Int} {i : Nat} (h : i < l.length) : l.getD i 0 = l[i] := by
 unfold List.getD
 rw [List.getElem?_eq_getElem h]
 rfl
section
variable {X : Cx} {Z : Zt} {EE : St -> XK} {e : Expr} {dA : Den (List W)} {pos p : Pos}
end
end D
set_option Elab.async false
set_option linter.all false
set_option maxRecDepth 100000
set_option maxHeartbeats 1000000
namespace D
open PySem L2 PySem.Spec PyProof.Rows
section
variable {prog : Program} {w : World} {A : Around} {E : Value -> Shared -> Prop} {s : Shared}
end
section
variable {X : Cx} {Z : Zt} {EE : L2.St -> XK} {e : Expr} {d : Den W} {x y : Str} {p1 p2 p3 pos : Pos} {kt : Nat}
end
end D
set_option Elab.async false
set_option linter.all false
set_option maxRecDepth 100000
set_option maxHeartbeats 1000000
namespace D
open PySem L2 PySem.Spec PyProof.Rows
section
variable {X : Cx} {a : Expr} {ta : TA} {p p2 pos pos2 : Pos}
def tLR (ta : TA) : TE := fun σ H Q => ta σ H fun vs H1 => ∃ j : Int, vs = [.int j] /\ j.toNat <= 16777216 /\ -(2 ^ 62) <= j /\ ∀ l, H1 l = none -> Q (.ref l) (upd H1 l (.lst ((List.range j.toNat).map fun (k : Nat) => V.int (k : Int))))
theorem vals_of {vs : List V} {us : List Value} (hl : vs.length = us.length) (h : ∀ (i : Nat) (h1 : i < vs.length) (h2 : i < us.length), RelV vs[i] us[i]) : Vals vs us := by
 induction vs generalizing us with
 | nil =>
  cases us with
  | nil => exact .nil
  | cons u us => simp at hl
 | cons v vs ih =>
  cases us with
  | nil => simp at hl
  | cons u us =>
   refine .cons (h 0 (by simp) (by simp)) (ih (by simpa using hl) fun i h1 h2 => ?_)
   have := h (i + 1) (by simpa using h1) (by simpa using h2)
   simpa using this
theorem pe_listR (hc : X.calm = true) (hgl : Gl X "list") (hml : X.mg "list" = none) (hg : Gl X "range") (hm : X.mg "range" = none) (ha : PA X [a] ta) (hs : starEach [a] X.env = [(false, eval a X.env)] := by rfl)
  (he : starEach [.Call (.Name "range" p2) [a] [] pos2] X.env = [(false, eval (.Call (.Name "range" p2) [a] [] pos2) X.env)] := by rfl) : PE X (.Call (.Name "list" p) [.Call (.Name "range" p2) [a] [] pos2] [] pos) (tLR ta) := by
 intro pins s σ H Q I h
 refine wpAny_Call_Name_kw (ld_blt I hgl hml PyProof.Rows.Boot.«list» ?_ (by decide) (by decide))
 refine PyProof.Rows.callWith_type1 ?_ (by rw [he]; rfl) rfl
 rw [he]
 show wpAny _ _ (spliced ((false, eval (.Call (.Name "range" p2) [a] [] pos2) X.env) :: [])) _ _ s
 refine Calls.spliced_cons ?_
 refine Call_ (ld_blt I hg hm boot_range (PyProof.Rows.callWith_type1 (thn (ha pos2 pins s σ H _ I h) fun us s1 ⟨vs, H1, I1, r1, q1⟩ => ?_) hs rfl))
 obtain ⟨j, e, z1, z2, q⟩ := q1
 subst e
 cases r1 with
 | cons r rr =>
  cases rr
  obtain ⟨t, rfl⟩ := r
  refine call_range_1 (Calls.spliced_nil ?_)
  have I2 : Inv X pins σ H1 { s1 with heap := s1.heap.push { cls := .type "range", data := .fields #[.int 0 s1.toks, .int j t, .int 1 (s1.toks + 1)] }, toks := s1.toks + 1 + 1 } := I1.kept fun b o e => Heap.get?_push_of_some _ e
  have hn : Builtin.Range.rangeSize 0 j 1 = ((j.toNat : Nat) : Int) := by rw [rangeSize_one]; split <;> omega
  refine call_list_range (I.ok.hd hc) (IsRange.new ..) (small_one (by omega) (by omega) z2 (by omega)) hn (by omega) fun h' tk acc' c' hk hS' hacc => ?_
  refine ⟨.ref _, _, I2.laid (t' := tk) hk (Nat.le_refl _) (show ObjOk X.prog X.w _ h' _ (.lst ((List.range j.toNat).map fun (k : Nat) => V.int (k : Int))) from ⟨by simp [sizeLine]; omega, acc'.toList, c', vals_of (by simp [hacc.1]) (fun i h1 h2 => ?_), by simpa using hS'⟩), rfl, q _ (I2.hok.fresh (Nat.le_refl _))⟩
  have h2' : i < acc'.size := by simpa using h2
  obtain ⟨t2, e2⟩ := hacc.2 i acc'[i] (by simp [h2'])
  have e3 : acc'.toList[i] = .int (0 + (i : Int) * 1) t2 := by simpa using e2
  rw [e3]
  simp only [List.getElem_map, List.getElem_range]
  exact ⟨t2, by simp⟩
end
section
variable {X : Cx} {Z : Zt} {EE : L2.St -> XK} {e : Expr} {dA : Den (List W)} {p p2 pos pos2 : Pos}
noncomputable def listR1 : List W -> Option (List W)
 | [.int j] => if j.toNat <= 16777216 /\ -(2 ^ 62) <= j then some ((List.range j.toNat).map fun (k : Nat) => W.int (k : Int)) else none
 | _ => none
noncomputable def dListR (dA : Den (List W)) : Den (List W) := fun e => (dA e).bind fun ws e1 => ofOpt (listR1 ws) e1
theorem reps_nats {K : PySem.W.Frag} {G : Hp} : ∀ ks : List Nat, Reps K G (ks.map fun (k : Nat) => W.int (k : Int)) (ks.map fun (k : Nat) => V.int (k : Int))
 | [] => rfl
 | k :: ks => ⟨_, _, rfl, rfl, reps_nats ks⟩
theorem df_listR (hc : X.calm = true) (hml : X.mg "list" = none) (hm : X.mg "range" = none) (ha : DA Z X EE [e] dA) (hgl : Gl X "list" := by rfl) (hg : Gl X "range" := by rfl) (hs : starEach [e] X.env = [(false, eval e X.env)] := by rfl)
  (he : starEach [.Call (.Name "range" p2) [e] [] pos2] X.env = [(false, eval (.Call (.Name "range" p2) [e] [] pos2) X.env)] := by rfl) : DF Z X EE (.Call (.Name "list" p) [.Call (.Name "range" p2) [e] [] pos2] [] pos) (dListR dA) := by
 refine PE.mono (pe_listR hc hgl hml hg hm ha hs he) ?_
 rintro σ H Q ⟨G, e, rel, h⟩
 simp only [dListR, R.holds_bind, ofOpt_holds] at h
 refine ⟨G, e, rel, h.imp (fun ws e1 h G1 vs H1 r1 s1 p1 => ?_) fun _ _ h => h⟩
 obtain ⟨out, hf, h⟩ := h
 unfold listR1 at hf
 split at hf
 ·rename_i j
  split at hf
  ·rename_i hj
   cases hf
   obtain ⟨y, r, rfl, py, pr⟩ := p1
   cases (show r = [] from pr)
   cases (show y = V.int j from py)
   exact ⟨j, rfl, hj.1, hj.2, new_list r1 s1 (reps_nats _) h⟩
  ·cases hf
 ·cases hf
end
theorem listR_i {j : Nat} (h : j <= 16777216) : listR1 [.int (j : Int)] = some ((List.range j).map fun (k : Nat) => W.int (k : Int)) := by
 show (if ((j : Int)).toNat <= 16777216 /\ -(2 ^ 62) <= (j : Int) then _ else _) = _
 rw [if_pos ⟨by omega, by omega⟩]
 rfl
theorem dListR_s {dA : Den (List W)} {e : List S} : dListR dA e = (dA e).bind fun ws e1 => ofOpt (listR1 ws) e1 := rfl
end D
set_option Elab.async false
set_option linter.all false
set_option maxRecDepth 100000
set_option maxHeartbeats 1000000
namespace D
open PySem L2
section
variable {X : Cx} {Z : Zt} {EE : St -> XK} {e : Expr} {dA : Den (List W)} {pos p : Pos}
end
end D
set_option Elab.async false
set_option linter.all false
set_option maxRecDepth 100000
namespace L2
open PySem PySem.Spec PyProof.Rows
section
variable {κ : Type} [DecidableEq κ]
noncomputable def valV (kvs : List (κ × V)) (k : κ) : Option V := (kvs.find? fun kv => decide (kv.1 = k)).map (·.2)
noncomputable def putK (kvs : List (κ × V)) (k : κ) (v : V) : List (κ × V) :=
 if (kvs.any fun kv => decide (kv.1 = k)) = true then kvs.map (fun kv => if kv.1 = k then (kv.1, v) else kv) else kvs ++ [(k, v)]
theorem valV_pos {p : κ × V} {r : List (κ × V)} {k : κ} (e : p.1 = k) : valV (p :: r) k = some p.2 := by simp [valV, List.find?_cons, e]
theorem valV_neg {p : κ × V} {r : List (κ × V)} {k : κ} (e : ¬ p.1 = k) : valV (p :: r) k = valV r k := by simp [valV, List.find?_cons, e]
theorem valV_any (k : κ) : ∀ kvs : List (κ × V), (kvs.any fun kv => decide (kv.1 = k)) = (valV kvs k).isSome
 | [] => rfl
 | p :: r => by
  rw [List.any_cons]
  by_cases e : p.1 = k
  ·simp only [valV_pos e, decide_eq_true e, Bool.true_or, Option.isSome_some]
  ·rw [valV_neg e, decide_eq_false e, Bool.false_or]; exact valV_any k r
theorem length_putK (kvs : List (κ × V)) (k : κ) (v : V) : (putK kvs k v).length <= kvs.length + 1 := by
 unfold putK
 split
 ·rw [List.length_map]; omega
 ·rw [List.length_append, List.length_cons, List.length_nil]; omega
theorem putK_new {kvs : List (κ × V)} {k : κ} (v : V) (h : valV kvs k = none) : putK kvs k v = kvs ++ [(k, v)] := by
 unfold putK
 rw [valV_any, h]
 exact if_neg (by decide)
theorem RelO.isSome_eq {o : Option V} {u : Option Value} (r : RelO o u) : o.isSome = u.isSome := by
 cases o with
 | none => cases u with
  | none => rfl
  | some _ => exact (show False from r).elim
 | some _ => cases u with
  | none => exact (show False from r).elim
  | some _ => rfl
theorem KV.val {kvs : List (κ × V)} {vs : List (κ × Value)} (r : KV kvs vs) (k : κ) : RelO (valV kvs k) (valueAt vs k) := by
 unfold KV at r
 induction r with
 | nil => exact True.intro
 | @cons p q ps qs h t ih =>
  obtain ⟨h1, h2⟩ := h
  by_cases e : p.1 = k
  ·have e' : q.1 = k := h1.symm.trans e
   have b : valueAt (q :: qs) k = some q.2 := by simp [valueAt, List.find?_cons, e']
   rw [valV_pos e, b]; exact h2
  ·have e' : ¬ q.1 = k := fun z => e (h1.trans z)
   have b : valueAt (q :: qs) k = valueAt qs k := by simp [valueAt, List.find?_cons, e']
   rw [valV_neg e, b]; exact ih
theorem KV.any {kvs : List (κ × V)} {vs : List (κ × Value)} (r : KV kvs vs) (k : κ) : (kvs.any fun kv => decide (kv.1 = k)) = vs.any fun kv => decide (kv.1 = k) := by
 unfold KV at r
 induction r with
 | nil => rfl
 | cons h t ih => rw [List.any_cons, List.any_cons, ih, h.1]
theorem KV.repl {kvs : List (κ × V)} {vs : List (κ × Value)} (r : KV kvs vs) (k : κ) {y : V} {u : Value} (ry : RelV y u) :
  KV (kvs.map fun kv => if kv.1 = k then (kv.1, y) else kv) (vs.map fun kv => if kv.1 = k then (kv.1, u) else kv) := by
 unfold KV at r |-
 induction r with
 | nil => exact .nil
 | @cons p q ps qs h t ih =>
  rw [List.map_cons, List.map_cons]
  refine .cons ?_ ih
  obtain ⟨h1, h2⟩ := h
  by_cases e : p.1 = k
  ·rw [if_pos e, if_pos (h1.symm.trans e)]; exact ⟨h1, ry⟩
  ·rw [if_neg e, if_neg (fun z => e (h1.trans z))]; exact ⟨h1, h2⟩
theorem KV.put {kvs : List (κ × V)} {vs : List (κ × Value)} (r : KV kvs vs) (k : κ) {y : V} {u : Value} (ry : RelV y u) : KV (putK kvs k y) (stored vs k u) := by
 unfold putK stored
 rw [r.any k]
 by_cases e : (vs.any fun kv => decide (kv.1 = k)) = true
 ·rw [if_pos e, if_pos e]; exact r.repl k ry
 ·rw [if_neg e, if_neg e]; exact Paired.snoc r ⟨rfl, ry⟩
theorem KV.length {kvs : List (κ × V)} {vs : List (κ × Value)} (r : KV kvs vs) : kvs.length = vs.length := Paired.length r
end
theorem kV_is {P : Program} {w : World} {k : Key} {u : Value} (r : RelV (kV k) u) : (mixKind P w).is k u = true := by
 cases k with
 | inl i => obtain ⟨t, e⟩ := (show ∃ t, u = Value.int i t from r); subst e; exact mixKind_int P w i t
 | inr x => obtain ⟨t, e⟩ := (show ∃ t, u = Value.str x t from r); subst e; exact mixKind_str P w x t
abbrev KT (sh : Sh) (H : Hp) : List (Kx × V) -> List (Kx × Addr × Value) -> Prop := Paired fun p q => p.1 = q.1 /\ (KRep H p.1 (.ref q.2.1) /\ Conf p.1 sh /\ p.1.depth <= 7) /\ RelV p.2 q.2.2
theorem KT.val {sh : Sh} {H : Hp} {kvs : List (Kx × V)} {xs : List (Kx × Addr × Value)} (r : KT sh H kvs xs) (k : Kx) : RelO (valV kvs k) ((atKey xs k).map (·.2)) := by
 induction r with
 | nil => exact True.intro
 | @cons p q ps qs h t ih =>
  obtain ⟨h1, _, h2⟩ := h
  by_cases e : p.1 = k
  ·have e' : q.1 = k := h1.symm.trans e
   have b : atKey (q :: qs) k = some q.2 := by simp [atKey, List.find?_cons, e']
   rw [valV_pos e, b]; exact h2
  ·have e' : ¬ q.1 = k := fun z => e (h1.trans z)
   have b : atKey (q :: qs) k = atKey qs k := by simp [atKey, List.find?_cons, e']
   rw [valV_neg e, b]; exact ih
theorem KT.repl {sh : Sh} {H : Hp} {kvs : List (Kx × V)} {xs : List (Kx × Addr × Value)} (r : KT sh H kvs xs) (k : Kx) {y : V} {u : Value} (ry : RelV y u) :
  KT sh H (kvs.map fun kv => if kv.1 = k then (kv.1, y) else kv) (xs.map (putAt k u)) := by
 induction r with
 | nil => exact .nil
 | @cons p q ps qs h t ih =>
  rw [List.map_cons, List.map_cons]
  refine .cons ?_ ih
  obtain ⟨h1, h2, h3⟩ := h
  unfold putAt
  by_cases e : p.1 = k
  ·rw [if_pos e, if_pos (h1.symm.trans e)]; exact ⟨h1, h2, ry⟩
  ·rw [if_neg e, if_neg (fun z => e (h1.trans z))]; exact ⟨h1, h2, h3⟩
theorem KT.put {sh : Sh} {H : Hp} {kvs : List (Kx × V)} {xs : List (Kx × Addr × Value)} (r : KT sh H kvs xs) (k : Kx) {b : Addr} {y : V} {u : Value} (hb : KRep H k (.ref b) /\ Conf k sh /\ k.depth <= 7) (ry : RelV y u) :
  KT sh H (putK kvs k y) (storedH xs k b u) := by
 have e : (kvs.any fun kv => decide (kv.1 = k)) = (atKey xs k).isSome := by
  rw [valV_any, (r.val k).isSome_eq, Option.isSome_map]
 unfold putK storedH
 rw [e]
 by_cases q : (atKey xs k).isSome = true
 ·rw [if_pos q, if_pos q]; exact r.repl k ry
 ·rw [if_neg q, if_neg q]; exact Paired.snoc r ⟨rfl, hb, ry⟩
noncomputable def putAd (kvs : List (Kx × V)) (kas : List Addr) (k : Kx) (b : Addr) : List Addr := if (valV kvs k).isSome = true then kas else kas ++ [b]
theorem KT.putAd {sh : Sh} {H : Hp} {kvs : List (Kx × V)} {xs : List (Kx × Addr × Value)} {kas : List Addr} (r : KT sh H kvs xs) (ka : xs.map (·.2.1) = kas) (k : Kx) {b : Addr} {u : Value} : (storedH xs k b u).map (·.2.1) = L2.putAd kvs kas k b := by
 unfold storedH L2.putAd
 rw [(r.val k).isSome_eq, Option.isSome_map]
 by_cases q : (atKey xs k).isSome = true
 ·rw [if_pos q, if_pos q, List.map_map, <- ka]
  refine List.map_congr_left fun x _ => ?_
  show (putAt k u x).2.1 = x.2.1
  unfold putAt
  split <;> rfl
 ·rw [if_neg q, if_neg q, List.map_append, ka]
  rfl
theorem KT.keeps {sh : Sh} {H H' : Hp} {kvs : List (Kx × V)} {xs : List (Kx × Addr × Value)} (r : KT sh H kvs xs) (ht : ∀ b u, TupLike u -> H b = some u -> H' b = some u) : KT sh H' kvs xs :=
 Paired.mapP r fun _ _ z => ⟨z.1, ⟨KRep.keeps ht _ z.2.1.1, z.2.1.2⟩, z.2.2⟩
section
variable {P : Program} {w : World} {H : Hp} {h : Heap} {a : Addr}
theorem rd_of {u : HO} (ok : HOk P w H h) (e : Rd H a u) : ObjOk P w H h a u := e.ok ok
theorem dk_rd {kvs : List (Key × V)} (ok : HOk P w H h) (e : Rd H a (.dK kvs)) : kvs.length <= sizeLine /\ (a == sysModules) = false /\ ∃ vs, KV kvs vs /\ h.DictOf (mixKind P w) a vs :=
 show ObjOk P w H h a (.dK kvs) from rd_of ok e
theorem dk_of {kvs : List (Key × V)} (ok : HOk P w H h) (e : H a = some (.dK kvs)) : kvs.length <= sizeLine /\ (a == sysModules) = false /\ ∃ vs, KV kvs vs /\ h.DictOf (mixKind P w) a vs := dk_rd ok (.inl e)
theorem IsTup.seq {h : Heap} {a : Addr} {its : List Value} (p : IsTup h a its.toArray) : ∃ o n, h.get? a = some o /\ o.cls = .type "tuple" /\ o.data = .seq its.toArray n := by
 obtain ⟨o, h1, h2, n, h3⟩ := p
 exact ⟨o, n, h1, h2, h3⟩
mutual
theorem KRep.is (ok : HOk P w H h) : ∀ (k : Kx) {x : V} {v : Value}, KRep H k x -> RelV x v -> KIs h k v
 | .bl b, x, v, e, r => by cases (show x = .bl b from e); exact r
 | .int b, x, v, e, r => by cases (show x = .int b from e); exact r
 | .str b, x, v, e, r => by cases (show x = .str b from e); exact r
 | .tup ks, x, v, e, r => by
  obtain ⟨a, xs, rfl, q, rs⟩ := e
  cases (show v = Value.ref a from r)
  obtain ⟨_, its, rv, p, _⟩ := (show ObjOk P w H h a (.tup xs) from Rd.ok q ok)
  obtain ⟨o, n, h1, h2, h3⟩ := IsTup.seq p
  exact ⟨a, o, its.toArray, n, rfl, h1, h2, h3, by simpa using KReps.are ok ks rs rv⟩
theorem KReps.are (ok : HOk P w H h) : ∀ (ks : List Kx) {xs : List V} {vs : List Value}, KReps H ks xs -> Vals xs vs -> KAre h ks vs
 | [], xs, vs, e, r => by
  cases (show xs = [] from e)
  cases r
  rfl
 | k :: ks, xs, vs, e, r => by
  obtain ⟨x, r0, rfl, h1, h2⟩ := e
  cases r with
  | cons q t => exact ⟨_, _, rfl, KRep.is ok k h1 q, KReps.are ok ks h2 t⟩
end
theorem key_of {k : Kx} {sh : Sh} (ok : HOk P w H h) (e : KRep H k (.ref a) /\ Conf k sh /\ k.depth <= 7) : (treeKind P w sh).is h k a := ⟨KRep.is ok k e.1 rfl, e.2⟩
theorem dt_rd {sh : Sh} {kvs : List (Kx × V)} {kas : List Addr} (ok : HOk P w H h) (e : Rd H a (.dT sh kvs kas)) : kvs.length <= sizeLine /\ (a == sysModules) = false /\
  ∃ xs, KT sh H kvs xs /\ xs.map (·.2.1) = kas /\ h.DictOfH (treeKind P w sh) a xs := by
 obtain ⟨z, y, xs, r, ka, o, es, ep, h1, h2, h3, h4, h5⟩ := (show ObjOk P w H h a (.dT sh kvs kas) from rd_of ok e)
 refine ⟨z, y, xs, r, ka, o, es, ep, h1, h2, h3, h4, fun x hx => ?_, h5⟩
 have all : ∀ {l : List (Kx × V)} {m : List (Kx × Addr × Value)}, KT sh H l m -> ∀ x ∈ m, (treeKind P w sh).is h x.1 x.2.1 := by
  intro l m q
  induction q with
  | nil => intro x hx; exact nomatch hx
  | @cons p q ps qs hq t ih =>
   intro x hx
   rcases List.mem_cons.mp hx with e | hx
   ·subst e
    exact key_of ok (by rw [<- hq.1]; exact hq.2.1)
   ·exact ih x hx
 exact all r x hx
theorem dt_of {sh : Sh} {kvs : List (Kx × V)} {kas : List Addr} (ok : HOk P w H h) (e : H a = some (.dT sh kvs kas)) : kvs.length <= sizeLine /\ (a == sysModules) = false /\
  ∃ xs, KT sh H kvs xs /\ xs.map (·.2.1) = kas /\ h.DictOfH (treeKind P w sh) a xs := dt_rd ok (.inl e)
end
def DGet (H : Hp) (a : Addr) (y : V) (r : Option V) : Prop :=
 (∃ kvs k, Rd H a (.dK kvs) /\ y = kV k /\ r = valV kvs k) \/ ∃ sh kvs kas k b, Rd H a (.dT sh kvs kas) /\ y = .ref b /\ (KRep H k (.ref b) /\ Conf k sh /\ k.depth <= 7) /\ r = valV kvs k
def DPut (H : Hp) (a : Addr) (y v : V) (H' : Hp) : Prop :=
 (∃ kvs k, H a = some (.dK kvs) /\ y = kV k /\ kvs.length < sizeLine /\ H' = upd H a (.dK (putK kvs k v))) \/
 ∃ sh kvs kas k b, H a = some (.dT sh kvs kas) /\ y = .ref b /\ (KRep H k (.ref b) /\ Conf k sh /\ k.depth <= 7) /\ kvs.length < sizeLine /\ H' = upd H a (.dT sh (putK kvs k v) (putAd kvs kas k b))
theorem DGet.k {H : Hp} {a : Addr} {kvs : List (Key × V)} {k : Key} (e : H a = some (.dK kvs)) : DGet H a (kV k) (valV kvs k) := .inl ⟨kvs, k, .inl e, rfl, rfl⟩
theorem DGet.t {H : Hp} {a b : Addr} {sh : Sh} {kvs : List (Kx × V)} {kas : List Addr} {k : Kx} (e : Rd H a (.dT sh kvs kas)) (eb : KRep H k (.ref b) /\ Conf k sh /\ k.depth <= 7) : DGet H a (.ref b) (valV kvs k) := .inr ⟨sh, kvs, kas, k, b, e, rfl, eb, rfl⟩
theorem DPut.k {H : Hp} {a : Addr} {kvs : List (Key × V)} {k : Key} {v : V} (e : H a = some (.dK kvs)) (hl : kvs.length < sizeLine) : DPut H a (kV k) v (upd H a (.dK (putK kvs k v))) := .inl ⟨kvs, k, e, rfl, hl, rfl⟩
theorem DPut.t {H : Hp} {a b : Addr} {sh : Sh} {kvs : List (Kx × V)} {kas : List Addr} {k : Kx} {v : V} (e : H a = some (.dT sh kvs kas)) (eb : KRep H k (.ref b) /\ Conf k sh /\ k.depth <= 7) (hl : kvs.length < sizeLine) :
  DPut H a (.ref b) v (upd H a (.dT sh (putK kvs k v) (putAd kvs kas k b))) := .inr ⟨sh, kvs, kas, k, b, e, rfl, eb, hl, rfl⟩
section
variable {X : Cx} {pins : List (Addr × Obj)} {σ : St} {H : Hp} {s : Shared} {a : Addr} {y v : V} {u r : Value} {o : Option V} {A : Around} {E : Value -> Shared -> Prop}
theorem Inv.big (I : Inv X pins σ H s) : sysModules < s.heap.objs.size := by
 have h : mainGlobals < s.heap.objs.size := (I.mod.glob.keeps I.bk).lt
 exact Nat.lt_trans (by decide) h
theorem room_in1 {P : Program} {w : World} {sh : Sh} {A : Around} (hu : A.units + 20 < cLine) : (treeKind P w sh).room A.in1 := by
 show A.in1.units + 8 < cLine
 rw [Around.in1_units]; omega
theorem d_getItem {Q : Value -> Shared -> Prop} (hu : A.units + 20 < cLine) (I : Inv X pins σ H s) (g : DGet H a y (some v)) (ry : RelV y u) (h : ∀ w' s', Inv X pins σ H s' -> RelV v w' -> Q w' s') :
  wpAny (model X.prog X.w) A (getItem (.ref a) u) Q E s := by
 rcases g with ⟨kvs, k, e, ey, l⟩ | ⟨sh, kvs, kas, k, b, e, ey, eb, l⟩
 ·subst ey
  obtain ⟨z, hd, vs, rel, dd⟩ := dk_rd I.hok e
  obtain ⟨w', hw, rw'⟩ := RelO.some_of (v := v) (o := valueAt vs k) (by rw [l]; exact rel.val k)
  exact wpAny_getItem_of (kV_is ry) dd.mapOf hw (h w' _ (I.tok _) rw')
 ·subst ey
  cases (show u = Value.ref b from ry)
  obtain ⟨z, hd, xs, rel, _, dd⟩ := dt_rd I.hok e
  obtain ⟨w', hw, rw'⟩ := RelO.some_of (v := v) (o := (atKey xs k).map (·.2)) (by rw [l]; exact rel.val k)
  obtain ⟨p, hp, hp2⟩ := Option.map_eq_some_iff.mp hw
  refine wpAny_getItem_heap (room_in1 hu) (key_of I.hok eb) dd hp ?_
  rw [hp2]
  exact h w' _ (I.tok _) rw'
theorem d_notIn {Q : Value -> Shared -> Prop} (hu : A.units + 20 < cLine) (I : Inv X pins σ H s) (g : DGet H a y o) (ry : RelV y u) (h : ∀ s', Inv X pins σ H s' -> Q (.bool (!o.isSome)) s') :
  wpAny (model X.prog X.w) A (compareOp .NotIn u (.ref a)) Q E s := by
 rcases g with ⟨kvs, k, e, ey, l⟩ | ⟨sh, kvs, kas, k, b, e, ey, eb, l⟩
 ·subst ey
  obtain ⟨z, hd, vs, rel, dd⟩ := dk_rd I.hok e
  refine wpAny_notIn_of (kV_is ry) hd dd.mapOf ?_
  rw [<- (rel.val k).isSome_eq, <- l]
  exact h _ (I.tok _)
 ·subst ey
  cases (show u = Value.ref b from ry)
  obtain ⟨z, hd, xs, rel, _, dd⟩ := dt_rd I.hok e
  refine wpAny_notIn_heap (room_in1 hu) (key_of I.hok eb) hd dd ?_
  have q := (rel.val k).isSome_eq
  rw [Option.isSome_map] at q
  rw [<- q, <- l]
  exact h _ (I.tok _)
theorem d_write {h' : Heap} {t' : Nat} {ob : HO} (I : Inv X pins σ H s) (mu : Mut (H a)) (hs : Heap.SameBut a s.heap h') (he : ∃ q, h'.get? a = some q) (new : ObjOk X.prog X.w (upd H a ob) h' a ob) :
  Inv X pins σ (upd H a ob) { s with heap := h', toks := t' } :=
 I.write (x := a) (e := a) mu (.inl rfl) (fun b q hb z => (hs.2 b hb).trans z) he new
theorem dk_new {P : Program} {w : World} {H' : Hp} {h' : Heap} {kvs : List (Key × V)} {vs : List (Key × Value)} (z : kvs.length <= sizeLine) (hd : (a == sysModules) = false) (rel : KV kvs vs) (dd : h'.DictOf (mixKind P w) a vs) :
  ObjOk P w H' h' a (.dK kvs) := ⟨z, hd, vs, rel, dd⟩
theorem d_setItem {H' : Hp} {Q : Unit -> Shared -> Prop} (hu : A.units + 20 < cLine) (I : Inv X pins σ H s) (g : DPut H a y v H') (ry : RelV y u) (rv : RelV v r) (h : ∀ s', Inv X pins σ H' s' -> Q () s') :
  wpAny (model X.prog X.w) A (setItem (.ref a) u r) Q E s := by
 rcases g with ⟨kvs, k, e, ey, l, eH⟩ | ⟨sh, kvs, kas, k, b, e, ey, eb, l, eH⟩
 ·subst ey eH
  obtain ⟨z, hd, vs, rel, dd⟩ := dk_of I.hok e
  have hz : vs.length <= sizeLine := by rw [<- rel.length]; exact z
  have hl : (putK kvs k v).length <= sizeLine := by have := length_putK kvs k v; omega
  refine wpAny_setItem_pairs (hsz := hz) (kV_is ry) dd fun h' dd' hs => h _ ?_
  have he : ∃ q, h'.get? a = some q := let ⟨q, _, _, hq, _⟩ := dd'; ⟨q, hq⟩
  exact d_write I (by rw [e]; exact True.intro) hs he (dk_new hl hd (rel.put k rv) dd')
 ·subst ey eH
  cases (show u = Value.ref b from ry)
  obtain ⟨z, hd, xs, rel, ka, dd⟩ := dt_of I.hok e
  have hz : xs.length <= sizeLine := by rw [<- Paired.length rel]; exact z
  have hl : (putK kvs k v).length <= sizeLine := by have := length_putK kvs k v; omega
  refine wpAny_setItem_heap (hsz := hz) (room_in1 hu) (key_of I.hok eb) dd fun h' dd' hs => h _ ?_
  obtain ⟨q, es, ep, hq, h2, h3, h4, _, h5⟩ := dd'
  refine d_write I (by rw [e]; exact True.intro) hs ⟨q, hq⟩ ⟨hl, hd, _, (rel.put k eb rv).keeps fun c u ys ec => ?_, rel.putAd ka k, q, es, ep, hq, h2, h3, h4, h5⟩
  rw [upd_ne (ne_of ec e (fun z => by subst z; exact ys))]
  exact ec
end
section
variable {X : Cx} {pins : List (Addr × Obj)} {σ : St} {H : Hp} {s : Shared} {a : Addr} {kvs : List (Key × V)} {k : Key} {u : Value} {A : Around} {E : Value -> Shared -> Prop}
end
def NoSl (i : Expr) : Prop := ∀ ov iv, subscripted i false ov iv = operate [ov, iv] (getItem ov iv)
theorem subD_of {prog : Program} {w : World} {A : Around} {E : Value -> Shared -> Prop} {s : Shared} {env : Env} {value slice : Expr} {pos : Pos} {T id : String} {Q : Value -> Shared -> Prop}
  (hl : typeLookup (.type T) "__getitem__" = pure (some (.builtin id))) (hs : NoSl slice)
  (h : wpAny (model prog w) A (eval value env) (fun o s₁ => wpAny (model prog w) A (eval slice env) (fun i s₂ => s₂.TypeIs o T /\ wpAny (model prog w) A (getItem o i) Q E s₂) E s₁) E s) :
  wpAny (model prog w) A (eval (.Subscript value slice pos) env) Q E s := by
 refine Subscript_ (wpAny_mono h (fun o s₁ h₁ => wpAny_mono h₁ (fun i s₂ h₂ => ?_) fun _ _ x => x) fun _ _ x => x)
 obtain ⟨hT, h₂⟩ := h₂
 unfold subscriptTail
 refine wpAny_bind ?_
 rw [getitemInPython_of_ne hT.not_modules]
 refine wpAny_bind (wpAny_specialOf hT hl ?_)
 have fin : wpAny (model prog w) A (subscripted slice false o i) (fun r s₃ => wpAny (model prog w) A (letTemporaryGo value o r >>= fun _ => pure r) Q E s₃) E s₂ := by
  rw [hs o i]
  exact wpAny_operating (wpAny_mono h₂ (fun r s₃ h₃ => wpAny_bind (wpAny_letTemporaryGo (wpAny_pure h₃))) fun _ _ x => x)
 first
  | exact wpAny_pure (wpAny_bind fin)
  | exact wpAny_bind (wpAny_pure (wpAny_bind fin))
  | exact wpAny_bind fin
theorem dict_typeIs {X : Cx} {pins : List (Addr × Obj)} {σ : St} {H : Hp} {s : Shared} {a : Addr} {y : V} {o : Option V} (I : Inv X pins σ H s) (g : DGet H a y o) : s.TypeIs (.ref a) "dict" := by
 rcases g with ⟨kvs, k, e, _, _⟩ | ⟨sh, kvs, kas, k, b, e, _, _, _⟩
 ·obtain ⟨_, _, vs, _, dd⟩ := dk_rd I.hok e
  exact dd.typeIs
 ·obtain ⟨_, _, xs, _, _, dd⟩ := dt_rd I.hok e
  exact dd.typeIs
def tDGet (td ty : TE) : TE := fun σ H Q => td σ H fun x H1 => ty σ H1 fun y H2 => ∃ a v, x = .ref a /\ DGet H2 a y (some v) /\ Q v H2
def tDNotIn (ty td : TE) : TE := fun σ H Q => ty σ H fun y H1 => td σ H1 fun x H2 => ∃ a o, x = .ref a /\ DGet H2 a y o /\ Q (.bl (!o.isSome)) H2
def sDPut (td ty tv : TE) : TS := fun D σ H => tv σ H fun v H1 => td σ H1 fun x H2 => ty σ H2 fun y H3 => ∃ a H4, x = .ref a /\ DPut H3 a y v H4 /\ D.nx σ H4
section
variable {X : Cx} {o i e value : Expr} {pos pos' tpos : Pos} {td ty tv : TE}
theorem pe_dget (hu : X.A.units + 20 < cLine) (ho : PE X o td) (hi : PE X i ty) (hs : NoSl i) : PE X (.Subscript o i pos) (tDGet td ty) := by
 intro pins s σ H Q I h
 refine subD_of PySem.F.slot_dict_getitem.lookup hs (thn (ho pins s σ H _ I h) fun u s1 ⟨x, H1, I1, rx, q1⟩ => thn (hi pins s1 σ H1 _ I1 q1) fun iv s2 ⟨y, H2, I2, ry, a, v, ex, g, q2⟩ => ?_)
 subst ex
 obtain rfl : u = Value.ref a := rx
 exact ⟨dict_typeIs I2 g, d_getItem hu I2 g ry fun w' s3 I3 rw' => ⟨v, H2, I3, rw', q2⟩⟩
theorem pc_dnotin (hu : X.A.units + 20 < cLine) (hi : PE X i ty) (ho : PE X o td) : PC X .NotIn i o (tDNotIn ty td) := by
 intro pins s σ H Q I h
 refine thn (hi pins s σ H _ I h) fun iv s1 ⟨y, H1, I1, ry, q1⟩ => thn (ho pins s1 σ H1 _ I1 q1) fun u s2 ⟨x, H2, I2, rx, a, ov, ex, g, q2⟩ => ?_
 subst ex
 obtain rfl : u = Value.ref a := rx
 exact d_notIn hu I2 g ry fun s3 I3 => ⟨.bl (!ov.isSome), H2, I3, rfl, q2⟩
theorem ps_dput (hu : X.A.units + 20 < cLine) (ho : PE X o td) (hi : PE X i ty) (hv : PE X value tv) (hs : swapsWith value (some (.Subscript o i pos')) pos.line X.env = pure false) :
  PS X (.Assign [.Subscript o i pos'] value pos) (sDPut td ty tv) := by
 intro pins s σ H D I h
 refine wpAny_Assign_Subscript (thn (hv pins s σ H _ I h) fun r s1 ⟨v, H1, I1, rv, q1⟩ => thn (ho pins s1 σ H1 _ I1 q1) fun u s2 ⟨x, H2, I2, rx, q2⟩ => thn (hi pins s2 σ H2 _ I2 q2) fun iv s3 ⟨y, H3, I3, ry, a, H4, ex, g, q3⟩ => ?_) hs
 subst ex
 obtain rfl : u = Value.ref a := rx
 exact d_setItem hu I3 g ry rv fun s4 I4 => ⟨σ, H4, I4, q3⟩
end
theorem dk_empty {P : Program} {w : World} {H : Hp} (h : Heap) (hb : sysModules < h.objs.size) : ObjOk P w H (h.push { cls := .type "dict", data := .dict #[] }) h.objs.size (.dK []) :=
 ⟨Nat.zero_le _, beq_eq_false_iff_ne.mpr (Ne.symm (Nat.ne_of_lt hb)), [], .nil, Heap.DictOf.new h⟩
theorem dt_empty {P : Program} {w : World} {H : Hp} {sh : Sh} (h : Heap) (hb : sysModules < h.objs.size) : ObjOk P w H (h.push { cls := .type "dict", data := .dict #[] }) h.objs.size (.dT sh [] []) :=
 ⟨Nat.zero_le _, beq_eq_false_iff_ne.mpr (Ne.symm (Nat.ne_of_lt hb)), [], .nil, rfl, _, #[], 0, Heap.get?_push_size _ rfl, ⟨rfl, rfl, rfl⟩, rfl, rfl, List.nodup_nil⟩
def tDNewT (sh : Sh) : TE := fun _ H Q => ∀ p, H p = none -> Q (.ref p) (upd H p (.dT sh [] []))
section
variable {X : Cx} {pos : Pos}
theorem pe_dnewT {sh : Sh} : PE X (.Dict [] [] pos) (tDNewT sh) := fun pins s σ H Q I h =>
 wpAny_Dict_empty ⟨.ref s.heap.objs.size, _, I.laid (a := s.heap.objs.size) (o := .dT sh [] []) (t' := s.toks) (fun _ _ q => Heap.get?_push_of_some _ q) (Nat.le_refl _) (dt_empty s.heap I.big), rfl, h _ (I.hok.fresh (Nat.le_refl _))⟩
end
end L2
set_option Elab.async false
set_option linter.all false
set_option maxRecDepth 100000
set_option maxHeartbeats 1000000
namespace L2
open PySem PySem.Spec PyProof.Rows
section
variable {X : Cx} {pins : List (Addr × Obj)} {σ : St} {H : Hp} {s : Shared} {a : Addr} {o : Obj} {kvs : List (Key × V)}
end
section
variable {X : Cx} {tg : Expr}
end
end L2
set_option Elab.async false
set_option linter.all false
set_option maxRecDepth 100000
set_option maxHeartbeats 1000000
namespace L2
open PySem PySem.Spec PyProof.Rows
section
variable {X : Cx} {pins : List (Addr × Obj)} {σ : St} {H : Hp} {s : Shared} {a : Addr} {o : Obj} {xs : List V}
end
section
variable {X : Cx}
end
end L2
set_option Elab.async false
set_option linter.all false
set_option maxRecDepth 100000
set_option maxHeartbeats 1000000
namespace D
open PySem L2 PySem.Spec PyProof.Rows
open PyProof.Rows (envOfC)
section
variable {P : Program} {w : World} {K : PySem.W.Frag} {mg : Str -> Option Value} {base : Heap}
end
section
variable {X : Cx} {Z : Zt} {EE : L2.St -> XK} {a b c e : Expr} {es : List Expr} {da db d : Den W} {dF dA : Den (List W)} {x : Str} {pos p tpos : Pos}
end
section
variable {X : Cx} {Z : Zt} {EE : L2.St -> XK} {e : Expr} {d : Den (List W)} {K : PySem.W.Frag} {G H : Hp} {σ : L2.St} {e0 : List S}
end
section
variable {X : Cx} {Z : Zt} {EE : L2.St -> XK} {e : Expr} {dA : Den (List W)} {pos p : Pos}
end
section
variable {e e' : List S} {ws us vs : List W} {v : Value}
theorem hide_nest {wss : List (List W)} : hide1 (.nest wss) = .fr (.lst (wss.map W.lst)) := rfl
theorem hide_thr : hide1 (.thr us ws vs) = .fr (.tup (us ++ .lst ws :: vs)) := rfl
end
end D
set_option Elab.async false
set_option linter.all false
set_option maxRecDepth 100000
set_option maxHeartbeats 4000000
namespace L2
open PySem PySem.Spec PyProof.Rows
section
variable {X : Cx}
end
end L2
set_option Elab.async false
set_option linter.all false
set_option maxRecDepth 100000
set_option maxHeartbeats 1000000
namespace D
open PySem L2 PySem.Spec PyProof.Rows
section
variable {K : PySem.W.Frag} {Z : Zt} {G H : Hp} {ls : List Addr} {wss : List (List W)}
end
section
variable {K : PySem.W.Frag} {Z : Zt} {G H : Hp} {σ : L2.St} {e : List S}
end
section
variable {K : PySem.W.Frag} {Z : Zt} {G1 H1 : Hp} {σ : L2.St} {e1 : List S}
end
section
variable {X : Cx} {Z : Zt} {EE : L2.St -> XK} {elt iter : Expr} {scope sc : Scope} {pos pt : Pos} {x : Str} {Nf N : List Str} {js : List Nat} {di : Den W} {d : Den (List W)}
end
section
variable {K : PySem.W.Frag} {Z : Zt} {G H : Hp} {wss : List (List W)} {ls : List Addr}
end
section
variable {X : Cx} {Z : Zt} {EE : L2.St -> XK} {a b k : Expr} {es : List Expr} {d1 d2 dk dv : Den W} {dA : Den (List W)} {x : Str} {p pos spos tpos : Pos}
end
section
variable {X : Cx} {Z : Zt} {EE : L2.St -> XK} {pos : Pos}
end
section
variable {e e' : List S} {ws us vs : List W} {v : Value} {wss : List (List W)} {w : W}
end
end D
set_option Elab.async false
set_option linter.all false
set_option maxRecDepth 100000
set_option maxHeartbeats 1000000
namespace L2
open PySem PySem.Spec PyProof.Rows
section
variable {X : Cx} {pins : List (Addr × Obj)} {σ : St} {H : Hp} {s : Shared} {a : Addr} {A : Around} {E : Value -> Shared -> Prop} {sh : Sh} {kvs : List (Kx × V)} {kas : List Addr}
theorem meetsR_len {prog : Program} {w : World} {d : Addr} (hd : (d == sysModules) = false) :
  MeetsIn prog w (Builtin.«dict.__len__» ⟨[.ref d], []⟩) (fun _ R s => ∃ o es ep, s.heap.get? d = some o /\ o.data = .dict es ep /\ R (.ok (.ret (.int es.size s.toks))) { s with toks := s.toks + 1 }) :=
 .of_wp fun A R s ⟨o, es, ep, ho, hdat, h⟩ => by
  show wpAny _ _ (dictSize d >>= _) _ _ s
  unfold dictSize
  refine wpAny_bind (wpAny_bind (wpAny_dictEntries ho hdat (wpAny_pure ?_)))
  show wpAny _ _ (Builtin.Dict.pendingCount d >>= _) _ _ s
  refine wpAny_bind (wpAny_pendingCount_other hd ?_)
  refine wpAny_ret_mkInt ?_
  rw [Nat.add_zero]; exact h
theorem dt_len {Q : Value -> Shared -> Prop} (I : Inv X pins σ H s) (e : Rd H a (.dT sh kvs kas)) (h : ∀ t s', Inv X pins σ H s' -> Q (.int kvs.length t) s') : wpAny (model X.prog X.w) A (call (.builtin "len") [.ref a]) Q E s := by
 obtain ⟨z, hd, xs, rel, _, dd⟩ := dt_rd I.hok e
 have hT := dd.typeIs
 obtain ⟨o, es, ep, ho, _, hdat, hes, _⟩ := dd
 have hsz : es.size = kvs.length := by rw [size_of_entries hes, Paired.length rel]
 rw [sizeLine_eq] at z
 refine Calls.call_function_entry kind_len plain_len entry_len (args_len1 _) ?_
 unfold Builtin.«len»
 refine wpAny_bind (m := oneArg "len" _) (wpAny_pure ?_)
 refine wpAny_bind (m := callSpecial? (.ref a) (Str.ofString "__len__")) (wpAny_callSpecial?_slot (name := Str.ofString "__len__") hT F.slot_dict_len
  (call_meetsIn F.slot_dict_len hT F.entry_dict_len (F.args_dict_len_1 _) (meetsR_len hd) ⟨o, es, ep, ho, hdat, ?_⟩))
 rw [hsz]
 show wpAny _ _ _ _ _ { s with toks := s.toks + 1 }
 refine wpAny_bind (wpAny_holding (wpAny_pure ?_))
 refine wpAny_bind (wpAny_letGo ?_)
 show wpAny _ _ (if ((kvs.length : Nat) : Int) < 0 then _ else _) _ _ _
 rw [if_neg (by omega)]
 show wpAny _ _ (if ((kvs.length : Nat) : Int) >= 2 ^ 63 then _ else _) _ _ _
 rw [if_neg (by omega)]
 exact wpAny_bind (wpAny_mkInt (wpAny_pure ⟨_, rfl, h _ _ (I.tok _)⟩))
def rLenT : List V -> Hp -> VK -> Prop := fun xs H Q => ∃ a sh kvs kas, xs = [.ref a] /\ Rd H a (.dT sh kvs kas) /\ Q (.int kvs.length) H
theorem call_lenT : CallR X (.builtin "len") rLenT := by
 intro pins s σ H xs us Q I r h
 obtain ⟨a, sh, kvs, kas, rfl, e, q⟩ := h
 obtain ⟨u, rfl, rx⟩ := vals1 r
 cases (show u = Value.ref a from rx)
 exact dt_len I e fun t s' I' => ⟨.int kvs.length, H, I', ⟨t, rfl⟩, q⟩
end
def RawAt (h : Heap) (d : Addr) (es : Array DictEntry) (ep : Nat) : Prop := ∃ o, h.get? d = some o /\ o.ExactDict /\ o.data = .dict es ep
section
variable {prog : Program} {w : World} {A : Around} {E : Value -> Shared -> Prop} {s : Shared} {d it : Addr} {es : Array DictEntry} {ep i : Nat}
theorem RawAt.typeIs (h : RawAt s.heap d es ep) : s.TypeIs (.ref d) "dict" := let ⟨o, ho, hc, _⟩ := h; ⟨o, ho, hc.1⟩
theorem raw_iter {Q : Value -> Shared -> Prop} (hd : (d == sysModules) = false) (hm : RawAt s.heap d es ep)
  (hQ : Q (.ref s.heap.objs.size) { s with heap := s.heap.push { cls := .type "dict_keyiterator", data := .fields #[.ref d, .int 0 0, .int es.size 0, .int ep 0] } }) : wpAny (model prog w) A (pyIter (.ref d)) Q E s := by
 have hT := hm.typeIs
 obtain ⟨o, ho, _, hdat⟩ := hm
 refine wpAny_pyIter_slot hT F.slot_dict_iter (wpAny_call_entry F.slot_dict_iter hT F.entry_dict_iter ?_ (F.args_dict_iter_1 _))
 unfold Builtin.«dict.__iter__»
 refine wpAny_bind ?_
 unfold Builtin.Dict.dictSlotNone
 refine wpAny_bind (wpAny_notOrdered_dict hT ?_)
 show wpAny _ _ (pure (Value.ref d)) _ _ s
 refine wpAny_pure ?_
 show wpAny _ _ (Builtin.Dict.showsAll d >>= _) _ _ s
 unfold Builtin.Dict.showsAll
 rw [if_neg (by rw [hd]; exact Bool.false_ne_true)]
 refine wpAny_bind (wpAny_pure (wpAny_bind (wpAny_dictEntries ho hdat (wpAny_bind (wpAny_dictEpoch ho hdat ?_)))))
 refine wpAny_bind (wpAny_newObj_type (wpAny_pure ⟨_, rfl, "dict_keyiterator", _, ⟨_, Heap.get?_push_size _ rfl, rfl⟩, F.slot_dict_keyiterator_next.lookup, ?_⟩))
 simpa [rawInt] using hQ
theorem raw_item {Q : Option Value -> Shared -> Prop} (hit : s.heap.IsKeyIter it d i es.size ep) (hm : RawAt s.heap d es ep) (hx : i < es.size)
  (hQ : ∀ h', h'.IsKeyIter it d (i + 1) es.size ep -> Heap.SameBut it s.heap h' -> Q (some es[i].key) { s with heap := h' }) : wpAny (model prog w) A (pyNext (.ref it)) Q E s := by
 obtain ⟨o, ho, hc, hd⟩ := id hit
 obtain ⟨od, hod, _, hdd⟩ := hm
 unfold pyNext
 refine wpAny_bind (wpAny_attempt (wpAny_callSpecial?_slot (name := Str.ofString "__next__") hit.typeIs F.slot_dict_keyiterator_next
  (wpAny_call_entry F.slot_dict_keyiterator_next hit.typeIs F.entry_dict_keyiterator_next ?_ (F.args_dict_keyiterator_next_1 _))))
 refine wpAny_bind (wpAny_pure (wpAny_bind (wpAny_bind ?_)))
 first | refine wpAny_bind (wpAny_typeNameOfWhole_keyiter hit.typeIs (wpAny_pure ?_)) | refine wpAny_bind (wpAny_typeNameOf_keyiter hit.typeIs (wpAny_pure ?_))
 refine wpAny_bind (wpAny_fieldsOf ho hd ?_)
 have hown : Builtin.Dict_items.ownsTuple "dict_keyiterator" = false := by decide
 simp only [hown, Bool.false_eq_true, if_false]
 show wpAny _ _ (if (Value.ref d == Value.none) = true then _ else _) _ _ s
 rw [if_neg (show ¬ ((Value.ref d == Value.none) = true) from Bool.false_ne_true)]
 refine wpAny_bind (wpAny_pure (wpAny_bind (wpAny_dictEntries hod hdd ?_)))
 rw [if_neg (by simp)]
 refine wpAny_bind (wpAny_pure (wpAny_bind (wpAny_dictEpoch hod hdd ?_)))
 rw [if_neg (by simp)]
 refine wpAny_pure ?_
 simp only [show ¬ ((i : Int) < 0) from by omega, if_false, Int.toNat_natCast, Array.getElem?_eq_getElem hx]
 refine wpAny_bind ?_
 first | refine wpAny_bind (wpAny_typeNameOfWhole_keyiter hit.typeIs (wpAny_pure ?_)) | refine wpAny_bind (wpAny_typeNameOf_keyiter hit.typeIs (wpAny_pure ?_))
 refine wpAny_bind (wpAny_isOneOf_keyiter hit.typeIs ?_)
 show wpAny _ _ (setField (.ref it) 1 (rawInt ((i : Int) + 1)) >>= _) _ _ s
 refine wpAny_bind (wpAny_setField ho hd (by simp) ?_)
 have hit' : (s.heap.update it (Obj.mapFields (·.setIfInBounds 1 (rawInt ((i : Int) + 1))))).IsKeyIter it d (i + 1) es.size ep :=
  ⟨_, Heap.get?_update_self _ ho (Obj.isFreed_of_fields (Obj.data_mapFields hd _)), (Obj.cls_mapFields ..).trans hc, by rw [Obj.data_mapFields hd]; simp [rawInt]⟩
 refine wpAny_bind (wpAny_holding ?_)
 refine wpAny_bind (wpAny_isOneOf_keyiter (s := { s with heap := s.heap.update it (Obj.mapFields (·.setIfInBounds 1 (rawInt ((i : Int) + 1)))) }) hit'.typeIs ?_)
 show wpAny _ _ (pure es[i].key) _ _ _
 exact wpAny_pure (wpAny_pure ⟨_, rfl, wpAny_pure (hQ _ hit' (Heap.SameBut.update ..))⟩)
theorem raw_end {Q : Option Value -> Shared -> Prop} (hh : A.handled = none) (hit : s.heap.IsKeyIter it d i es.size ep) (hm : RawAt s.heap d es ep) (hx : es.size <= i)
  (hQ : ∀ h', Heap.ExtBut it s.heap h' -> Q none { s with heap := h' }) : wpAny (model prog w) A (pyNext (.ref it)) Q E s := by
 obtain ⟨o, ho, hc, hd⟩ := id hit
 obtain ⟨od, hod, _, hdd⟩ := hm
 unfold pyNext
 refine wpAny_bind (wpAny_attempt (wpAny_callSpecial?_slot (name := Str.ofString "__next__") hit.typeIs F.slot_dict_keyiterator_next
  (wpAny_call_entry F.slot_dict_keyiterator_next hit.typeIs F.entry_dict_keyiterator_next ?_ (F.args_dict_keyiterator_next_1 _))))
 refine wpAny_bind (wpAny_pure (wpAny_bind (wpAny_bind ?_)))
 first | refine wpAny_bind (wpAny_typeNameOfWhole_keyiter hit.typeIs (wpAny_pure ?_)) | refine wpAny_bind (wpAny_typeNameOf_keyiter hit.typeIs (wpAny_pure ?_))
 refine wpAny_bind (wpAny_fieldsOf ho hd ?_)
 have hown : Builtin.Dict_items.ownsTuple "dict_keyiterator" = false := by decide
 simp only [hown, Bool.false_eq_true, if_false]
 show wpAny _ _ (if (Value.ref d == Value.none) = true then _ else _) _ _ s
 rw [if_neg (show ¬ ((Value.ref d == Value.none) = true) from Bool.false_ne_true)]
 refine wpAny_bind (wpAny_pure (wpAny_bind (wpAny_dictEntries hod hdd ?_)))
 rw [if_neg (by simp)]
 refine wpAny_bind (wpAny_pure (wpAny_bind (wpAny_dictEpoch hod hdd ?_)))
 rw [if_neg (by simp)]
 refine wpAny_pure ?_
 simp only [show ¬ ((i : Int) < 0) from by omega, if_false, Int.toNat_natCast, Array.getElem?_eq_none hx]
 refine wpAny_bind ?_
 first | refine wpAny_bind (wpAny_typeNameOfWhole_keyiter hit.typeIs (wpAny_pure ?_)) | refine wpAny_bind (wpAny_typeNameOf_keyiter hit.typeIs (wpAny_pure ?_))
 show wpAny _ _ (setField (.ref it) 0 .none >>= _) _ _ s
 refine wpAny_bind (wpAny_setField ho hd (by simp) ?_)
 show wpAny _ _ (newExc (.type "StopIteration") [] >>= _) _ _ _
 refine wpAny_bind ?_
 simp only [newExc, newTuple]
 refine wpAny_bind (wpAny_newObj_type ?_ (by size_fits))
 refine wpAny_bind (m := firstArgMember _ _) (wpAny_of_eq (a := Value.none) (by first | rfl | (simp only [firstArgMember]; rfl)) ?_)
 refine wpAny_newObj_type ?_ (by size_fits)
 simp only [raiseNew]
 refine wpAny_bind (wpAny_handled ?_)
 rw [show A.in1.handled = none from hh]
 refine wpAny_bind (wpAny_pure (wpAny_throw ?_))
 refine wpAny_bind (wpAny_isInstance (T := "StopIteration") (b := true) ⟨_, Heap.get?_push_size _ rfl, rfl⟩ isSubtype_stop ?_)
 exact wpAny_pure (hQ _ (((Heap.SameBut.update ..).extBut.push _).push _))
end
end L2
set_option Elab.async false
set_option linter.all false
set_option maxRecDepth 100000
set_option maxHeartbeats 1000000
namespace D
open PySem L2 PySem.Spec PyProof.Rows
open Classical
mutual
noncomputable def kxW : W -> Option Kx
 | .bl b => some (.bl b)
 | .int i => some (.int i)
 | .str x => some (.str x)
 | .tup ws => (kxWs ws).map .tup
 | _ => none
noncomputable def kxWs : List W -> Option (List Kx)
 | [] => some []
 | w :: ws => match kxW w, kxWs ws with
  | some k, some ks => some (k :: ks)
  | _, _ => none
end
def NoTup (K : PySem.W.Frag) : Prop := ∀ a o, K.lookup a = some o -> o.cls ≠ .type "tuple"
theorem SqT.rd {K : PySem.W.Frag} {G : Hp} {a : Addr} {xs : List V} (hK : NoTup K) (q : SqT K G a xs) : Rd G a (.tup xs) := by
 rcases q with q | ⟨o, its, n, h1, h2, _⟩
 ·exact q
 ·exact absurd h2 (hK a o h1)
mutual
theorem rep_kx {K : PySem.W.Frag} {G H : Hp} (hK : NoTup K) (s : Same G H) : ∀ (w : W) {k : Kx} {v : V}, kxW w = some k -> Rep K G w v -> KRep H k v
 | .bl b, k, v, e, r => by cases e; exact r
 | .int b, k, v, e, r => by cases e; exact r
 | .str b, k, v, e, r => by cases e; exact r
 | .tup ws, k, v, e, r => by
  have e : (kxWs ws).map Kx.tup = some k := e
  obtain ⟨ks, h1, rfl⟩ := Option.map_eq_some_iff.mp e
  obtain ⟨a, xs, rfl, q, rs⟩ := r
  refine ⟨a, xs, rfl, ?_, reps_kx hK s ws h1 rs⟩
  rcases SqT.rd hK q with z | ⟨o, z⟩
  ·exact .inl (s _ _ z)
  ·exact .inr ⟨o, s _ _ z⟩
 | .non, k, v, e, r => by cases e
 | .lst _, k, v, e, r => by cases e
 | .exc _, k, v, e, r => by cases e
 | .dic _, k, v, e, r => by cases e
 | .dw _ _ _ _, k, v, e, r => by cases e
 | .fn _ _ _, k, v, e, r => by cases e
theorem reps_kx {K : PySem.W.Frag} {G H : Hp} (hK : NoTup K) (s : Same G H) : ∀ (ws : List W) {ks : List Kx} {vs : List V}, kxWs ws = some ks -> Reps K G ws vs -> KReps H ks vs
 | [], ks, vs, e, r => by cases e; exact r
 | w :: ws, ks, vs, e, r => by
  have e : (match kxW w, kxWs ws with | some k, some ks => some (k :: ks) | _, _ => none) = some ks := e
  split at e
  ·rename_i k0 ks0 h1 h2
   cases e
   obtain ⟨x, xs, rfl, r1, r2⟩ := r
   exact ⟨x, xs, rfl, rep_kx hK s w h1 r1, reps_kx hK s ws h2 r2⟩
  ·cases e
end
noncomputable def keyT : W -> Option Kx
 | .tup ws => (kxWs ws).map .tup
 | _ => none
theorem keyT_ref {K : PySem.W.Frag} {G H : Hp} (hK : NoTup K) (s : Same G H) {w : W} {k : Kx} {v : V} (e : keyT w = some k) (r : Rep K G w v) : ∃ b, v = .ref b /\ KRep H k (.ref b) := by
 cases w with
 | tup ws =>
  have z := rep_kx hK s (.tup ws) e r
  obtain ⟨a, xs, rfl, q, rs⟩ := r
  exact ⟨a, rfl, z⟩
 | _ => cases e
def fits (k : Kx) (sh : Sh) : Prop := Conf k sh /\ k.depth <= 7
mutual
noncomputable def wK : Kx -> W
 | .bl b => .bl b
 | .int i => .int i
 | .str x => .str x
 | .tup ks => .tup (wKs ks)
noncomputable def wKs : List Kx -> List W
 | [] => []
 | k :: ks => wK k :: wKs ks
end
mutual
theorem krep_rep {K : PySem.W.Frag} {G : Hp} : ∀ (k : Kx) {v : V}, KRep G k v -> Rep K G (wK k) v
 | .bl _, _, h => h
 | .int _, _, h => h
 | .str _, _, h => h
 | .tup ks, _, h => by
  obtain ⟨a, xs, rfl, q, r⟩ := h
  exact ⟨a, xs, rfl, .inl q, kreps_reps ks r⟩
theorem kreps_reps {K : PySem.W.Frag} {G : Hp} : ∀ (ks : List Kx) {vs : List V}, KReps G ks vs -> Reps K G (wKs ks) vs
 | [], _, h => h
 | k :: ks, _, ⟨v, r, e, h1, h2⟩ => ⟨v, r, e, krep_rep k h1, kreps_reps ks h2⟩
end
theorem keys_reps {K : PySem.W.Frag} {G : Hp} : ∀ {ks : List Kx} {bs : List Addr}, KeysG G ks bs -> Reps K G (ks.map wK) (bs.map V.ref)
 | [], [], _ => rfl
 | k :: ks, b :: bs, h => ⟨.ref b, bs.map V.ref, rfl, krep_rep k h.1, keys_reps h.2⟩
 | [], _ :: _, h => h.elim
 | _ :: _, [], h => h.elim
theorem KeysG.snoc {G : Hp} {k : Kx} {b : Addr} (hk : KRep G k (.ref b)) : ∀ {ks : List Kx} {bs : List Addr}, KeysG G ks bs -> KeysG G (ks ++ [k]) (bs ++ [b])
 | [], [], _ => ⟨hk, trivial⟩
 | _ :: _, _ :: _, h => ⟨h.1, KeysG.snoc hk h.2⟩
 | [], _ :: _, h => h.elim
 | _ :: _, [], h => h.elim
noncomputable def lkW : List Kx -> List W -> Kx -> Option W
 | k :: ks, w :: ws, x => if k = x then some w else lkW ks ws x
 | _, _, _ => none
theorem lk_val {K : PySem.W.Frag} {G : Hp} {x : Kx} : ∀ {kvs : List (Kx × V)} {ws : List W}, Reps K G ws (kvs.map (·.2)) ->
  (∀ w, lkW (kvs.map (·.1)) ws x = some w -> ∃ v, valV kvs x = some v /\ Rep K G w v) /\ (lkW (kvs.map (·.1)) ws x = none -> valV kvs x = none)
 | [], ws, r => by
  cases ws with
  | nil => exact ⟨(fun w z => nomatch z), fun _ => rfl⟩
  | cons w ws => obtain ⟨_, _, z, _⟩ := r; cases z
 | p :: kvs, [], r => by cases (show _ = [] from r)
 | p :: kvs, w :: ws, r => by
  obtain ⟨v, rr, z, h1, h2⟩ := r
  cases z
  have ih := lk_val (x := x) h2
  by_cases e : p.1 = x
  ·refine ⟨fun w' z => ?_, fun z => ?_⟩
   ·have z : (if p.1 = x then some w else lkW (kvs.map (·.1)) ws x) = some w' := z
    rw [if_pos e] at z
    cases z
    exact ⟨p.2, valV_pos e, h1⟩
   ·have z : (if p.1 = x then some w else lkW (kvs.map (·.1)) ws x) = none := z
    rw [if_pos e] at z
    cases z
  ·refine ⟨fun w' z => ?_, fun z => ?_⟩
   ·have z : (if p.1 = x then some w else lkW (kvs.map (·.1)) ws x) = some w' := z
    rw [if_neg e] at z
    rw [valV_neg e]
    exact ih.1 w' z
   ·have z : (if p.1 = x then some w else lkW (kvs.map (·.1)) ws x) = none := z
    rw [if_neg e] at z
    rw [valV_neg e]
    exact ih.2 z
theorem DAt.rd {fz : Bool} {G H : Hp} {a : Addr} {sh : Sh} {kvs : List (Kx × V)} {kas : List Addr} (s : Same G H) (h : DAt fz G a sh kvs kas) : Rd H a (.dT sh kvs kas) := by
 cases fz with
 | true => obtain ⟨o, h⟩ := h; exact .inr ⟨o, s _ _ h⟩
 | false => exact .inl (s _ _ h)
noncomputable def inT (w d : W) : Option W := match keyT w, d with
 | some k, .dw _ sh ks ws => if fits k sh then some (.bl (lkW ks ws k).isSome) else none
 | _, _ => none
noncomputable def ninT (w d : W) : Option W := match keyT w, d with
 | some k, .dw _ sh ks ws => if fits k sh then some (.bl (!(lkW ks ws k).isSome)) else none
 | _, _ => none
noncomputable def ixT (d w : W) : Option W := match keyT w, d with
 | some k, .dw _ sh ks ws => if fits k sh then lkW ks ws k else none
 | _, _ => none
noncomputable def lenT1 : List W -> Option W
 | [.dw _ _ ks _] => some (.int ks.length)
 | _ => none
theorem get_of {K : PySem.W.Frag} {G H : Hp} {fz : Bool} {sh : Sh} {ks : List Kx} {ws : List W} {k : Kx} {v : V} {b : Addr} (s : Same G H) (p : Rep K G (.dw fz sh ks ws) v) (kr : KRep H k (.ref b)) (hc : fits k sh) :
  ∃ a o, v = .ref a /\ DGet H a (.ref b) o /\ (∀ w, lkW ks ws k = some w -> ∃ u, o = some u /\ Rep K G w u) /\ (lkW ks ws k = none -> o = none) := by
 obtain ⟨a, kvs, kas, rfl, h1, rfl, h3, h4⟩ := p
 refine ⟨a, _, rfl, DGet.t (h1.rd s) ⟨kr, hc⟩, ?_⟩
 exact lk_val h4
theorem o2_ninT {K : PySem.W.Frag} (hK : NoTup K) : Op2 K (fun y x H Q => ∃ a o, x = .ref a /\ DGet H a y o /\ Q (.bl (!o.isSome)) H) ninT := by
 intro G H x y wx wy w Q s px py hf h
 unfold ninT at hf
 split at hf
 ·rename_i k fz sh ks ws hk
  split at hf
  ·rename_i hc
   cases hf
   obtain ⟨b, rfl, kr⟩ := keyT_ref hK s hk px
   obtain ⟨a, o, rfl, g, g1, g2⟩ := get_of s py kr hc
   refine ⟨a, o, rfl, g, h G _ H (.refl s) ?_⟩
   show V.bl (!o.isSome) = V.bl (!(lkW ks ws k).isSome)
   cases q : lkW ks ws k with
   | none => rw [g2 q]; rfl
   | some w => obtain ⟨u, hu, _⟩ := g1 w q; rw [hu]; rfl
  ·cases hf
 ·cases hf
theorem o2_ixT {K : PySem.W.Frag} (hK : NoTup K) : Op2 K (fun x y H Q => ∃ a v, x = .ref a /\ DGet H a y (some v) /\ Q v H) ixT := by
 intro G H x y wx wy w Q s px py hf h
 unfold ixT at hf
 split at hf
 ·rename_i k fz sh ks ws hk
  split at hf
  ·rename_i hc
   obtain ⟨b, rfl, kr⟩ := keyT_ref hK s hk py
   obtain ⟨a, o, rfl, g, g1, g2⟩ := get_of s px kr hc
   obtain ⟨u, rfl, ru⟩ := g1 w hf
   exact ⟨a, u, rfl, g, h G u H (.refl s) ru⟩
  ·cases hf
 ·cases hf
theorem oN_lenT {K : PySem.W.Frag} : OpN K rLenT lenT1 := by
 intro G H xs ws w Q s pr hf h
 unfold lenT1 at hf
 split at hf
 ·rename_i fz sh ks vs
  cases hf
  obtain ⟨x, r, rfl, px, pr⟩ := pr
  cases (show r = [] from pr)
  obtain ⟨a, kvs, kas, rfl, h1, rfl, h3, h4⟩ := px
  refine ⟨a, sh, kvs, kas, rfl, h1.rd s, h G _ H (.refl s) ?_⟩
  show V.int _ = V.int _
  rw [List.length_map]
 ·cases hf
section
variable {X : Cx} {Z : Zt} {EE : L2.St -> XK} {a b e k o : Expr} {es : List Expr} {da db d dk : Den W} {dA : Den (List W)} {pos p tpos : Pos} {x : Str} {body : List Stmt} {s1 : List S -> SR}
theorem dt_ninT (hK : NoTup X.K) (hu : X.A.units + 150 < cLine) (ha : DE Z X EE a da) (hb : DE Z X EE b db) (hm : behindInMarks .NotIn b = false := by rfl) : DT Z X EE (.Compare a [.NotIn] [b] pos) (dTest (dOp ninT da db)) :=
 PT.mono (pt_cmp (pc_dnotin (by omega) ha hb) hm) fun σ H Q h => lift_op (o2_ninT hK) σ H _ (lift_test h)
theorem de_ixT (hK : NoTup X.K) (hu : X.A.units + 150 < cLine) (ha : DE Z X EE a da) (hb : DE Z X EE b db) (hs : NoSl b := by intro _ _; rfl) : DE Z X EE (.Subscript a b pos) (dOp ixT da db) :=
 PE.mono (pe_dget (by omega) ha hb hs) (lift_op (o2_ixT hK))
theorem de_lenT (hm : X.mg "len" = none) (ha : DA Z X EE [e] dA) (hg : Gl X "len" := by rfl) (he : starEach [e] X.env = (false, eval e X.env) :: starEach [] X.env := by rfl) (hpl : (backTo pos (starEach [] X.env)).any (·.1) = false := by rfl) : DE Z X EE (.Call (.Name "len" p) [e] [] pos) (dFn lenT1 dA) :=
 de_blt call_lenT oN_lenT PySem.boot_len hm ha hg (by decide) (by decide) he hpl
noncomputable def isDw : S -> Bool
 | .dw _ _ _ => true
 | _ => false
theorem Rel.dw {K : PySem.W.Frag} {G H : Hp} {σ : L2.St} {e : List S} (r : Rel K Z G σ H e) {i : Nat} {sh : Sh} {ks : List Kx} {ws : List W} (h : e[i]? = some (.dw sh ks ws)) : ∃ a kvs kas, σ[i]? = some (some (.ref a)) /\ H a = some (.dT sh kvs kas) /\ G a = none /\ Z.H a = none /\ kvs.map (·.1) = ks /\ KeysG G ks kas /\ Reps K G ws (kvs.map (·.2)) := by
 obtain ⟨a, kvs, kas, h1, h2⟩ := r.slot i _ h
 refine ⟨a, kvs, kas, ?_, h2⟩
 cases q : σ[i]? with
 | none => rw [q] at h1; cases h1
 | some z => rw [q] at h1; rw [show z = some (V.ref a) from h1]
theorem Rel.setS {K : PySem.W.Frag} {G H : Hp} {σ : L2.St} {e : List S} (r : Rel K Z G σ H e) {i : Nat} {s : S} {v : V} (hs : ∀ b ws, s ≠ .own b ws) (q : SlotOk K Z G H s (some v)) : Rel K Z G (σ.set i (some v)) H (e.set i s) := by
 refine ⟨r.sub, fun j t z => ?_, by simpa using r.len, fun j k b1 b2 w1 w2 c z1 z2 z3 z4 => ?_, r.ent, r.ion, r.gen⟩
 ·by_cases hj : j = i
  ·subst hj
   have hi : j < e.length := by
    have := (List.getElem?_eq_some_iff.mp z).1; simpa using this
   rw [List.getElem?_set_self hi] at z
   cases z
   rw [List.getElem?_set_self (by rw [<- r.len]; exact hi)]
   exact q
  ·rw [List.getElem?_set_ne (fun z => hj z.symm)] at z |-
   exact r.slot j t z
 ·have old : ∀ (k : Nat) (bb : Bool) (ww : List W), (e.set i s)[k]? = some (.own bb ww) -> k ≠ i /\ e[k]? = some (.own bb ww) := fun k bb ww z => by
   by_cases hk : k = i
   ·subst hk
    have hi : k < e.length := by
     have := (List.getElem?_eq_some_iff.mp z).1; simpa using this
    rw [List.getElem?_set_self hi] at z; cases z; exact absurd rfl (hs _ _)
   ·rw [List.getElem?_set_ne (fun z => hk z.symm)] at z; exact ⟨hk, z⟩
  obtain ⟨n1, q1⟩ := old _ _ _ z1
  obtain ⟨n2, q2⟩ := old _ _ _ z2
  rw [List.getElem?_set_ne (fun z => n1 z.symm)] at z3
  rw [List.getElem?_set_ne (fun z => n2 z.symm)] at z4
  exact r.dis _ _ _ _ _ _ _ q1 q2 z3 z4
theorem Rel.mutDw {K : PySem.W.Frag} {G H : Hp} {σ : L2.St} {e : List S} (r : Rel K Z G σ H e) {i : Nat} {sh : Sh} {ks ks' : List Kx} {ws ws' : List W} {a : Addr} {kvs' : List (Kx × V)} {kas' : List Addr} (h : e[i]? = some (.dw sh ks ws)) (ha : σ[i]? = some (some (.ref a))) (ho : ∀ s ∈ e.set i .no, isDw s = false)
  (h5 : kvs'.map (·.1) = ks') (h6 : KeysG G ks' kas') (h7 : Reps K G ws' (kvs'.map (·.2))) : Rel K Z G σ (upd H a (.dT sh kvs' kas')) (e.set i (.dw sh ks' ws')) := by
 obtain ⟨a', kvs, kas, h1, h2, h3, h4, _⟩ := r.dw h
 rw [ha] at h1
 cases h1
 have hi : i < e.length := (List.getElem?_eq_some_iff.mp h).1
 refine ⟨fun c o z => ?_, fun j s z => ?_, by simpa using r.len, fun j k b1 b2 w1 w2 c z1 z2 z3 z4 => ?_, fun c o z n => ?_, fun c z => ?_, r.gen⟩
 ·rw [upd_ne (ne_of_none z h3)]; exact r.sub c o z
 ·by_cases hj : j = i
  ·subst hj
   rw [List.getElem?_set_self hi] at z
   cases z
   exact ⟨a, kvs', kas', by rw [ha]; rfl, upd_same, h3, h4, h5, h6, h7⟩
  ·rw [List.getElem?_set_ne (fun z => hj z.symm)] at z
   have y := r.slot j s z
   cases s with
   | no => trivial
   | fr w => exact y
   | own b2 w2 =>
    obtain ⟨c, ys, y1, y2, y3⟩ := y
    refine ⟨c, ys, y1, ?_, y3⟩
    rw [upd_ne (ne_of y2 h2 (fun z => nomatch z))]; exact y2
   | dic kv =>
    obtain ⟨c, y1, y2, y3⟩ := y
    refine ⟨c, y1, ?_, y3⟩
    rw [upd_ne (ne_of y2 h2 (by cases kv; exact fun z => nomatch z))]; exact y2
   | thr us w2 vs =>
    obtain ⟨t, l, o, xs2, ys, zs, y1, y2, y3, y4⟩ := y
    refine ⟨t, l, o, xs2, ys, zs, y1, y2, ?_, y4⟩
    rw [upd_ne (ne_of y3 h2 (fun z => nomatch z))]; exact y3
   | nest wss => exact NestOk.move y (.refl _) fun l o ys k1 k2 k3 => ⟨by rw [upd_ne (ne_of k1 h2 (fun z => nomatch z))]; exact k1, k2, k3⟩
   | dw _ _ _ =>
    have := ho _ (List.mem_of_getElem? (i := j) (by rw [List.getElem?_set_ne (fun z => hj z.symm)]; exact z))
    cases this
 ·have old : ∀ (k : Nat) (bb : Bool) (ww : List W), (e.set i (S.dw sh ks' ws'))[k]? = some (.own bb ww) -> e[k]? = some (.own bb ww) := fun k bb ww z => by
   by_cases hk : k = i
   ·subst hk; rw [List.getElem?_set_self hi] at z; cases z
   ·rw [List.getElem?_set_ne (fun z => hk z.symm)] at z; exact z
  exact r.dis _ _ _ _ _ _ _ (old _ _ _ z1) (old _ _ _ z2) z3 z4
 ·rw [upd_ne (ne_of_none z h4)]; exact r.ent c o z n
 ·by_cases hc : c = a
  ·subst hc; rw [upd_same]; exact fun z => nomatch z
  ·rw [upd_ne hc]; exact r.ion c z
noncomputable def dSetW (i : Nat) (sh : Sh) : List S -> SR := fun e => .nx (e.set i (.dw sh [] []))
theorem ds_setW (i : Nat) (sh : Sh) {pos' dpos : Pos} (hN : X.N.Nodup) (hi : X.N[i]? = some x := by rfl) (hx : Loc X.env.scope x := by walk_at "3") (hs : swapsWith (.Dict [] [] dpos) (some (.Name x pos')) pos.line X.env = pure false := by rfl) (hf : X.fn x = true \/ X.env.scope.names.lookup x = some .local := by walk_at "2") :
  DS Z X EE (.Assign [.Name x pos'] (.Dict [] [] dpos) pos) (dSetW i sh) := by
 refine PS.mono (ps_st i hN (pe_dnewT (sh := sh)) hi hx hs hf) ?_
 rintro D σ H ⟨G, e, rel, h⟩
 intro q hq
 have g := Grow.hid rel.sub hq (.dT sh [] [])
 exact h G _ _ ((rel.grow g).setS (s := .dw sh [] []) (fun _ _ z => nomatch z) ⟨q, [], [], rfl, upd_same, rel.sub.free hq, zh_new rel hq, rfl, trivial, rfl⟩) (.refl _)
noncomputable def putWC (i : Nat) (w kw : W) (e : List S) : Option S -> SR
 | some (.dw sh ks ws) => match keyT kw with
  | some x => if ks.length < 16777216 /\ (e.set i .no).all (fun s => !isDw s) = true /\ fits x sh /\ lkW ks ws x = none then .nx (e.set i (.dw sh (ks ++ [x]) (ws ++ [w]))) else .no
  | none => .no
 | _ => .no
noncomputable def putW0 (i : Nat) (dk : Den W) (w : W) (e1 : List S) : Option S -> SR
 | some (.dw _ _ _) => (dk e1).stm fun kw e2 => putWC i w kw e2 e2[i]?
 | _ => .no
noncomputable def dPutW (i : Nat) (d dk : Den W) : List S -> SR := fun e => (d e).stm fun w e1 => putW0 i dk w e1 e1[i]?
theorem ds_putW (i : Nat) (hK : NoTup X.K) (hu : X.A.units + 150 < cLine) (he : DE Z X EE e d) (hk : DE Z X EE k dk) (hN : X.N[i]? = some x := by rfl) (hv : Vis X.env.scope x := by walk_at "1") (hd : (x == ("__debug__" : Str)) = false := by decide) (hcd : (x == ("__classdict__" : Str)) = false := by decide)
  (hs : swapsWith e (some (.Subscript (.Name x p) k tpos)) pos.line X.env = pure false := by rfl) : DS Z X EE (.Assign [.Subscript (.Name x p) k tpos] e pos) (dPutW i d dk) := by
 refine PS.mono (ps_dput (by omega) (pv i hN hv hd hcd) hk he hs) ?_
 rintro D σ H ⟨G, e, rel, h⟩
 refine ⟨G, e, rel, (post_stm h).imp (fun w e1 h G1 v1 H1 r1 s1 p1 => ?_) fun _ _ h => h⟩
 unfold putW0 at h
 split at h
 ·rename_i sh0 ks0 ws0 he0
  obtain ⟨a, kvs0, kas0, q1, q2, _⟩ := r1.dw he0
  refine ⟨.ref a, q1, G1, e1, r1, (post_stm (σ := σ) h).imp (fun kw e2 h G2 v2 H2 r2 s2 p2 => ?_) fun _ _ h G' H' r s => h G' H' r (s1.trans s)⟩
  unfold putWC at h
  split at h
  ·rename_i sh ks ws he2
   obtain ⟨a', kvs, kas, g1, g2, g3, g4, g5, g6, g7⟩ := r2.dw he2
   rw [q1] at g1; cases g1
   split at h
   ·rename_i t hk1
    split at h
    ·rename_i hc
     obtain ⟨b, rfl, kr⟩ := keyT_ref hK (.refl G2) hk1 p2
     have krH : KRep H2 t (.ref b) := KRep.keeps (fun _ _ _ z => r2.sub _ _ z) t kr
     subst g5
     have hnew : valV kvs t = none := (lk_val g7).2 hc.2.2.2
     refine ⟨a, _, rfl, DPut.t g2 ⟨krH, hc.2.2.1⟩ (by rw [sizeLine_eq]; have := hc.1; rw [List.length_map] at this; exact this), ?_⟩
     rw [putK_new v1 hnew, show putAd kvs kas t b = kas ++ [b] by unfold putAd; rw [hnew]; rfl]
     refine h G2 σ _ (r2.mutDw (ks' := kvs.map (·.1) ++ [t]) (ws' := ws ++ [w]) he2 q1 (fun s hs => ?_) (by rw [List.map_append]; rfl) (KeysG.snoc kr g6) ?_) (s1.trans s2)
     ·have := List.all_eq_true.mp hc.2.1 s hs; simpa using this
     ·rw [List.map_append]
      exact g7.append (.one (Rep.mono s2 w p1))
    ·exact h.elim
   ·exact h.elim
  ·exact h.elim
 ·exact h.elim
noncomputable def retW (e : List S) : Option S -> SR
 | some (.dw sh ks ws) => .rt (.dw sh ks ws) e
 | _ => .no
noncomputable def dRetW (i : Nat) : List S -> SR := fun e => retW e e[i]?
theorem ds_retW (i : Nat) (hN : X.N[i]? = some x := by rfl) (hv : Vis X.env.scope x := by walk_at "1") (hd : (x == ("__debug__" : Str)) = false := by decide) (hcd : (x == ("__classdict__" : Str)) = false := by decide) :
  DS Z X EE (.Return (some (.Name x p)) pos) (dRetW i) := by
 refine PS.mono (ps_ret (pv i hN hv hd hcd)) ?_
 rintro D σ H ⟨G, e, rel, h⟩
 unfold dRetW retW at h
 split at h
 ·rename_i sh ks ws hw
  obtain ⟨a, kvs, kas, h1, h2⟩ := rel.dw hw
  exact ⟨.ref a, h1, h G σ (.ref a) H rel (.refl _) ⟨a, kvs, kas, rfl, h2⟩⟩
 ·exact h.elim
end
noncomputable def maxL : Int -> List Int -> Int
 | x, [] => x
 | x, y :: ys => maxL (if x < y then y else x) ys
theorem maxL_is : ∀ (ys : List Int) (x : Int), (maxL x ys = x \/ maxL x ys ∈ ys) /\ x <= maxL x ys /\ ∀ y ∈ ys, y <= maxL x ys
 | [], x => ⟨.inl rfl, Int.le_refl _, fun y hy => nomatch hy⟩
 | y :: ys, x => by
  obtain ⟨h1, h2, h3⟩ := maxL_is ys (if x < y then y else x)
  have e : maxL x (y :: ys) = maxL (if x < y then y else x) ys := rfl
  rw [e]
  refine ⟨?_, ?_, fun z hz => ?_⟩
  ·rcases h1 with h | h
   ·by_cases hq : x < y
    ·rw [if_pos hq] at h |-; rw [h]; exact .inr (by simp)
    ·rw [if_neg hq] at h |-; exact .inl h
   ·exact .inr (by simp [h])
  ·have : x <= (if x < y then y else x) := by split <;> omega
   omega
  ·rcases List.mem_cons.mp hz with rfl | hz
   ·have : z <= (if x < z then z else x) := by split <;> omega
    omega
   ·exact h3 z hz
theorem call_max1 {X : Cx} (hc : X.calm = true) : CallR X (.builtin "max") (fun xs H Q => ∃ p n ns, xs = [.ref p] /\ SqL X.K H p ((n :: ns).map V.int) /\ Q (.int (maxL n ns)) H) := by
 intro pins s σ H xs us Q I r h
 obtain ⟨p, n, ns, rfl, hq, q⟩ := h
 obtain ⟨u, rfl, rx⟩ := vals1 r
 cases rx
 obtain ⟨its, r', pl, hz⟩ := I.list hq
 have hl := pl.isList
 have hlt : p < s.heap.objs.size := by obtain ⟨_, e, _⟩ := hl; exact Heap.lt_size e
 have hh : X.A.in1.handled = none := I.ok.hd hc
 have hlen : its.length = (n :: ns).length := by have := r'.length; rw [List.length_map] at this; exact this.symm
 have hval : ∀ (i : Nat) (v : Value), its.toArray[i]? = some v -> ∃ t, v = Value.int ((n :: ns).getD i 0) t := fun i v hv => by
  have hv' : its[i]? = some v := by simpa using hv
  have hi : i < (n :: ns).length := by rw [<- hlen]; exact (List.getElem?_eq_some_iff.mp hv').1
  obtain ⟨u, hu, ru⟩ := r'.get (i := i) (x := V.int ((n :: ns).getD i 0)) (by rw [List.getElem?_map, List.getElem?_eq_getElem hi, getD_lt hi]; rfl)
  rw [hv'] at hu
  cases hu
  exact ru
 refine call_max_walk (wpAny_pyIter_list hl ⟨s.heap.objs.size, [s.heap.objs.size, p], [s.heap.objs.size], _, _, _, _, rfl, Walks.list hh s.heap.objs.size p (Nat.ne_of_lt hlt) its.toArray, ⟨⟨_, Heap.get?_push_size _ rfl, rfl, rfl⟩, hl.push _⟩, fun b hb => ?_, by rw [List.size_toArray, hlen]; simp, CmpOf.ints_gt (fun i => (n :: ns).getD i 0) hval, fun v h' tk hP hk => ?_⟩)
 ·show b < (s.heap.push _).objs.size
  rw [Heap.size_push]
  rcases List.mem_cons.mp hb with e | hb
  ·rw [e]; exact Nat.lt_succ_self _
  ·rw [List.mem_singleton.mp hb]; exact Nat.lt_succ_of_lt hlt
 ·obtain ⟨t, rfl⟩ := hval _ _ hP
  obtain ⟨b1, b2⟩ := argBest_gt (fun i => (n :: ns).getD i 0) (its.toArray.size - 1)
  have e : (n :: ns).getD (argBest (fun i j => decide ((n :: ns).getD i 0 > (n :: ns).getD j 0)) (its.toArray.size - 1)) 0 = maxL n ns := by
   obtain ⟨m1, m2, m3⟩ := maxL_is ns n
   have hsz : its.toArray.size = ns.length + 1 := by rw [List.size_toArray, hlen]; simp
   generalize argBest (fun i j => decide ((n :: ns).getD i 0 > (n :: ns).getD j 0)) (its.toArray.size - 1) = k at b1 b2
   have hk : k < (n :: ns).length := by simp; omega
   have ge : (n :: ns).getD k 0 <= maxL n ns := by
    rw [getD_lt hk]
    rcases List.mem_cons.mp (List.getElem_mem hk) with z | z
    ·rw [z]; exact m2
    ·exact m3 _ z
   have le : maxL n ns <= (n :: ns).getD k 0 := by
    have : ∃ j, j <= ns.length /\ (n :: ns).getD j 0 = maxL n ns := by
     rcases m1 with z | z
     ·exact ⟨0, Nat.zero_le _, by simp [z]⟩
     ·obtain ⟨j, hj, ej⟩ := List.mem_iff_getElem.mp z
      exact ⟨j + 1, by omega, by simp [List.getD, hj, ej]⟩
    obtain ⟨j, hj, ej⟩ := this
    have := b2 j (by omega)
    rw [ej] at this
    exact this
   omega
  rw [e]
  refine ⟨.int (maxL n ns), H, I.kept (t' := tk) fun b o hbo => hk b o (fun z => ?_) (Heap.get?_push_of_some _ hbo), ⟨t, rfl⟩, q⟩
  rw [List.mem_singleton] at z
  exact absurd (Heap.lt_size hbo) (by rw [z]; exact Nat.lt_irrefl _)
noncomputable def max1 : List W -> Option W
 | [.lst ws] => match intsW ws with
  | some (n :: ns) => some (.int (maxL n ns))
  | _ => none
 | _ => none
theorem oN_max1 {K : PySem.W.Frag} : OpN K (fun xs H Q => ∃ p n ns, xs = [.ref p] /\ SqL K H p ((n :: ns).map V.int) /\ Q (.int (maxL n ns)) H) max1 := by
 intro G H xs ws w Q s pr hf h
 unfold max1 at hf
 split at hf
 ·obtain ⟨x, r, rfl, px, pr⟩ := pr
  cases (show r = [] from pr)
  split at hf
  ·rename_i n ns hns
   cases hf
   obtain ⟨a, cs, rfl, hq, rp⟩ := px
   have := ints_rep hns rp
   subst this
   exact ⟨a, n, ns, rfl, s.seq hq, h G _ H (.refl s) rfl⟩
  ·cases hf
 ·cases hf
section
variable {X : Cx} {Z : Zt} {EE : L2.St -> XK} {e : Expr} {dA : Den (List W)} {pos p : Pos}
theorem de_max1 (hc : X.calm = true) (hm : X.mg "max" = none) (ha : DA Z X EE [e] dA) (hg : Gl X "max" := by rfl) (he : starEach [e] X.env = (false, eval e X.env) :: starEach [] X.env := by rfl) (hpl : (backTo pos (starEach [] X.env)).any (·.1) = false := by rfl) : DE Z X EE (.Call (.Name "max" p) [e] [] pos) (dFn max1 dA) :=
 de_blt (call_max1 hc) oN_max1 PyProof.Rows.Boot.«max» hm ha hg (by decide) (by decide) he hpl
end
theorem max1_l {n : Int} {ns : List Int} : max1 [.lst ((n :: ns).map .int)] = some (.int (maxL n ns)) := by
 show (match intsW ((n :: ns).map .int) with | some (n :: ns) => some (W.int (maxL n ns)) | _ => none) = _
 rw [ints_of]
section
variable {e : List S} {w kw dflt : W} {sh : Sh} {ks : List Kx} {ws : List W} {i : Nat} {x : Kx} {fz : Bool}
theorem dSetW_s : dSetW i sh e = .nx (e.set i (.dw sh [] [])) := rfl
theorem dPutW_s {d dk : Den W} : dPutW i d dk e = (d e).stm fun w e1 => putW0 i dk w e1 e1[i]? := rfl
theorem putW0_d {dk : Den W} : putW0 i dk w e (some (.dw sh ks ws)) = (dk e).stm fun kw e2 => putWC i w kw e2 e2[i]? := rfl
theorem putWC_d (hk : keyT kw = some x) (h1 : ks.length < 16777216) (h2 : (e.set i .no).all (fun s => !isDw s) = true) (h3 : fits x sh) (h4 : lkW ks ws x = none) : putWC i w kw e (some (.dw sh ks ws)) = .nx (e.set i (.dw sh (ks ++ [x]) (ws ++ [w]))) := by
 show (match keyT kw with | some x => _ | none => _) = _
 rw [hk]
 exact if_pos ⟨h1, h2, h3, h4⟩
theorem dRetW_s : dRetW i e = retW e e[i]? := rfl
theorem retW_d : retW e (some (.dw sh ks ws)) = .rt (.dw sh ks ws) e := rfl
theorem ninT_d (hk : keyT w = some x) (hc : fits x sh) : ninT w (.dw fz sh ks ws) = some (.bl (!(lkW ks ws x).isSome)) := by
 unfold ninT
 rw [hk]
 exact if_pos hc
theorem ixT_d (hk : keyT w = some x) (hc : fits x sh) : ixT (.dw fz sh ks ws) w = lkW ks ws x := by
 unfold ixT
 rw [hk]
 exact if_pos hc
theorem lenT_d : lenT1 [.dw fz sh ks ws] = some (.int ks.length) := rfl
theorem hide_dw : hide1 (.dw sh ks ws) = .fr (.dw false sh ks ws) := rfl
end
noncomputable def tupAt (K : PySem.W.Frag) (a : Addr) : Bool := match K.lookup a with
 | some o => (match o.cls with
  | .type n => n == "tuple"
  | _ => false)
 | none => false
noncomputable def dropT (K : PySem.W.Frag) : PySem.W.Frag := K.filter fun p => !tupAt K p.1
theorem lookup_keep {a : Addr} {q : Addr -> Bool} : ∀ {K : PySem.W.Frag} {o : Obj}, (K.filter fun p => q p.1).lookup a = some o -> K.lookup a = some o /\ q a = true
 | [], _, h => by cases h
 | (b, u) :: K, o, h => by
  by_cases hq : q b = true
  ·rw [List.filter_cons_of_pos (p := fun p : Addr × Obj => q p.1) (a := (b, u)) hq] at h
   by_cases e : a = b
   ·subst e
    rw [show List.lookup a ((a, u) :: (K.filter fun p => q p.1)) = some u by simp [List.lookup]] at h
    refine ⟨?_, hq⟩
    rw [<- h]
    simp [List.lookup]
   ·rw [show List.lookup a ((b, u) :: (K.filter fun p => q p.1)) = List.lookup a (K.filter fun p => q p.1) by simp only [List.lookup]; rw [beq_eq_false_iff_ne.mpr e]] at h
    obtain ⟨h1, h2⟩ := lookup_keep h
    refine ⟨?_, h2⟩
    rw [<- h1]
    simp only [List.lookup]
    rw [beq_eq_false_iff_ne.mpr e]
  ·rw [List.filter_cons_of_neg (p := fun p : Addr × Obj => q p.1) (a := (b, u)) hq] at h
   obtain ⟨h1, h2⟩ := lookup_keep h
   have e : a ≠ b := fun z => hq (by rw [<- z]; exact h2)
   refine ⟨?_, h2⟩
   rw [<- h1]
   simp only [List.lookup]
   rw [beq_eq_false_iff_ne.mpr e]
theorem dropT_in {K : PySem.W.Frag} {h : Heap} (X : K.In h) : (dropT K).In h := fun a o e => X a o (lookup_keep (q := fun a => !tupAt K a) e).1
theorem dropT_no {K : PySem.W.Frag} : NoTup (dropT K) := fun a o e z => by
 obtain ⟨h1, h2⟩ := lookup_keep (q := fun a => !tupAt K a) e
 unfold tupAt at h2
 rw [h1] at h2
 simp [z] at h2
theorem lookup_drop {K : PySem.W.Frag} {a : Addr} {o : Obj} (h : K.lookup a = some o) (t : tupAt K a = false) : (dropT K).lookup a = some o := by
 have gen : ∀ (l : PySem.W.Frag) (q : Addr -> Bool), q a = true -> l.lookup a = some o -> (l.filter fun p => q p.1).lookup a = some o := by
  intro l q hq
  induction l with
  | nil => intro h; cases h
  | cons p l ih =>
   obtain ⟨b, u⟩ := p
   intro h
   by_cases e : a = b
   ·subst e
    rw [List.filter_cons_of_pos (p := fun p : Addr × Obj => q p.1) (a := (a, u)) hq]
    rw [show List.lookup a ((a, u) :: l) = some u by simp [List.lookup]] at h
    rw [<- h]
    simp [List.lookup]
   ·rw [show List.lookup a ((b, u) :: l) = List.lookup a l by simp only [List.lookup]; rw [beq_eq_false_iff_ne.mpr e]] at h
    by_cases hb : q b = true
    ·rw [List.filter_cons_of_pos (p := fun p : Addr × Obj => q p.1) (a := (b, u)) hb, <- ih h]
     simp only [List.lookup]
     rw [beq_eq_false_iff_ne.mpr e]
    ·rw [List.filter_cons_of_neg (p := fun p : Addr × Obj => q p.1) (a := (b, u)) hb]
     exact ih h
 exact gen K (fun a => !tupAt K a) (by rw [t]; rfl) h
theorem nsIn_drop {K : PySem.W.Frag} {a : Addr} {x : Str} {r : Option Value} (h : PySem.W.nsIn K a x = some r) (t : tupAt K a = false) : PySem.W.nsIn (dropT K) a x = some r := by
 unfold PySem.W.nsIn at h |-
 cases q : K.lookup a with
 | none => rw [q] at h; cases h
 | some o => rw [lookup_drop q t]; rw [q] at h; exact h
noncomputable def tupAtV (K : PySem.W.Frag) : Value -> Bool
 | .ref a => tupAt K a
 | _ => false
theorem codeIn_drop {K : PySem.W.Frag} {cd : Value} {x : Str} (h : PySem.W.codeIn K cd x = true) (t : tupAtV K cd = false) : PySem.W.codeIn (dropT K) cd x = true := by
 cases cd with
 | ref a =>
  unfold PySem.W.codeIn at h |-
  dsimp only at h |-
  cases q : K.lookup a with
  | none => rw [q] at h; cases h
  | some o => rw [lookup_drop q t]; rw [q] at h; exact h
 | _ => cases h
noncomputable def funAt (K : PySem.W.Frag) (a : Addr) : Bool := !tupAt K a && (match K.lookup a with
 | some ⟨_, _, .func _, _⟩ => true
 | _ => false)
end D
set_option Elab.async false
set_option linter.all false
set_option maxRecDepth 100000
set_option maxHeartbeats 1000000
namespace D
open PySem L2 PySem.Spec PyProof.Rows
noncomputable def lk {κ : Type} [DecidableEq κ] (kvs : List (κ × Sv)) (x : κ) : Option Sv := (kvs.find? fun p => decide (p.1 = x)).map (·.2)
noncomputable def putL {κ : Type} [DecidableEq κ] (kvs : List (κ × Sv)) (x : κ) (v : Sv) : List (κ × Sv) := if (kvs.any fun p => decide (p.1 = x)) = true then kvs.map (fun p => if p.1 = x then (p.1, v) else p) else kvs ++ [(x, v)]
theorem val_kv {κ : Type} [DecidableEq κ] (x : κ) : ∀ kvs : List (κ × Sv), valV (kvV kvs) x = (lk kvs x).map sV
 | [] => rfl
 | p :: r => by
  have ih := val_kv x r
  by_cases h : p.1 = x
  ·have e1 : valV (kvV (p :: r)) x = some (sV p.2) := valV_pos (p := (p.1, sV p.2)) h
   rw [e1]
   simp [lk, List.find?_cons, h]
  ·have e1 : valV (kvV (p :: r)) x = valV (kvV r) x := valV_neg (p := (p.1, sV p.2)) h
   rw [e1, ih]
   simp [lk, List.find?_cons, h]
theorem put_kv {κ : Type} [DecidableEq κ] (x : κ) (v : Sv) (kvs : List (κ × Sv)) : putK (kvV kvs) x (sV v) = kvV (putL kvs x v) := by
 unfold putK putL kvV
 rw [List.any_map]
 have e : ((fun kv : κ × V => decide (kv.1 = x)) ∘ fun p : κ × Sv => (p.1, sV p.2)) = fun p : κ × Sv => decide (p.1 = x) := rfl
 rw [e]
 split
 ·rw [List.map_map, List.map_map]
  refine List.map_congr_left fun p _ => ?_
  simp only [Function.comp]
  split <;> rfl
 ·rw [List.map_append]
  rfl
noncomputable def keyW : W -> Option Key
 | .int i => some (.inl i)
 | .str x => some (.inr x)
 | _ => none
noncomputable def svW : W -> Option Sv
 | .int i => some (.inl i)
 | .bl b => some (.inr b)
 | _ => none
noncomputable def wSv : Sv -> W
 | .inl i => .int i
 | .inr b => .bl b
theorem rep_key {K : PySem.W.Frag} {G : Hp} {w : W} {v : V} {k : Key} (p : Rep K G w v) (h : keyW w = some k) : v = kV k := by
 cases w <;> cases h <;> exact p
theorem rep_sv {K : PySem.W.Frag} {G : Hp} {w : W} {v : V} {k : Sv} (p : Rep K G w v) (h : svW w = some k) : v = sV k := by
 cases w <;> cases h <;> exact p
theorem rep_of_sv {K : PySem.W.Frag} {G : Hp} (k : Sv) : Rep K G (wSv k) (sV k) := by cases k <;> rfl
noncomputable def dicOf : W -> Option (List (Key × Sv))
 | .dic (.k kvs) => some kvs
 | _ => none
theorem dicOf_eq {w : W} {kvs : List (Key × Sv)} (h : dicOf w = some kvs) : w = .dic (.k kvs) := by
 cases w with
 | dic d => cases d <;> cases h; rfl
 | _ => cases h
noncomputable def ninD (w d : W) : Option W := (keyW w).bind fun k => (dicOf d).map fun kvs => .bl (!(lk kvs k).isSome)
noncomputable def ixD (d w : W) : Option W := (keyW w).bind fun k => (dicOf d).bind fun kvs => (lk kvs k).map wSv
theorem o2_ninD {K : PySem.W.Frag} : Op2 K (fun y x H Q => ∃ a o, x = .ref a /\ DGet H a y o /\ Q (.bl (!o.isSome)) H) ninD := by
 intro G H x y wx wy w Q s px py hf h
 obtain ⟨k, hk, hf⟩ := Option.bind_eq_some_iff.mp hf
 obtain ⟨kvs, hd, hf⟩ := Option.map_eq_some_iff.mp hf
 cases hf
 cases rep_key px hk
 cases dicOf_eq hd
 obtain ⟨e, rfl, he⟩ := py
 refine ⟨e, _, rfl, DGet.k (k := k) (s _ _ he), h G _ H (.refl s) ?_⟩
 rw [val_kv, Option.isSome_map]
 rfl
theorem o2_ixD {K : PySem.W.Frag} : Op2 K (fun x y H Q => ∃ a v, x = .ref a /\ DGet H a y (some v) /\ Q v H) ixD := by
 intro G H x y wx wy w Q s px py hf h
 obtain ⟨k, hk, hf⟩ := Option.bind_eq_some_iff.mp hf
 obtain ⟨kvs, hd, hf⟩ := Option.bind_eq_some_iff.mp hf
 obtain ⟨v, hv, rfl⟩ := Option.map_eq_some_iff.mp hf
 cases rep_key py hk
 cases dicOf_eq hd
 obtain ⟨e, rfl, he⟩ := px
 have g := DGet.k (k := k) (s _ _ he)
 rw [val_kv, hv] at g
 exact ⟨e, _, rfl, g, h G _ H (.refl s) (rep_of_sv v)⟩
section
variable {X : Cx} {Z : Zt} {EE : L2.St -> XK} {a b e k : Expr} {da db d dk : Den W} {pos p tpos : Pos} {x : Str}
theorem dt_ninD (hu : X.A.units + 150 < cLine) (ha : DE Z X EE a da) (hb : DE Z X EE b db) (hm : behindInMarks .NotIn b = false := by rfl) : DT Z X EE (.Compare a [.NotIn] [b] pos) (dTest (dOp ninD da db)) :=
 PT.mono (pt_cmp (pc_dnotin (by omega) ha hb) hm) fun σ H Q h => lift_op o2_ninD σ H _ (lift_test h)
theorem de_ixD (hu : X.A.units + 150 < cLine) (ha : DE Z X EE a da) (hb : DE Z X EE b db) (hs : NoSl b := by intro _ _; rfl) : DE Z X EE (.Subscript a b pos) (dOp ixD da db) :=
 PE.mono (pe_dget (by omega) ha hb hs) (lift_op o2_ixD)
theorem Rel.dic {K : PySem.W.Frag} {G H : Hp} {σ : L2.St} {e : List S} (r : Rel K Z G σ H e) {i : Nat} {kvs : Dd} (h : e[i]? = some (.dic kvs)) : ∃ a, σ[i]? = some (some (.ref a)) /\ H a = some (dO kvs) /\ G a = none /\ Z.H a = none := by
 obtain ⟨a, h1, h2, h3, h4⟩ := r.slot i _ h
 refine ⟨a, ?_, h2, h3, h4⟩
 cases q : σ[i]? with
 | none => rw [q] at h1; cases h1
 | some z => rw [q] at h1; rw [show z = some (.ref a) from h1]
theorem Rel.setDic {K : PySem.W.Frag} {G H : Hp} {σ : L2.St} {e : List S} (r : Rel K Z G σ H e) {i : Nat} {kvs : Dd} {a : Addr} (h2 : H a = some (dO kvs)) (h3 : G a = none) (h4 : Z.H a = none) : Rel K Z G (σ.set i (some (.ref a))) H (e.set i (.dic kvs)) := by
 refine ⟨r.sub, fun j s z => ?_, by simpa using r.len, fun j k b1 b2 w1 w2 c z1 z2 z3 z4 => ?_, r.ent, r.ion, r.gen⟩
 ·by_cases hj : j = i
  ·subst hj
   have hi : j < e.length := by
    have := (List.getElem?_eq_some_iff.mp z).1; simpa using this
   rw [List.getElem?_set_self hi] at z
   cases z
   rw [List.getElem?_set_self (by rw [<- r.len]; exact hi)]
   exact ⟨a, rfl, h2, h3, h4⟩
  ·rw [List.getElem?_set_ne (fun z => hj z.symm)] at z |-
   exact r.slot j s z
 ·have old : ∀ (k : Nat) (bb : Bool) (ww : List W), (e.set i (S.dic kvs))[k]? = some (.own bb ww) -> k ≠ i /\ e[k]? = some (.own bb ww) := fun k bb ww z => by
   by_cases hk : k = i
   ·subst hk
    have hi : k < e.length := by
     have := (List.getElem?_eq_some_iff.mp z).1; simpa using this
    rw [List.getElem?_set_self hi] at z; cases z
   ·rw [List.getElem?_set_ne (fun z => hk z.symm)] at z; exact ⟨hk, z⟩
  obtain ⟨n1, q1⟩ := old _ _ _ z1
  obtain ⟨n2, q2⟩ := old _ _ _ z2
  rw [List.getElem?_set_ne (fun z => n1 z.symm)] at z3
  rw [List.getElem?_set_ne (fun z => n2 z.symm)] at z4
  exact r.dis _ _ _ _ _ _ _ q1 q2 z3 z4
noncomputable def isD : S -> Bool
 | .dic _ => true
 | _ => false
theorem Rel.mutDic {K : PySem.W.Frag} {G H : Hp} {σ : L2.St} {e : List S} (r : Rel K Z G σ H e) {i : Nat} {kvs kvs' : Dd} {a : Addr} (h : e[i]? = some (.dic kvs)) (ha : σ[i]? = some (some (.ref a))) (ho : ∀ j s, j ≠ i -> e[j]? = some s -> isD s = false) : Rel K Z G σ (upd H a (dO kvs')) (e.set i (.dic kvs')) := by
 obtain ⟨a', h1, h2, h3, h4⟩ := r.dic h
 rw [ha] at h1
 cases h1
 have hi : i < e.length := (List.getElem?_eq_some_iff.mp h).1
 refine ⟨fun c o z => ?_, fun j s z => ?_, by simpa using r.len, fun j k b1 b2 w1 w2 c z1 z2 z3 z4 => ?_, fun c o z n => ?_, fun c z => ?_, r.gen⟩
 ·rw [upd_ne (ne_of_none z h3)]; exact r.sub c o z
 ·by_cases hj : j = i
  ·subst hj
   rw [List.getElem?_set_self hi] at z
   cases z
   exact ⟨a, by rw [ha]; rfl, upd_same, h3, h4⟩
  ·rw [List.getElem?_set_ne (fun z => hj z.symm)] at z
   have y := r.slot j s z
   cases s with
   | no => trivial
   | fr w => exact y
   | own b2 w2 =>
    obtain ⟨c, ys, y1, y2, y3⟩ := y
    refine ⟨c, ys, y1, ?_, y3⟩
    rw [upd_ne (ne_of y2 h2 (fun z => dO_ne rfl z.symm))]; exact y2
   | dic kv => have := ho j _ hj z; cases this
   | thr us w2 vs =>
    obtain ⟨t, l, o, xs2, ys, zs, y1, y2, y3, y4⟩ := y
    refine ⟨t, l, o, xs2, ys, zs, y1, y2, ?_, y4⟩
    rw [upd_ne (ne_of y3 h2 (fun z => dO_ne rfl z.symm))]; exact y3
   | nest wss => exact NestOk.move y (.refl _) fun l o ys k1 k2 k3 => ⟨by rw [upd_ne (ne_of k1 h2 (fun z => dO_ne rfl z.symm))]; exact k1, k2, k3⟩
   | dw sh ks ws => exact DwOk.move y (.refl _) fun l o ys k1 k2 k3 => ⟨by rw [upd_ne (ne_of k1 h2 (fun z => dO_ne rfl z.symm))]; exact k1, k2, k3⟩
 ·have old : ∀ (k : Nat) (bb : Bool) (ww : List W), (e.set i (S.dic kvs'))[k]? = some (.own bb ww) -> e[k]? = some (.own bb ww) := fun k bb ww z => by
   by_cases hk : k = i
   ·subst hk; rw [List.getElem?_set_self hi] at z; cases z
   ·rw [List.getElem?_set_ne (fun z => hk z.symm)] at z; exact z
  exact r.dis _ _ _ _ _ _ _ (old _ _ _ z1) (old _ _ _ z2) z3 z4
 ·rw [upd_ne (ne_of_none z h4)]; exact r.ent c o z n
 ·by_cases hc : c = a
  ·subst hc; rw [upd_same]; exact fun z => nomatch z
  ·rw [upd_ne hc]; exact r.ion c z
noncomputable def onlyD (i : Nat) (e : List S) : Bool := (List.range e.length).all fun j => decide (j = i) || !((e[j]?.map isD).getD false)
theorem only_of {i : Nat} {e : List S} (h : onlyD i e = true) : ∀ j s, j ≠ i -> e[j]? = some s -> isD s = false := fun j s hj hs => by
 have hl : j < e.length := (List.getElem?_eq_some_iff.mp hs).1
 have := List.all_eq_true.mp h j (List.mem_range.mpr hl)
 rw [hs] at this
 simpa [hj] using this
noncomputable def putDC (i : Nat) (w kw : W) (e : List S) : Option S -> SR
 | some (.dic (.k kvs)) => match svW w, keyW kw with
  | some v, some x => if kvs.length < 16777216 /\ onlyD i e = true then .nx (e.set i (.dic (.k (putL kvs x v)))) else .no
  | _, _ => .no
 | _ => .no
noncomputable def dPutD (i : Nat) (d dk : Den W) : List S -> SR := fun e => (d e).stm fun w e1 => match e1[i]? with
 | some (.dic _) => (dk e1).stm fun kw e2 => putDC i w kw e2 e2[i]?
 | _ => .no
theorem ds_putD (i : Nat) (hu : X.A.units + 150 < cLine) (he : DE Z X EE e d) (hk : DE Z X EE k dk) (hN : X.N[i]? = some x := by rfl) (hv : Vis X.env.scope x := by walk_at "1") (hd : (x == ("__debug__" : Str)) = false := by decide) (hcd : (x == ("__classdict__" : Str)) = false := by decide)
  (hs : swapsWith e (some (.Subscript (.Name x p) k tpos)) pos.line X.env = pure false := by rfl) : DS Z X EE (.Assign [.Subscript (.Name x p) k tpos] e pos) (dPutD i d dk) := by
 refine PS.mono (ps_dput (by omega) (pv i hN hv hd hcd) hk he hs) ?_
 rintro D σ H ⟨G, e, rel, h⟩
 refine ⟨G, e, rel, (post_stm h).imp (fun w e1 h G1 v1 H1 r1 s1 p1 => ?_) fun _ _ h => h⟩
 split at h
 ·rename_i kv0 he0
  obtain ⟨a, q1, q2, q3, q4⟩ := r1.dic he0
  refine ⟨.ref a, q1, G1, e1, r1, (post_stm (σ := σ) h).imp (fun kw e2 h G2 v2 H2 r2 s2 p2 => ?_) fun _ _ h G' H' r s => h G' H' r (s1.trans s)⟩
  unfold putDC at h
  split at h
  ·rename_i kvs he2
   obtain ⟨a', g1, g2, g3, g4⟩ := r2.dic he2
   rw [q1] at g1; cases g1
   split at h
   ·rename_i v t hv1 hk1
    split at h
    ·rename_i hc
     cases rep_sv p1 hv1
     cases rep_key p2 hk1
     refine ⟨a, _, rfl, DPut.k (k := t) g2 (by rw [sizeLine_eq]; unfold kvV; rw [List.length_map]; exact hc.1), ?_⟩
     rw [put_kv]
     exact h G2 σ _ (r2.mutDic (kvs' := .k (putL kvs t v)) he2 q1 (only_of hc.2)) (s1.trans s2)
    ·exact h.elim
   ·exact h.elim
  ·exact h.elim
 ·exact h.elim
end
end D
set_option Elab.async false
set_option linter.all false
set_option maxRecDepth 100000
set_option maxHeartbeats 1000000
namespace D
open PySem L2 PySem.Spec PyProof.Rows
section
variable {X : Cx} {Z : Zt} {EE : L2.St -> XK} {a : Expr} {da : Den W} {pos : Pos}
end
end D
set_option Elab.async false
set_option linter.all false
set_option maxRecDepth 100000
set_option maxHeartbeats 1000000
namespace D
open PySem L2 PySem.Spec PyProof.Rows
section
variable {X : Cx} {Z : Zt} {EE : L2.St -> XK} {x dn : Str} {scope sc : Scope} {pos pt p1 p2 p3 p4 p5 : Pos} {N : List Str}
end
section
variable {X : Cx} {Z : Zt} {EE : L2.St -> XK} {e : Expr} {d : Den W} {x y z : Str} {p1 p2 p3 p4 pos : Pos} {kt : Nat}
end
section
variable {e : List S} {w kw : W} {kvs : List (Key × Sv)}
noncomputable def putD0 (i : Nat) (dk : Den W) (w : W) (e1 : List S) : Option S -> SR
 | some (.dic _) => (dk e1).stm fun kw e2 => putDC i w kw e2 e2[i]?
 | _ => .no
theorem dPutD_s {i : Nat} {d dk : Den W} : dPutD i d dk e = (d e).stm fun w e1 => putD0 i dk w e1 e1[i]? := by
 unfold dPutD putD0
 rfl
theorem putD0_d {i : Nat} {dk : Den W} {dd : Dd} : putD0 i dk w e (some (.dic dd)) = (dk e).stm fun kw e2 => putDC i w kw e2 e2[i]? := rfl
theorem putDC_ib {i : Nat} {b : Bool} {n : Int} : putDC i (.bl b) (.int n) e (some (.dic (.k kvs))) = if kvs.length < 16777216 /\ onlyD i e = true then .nx (e.set i (.dic (.k (putL kvs (.inl n) (.inr b))))) else .no := rfl
theorem hide_dic {dd : Dd} : hide1 (.dic dd) = .fr (.dic dd) := rfl
theorem ninD_i {n : Int} : ninD (.int n) (.dic (.k kvs)) = some (.bl (!(lk kvs (.inl n)).isSome)) := rfl
theorem ixD_i {n : Int} : ixD (.dic (.k kvs)) (.int n) = (lk kvs (.inl n)).map wSv := rfl
end
end D
set_option Elab.async false
set_option linter.all false
set_option maxRecDepth 100000
set_option maxHeartbeats 4000000
namespace L2
open PySem PySem.Spec PyProof.Rows
theorem law_callT {P : Program} {w : World} {K : PySem.W.Frag} {mg mb : Str -> Option Value} {CX : CXT} {k : Nat} {fa a : Addr} {fd : FuncData} {x : Str} {sp : Sp} {s₁ : Shared} {vs : List Value} {ns : List Int} {tabs : List (Addr × Str)}
  (KX : K.In s₁.heap) (hns : s₁.heap.Ns mainGlobals mg) (hb : s₁.heap.Ns builtinsNs mb) (hbb : ∀ x : Str, x ≠ "__name__" -> mb x = bootBuiltins x) (hlim : s₁.heap.NoLimit) (hg : s₁.gens = #[])
  (ha : s₁.heap.get? a = some { cls := .type "list", data := .seq vs.toArray }) (hi : IntsAre vs ns) (hl : ns.length <= sizeLine) (hr : Room k callerA)
  (F : ∀ base : Heap, K.In base -> base.Ns mainGlobals mg -> BMain base mg -> FnOk P w K mg base CX k fa fd [x] sp) (hbind : ∀ (s : Shared) (u : Value), BindsTo s fd ⟨[u], []⟩ [(x, u)])
  (hsp : ∀ H : Hp, SqL K H a (ns.map V.int) -> sp [.ref a] H (fun v _ => v = .bl true) fun _ _ _ => False)
  (hCX : ∀ H e s', CX [] H s₁ (fun _ _ _ => False) e s' -> False)
  (hBM : BMain s₁.heap mg) (hM : ∀ a q P, (a, markO P q) ∈ K -> tabs.lookup P = some q) (hT : ∀ P q, tabs.lookup P = some q -> s₁.heap.get? P = some (PySem.W.tabObj #[]) /\ isCodeTable s₁.heap P) (hKT : ∀ P q, tabs.lookup P = some q -> K.lookup P = none) :
  codeAny (model P w) callerA (.call (.ref fa) ⟨[.ref a], []⟩) (fun r s' => r = .ok (.ret (.bool true)) /\ OldK s₁.heap s'.heap /\ s'.os = s₁.os /\ AllBare s'.gens) s₁ := by
 have rv := vals_ints hi
 have lenV := hi.length
 have aT : tabs.lookup a = none := by
  cases q : tabs.lookup a with
  | none => rfl
  | some t => rw [(hT a t q).1] at ha; cases ha
 have core : ∀ H0 : Hp, (∀ b, H0 b = none \/ ∃ o xs, H0 b = some (.frz o (.lst xs))) -> SqL K H0 a (ns.map V.int) -> HOk P w H0 s₁.heap -> (∀ b, H0 b ≠ none -> b = a) -> (H0 a ≠ none -> K.lookup a = none) ->
   codeAny (model P w) callerA (.call (.ref fa) ⟨[.ref a], []⟩) (fun r s' => r = .ok (.ret (.bool true)) /\ OldK s₁.heap s'.heap /\ s'.os = s₁.os /\ AllBare s'.gens) s₁ := by
  intro H0 hO hS0 hok0 hA hK
  obtain ⟨H, hH⟩ : ∃ H : Hp, H = fun b => match tabs.lookup b with | some q => some (.tbl #[.bool true, .str q 0]) | none => H0 b := ⟨_, rfl⟩
  have inT : ∀ b q, tabs.lookup b = some q -> H b = some (.tbl #[.bool true, .str q 0]) := fun b q z => by rw [hH]; simp only [z]
  have outT : ∀ b, tabs.lookup b = none -> H b = H0 b := fun b z => by rw [hH]; simp only [z]
  have up : ∀ b u, H0 b = some u -> H b = some u := fun b u z => by
   have : b = a := hA b (by rw [z]; simp)
   subst this
   rw [outT b aT]; exact z
  have hS : SqL K H a (ns.map V.int) := by
   rcases hS0 with (z | ⟨o, z⟩) | z
   ·exact .inl (.inl (up _ _ z))
   ·exact .inl (.inr ⟨o, up _ _ z⟩)
   ·exact .inr z
  have hok : HOk P w H s₁.heap := fun b u z => by
   cases q : tabs.lookup b with
   | some t =>
    rw [inT b t q] at z
    cases z
    exact .inl ⟨t, #[], rfl, rfl, (hT b t q).1, trivial, fun pos cv z => by cases z⟩
   | none =>
    rw [outT b q] at z
    exact (hok0 b u z).stay (fun c v _ q => q) (fun c q => up c _ q) fun c v _ q => up c v q
  have base_of : ∀ {b : Addr} {o : Obj}, s₁.heap.get? b = some o -> H b = none -> (hidT s₁.heap H).get? b = some o := fun e n => hidT_get e n
  have free : ∀ {b : Addr} {o : Obj}, s₁.heap.get? b = some o -> o ≠ { cls := .type "list", data := .seq vs.toArray } -> o ≠ PySem.W.tabObj #[] -> H b = none := fun {b o} e d1 d2 => by
   cases q : tabs.lookup b with
   | some t => rw [(hT b t q).1] at e; cases e; exact absurd rfl d2
   | none =>
    rw [outT b q]
    cases q0 : H0 b with
    | none => rfl
    | some u =>
     have e' : b = a := hA b (by rw [q0]; simp)
     subst e'
     rw [ha] at e; cases e
     exact absurd rfl d1
  have nsK : ∀ {b : Addr} {m : Str -> Option Value}, s₁.heap.Ns b m -> (hidT s₁.heap H).Ns b m := fun {b m} ⟨o, es, ep, e, d, r⟩ => ⟨o, es, ep, base_of e (free e (fun z => by rw [z] at d; cases d) fun z => by rw [z] at d; cases d), d, r⟩
  have hKb : K.In (hidT s₁.heap H) := fun b o e => base_of (KX b o e) (by
   cases q : tabs.lookup b with
   | some t => rw [hKT b t q] at e; cases e
   | none =>
    rw [outT b q]
    cases q0 : H0 b with
    | none => rfl
    | some u =>
     have e' : b = a := hA b (by rw [q0]; simp)
     subst e'
     rw [hK (by rw [q0]; simp)] at e; cases e)
  have hBb : BMain (hidT s₁.heap H) mg := by
   obtain ⟨bm, ob, b1, b2, b3, b4, b5, b6⟩ := hBM
   exact ⟨bm, ob, b1, b2, base_of b3 (free b3 (fun z => by rw [z] at b4; simp at b4) fun z => by rw [z] at b4; cases b4), b4, b5, b6⟩
  have hMd : Mod K mg (hidT s₁.heap H) := ⟨hKb, nsK hns, ⟨mb, nsK hb, hbb⟩, let ⟨mc, h1, h2⟩ := hlim; ⟨mc, nsK h1, h2⟩⟩
  have e0 : Env0 P w K mg (hidT s₁.heap H) callerA [] s₁ H := ⟨rfl, hMd, fun b o e => of_hidT e, Nat.le_of_eq (hidT_size _ _), trivial, fun b hb => absurd (show b ∈ ([] : List Addr) from hb) (by simp), hok, .of_eq hg, fun a q P m => ⟨_, inT P q (hM a q P m), rfl, rfl⟩⟩
  refine codeAny_mono ((F _ hKb (nsK hns) hBb).run callerA [] s₁ H ⟨[.ref a], []⟩ [.ref a] [.ref a] _ _ hr e0 (hbind s₁ (.ref a)) (.cons rfl .nil) (hsp H hS)) fun r s' h => ?_
  cases r with
  | error e => exact (hCX H e s' h).elim
  | ok fl =>
   cases fl with
   | next => exact False.elim h
   | brk => exact False.elim h
   | cont => exact False.elim h
   | ret u =>
    obtain ⟨v, H', os, bare, un, hok', r', q⟩ := h
    have q' : v = .bl true := q
    subst q'
    obtain rfl : u = Value.bool true := r'
    have kp : ∀ b o, tabs.lookup b = none -> s₁.heap.get? b = some o -> s'.heap.get? b = some o := fun b o z e => by
     cases q : H b with
     | none => exact un.keep b o e q (by intro z; exact absurd (show b ∈ ([] : List Addr) from z) (by simp)) (by simp)
     | some u =>
      have q0 := q
      rw [outT b z] at q0
      rcases hO b with z | ⟨ob, xs, z⟩
      ·rw [q0] at z; cases z
      ·rw [q0] at z
       cases z
       have z2 := un.frzs b ob _ q
       obtain ⟨e1, _⟩ := (show s₁.heap.get? b = some ob /\ _ from hok b _ q)
       obtain ⟨e2, _⟩ := (show s'.heap.get? b = some ob /\ _ from hok' b _ z2)
       rw [e] at e1; cases e1
       exact e2
    have gr : ∀ b t, tabs.lookup b = some t -> ∃ qs, s'.heap.get? b = some (PySem.W.tabObj qs) := fun b t z => by
     obtain ⟨more, e⟩ := un.tbls b _ (inT b t z)
     have o1 : ObjOk P w H' s'.heap b (.tbl (#[.bool true, .str t 0] ++ more)) := hok' b _ e
     rcases o1 with ⟨_, qs, _, _, g, _⟩ | ⟨_, _, _, _, _, _, p0, _⟩
     ·exact ⟨qs, g⟩
     ·rw [Array.getElem?_append_left (by simp)] at p0
      cases p0
    refine ⟨rfl, ⟨fun b o e => ?_, fun b o e => ?_⟩, os, bare⟩
    ·cases z : tabs.lookup b with
     | none => exact .inl (kp b o z e)
     | some t =>
      obtain ⟨qs, g⟩ := gr b t z
      obtain ⟨g1, g2⟩ := hT b t z
      rw [e] at g1
      cases g1
      exact .inr (.inl ⟨g2, rfl, #[], qs, rfl, by rw [Array.empty_append]; exact g⟩)
    ·cases z : tabs.lookup b with
     | none => exact ⟨o, kp b o z e⟩
     | some t =>
      obtain ⟨qs, g⟩ := gr b t z
      exact ⟨_, g⟩
 cases hk : K.lookup a with
 | some o =>
  have e := KX a o hk
  rw [ha] at e
  cases e
  refine core (fun _ => none) (fun _ => .inl rfl) (.inr ⟨_, vs.toArray, _, hk, rfl, rfl, rfl, by rw [List.size_toArray, lenV]; exact hl, by simpa using rv⟩) (fun b u z => by have z' : (none : Option HO) = some u := z; cases z') (fun b z => absurd rfl z) fun z => absurd rfl z
 | none =>
  refine core (fun b => if b = a then some (.frz { cls := .type "list", data := .seq vs.toArray } (.lst (ns.map V.int))) else none) (fun b => ?_) (.inl (.inr ⟨{ cls := .type "list", data := .seq vs.toArray }, if_pos rfl⟩)) (fun b u z => ?_) (fun b z => ?_) fun _ => hk
  ·by_cases hb : b = a
   ·exact .inr ⟨_, _, if_pos hb⟩
   ·exact .inl (if_neg hb)
  ·by_cases hb : b = a
   ·have z' := (if_pos hb).symm.trans z
    cases z'
    subst hb
    exact ⟨ha, by rw [List.length_map]; exact hl, vs, _, rv, ha⟩
   ·have z' := (if_neg hb).symm.trans z
    cases z'
  ·by_cases hb : b = a
   ·exact hb
   ·exact absurd (if_neg hb) z
theorem walk_ofT {l : PySem.W.OpenLaw} {n k : Nat} {q : Program} {loose : List Str} {XP : (Str -> Option Value) -> Heap -> Prop} {YP : World -> Heap -> Prop} {d : DefRec} {K : Params -> PySem.W.Frag} {CX : World -> CXT} {sp : World -> Sp} {x : Str} {tabs : List (Addr × Str)}
  (hn : l.most = some n) (hn2 : n <= sizeLine) (hdf : d.params.defaults = []) (hr : Room k callerA)
  (hY : ∀ (w : World) (h : Heap), YP w h -> (K w.params).In h)
  (F : ∀ (w : World) (mg : Str -> Option Value) (fa : Addr) (h : Heap), (K w.params).In h -> h.Ns mainGlobals mg -> mg d.name = some (.ref fa) ->
   ∃ fd : FuncData, (∀ (s : Shared) (u : Value), BindsTo s fd ⟨[u], []⟩ [(x, u)]) /\
    ∀ base : Heap, (K w.params).In base -> base.Ns mainGlobals mg -> BMain base mg -> FnOk l.prog w (K w.params) mg base (CX w) k fa fd [x] (sp w))
  (hsp : ∀ (w : World) (H : Hp) (a : Addr) (ns : List Int), ns.length <= n -> SqL (K w.params) H a (ns.map V.int) -> sp w [.ref a] H (fun v _ => v = .bl true) fun _ _ _ => False)
  (hCX : ∀ (w : World) (H : Hp) (s : Shared) (e : Value) (s' : Shared), CX w [] H s (fun _ _ _ => False) e s' -> False)
  (hM : ∀ (w : World) a q P, (a, markO P q) ∈ K w.params -> tabs.lookup P = some q) (hT : ∀ (w : World) (h : Heap), YP w h -> ∀ P q, tabs.lookup P = some q -> h.get? P = some (PySem.W.tabObj #[]) /\ isCodeTable h P) (hKT : ∀ (w : World) P q, tabs.lookup P = some q -> (K w.params).lookup P = none) :
  PySem.W.WalkO q loose XP YP l.row.toRowW d [] (fun f vs => PySem.call f vs) := by
 refine Att.attach_call hn hdf fun w s₀ s₁ mg mb fa o pm cd doc a vs ns G Y ho hd hcd hmg hobj hints hlen hg => ?_
 have KX := hY w _ Y
 obtain ⟨fd, hb, hF⟩ := F w mg fa _ KX G.T.g hmg
 exact law_callT KX G.T.g G.T.b G.T.builtins G.T.nolimit hg hobj hints (Nat.le_trans hlen hn2) hr hF hb (fun H hS => hsp w H a ns hlen hS) (fun H e s' => hCX w H s₁ e s') G.T.bmain (hM w) (hT w _ Y) (hKT w)
end L2
set_option Elab.async false
set_option linter.all false
set_option maxRecDepth 100000
set_option maxHeartbeats 1000000
namespace L2
open PySem PySem.Spec PyProof.Rows
def tD1 (tk tv : TE) : TE := fun σ H Q => ∀ p, H p = none -> tk σ (upd H p (.dK [])) fun k H1 => tv σ H1 fun v H2 => ∃ kk, k = kV kk /\ H2 p = some (.dK []) /\ Q (.ref p) (upd H2 p (.dK [(kk, v)]))
section
variable {X : Cx} {ek ev : Expr} {tk tv : TE} {pos : Pos}
theorem pe_d1 (hk : PE X ek tk) (hv : PE X ev tv) : PE X (.Dict [some ek] [ev] pos) (tD1 tk tv) := by
 intro pins s σ H Q I h
 refine wpAny_Dict_any rfl rfl (by simp) (by simp) ?_
 have fr : H s.heap.objs.size = none := I.hok.fresh (Nat.le_refl _)
 have I0 := I.laid (a := s.heap.objs.size) (o := .dK []) (t' := s.toks) (fun _ _ q => Heap.get?_push_of_some _ q) (Nat.le_refl _) (dk_empty s.heap I.big)
 show wpAny _ _ (evalPairs [(eval ek X.env, do let x <- eval ev X.env; standAt pos; pure x)]) _ _ _
 refine evalPairs_cons (thn (hk pins _ σ _ _ I0 (h _ fr)) fun ku s1 ⟨k, H1, I1, rk, q1⟩ => ?_)
 refine wpAny_bind (thn (hv pins s1 σ H1 _ I1 q1) fun vu s2 ⟨v, H2, I2, rv, kk, e, hp, q⟩ => wpAny_bind (wpAny_standAt (wpAny_pure (evalPairs_nil ?_))))
 subst e
 obtain ⟨z, hd, vs, rel, dd⟩ := dk_of I2.hok hp
 cases rel
 refine wpAny_storeAll (knd := mixKind X.prog X.w) [(ku, vu)] [(kk, vu)] [] s2 _ ⟨kV_is rk, rfl, trivial⟩ dd (by rw [sizeLine_eq]; simp) fun h' dd' hs => ?_
 have he : ∃ q, h'.get? s.heap.objs.size = some q := let ⟨q, _, _, hq, _⟩ := dd'; ⟨q, hq⟩
 have dd2 : h'.DictOf (mixKind X.prog X.w) s.heap.objs.size [(kk, vu)] := dd'
 refine ⟨.ref s.heap.objs.size, _, d_write I2 (by rw [hp]; exact True.intro) hs he (dk_new (kvs := [(kk, v)]) (by rw [sizeLine_eq]; simp) hd (.cons ⟨rfl, rv⟩ .nil) dd2), rfl, q⟩
end
end L2
set_option Elab.async false
set_option linter.all false
set_option maxRecDepth 100000
set_option maxHeartbeats 1000000
namespace L2
open PySem PySem.Spec PyProof.Rows
section
variable {prog : Program} {w : World} {A : Around} {E : Value -> Shared -> Prop} {s : Shared} {d : Addr} {es : Array DictEntry} {ep : Nat}
theorem RawAt.keeps {h h' : Heap} (x : RawAt h d es ep) (k : ∀ o, h.get? d = some o -> h'.get? d = some o) : RawAt h' d es ep := let ⟨o, ho, r⟩ := x; ⟨o, k o ho, r⟩
theorem walks_raw (hh : A.handled = none) (I : Addr) (hne : d ≠ I) : Walks prog w A I [I, d] [I] es.size (fun i v => ∃ e, es[i]? = some e /\ v = e.key) (fun i h => h.IsKeyIter I d i es.size ep /\ RawAt h d es ep) where
 sub := fun b hb => by simp at hb; simp [hb]
 frame := fun i h h' st hk => ⟨let ⟨o, ho, r⟩ := st.1; ⟨o, hk I (by simp) o ho, r⟩, st.2.keeps fun o e => hk d (by simp) o e⟩
 item := fun i s Q E hi st hQ => raw_item st.1 st.2 hi fun h' st' sb => hQ _ h' s.toks ⟨es[i], Array.getElem?_eq_getElem hi, rfl⟩ ⟨st', st.2.keeps fun o e => (sb.2 d hne).trans e⟩ fun b o hb e => (sb.2 b (fun z => hb (by simp [z]))).trans e
 done := fun s Q E st hQ => raw_end hh st.1 st.2 (Nat.le_refl _) fun h' eb => hQ h' s.toks fun b o hb e => eb b o (fun z => hb (by simp [z])) e
 self := fun i s Q E st hQ => wpAny_pyIter_keyiter st.1 hQ
theorem kdl_raw (lo : (d == sysModules) = false) : PySem.W.KdlSrc prog w "dict" d d es.size (fun i v => ∃ e, es[i]? = some e /\ v = e.key) (fun h => RawAt h d es ep) where
 type := fun s hm => hm.typeIs
 there := fun h hm => let ⟨o, ho, _⟩ := hm; ⟨Heap.lt_size ho, Heap.lt_size ho⟩
 keep := fun h h' hm hk => hm.keeps fun o e => hk d (.inl rfl) o e
 notList := by decide
 notTuple := by decide
 hint := fun A E s Q hm hq => PySem.W.kdl_hint_dict hm.typeIs hq
 iter := fun A s hh hm => ⟨_, _, (fun E Q hq => raw_iter lo hm hq), walks_raw hh _ (let ⟨o, ho, _⟩ := hm; Nat.ne_of_lt (Heap.lt_size ho)), ⟨⟨_, Heap.get?_push_size _ rfl, rfl, rfl⟩, hm.keeps fun o e => Heap.get?_push_of_some _ e⟩⟩
end
def rListK : List V -> Hp -> VK -> Prop := fun xs H Q => ∃ a sh kvs kas, xs = [.ref a] /\ Rd H a (.dT sh kvs kas) /\ ∀ l, H l = none -> Q (.ref l) (upd H l (.lst (kas.map V.ref)))
theorem call_listK {X : Cx} (hc : X.calm = true) : CallR X (.type "list") rListK := by
 intro pins s σ H xs us Q I r h
 obtain ⟨a, sh, kvs, kas, rfl, hq, q⟩ := h
 obtain ⟨u, rfl, rx⟩ := vals1 r
 cases rx
 obtain ⟨z, lo, ys, rel, hk, o, es, ep, h1, h2, h3, h4, h5⟩ := (show ObjOk X.prog X.w H s.heap a (.dT sh kvs kas) from hq.ok I.hok)
 have hsz : es.size = kas.length := by
  have e1 := congrArg List.length h4
  have e2 := congrArg List.length hk
  simp at e1 e2
  omega
 have hkl : kas.length <= sizeLine := by
  have e2 := congrArg List.length hk
  have e3 := rel.length
  simp at e2
  omega
 have hkey : ∀ (i : Nat) (e : DictEntry), es[i]? = some e -> (kas[i]?).map Value.ref = some e.key := fun i e he => by
  have e1 : es.toList[i]? = some e := by rw [Array.getElem?_toList]; exact he
  rw [h4, List.getElem?_map] at e1
  obtain ⟨y, hy, rfl⟩ := Option.map_eq_some_iff.mp e1
  rw [<- hk, List.getElem?_map, hy]
  rfl
 refine PySem.W.kdl_call (kdl_raw (es := es) (ep := ep) lo) (I.ok.hd hc) ⟨o, h1, h2, h3⟩ (by rw [hsz]; exact hkl) fun h' tk acc' c' kp e hi => ?_
 obtain ⟨hi1, hi2⟩ := hi
 have ev : acc'.toList = kas.map Value.ref := by
  apply List.ext_getElem?
  intro i
  rw [Array.getElem?_toList, List.getElem?_map]
  by_cases hlt : i < acc'.size
  ·obtain ⟨e', he', hv⟩ := hi2 i acc'[i] (Array.getElem?_eq_getElem hlt)
   rw [Array.getElem?_eq_getElem hlt, hv, hkey i e' he']
  ·rw [Array.getElem?_eq_none (Nat.not_lt.mp hlt), List.getElem?_eq_none (by omega)]
   rfl
 have rv : ∀ l : List Addr, Vals (l.map V.ref) (l.map Value.ref) := fun l => by
  induction l with
  | nil => exact .nil
  | cons b l ih => exact .cons rfl ih
 refine ⟨.ref s.heap.objs.size, _, I.laid (t' := tk) kp (Nat.le_refl _) (show ObjOk X.prog X.w _ h' _ (.lst (kas.map V.ref)) from ⟨by rw [List.length_map]; exact hkl, kas.map Value.ref, c', rv kas, by rw [<- ev]; exact e⟩), rfl, q _ (I.hok.fresh (Nat.le_refl _))⟩
end L2
set_option Elab.async false
set_option linter.all false
set_option maxRecDepth 100000
set_option maxHeartbeats 1000000
namespace D
open PySem L2
mutual
noncomputable def noFn : W -> Bool
 | .tup ws => noFns ws
 | .lst ws => noFns ws
 | .dw _ _ _ ws => noFns ws
 | .fn _ _ _ => false
 | .non => true
 | .bl _ => true
 | .int _ => true
 | .str _ => true
 | .exc _ => true
 | .dic _ => true
noncomputable def noFns : List W -> Bool
 | [] => true
 | w :: ws => noFn w && noFns ws
end
section
variable {K : PySem.W.Frag} {G : Hp} {cs : Cs}
theorem Rd.rm {a : Addr} {u : HO} (c : CelsIn G cs) (h : Rd G a u) (n : ∀ o, u ≠ celO o) (n2 : ∀ φ, u ≠ .ext φ) : Rd (rmC G cs) a u := by
 rcases h with h | ⟨o, h⟩
 ·exact .inl (c.rm_some h n)
 ·exact .inr ⟨o, c.rm_some h fun o' z => by cases z; exact n2 _ rfl⟩
theorem KeysG.rm (c : CelsIn G cs) : ∀ {ks : List Kx} {bs : List Addr}, KeysG G ks bs -> KeysG (rmC G cs) ks bs
 | [], [], _ => trivial
 | k :: ks, b :: bs, h => ⟨KRep.keeps (fun _ _ t z => c.rm_some z (tupLike_cel t)) k h.1, KeysG.rm c h.2⟩
 | [], _ :: _, h => h.elim
 | _ :: _, [], h => h.elim
mutual
theorem Rep.rm (c : CelsIn G cs) : ∀ (w : W) {v : V}, noFn w = true -> Rep K G w v -> Rep K (rmC G cs) w v
 | .non, v, _, h => h
 | .bl b, v, _, h => h
 | .int i, v, _, h => h
 | .str x, v, _, h => h
 | .tup ws, v, n, h => by
  obtain ⟨a, xs, rfl, q, r⟩ := h
  refine ⟨a, xs, rfl, ?_, Reps.rm c ws n r⟩
  rcases q with q | q
  ·exact .inl (Rd.rm c q (fun o z => nomatch z) fun φ z => nomatch z)
  ·exact .inr q
 | .lst ws, v, n, h => by
  obtain ⟨a, xs, rfl, q, r⟩ := h
  refine ⟨a, xs, rfl, ?_, Reps.rm c ws n r⟩
  rcases q with q | q
  ·exact .inl (Rd.rm c q (fun o z => nomatch z) fun φ z => nomatch z)
  ·exact .inr q
 | .exc e, v, _, h => by
  obtain ⟨a, rfl, q⟩ := h
  exact ⟨a, rfl, c.rm_some q fun o z => by unfold excO at z; cases z⟩
 | .dic kvs, v, _, h => by
  obtain ⟨a, rfl, q⟩ := h
  exact ⟨a, rfl, c.rm_some q fun o z => by cases kvs; cases z⟩
 | .dw fz sh ks ws, v, n, h => by
  obtain ⟨a, kvs, kas, rfl, h1, h2, h3, h4⟩ := h
  refine ⟨a, kvs, kas, rfl, ?_, h2, KeysG.rm c h3, Reps.rm c ws n h4⟩
  cases fz with
  | true => obtain ⟨o, h1⟩ := h1; exact ⟨o, c.rm_some h1 fun o z => nomatch z⟩
  | false => exact c.rm_some h1 fun o z => nomatch z
 | .fn _ _ _, v, n, _ => by cases n
theorem Reps.rm (c : CelsIn G cs) : ∀ (ws : List W) {xs : List V}, noFns ws = true -> Reps K G ws xs -> Reps K (rmC G cs) ws xs
 | [], xs, _, h => h
 | w :: ws, xs, n, h => by
  obtain ⟨x, r, rfl, h1, h2⟩ := h
  have n' : noFn w = true /\ noFns ws = true := by
   have : (noFn w && noFns ws) = true := n
   rwa [Bool.and_eq_true] at this
  exact ⟨x, r, rfl, Rep.rm c w n'.1 h1, Reps.rm c ws n'.2 h2⟩
end
end
section
variable {G H G' H' : Hp} {cs : Cs}
theorem same_add (h : ∀ b o, cs.lookup b = some o -> H b = none) : Same H (addC H cs) := fun b u e => by
 cases q : cs.lookup b with
 | some o => rw [h b o q] at e; cases e
 | none => rw [addC_out q]; exact e
theorem same_add2 (h : Same G H) : Same (addC G cs) (addC H cs) := fun b u e => by
 cases q : cs.lookup b with
 | some o => rw [addC_in q] at e |-; exact e
 | none => rw [addC_out q] at e |-; exact h b u e
theorem same_rm2 (h : Same G H) : Same (rmC G cs) (rmC H cs) := fun b u e => by
 obtain ⟨e1, e2⟩ := of_rm e
 rw [rmC_out e2]
 exact h b u e1
theorem Grow.lam (ch : CelsIn H cs) (cg : CelsIn G cs) (e1 : Same (rmC H cs) H') (e2 : Same (rmC G cs) G') (e3 : Same G' H') (e4 : ∀ a, rmC H cs a ≠ none -> G' a = rmC G cs a) : Grow G H (addC G' cs) (addC H' cs) where
 hh := fun b u e => by
  cases q : cs.lookup b with
  | some o => rw [addC_in q]; rw [ch b o q] at e; exact e
  | none => rw [addC_out q]; exact e1 b u (by rw [rmC_out q]; exact e)
 gg := fun b u e => by
  cases q : cs.lookup b with
  | some o => rw [addC_in q]; rw [cg b o q] at e; exact e
  | none => rw [addC_out q]; exact e2 b u (by rw [rmC_out q]; exact e)
 sub := same_add2 e3
 new := fun a ha => by
  cases q : cs.lookup a with
  | some o => rw [addC_in q, cg a o q]
  | none =>
   rw [addC_out q, e4 a (by rw [rmC_out q]; exact ha), rmC_out q]
theorem Grow.nocells (g : Grow (addC G cs) (addC H cs) G' H') (hn : ∀ b o, cs.lookup b = some o -> H b = none) (sg : Same G H) : Grow G H (rmC G' cs) (rmC H' cs) where
 hh := fun b u e => by
  cases q : cs.lookup b with
  | some o => rw [hn b o q] at e; cases e
  | none => rw [rmC_out q]; exact g.hh b u (by rw [addC_out q]; exact e)
 gg := fun b u e => by
  cases q : cs.lookup b with
  | some o => have := sg b u e; rw [hn b o q] at this; cases this
  | none => rw [rmC_out q]; exact g.gg b u (by rw [addC_out q]; exact e)
 sub := same_rm2 g.sub
 new := fun a ha => by
  cases q : cs.lookup a with
  | some o => exact absurd (hn a o q) ha
  | none => rw [rmC_out q, g.new a (by rw [addC_out q]; exact ha), addC_out q]
end
noncomputable def exprFR : R W -> FR
 | .ok w _ => .ok (.fr w)
 | .ex c _ => .ex c
 | .no => .no
def spV (K : PySem.W.Frag) (lams : Nat -> Option Lm) (r : Nat -> List W -> FR) : V -> List V -> Hp -> VK -> XK -> Prop := fun x vs H Q _ => ∃ G i l caps ws w, Same G H /\ Rep K G (.fn i l caps) x /\ Reps K G ws vs /\ noFns ws = true /\ noFns caps = true /\ lams i = some l /\
 r i (ws ++ caps) = .ok (.fr w) /\ ∀ G' H' v, Grow G H G' H' -> Rep K G' w v -> Q v H'
structure LamOk (P : Program) (w : World) (K : PySem.W.Frag) (mg : Str -> Option Value) (base : Heap) (n : Nat) (l : Lm) (ps : List Str) (F : List W -> FR) : Prop where
 sc : LamScope ps l.nf l.scope
 bind : ∀ (cl : List (Str × Addr)) (pm : Value) (c' : Addr) (ctv : Value) (us : List Value), us.length = ps.length -> bindArgs (PySem.W.kla_fn "<lambda>" l.qual l.params l.body l.scope cl pm (.ref c') ctv) ⟨us, []⟩ = pure (ps.zip us)
 len : ∀ ws, F ws ≠ .no -> ws.length = ps.length + l.nf.length
 body : ∀ ws, F ws ≠ .no -> ∀ (Z : Zt) (f : Addr) (cd : Value) (cl : List (Str × Addr)) (A : Around) (outer : List Env) (s : Shared) (H : Hp), Room n (A.deeper (lamEnv l.qual l.scope f cd cl s)) ->
  ∃ d, DE Z (cxLam P w K mg base (ps ++ l.nf) l.qual l.scope f cd cl A outer s H) (fun _ => E0) l.body d /\ exprFR (d (ws.map .fr)) = F ws
theorem fnV_of {P : Program} {w : World} {K : PySem.W.Frag} {mg : Str -> Option Value} {base : Heap} {n : Nat} {lams : Nat -> Option Lm} {r : Nat -> List W -> FR} (h : ∀ i l, lams i = some l -> ∃ ps, LamOk P w K mg base n l ps (r i)) :
  FnV P w K mg base (CX1 P w) (n + 1) (spV K lams r) := by
 rintro x vs H Q E ⟨G, i, l, caps, ws, w', sg, rf, rv, nw, nc, hl, hr, q⟩
 obtain ⟨ps, L⟩ := h i l hl
 obtain ⟨f, cl, zs, cs, rfl, ⟨pm, c', ctv, ef⟩, FC, rz⟩ := rf
 have hn : r i (ws ++ caps) ≠ .no := by rw [hr]; exact fun z => nomatch z
 have hlen := L.len _ hn
 have hz : zs.length = l.nf.length := FC.len
 have hcl : caps.length = l.nf.length := by rw [<- rz.length]; exact hz
 have hwl : ws.length = ps.length := by rw [List.length_append, hcl] at hlen; omega
 have hvl : vs.length = ps.length := by rw [rv.length]; exact hwl
 have cg : CelsIn G cs := fun b o e => (FC.cel b o e).1
 have ch : CelsIn H cs := fun b o e => sg _ _ (cg b o e)
 refine ⟨f, _, _, _, _, _, rfl, sg _ _ ef, fun A outer s us hR e0 ru => ?_⟩
 have hul : us.length = ps.length := by rw [<- ru.length]; exact hvl
 have FC2 : LamCells cl l.nf l.scope zs s.heap cs := ⟨FC.inj, FC.has, FC.all, fun c o e => ⟨(show s.heap.get? c = some o /\ _ from e0.hok c _ (ch c o e)).1, (FC.cel c o e).2⟩, FC.val⟩
 obtain ⟨d, hd, he⟩ := L.body _ hn ⟨rmC H cs, rmC G cs, []⟩ f (.ref c') cl A outer s (rmC H cs) (hR.deeper _)
 refine lam_run hR e0 (sg _ _ ef) L.sc ch FC2 (L.bind cl pm c' ctv us hul) hvl hz ru hd ?_
 have sg' : Same (rmC G cs) (rmC H cs) := same_rm2 sg
 have rr : Reps K (rmC G cs) (ws ++ caps) (vs ++ zs) := (Reps.rm cg ws nw rv).append (Reps.rm cg caps nc rz)
 have rel := rel_init (N := ps ++ l.nf) sg' rr
 have e1 : L2.start (ps ++ l.nf) (vs ++ zs) = vs.map some ++ zs.map some := by
  unfold L2.start
  rw [show (ps ++ l.nf).length - (vs ++ zs).length = 0 by simp [hvl, hz], List.replicate_zero, List.append_nil, List.map_append]
 have e2 : init (ps ++ l.nf).length (ws ++ caps) = (ws ++ caps).map .fr := by
  unfold init
  rw [show (ps ++ l.nf).length - (ws ++ caps).length = 0 by simp [hwl, hcl], List.replicate_zero, List.append_nil]
 rw [e1, e2] at rel
 refine ⟨rmC G cs, _, rel, ?_⟩
 cases hde : d ((ws ++ caps).map .fr) with
 | ok w2 e' =>
  rw [hde, hr] at he
  cases he
  intro G' v H' r' sG rp hnone
  have hn' : ∀ b o, cs.lookup b = some o -> G' b = none := fun b o z => by
   cases q2 : G' b with
   | none => rfl
   | some u => have := r'.sub b u q2; rw [hnone b o z] at this; cases this
  exact q (addC G' cs) (addC H' cs) v (Grow.lam ch cg (fun b u e => r'.ent b u e (fun z => nomatch z)) sG r'.sub r'.gen) (Rep.mono (same_add hn') _ rp)
 | ex c e' => rw [hde, hr] at he; cases he
 | no => rw [hde, hr] at he; cases he
section
variable {X : Cx} {Z : Zt} {EE : L2.St -> XK} {e : Expr} {es : List Expr} {dA : Den (List W)} {x : Str} {p pos : Pos} {k : Nat} {lams : Nat -> Option Lm} {r : Nat -> List W -> FR}
open Classical in
noncomputable def callVK (lams : Nat -> Option Lm) (r : Nat -> List W -> FR) (j : Nat) (l : Lm) (caps : List W) (ws : List W) (e1 : List S) : R W :=
 if lams j = some l /\ noFns ws = true /\ noFns caps = true then (match r j (ws ++ caps) with
  | .ok (.fr w) => .ok w e1
  | _ => .no) else .no
noncomputable def callV0 (lams : Nat -> Option Lm) (r : Nat -> List W -> FR) (dA : Den (List W)) (e : List S) : Option S -> R W
 | some (.fr (.fn j l caps)) => (dA e).bind fun ws e1 => callVK lams r j l caps ws e1
 | _ => .no
noncomputable def dCallV (lams : Nat -> Option Lm) (r : Nat -> List W -> FR) (i : Nat) (dA : Den (List W)) : Den W := fun e => callV0 lams r dA e e[i]?
theorem de_callV (i : Nat) (F : FnV X.prog X.w X.K X.mg X.base (CX1 X.prog X.w) k (spV X.K lams r)) (hr : Room k X.A) (hx : PassX (CX1 X.prog X.w) X EE) (ha : DA Z X EE (e :: es) dA) (hv : PE X (.Name x p) (tVar i))
  (he : starEach (e :: es) X.env = (false, eval e X.env) :: starEach es X.env := by rfl) (hpl : (backTo pos (starEach es X.env)).any (·.1) = false := by rfl) :
  DE Z X EE (.Call (.Name x p) (e :: es) [] pos) (dCallV lams r i dA) := by
 refine PE.mono (pe_callV F hr hv hx ha he hpl) ?_
 rintro σ H Q ⟨G, en, rel, h⟩
 unfold dCallV callV0 at h
 split at h
 ·rename_i j l caps hs
  obtain ⟨v, hv, rv⟩ := rel.fr hs
  refine ⟨v, hv, ?_, G, en, rel, ?_⟩
  ·obtain ⟨f, cl, zs, cs, rfl, ⟨pm, c', ctv, ef⟩, _⟩ := rv
   exact ⟨f, _, _, _, _, _, rfl, rel.sub _ _ ef⟩
  ·rw [R.holds_bind] at h
   refine h.imp (fun ws e1 h G1 vs H1 r1 s1 p1 => ?_) fun _ _ h => h
   unfold callVK at h
   split at h
   ·rename_i hc
    split at h
    ·rename_i w hw
     exact ⟨G1, j, l, caps, ws, w, r1.sub, Rep.mono s1 (.fn j l caps) rv, p1, hc.2.1, hc.2.2, hc.1, hw, fun G' H' v g rp => h G' v H' (r1.grow g) (s1.trans g.gg) rp⟩
    ·exact h.elim
   ·exact h.elim
 ·exact h.elim
end
noncomputable def capsOf : List Nat -> List S -> Option (List W)
 | [], _ => some []
 | j :: js, e => match e[j]? with
  | some (.fr w) => (capsOf js e).map (w :: ·)
  | _ => none
theorem caps_reps {K : PySem.W.Frag} {Z : Zt} {G H : Hp} {σ : L2.St} {e : List S} (r : Rel K Z G σ H e) : ∀ {js : List Nat} {caps : List W}, capsOf js e = some caps -> ∃ zs : List V, Reps K G caps zs /\ zs.length = js.length /\ ∀ (i j : Nat) z, js[i]? = some j -> zs[i]? = some z -> σ[j]? = some (some z)
 | [], caps, h => by
  cases h
  exact ⟨[], rfl, rfl, fun i j z h _ => by simp at h⟩
 | j :: js, caps, h => by
  unfold capsOf at h
  split at h
  ·rename_i w hw
   obtain ⟨cs, h1, rfl⟩ := Option.map_eq_some_iff.mp h
   obtain ⟨zs, r1, r2, r3⟩ := caps_reps r h1
   obtain ⟨v, v1, v2⟩ := r.fr hw
   refine ⟨v :: zs, ⟨v, zs, rfl, v2, r1⟩, by simp [r2], fun i j' z g1 g2 => ?_⟩
   cases i with
   | zero =>
    simp only [List.getElem?_cons_zero, Option.some.injEq] at g1 g2
    subst g1
    subst g2
    exact v1
   | succ i => exact r3 i j' z (by simpa using g1) (by simpa using g2)
  ·cases h
noncomputable def lamRes (e1 : List S) : FR -> R W
 | .ok (.fr w) => if noFn w = true then .ok w e1 else .no
 | .ex c => .ex c e1
 | _ => .no
noncomputable def lamCallK (F : List W -> FR) (j : Nat) (l : Lm) (w : W) (e1 : List S) : Option (List W) -> R W
 | some caps => lamRes e1 (F [w, .fn j l caps])
 | none => .no
noncomputable def dLamCall (F : List W -> FR) (j : Nat) (l : Lm) (js : List Nat) (d : Den W) : Den W := fun e => (d e).bind fun w e1 => lamCallK F j l w e1 (capsOf js e1)
section
variable {X : Cx} {Z : Zt} {EE : L2.St -> XK} {e body : Expr} {params : Arguments} {d : Den W} {x : Str} {lpos p pos : Pos} {k : Nat} {ps N nf : List Str} {js : List Nat} {sc scope : Scope} {F : List W -> FR}
theorem de_lamcall (j : Nat) (l : Lm) (C : Cal X.prog X.w X.K X.mg X.base k x ps (spF X.K F)) (hr : Room k X.A) (hx : PassX (CX1 X.prog X.w) X EE) (M : Maker X) (hfn : ∀ y, X.fn y = true) (he : DE Z X EE e d) (ok : compOk sc scope N nf js = true)
  (hl : l = ⟨X.env.qual ++ "<lambda>", params, body, scope, nf⟩ := by rfl) (hdef : defaultsOf params X.env = ([], []) := by rfl) (hsc : X.env.scope = sc := by rfl) (hN : X.N = N := by rfl) (hg : Gl X x := by rfl)
  (hdb : (x == ("__debug__" : Str)) = false := by decide) (hst : starEach [e, .Lambda params body scope lpos] X.env = (false, eval e X.env) :: starEach [.Lambda params body scope lpos] X.env := by rfl)
  (hst2 : starEach [.Lambda params body scope lpos] X.env = (false, eval (.Lambda params body scope lpos) X.env) :: starEach [] X.env := by rfl) (hpl : (backTo pos (starEach [.Lambda params body scope lpos] X.env)).any (·.1) = false := by rfl) :
  DE Z X EE (.Call (.Name x p) [e, .Lambda params body scope lpos] [] pos) (dLamCall F j l js d) := by
 obtain ⟨fa, fd, FF, m, kp, bd⟩ := C.ex
 unfold compOk at ok
 simp only [Bool.and_eq_true, List.all_eq_true, beq_iff_eq, bne_iff_ne, Bool.or_eq_true, List.mem_range] at ok
 obtain ⟨⟨⟨⟨⟨⟨k1, k2⟩, k3⟩, k4⟩, k5⟩, k6⟩, k7⟩ := ok
 have kind : ∀ x, X.env.kindOf x = sc.names.lookup x := fun x => by rw [<- hsc]; rfl
 refine PE.mono (pe_lamcall (Nf := nf) (js := js) FF hr hg m kp bd hx M hfn he hdef (fun x hx hf => ?_) (fun i j y e1 e2 => ?_) hdb hst hst2 hpl) ?_
 ·rw [kind]
  rcases k4 x hx with (z | z) | z
  ·exact absurd hf z
  ·exact .inl z
  ·exact .inr z
 ·have hlt : i < js.length := (List.getElem?_eq_some_iff.mp e2).1
  have z := k6 i hlt
  rw [e1, e2] at z
  obtain ⟨z1, z2⟩ := k7 y (List.mem_of_getElem? e1)
  refine ⟨by rw [hN]; simpa using z, PySem.mem_of_lookup z1, ?_, ?_⟩
  ·rw [hsc]
   rcases z2 with z | z
   ·exact .inr (.inl z)
   ·exact .inr (.inr z)
  ·rw [kind]
   rcases z2 with z | z <;> (rw [z]; decide)
 ·rintro σ H Q ⟨G, en, rel, h⟩
  simp only [dLamCall, R.holds_bind] at h
  refine ⟨G, en, rel, h.imp (fun w e1 h G1 v1 H1 r1 s1 p1 f clos H2 la => ?_) fun _ _ h => h⟩
  obtain ⟨hclos, Hm, pm, ctv, c', hH, hf, rfl⟩ := la
  have rm : Rel X.K Z G1 σ Hm e1 := by
   rcases hH with rfl | ⟨c, oc, hc, rfl⟩
   ·exact r1
   ·exact r1.grow (Grow.hid r1.sub hc _)
  have gl := Grow.laid rm.sub hf (fnO (PySem.W.kla_obj "<lambda>" (X.env.qual ++ "<lambda>") params body scope clos pm c' ctv) (X.env.qual ++ "<lambda>") c')
  have r2 := rm.grow gl
  refine ⟨clos, hclos, fun cs co => ?_⟩
  cases hcap : capsOf js e1 with
  | none => rw [hcap] at h; exact h.elim
  | some caps =>
   rw [hcap] at h
   obtain ⟨zs, rz, zl, zv⟩ := caps_reps r1 hcap
   have hn2 : ∀ b o, cs.lookup b = some o -> upd Hm f (fnO (PySem.W.kla_obj "<lambda>" (X.env.qual ++ "<lambda>") params body scope clos pm c' ctv) (X.env.qual ++ "<lambda>") c') b = none := fun b o z => (co.cel b o z).1
   have gn2 : ∀ b o, cs.lookup b = some o -> upd G1 f (fnO (PySem.W.kla_obj "<lambda>" (X.env.qual ++ "<lambda>") params body scope clos pm c' ctv) (X.env.qual ++ "<lambda>") c') b = none := fun b o z => by
    cases q : upd G1 f (fnO (PySem.W.kla_obj "<lambda>" (X.env.qual ++ "<lambda>") params body scope clos pm c' ctv) (X.env.qual ++ "<lambda>") c') b with
    | none => rfl
    | some u => have := r2.sub b u q; rw [hn2 b o z] at this; cases this
   have sA := gl.gg.trans (same_add gn2)
   have fout : cs.lookup f = none := by
    cases q : cs.lookup f with
    | none => rfl
    | some o => have := gn2 f o q; rw [upd_same] at this; cases this
   have fc : FnCells (addC (upd G1 f (fnO (PySem.W.kla_obj "<lambda>" (X.env.qual ++ "<lambda>") params body scope clos pm c' ctv) (X.env.qual ++ "<lambda>") c')) cs) clos l zs cs := by
    subst hl
    refine ⟨co.inj, co.has, co.all, fun c o z => ⟨addC_in z, (co.cel c o z).2⟩, fun i y z g1 g2 => ?_, by rw [zl]; exact k5⟩
    have hi : i < js.length := by rw [<- zl]; exact (List.getElem?_eq_some_iff.mp g2).1
    have g3 : js[i]? = some js[i] := List.getElem?_eq_getElem hi
    exact co.val i y js[i] z g1 g3 (zv i _ z g3 g2)
   have rfn : Rep X.K (addC (upd G1 f (fnO (PySem.W.kla_obj "<lambda>" (X.env.qual ++ "<lambda>") params body scope clos pm c' ctv) (X.env.qual ++ "<lambda>") c')) cs) (.fn j l caps) (.ref f) := by
    refine ⟨f, clos, zs, cs, rfl, ⟨pm, c', ctv, ?_⟩, fc, Reps.mono sA caps rz⟩
    rw [addC_out fout, upd_same, hl]
   refine ⟨_, [w, .fn j l caps], same_add2 r2.sub, ⟨v1, [.ref f], rfl, Rep.mono sA w p1, ⟨.ref f, [], rfl, rfn, rfl⟩⟩, ?_⟩
   cases q : F [w, .fn j l caps] with
   | ok s =>
    simp only [lamCallK, q] at h
    cases s with
    | fr w' =>
     simp only [lamRes] at h
     split at h
     ·rename_i hnf
      intro G' H' v g sl
      obtain ⟨u, h1, h2⟩ := sl
      cases h1
      have g' := Grow.nocells g hn2 r2.sub
      have ci : CelsIn G' cs := fun b o z => g.gg b _ (addC_in z)
      exact h (rmC G' cs) v (rmC H' cs) (r2.grow g') (s1.trans (gl.gg.trans g'.gg)) (Rep.rm ci w' hnf h2)
     ·exact h.elim
    | _ => exact h.elim
   | ex c =>
    simp only [lamCallK, q, lamRes] at h
    intro H' sh
    refine ex_of r2 (s1.trans gl.gg) h (rmC H' cs) fun b u z => ?_
    cases q2 : cs.lookup b with
    | some o => rw [hn2 b o q2] at z; cases z
    | none => rw [rmC_out q2]; exact sh b u (by rw [addC_out q2]; exact z)
   | no => simp only [lamCallK, q, lamRes] at h; exact h.elim
end
section
variable {X : Cx} {Z : Zt} {EE : L2.St -> XK} {a b : Expr} {da db : Den W} {pos : Pos}
noncomputable def repL : W -> W -> Option (List W)
 | .lst ws, .int k => if okI k = true /\ ws.length * k.toNat <= 16777216 then some (List.replicate k.toNat ws).flatten else none
 | _, _ => none
noncomputable def dRepF (da db : Den W) : Den (List W) := fun e => (da e).bind fun x e1 => (db e1).bind fun y e2 => ofOpt (repL x y) e2
theorem df_rep (ha : DE Z X EE a da) (hb : DE Z X EE b db) : DF Z X EE (.BinOp a .Mult b pos) (dRepF da db) := by
 refine PE.mono (pe_op op_repS ha hb) ?_
 rintro σ H Q ⟨G, e, rel, h⟩
 simp only [dRepF, R.holds_bind, ofOpt_holds] at h
 refine ⟨G, e, rel, h.imp (fun x e1 h G1 v1 H1 r1 s1 p1 => ?_) fun _ _ h => h⟩
 refine ⟨G1, e1, r1, h.imp (fun y e2 h G2 v2 H2 r2 s2 p2 => ?_) fun _ _ h G' H' r s => h G' H' r (s1.trans s)⟩
 obtain ⟨out, hf, h⟩ := h
 unfold repL at hf
 split at hf
 ·rename_i ws k
  split at hf
  ·rename_i hc
   cases hf
   obtain ⟨l, xs, rfl, hq, rp⟩ := Rep.mono s2 _ p1
   cases (show v2 = .int k from p2)
   have b := okI_to hc.1
   refine ⟨l, k, xs, rfl, rfl, r2.sub.seq hq, by omega, by omega, by rw [rp.length, sizeLine_eq]; exact hc.2, ?_⟩
   exact new_list r2 (s1.trans s2) (reps_rep rp k.toNat) h
  ·cases hf
 ·cases hf
end
theorem dRepF_s {da db : Den W} {e : List S} : dRepF da db e = (da e).bind fun x e1 => (db e1).bind fun y e2 => ofOpt (repL x y) e2 := rfl
noncomputable def keyOf : W -> Option Key
 | .int i => some (.inl i)
 | .str x => some (.inr x)
 | _ => none
noncomputable def setD1K (i : Nat) (v : Sv) (e : List S) : Option Key -> SR
 | some k => .nx (e.set i (.dic (.k [(k, v)])))
 | none => .no
noncomputable def setD1C (i : Nat) (v : Sv) (e : List S) : Option S -> SR
 | some (.fr w) => setD1K i v e (keyOf w)
 | _ => .no
noncomputable def dSetD1 (i j : Nat) (v : Sv) : List S -> SR := fun e => setD1C i v e e[j]?
section
variable {X : Cx} {Z : Zt} {EE : L2.St -> XK} {x y : Str} {pos p : Pos}
theorem ds_setD1 (i j : Nat) {n : Int} {c cp} {pos' dpos : Pos} (hN : X.N.Nodup) (hk : PE X (.Name y p) (tVar j)) (hi : X.N[i]? = some x := by rfl) (hx : Loc X.env.scope x := by walk_at "3") (hs : swapsWith (.Dict [some (.Name y p)] [.Constant (.int n) c cp] dpos) (some (.Name x pos')) pos.line X.env = pure false := by rfl) (hf : X.fn x = true \/ X.env.scope.names.lookup x = some .local := by walk_at "2") :
  DS Z X EE (.Assign [.Name x pos'] (.Dict [some (.Name y p)] [.Constant (.int n) c cp] dpos) pos) (dSetD1 i j (.inl n)) := by
 refine PS.mono (ps_st i hN (pe_d1 hk pe_int) hi hx hs hf) ?_
 rintro D σ H ⟨G, e, rel, h⟩
 unfold dSetD1 setD1C at h
 split at h
 ·rename_i w hw
  obtain ⟨v, hv, rv⟩ := rel.fr hw
  cases hk : keyOf w with
  | none => rw [hk] at h; exact h.elim
  | some k =>
   rw [hk] at h
   intro q hq
   have ev : v = kV k := by
    cases w with
    | int i => cases hk; cases rv; rfl
    | str x => cases hk; cases rv; rfl
    | _ => cases hk
   refine ⟨v, hv, k, ev, upd_same, ?_⟩
   rw [upd_upd]
   have g := Grow.hid rel.sub hq (dO (.k [(k, .inl n)]))
   exact h G _ _ ((rel.grow g).setDic (kvs := .k [(k, .inl n)]) upd_same (rel.sub.free hq) (zh_new rel hq)) (.refl _)
 ·exact h.elim
theorem dSetD1_s {i j : Nat} {v : Sv} {e : List S} : dSetD1 i j v e = setD1C i v e e[j]? := rfl
theorem setD1C_i {i : Nat} {v : Sv} {e : List S} {n : Int} : setD1C i v e (some (.fr (.int n))) = .nx (e.set i (.dic (.k [(.inl n, v)]))) := rfl
end
noncomputable def listCK (e1 : List S) : FR -> R (List W)
 | .ok (.dw _ ks _) => .ok (ks.map wK) e1
 | .ex c => .ex c e1
 | _ => .no
noncomputable def dListC (F : List W -> FR) (dA : Den (List W)) : Den (List W) := fun e => (dA e).bind fun ws e1 => listCK e1 (F ws)
section
variable {X : Cx} {Z : Zt} {EE : L2.St -> XK} {e : Expr} {es : List Expr} {dA : Den (List W)} {x : Str} {p lp pos lpos : Pos} {k : Nat} {ps : List Str} {F : List W -> FR}
theorem df_listC (hc : X.calm = true) (hm : X.mg "list" = none) (C : Cal X.prog X.w X.K X.mg X.base k x ps (spF X.K F)) (hr : Room k X.A) (hx : PassX (CX1 X.prog X.w) X EE) (ha : DA Z X EE (e :: es) dA) (hg : Gl X x := by rfl)
  (hdb : (x == ("__debug__" : Str)) = false := by decide) (he : starEach (e :: es) X.env = (false, eval e X.env) :: starEach es X.env := by rfl) (hpl : (backTo pos (starEach es X.env)).any (·.1) = false := by rfl)
  (hg2 : Gl X "list" := by rfl) (he2 : starEach [.Call (.Name x p) (e :: es) [] pos] X.env = (false, eval (.Call (.Name x p) (e :: es) [] pos) X.env) :: starEach [] X.env := by rfl) (hpl2 : (backTo lpos (starEach [] X.env)).any (·.1) = false := by rfl) :
  DF Z X EE (.Call (.Name "list" lp) [.Call (.Name x p) (e :: es) [] pos] [] lpos) (dListC F dA) := by
 refine PE.mono (pe_callTy (call_listK hc) hg2 hm PyProof.Rows.Boot.«list» (pa_cons (pe_cal C hr hx ha hg hdb he hpl) pa_nil he2) (by decide) (by decide) he2 hpl2) ?_
 rintro σ H Q ⟨G, e, rel, h⟩
 simp only [dListC, R.holds_bind] at h
 refine ⟨G, e, rel, h.imp (fun ws e1 h G1 vs H1 r1 s1 p1 => ?_) fun _ _ h => h⟩
 refine ⟨G1, ws, r1.sub, by rw [List.append_nil]; exact p1, ?_⟩
 cases q : F ws with
 | ok s =>
  rw [q] at h
  cases s with
  | dw sh ks vs' =>
   intro G' H' v g sl
   obtain ⟨a, kvs, kas, ev, h2, h3, h4, h5, h6, h7⟩ := sl
   cases ev
   exact ⟨a, sh, kvs, kas, rfl, .inl h2, new_list (r1.grow g) (s1.trans g.gg) (keys_reps h6) h⟩
  | _ => exact h.elim
 | ex c => rw [q] at h; exact ex_of r1 s1 h
 | no => rw [q] at h; exact h.elim
theorem dListC_s {e : List S} : dListC F dA e = (dA e).bind fun ws e1 => listCK e1 (F ws) := rfl
theorem listCK_dw {e : List S} {sh : Sh} {ks : List Kx} {vs : List W} : listCK e (.ok (.dw sh ks vs)) = .ok (ks.map wK) e := rfl
end
noncomputable def noE : Expr := .Name "" ⟨0, 0, 0, 0⟩
noncomputable def stAt (i : Nat) (st : Stmt) : Stmt := (defBody st).getD i (.Pass ⟨0, 0, 0, 0⟩)
noncomputable def stVal : Stmt -> Expr
 | .Assign _ v _ => v
 | .Return (some v) _ => v
 | .For _ it _ _ _ => it
 | .Expr v _ => v
 | _ => noE
noncomputable def argAt (i : Nat) : Expr -> Expr
 | .Call _ as _ _ => as.getD i noE
 | _ => noE
noncomputable def subVal : Expr -> Expr
 | .Subscript v _ _ => v
 | _ => noE
noncomputable def lamParams : Expr -> Arguments
 | .Lambda p _ _ _ => p
 | _ => default
noncomputable def lamBody : Expr -> Expr
 | .Lambda _ b _ _ => b
 | _ => noE
noncomputable def lamScope : Expr -> Scope
 | .Lambda _ _ s _ => s
 | _ => default
def MakK (K : PySem.W.Frag) (x : Str) (cdv : Value) : Prop := ∃ c P a, cdv = .ref c /\ PySem.W.codeHdIn K c P = true /\ (a, markO P ((x ++ ".<locals>.") ++ "<lambda>")) ∈ K
section
variable {P : Program} {w : World} {K : PySem.W.Frag} {mg : Str -> Option Value} {base : Heap}
theorem mk_of {CX : CXT} {N : List Str} {x : Str} {scope : Scope} {f : Addr} {cdv : Value} {A : Around} {outer : List Env} {s : Shared} {H : Hp} {E : XK} (h : MakK K x cdv) (b : BMain base mg) : Maker (cxOf CX P w K mg base N x scope f cdv A outer s H E) := by
 obtain ⟨c, P, a, rfl, h1, h2⟩ := h
 exact ⟨⟨c, P, a, rfl, h1, h2⟩, b⟩
theorem conM {x : Str} {st : Stmt} {N ps : List Str} {k : Nat} {F : List W -> FR} (A : At K mg x st ps) (hm : ∀ f oc od fd sl, mg x = some (.ref f) -> K.lookup f = some ⟨oc, od, .func fd, sl⟩ -> MakK K x fd.code) (sc : FnScope N ps (defScope st)) (len : ∀ ws, F ws ≠ .no -> ws.length = ps.length)
  (hb : ∀ ws, F ws ≠ .no -> ∀ (f : Addr) (cdv : Value) (A : Around) (outer : List Env) (s : Shared) (H : Hp) (E : XK) (Z : Zt), Room k (A.deeper (PyProof.Rows.envOfC x (defScope st) s.heap.objs.size f cdv)) -> MakK K x cdv ->
   ∃ d, DSs Z (cxOf (CX1 P w) P w K mg base N x (defScope st) f cdv A outer s H E) (fun _ => E) (defBody st) d /\ (d (init N.length ws)).fn = F ws) : Cal P w K mg base (k + 1) x ps (spF K F) := by
 obtain ⟨f, fd, F0, m, b⟩ := A.ex
 have kp := F0.kp
 obtain ⟨oc, od, kV, doc, pm, an, cdv, ct, osl, rfl, lk, hcd⟩ := F0.ex
 have hk : MakK K x cdv := hm f _ _ _ _ m lk
 refine ⟨f, _, fn_of lk hcd sc (fun vs H Q E h => ?_) (fun A outer s H vs Q E hr h => ?_), m, kp, b⟩
 ·obtain ⟨G, ws, hn, r⟩ := spF_ne h
  rw [r.length]; exact len ws hn
 ·obtain ⟨G, ws, sg, rp, h⟩ := h
  have hn : F ws ≠ .no := fun z => by rw [z] at h; exact h
  obtain ⟨d, hd, he⟩ := hb ws hn f cdv A outer s H E ⟨H, G, []⟩ hr hk
  exact ⟨_, hd, G, init N.length ws, rel_init sg rp, post_fn he h⟩
theorem fnV0 {lams : Nat -> Option Lm} {r : Nat -> List W -> FR} (h : ∀ i ws, r i ws = .no := by intro _ _; rfl) : FnV P w K mg base (CX1 P w) 0 (spV K lams r) := by
 rintro x vs H Q E ⟨G, i, l, caps, ws, w', sg, rf, rv, nw, nc, hl, hr, q⟩
 rw [h] at hr
 cases hr
end
noncomputable def markT (K : PySem.W.Frag) (tabs : List (Addr × Str)) : PySem.W.Frag := K ++ tabs.map fun p => (mainGlobals, markO p.1 p.2)
section
variable {K : PySem.W.Frag} {tabs : List (Addr × Str)} {a : Addr} {o : Obj}
theorem look_m (h : K.lookup a = some o) : (markT K tabs).lookup a = some o := by
 unfold markT
 rw [List.lookup_append, h]
 rfl
theorem look_eq (hG : (K.lookup mainGlobals).isSome = true) : (markT K tabs).lookup a = K.lookup a := by
 unfold markT
 rw [List.lookup_append]
 cases q : K.lookup a with
 | some o => rfl
 | none =>
  have ne : a ≠ mainGlobals := fun z => by rw [<- z, q] at hG; cases hG
  have : ∀ l : List (Addr × Str), (l.map fun p => (mainGlobals, markO p.1 p.2)).lookup a = none := fun l => by
   induction l with
   | nil => rfl
   | cons p l ih => rw [List.map_cons, List.lookup_cons, beq_eq_false_iff_ne.mpr ne]; exact ih
  rw [this]
  rfl
theorem in_m {h : Heap} (hG : (K.lookup mainGlobals).isSome = true) (X : K.In h) : (markT K tabs).In h := fun b u e => X b u (by rw [<- look_eq (tabs := tabs) hG]; exact e)
theorem no_m (hG : (K.lookup mainGlobals).isSome = true) (n : NoTup K) : NoTup (markT K tabs) := fun b u e => n b u (by rw [<- look_eq (tabs := tabs) hG]; exact e)
theorem ns_m {x : Str} {r : Option Value} (h : PySem.W.nsIn K a x = some r) : PySem.W.nsIn (markT K tabs) a x = some r := by
 unfold PySem.W.nsIn at h |-
 cases q : K.lookup a with
 | none => rw [q] at h; cases h
 | some o => rw [look_m q]; rw [q] at h; exact h
theorem code_m {cd : Value} {x : Str} (h : PySem.W.codeIn K cd x = true) : PySem.W.codeIn (markT K tabs) cd x = true := by
 cases cd with
 | ref a =>
  unfold PySem.W.codeIn at h |-
  dsimp only at h |-
  cases q : K.lookup a with
  | none => rw [q] at h; cases h
  | some o => rw [look_m q]; rw [q] at h; exact h
 | _ => cases h
theorem keep_m (t : funAt K a = true) : PySem.W.keepIn (markT (dropT K) tabs) (.ref a) = true := by
 have h := t
 unfold funAt at t
 rw [Bool.and_eq_true] at t
 obtain ⟨t1, t2⟩ := t
 have t1 : tupAt K a = false := by simpa using t1
 unfold PySem.W.keepIn
 dsimp only
 split at t2
 ·rename_i q
  rw [look_m (lookup_drop q t1)]
 ·cases t2
theorem marks_look (h : noMark K = true) (hd : tabs.all (fun p => tabs.lookup p.1 == some p.2) = true) : ∀ a q P, (a, markO P q) ∈ markT K tabs -> tabs.lookup P = some q := fun a q P m => by
 rcases List.mem_append.mp m with m | m
 ·have := List.all_eq_true.mp h _ m
  cases this
 ·obtain ⟨p, hp, e⟩ := List.mem_map.mp m
  have e1 : markO p.1 p.2 = markO P q := (Prod.mk.inj e).2
  have e2 : p.2 = q := by injection e1 with h1; injection h1
  have e3 : p.1 = P := by
   injection e1 with _ _ h3
   injection h3 with h4
   have := congrArg (fun a : Array Value => a[0]?) h4
   simpa using this
  have := List.all_eq_true.mp hd p hp
  rw [<- e2, <- e3]
  simpa using this
theorem noMark_drop (h : noMark K = true) : noMark (dropT K) = true := List.all_eq_true.mpr fun p hp => List.all_eq_true.mp h p (List.mem_filter.mp hp).1
theorem tabs_none (hG : (K.lookup mainGlobals).isSome = true) (h : tabs.all (fun p => (K.lookup p.1).isNone) = true) : ∀ P q, tabs.lookup P = some q -> (markT K tabs).lookup P = none := fun P q e => by
 rw [look_eq hG]
 have := List.all_eq_true.mp h _ (mem_look e)
 simpa using this
where
 mem_look : ∀ {l : List (Addr × Str)} {P : Addr} {q : Str}, l.lookup P = some q -> (P, q) ∈ l
 | [], _, _, e => by cases e
 | (b, t) :: l, P, q, e => by
  rw [List.lookup_cons] at e
  by_cases hb : (P == b) = true
  ·rw [hb] at e
   cases e
   rw [eq_of_beq hb]
   exact .head _
  ·rw [Bool.eq_false_iff.mpr hb] at e
   exact .tail _ (mem_look e)
theorem tabs_at {h : Heap} (X : K.In h) (hT : ∀ P ∈ tabs.map (·.1), h.get? P = some (PySem.W.tabObj #[])) (hc : ∀ p ∈ tabs, ∃ c, PySem.W.codeHdIn K c p.1 = true) : ∀ P q, tabs.lookup P = some q -> h.get? P = some (PySem.W.tabObj #[]) /\ isCodeTable h P := fun P q e => by
 have m := tabs_none.mem_look e
 obtain ⟨c, hc⟩ := hc _ m
 have g := hT P (List.mem_map.mpr ⟨_, m, rfl⟩)
 exact ⟨g, ((PySem.W.codeHd_of_K X hc).tab g).isCodeTable⟩
end
section
variable {e : List S} {ws caps : List W} {lams : Nat -> Option Lm} {r : Nat -> List W -> FR} {dA : Den (List W)} {d : Den W} {i j : Nat} {l : Lm} {w : W} {F : List W -> FR} {js : List Nat}
theorem dCallV_s : dCallV lams r i dA e = callV0 lams r dA e e[i]? := rfl
theorem callV0_fn : callV0 lams r dA e (some (.fr (.fn j l caps))) = (dA e).bind fun ws e1 => callVK lams r j l caps ws e1 := rfl
theorem callVK_of (h1 : lams j = some l) (h2 : noFns ws = true) (h3 : noFns caps = true) (h4 : r j (ws ++ caps) = .ok (.fr w)) : callVK lams r j l caps ws e = .ok w e := by
 unfold callVK
 rw [if_pos ⟨h1, h2, h3⟩, h4]
theorem dLamCall_s : dLamCall F j l js d e = (d e).bind fun w e1 => lamCallK F j l w e1 (capsOf js e1) := rfl
theorem lamCallK_some : lamCallK F j l w e (some caps) = lamRes e (F [w, .fn j l caps]) := rfl
theorem lamRes_fr (h : noFn w = true) : lamRes e (.ok (.fr w)) = .ok w e := if_pos h
theorem caps_nil : capsOf [] e = some [] := rfl
end
end D
set_option Elab.async false
set_option linter.all false
set_option maxRecDepth 100000
set_option maxHeartbeats 4000000
namespace Q
open PySem L2 D
seal DE DF DT DW DA DS DSs DTs DO DFm PE PT PW PA PS PSs PG PGs PI PF PTs PC OpR UnR IxR CallR TruR MtR MtM SlR PO
theorem us1 {α : Type} {P : List α -> Prop} (h : ∀ x0, P [x0]) : ∀ us : List α, us.length = 1 -> P us
 | [x0], _ => h x0
theorem us2 {α : Type} {P : List α -> Prop} (h : ∀ x0 x1, P [x0, x1]) : ∀ us : List α, us.length = 2 -> P us
 | [x0, x1], _ => h x0 x1
theorem us3 {α : Type} {P : List α -> Prop} (h : ∀ x0 x1 x2, P [x0, x1, x2]) : ∀ us : List α, us.length = 3 -> P us
 | [x0, x1, x2], _ => h x0 x1 x2
theorem us4 {α : Type} {P : List α -> Prop} (h : ∀ x0 x1 x2 x3, P [x0, x1, x2, x3]) : ∀ us : List α, us.length = 4 -> P us
 | [x0, x1, x2, x3], _ => h x0 x1 x2 x3
noncomputable def top (i : Nat) : Stmt := PySem.Challenge.pw_circuits_k53_small_fewest.main.body.getD i (.Pass ⟨0, 0, 0, 0⟩)
structure Blt (mg : Str -> Option Value) : Prop where
 b_int : mg "int" = none
 b_len : mg "len" = none
 b_list : mg "list" = none
 b_max : mg "max" = none
 b_min : mg "min" = none
 b_range : mg "range" = none
 b_tuple : mg "tuple" = none
structure Adr where
 CircuitError : Addr
 NoMachine : Addr
structure Exs (K : PySem.W.Frag) (mg : Str -> Option Value) (a : Adr) : Prop where
 z : True
 m_CircuitError : mg "CircuitError" = some (.ref a.CircuitError)
 m_NoMachine : mg "NoMachine" = some (.ref a.NoMachine)
 e_NoMachine : excIn K a.NoMachine a.CircuitError = true
 nt : NoTup K
noncomputable abbrev i_rows_many : Nat := 0
noncomputable abbrev i_check_machine : Nat := 1
noncomputable abbrev i_is_state : Nat := 2
noncomputable abbrev i_come_to : Nat := 3
noncomputable abbrev i_partings : Nat := 4
noncomputable abbrev i_kinds_by_length : Nat := 5
noncomputable abbrev i_finer_kinds : Nat := 6
noncomputable abbrev i_parting_rows : Nat := 7
noncomputable abbrev i_parting_row : Nat := 8
noncomputable abbrev i_parts : Nat := 9
noncomputable abbrev i_small : Nat := 10
noncomputable abbrev i_pairs_of_kind : Nat := 11
noncomputable abbrev i__law_cell_at : Nat := 12
noncomputable abbrev i__law_mixed : Nat := 13
noncomputable abbrev i__law_row : Nat := 14
noncomputable abbrev i__law_rows_of : Nat := 15
noncomputable abbrev i__law_machine : Nat := 16
noncomputable abbrev i__law_come_to : Nat := 17
noncomputable abbrev i_law : Nat := 18
noncomputable abbrev s_rows_many : Stmt := top 4
theorem sc_rows_many : FnScope ["many", "count", "place"] ["many"] (defScope s_rows_many) := ⟨rfl, rfl, rfl, by decide +kernel, rfl, by decide +kernel, by decide +kernel⟩
noncomputable abbrev s_check_machine : Stmt := top 6
theorem sc_check_machine : FnScope ["machine", "states", "pairs_many", "state", "told", "follower"] ["machine"] (defScope s_check_machine) := ⟨rfl, rfl, rfl, by decide +kernel, rfl, by decide +kernel, by decide +kernel⟩
noncomputable abbrev s_is_state : Stmt := top 7
theorem sc_is_state : FnScope ["machine", "number"] ["machine", "number"] (defScope s_is_state) := ⟨rfl, rfl, rfl, by decide +kernel, rfl, by decide +kernel, by decide +kernel⟩
noncomputable abbrev s_come_to : Stmt := top 8
theorem sc_come_to : FnScope ["begin", "pairs_of", "things", "numbers", "states", "thing", "state", "told", "follower"] ["begin", "pairs_of"] (defScope s_come_to) := ⟨rfl, rfl, rfl, by decide +kernel, rfl, by decide +kernel, by decide +kernel⟩
noncomputable abbrev s_partings : Stmt := top 10
theorem sc_partings : FnScope ["machine", "states", "levels", "kinds", "parted", "first", "second"] ["machine"] (defScope s_partings) := ⟨rfl, rfl, rfl, by decide +kernel, rfl, by decide +kernel, by decide +kernel⟩
noncomputable abbrev s_kinds_by_length : Stmt := top 11
theorem sc_kinds_by_length : FnScope ["states", "levels", "finer"] ["states"] (defScope s_kinds_by_length) := ⟨rfl, rfl, rfl, by decide +kernel, rfl, by decide +kernel, by decide +kernel⟩
noncomputable abbrev s_finer_kinds : Stmt := top 12
theorem sc_finer_kinds : FnScope ["states", "kinds", "numbers", "finer", "state", "seen"] ["states", "kinds"] (defScope s_finer_kinds) := ⟨rfl, rfl, rfl, by decide +kernel, rfl, by decide +kernel, by decide +kernel⟩
noncomputable abbrev s_parting_rows : Stmt := top 13
theorem sc_parting_rows : FnScope ["states", "levels", "first", "second", "length", "numbers", "left", "right", "number"] ["states", "levels", "first", "second"] (defScope s_parting_rows) := ⟨rfl, rfl, rfl, by decide +kernel, rfl, by decide +kernel, by decide +kernel⟩
noncomputable abbrev s_parting_row : Stmt := top 14
theorem sc_parting_row : FnScope ["state", "other", "kinds", "length", "number"] ["state", "other", "kinds", "length"] (defScope s_parting_row) := ⟨rfl, rfl, rfl, by decide +kernel, rfl, by decide +kernel, by decide +kernel⟩
noncomputable abbrev s_parts : Stmt := top 15
theorem sc_parts : FnScope ["pair", "other", "kinds", "length"] ["pair", "other", "kinds", "length"] (defScope s_parts) := ⟨rfl, rfl, rfl, by decide +kernel, rfl, by decide +kernel, by decide +kernel⟩
noncomputable abbrev s_small : Stmt := top 17
theorem sc_small : FnScope ["machine", "states", "kinds", "found", "numbers", "number"] ["machine"] (defScope s_small) := ⟨rfl, rfl, rfl, by decide +kernel, rfl, by decide +kernel, by decide +kernel⟩
noncomputable abbrev s_pairs_of_kind : Stmt := top 18
theorem sc_pairs_of_kind : FnScope ["states", "kinds", "kind"] ["states", "kinds", "kind"] (defScope s_pairs_of_kind) := ⟨rfl, rfl, rfl, by decide +kernel, rfl, by decide +kernel, by decide +kernel⟩
noncomputable abbrev s__law_cell_at : Stmt := top 20
theorem sc__law_cell_at : FnScope ["_law_script", "_law_k"] ["_law_script", "_law_k"] (defScope s__law_cell_at) := ⟨rfl, rfl, rfl, by decide +kernel, rfl, by decide +kernel, by decide +kernel⟩
noncomputable abbrev s__law_mixed : Stmt := top 21
theorem sc__law_mixed : FnScope ["_law_cell", "_law_k", "_law_number"] ["_law_cell", "_law_k"] (defScope s__law_mixed) := ⟨rfl, rfl, rfl, by decide +kernel, rfl, by decide +kernel, by decide +kernel⟩
noncomputable abbrev s__law_row : Stmt := top 22
theorem sc__law_row : FnScope ["_law_number", "_law_many", "_law_row_here", "_law_step"] ["_law_number", "_law_many"] (defScope s__law_row) := ⟨rfl, rfl, rfl, by decide +kernel, rfl, by decide +kernel, by decide +kernel⟩
noncomputable abbrev s__law_rows_of : Stmt := top 23
theorem sc__law_rows_of : FnScope ["_law_many"] ["_law_many"] (defScope s__law_rows_of) := ⟨rfl, rfl, rfl, by decide +kernel, rfl, by decide +kernel, by decide +kernel⟩
noncomputable abbrev s__law_machine : Stmt := top 24
theorem sc__law_machine : FnScope ["_law_script", "_law_at", "_law_cell", "_law_kinds", "_law_many", "_law_wide", "_law_size", "_law_base", "_law_states", "_law_k", "_law_state", "_law_number", "_law_left", "_law_told", "_law_goal", "_law_twin"] ["_law_script", "_law_at"] (defScope s__law_machine) := ⟨rfl, rfl, rfl, by decide +kernel, rfl, by decide +kernel, by decide +kernel⟩
noncomputable abbrev s__law_come_to : Stmt := top 25
theorem sc__law_come_to : FnScope ["_law_states", "_law_found", "_law_at", "_law_pair"] ["_law_states"] (defScope s__law_come_to) := ⟨rfl, rfl, rfl, by decide +kernel, rfl, by decide +kernel, by decide +kernel⟩
noncomputable abbrev s_law : Stmt := top 26
theorem sc_law : FnScope ["_law_script", "_law_machine_here", "_law_least", "_law_size", "_law_due", "_law_low"] ["_law_script"] (defScope s_law) := ⟨rfl, rfl, rfl, by decide +kernel, rfl, by decide +kernel, by decide +kernel⟩
noncomputable abbrev x_small_0 : Expr := (argAt 1 (stVal (stAt 3 s_small)))
noncomputable abbrev L_small_0 : Lm := ⟨("small" ++ ".<locals>.") ++ "<lambda>", lamParams x_small_0, lamBody x_small_0, lamScope x_small_0, ["states", "kinds"]⟩
noncomputable abbrev i_lam_small_0 : Nat := 19
noncomputable abbrev x_small_1 : Expr := (argAt 1 (subVal (stVal (stAt 5 s_small))))
noncomputable abbrev L_small_1 : Lm := ⟨("small" ++ ".<locals>.") ++ "<lambda>", lamParams x_small_1, lamBody x_small_1, lamScope x_small_1, ["states"]⟩
noncomputable abbrev i_lam_small_1 : Nat := 20
noncomputable def lams : Nat -> Option Lm
 | 19 => some L_small_0
 | 20 => some L_small_1
 | _ => none
theorem lams_small_0 : lams 19 = some L_small_0 := rfl
theorem lams_small_1 : lams 20 = some L_small_1 := rfl
noncomputable def d_lam_small_0 (K : PySem.W.Frag) (a : Adr) (r : Nat -> List W -> FR) : Den W :=
 (dCall (r i_pairs_of_kind) (dCons (dVar 1) (dCons (dVar 2) (dCons (dVar 0) dNil))))
noncomputable def d_lam_small_1 (K : PySem.W.Frag) (a : Adr) (r : Nat -> List W -> FR) : Den W :=
 (dOp ixW (dVar 1) (dVar 0))
noncomputable def l_rows_many_0 (K : PySem.W.Frag) (a : Adr) (r : Nat -> List W -> FR) : List S -> SR :=
 (dSet 1 (dOp mulW (dC (.int 2)) (dVar 1)))
noncomputable def d_rows_many (K : PySem.W.Frag) (a : Adr) (r : Nat -> List W -> FR) : List S -> SR :=
 (dSeq (dSet 1 (dC (.int 1)))
  (dSeq (dForR 2 rng1 (dCons (dVar 0) dNil)
  (l_rows_many_0 K a r))
  (dRet (dVar 1))))
noncomputable def l_check_machine_0 (K : PySem.W.Frag) (a : Adr) (r : Nat -> List W -> FR) : List S -> SR :=
 (dSeq (dIfS (dTest (dOp ne2 (dFn len1 (dCons (dVar 4) dNil)) (dOp ixW (dVar 0) (dC (.int 1)))))
  (dRaise a.NoMachine (dCons (dC (.str "a state answers too many truths, or too few")) dNil))
  dNx)
  (dIfS (dNot (dTru (dCall (r i_is_state) (dCons (dVar 0) (dCons (dVar 5) dNil)))))
  (dRaise a.NoMachine (dCons (dC (.str "a state leads to none of the states")) dNil))
  dNx))
noncomputable def l_check_machine_1 (K : PySem.W.Frag) (a : Adr) (r : Nat -> List W -> FR) : List S -> SR :=
 (dSeq (dIfS (dTest (dOp ne2 (dFn len1 (dCons (dVar 3) dNil)) (dVar 2)))
  (dRaise a.NoMachine (dCons (dC (.str "a state hasn't a pair for each row")) dNil))
  dNx)
  (dForP 4 5 (srcP (dVar 3))
  (l_check_machine_0 K a r)))
noncomputable def d_check_machine (K : PySem.W.Frag) (a : Adr) (r : Nat -> List W -> FR) : List S -> SR :=
 (dSeq (dSet 1 (dOp ixW (dVar 0) (dC (.int 2))))
  (dSeq (dSet 2 (dCall (r i_rows_many) (dCons (dOp ixW (dVar 0) (dC (.int 0))) dNil)))
  (dSeq (dIfS (dTest (dOp eq2 (dFn len1 (dCons (dVar 1) dNil)) (dC (.int 0))))
  (dRaise a.NoMachine (dCons (dC (.str "a machine has a state at least")) dNil))
  dNx)
  (dFor 3 (dVar 1)
  (l_check_machine_1 K a r)))))
noncomputable def d_is_state (K : PySem.W.Frag) (a : Adr) (r : Nat -> List W -> FR) : List S -> SR :=
 (dRet (dAndV (dOp leW (dC (.int 0)) (dVar 1)) (dOp ltW (dVar 1) (dFn len1 (dCons (dOp ixW (dVar 0) (dC (.int 2))) dNil)))))
noncomputable def l_come_to_0 (K : PySem.W.Frag) (a : Adr) (r : Nat -> List W -> FR) : List S -> SR :=
 (dSeq (dIfS (dBorrowT (dTest (dOp ninD (dVar 8) (dVar 3))))
  (dSeq (dPutD 3 (dFnV 2 len1) (dVar 8))
  (dApp 2 (dCons (dVar 8) dNil)))
  dNx)
  (dApp 6 (dCons (dTup (dCons (dVar 7) (dCons (dBorrow (dOp ixD (dVar 3) (dVar 8))) dNil))) dNil)))
noncomputable def w_come_to_0 (K : PySem.W.Frag) (a : Adr) (r : Nat -> List W -> FR) : Den Bool :=
 (dTest (dOp ltW (dFnV 4 len1) (dFnV 2 len1)))
noncomputable def l_come_to_1 (K : PySem.W.Frag) (a : Adr) (r : Nat -> List W -> FR) : List S -> SR :=
 (dSeq (dSet 5 (dIxV 2 (dFnV 4 len1)))
  (dSeq (dSetO 6 (dLst dNil))
  (dSeq (dForP 7 8 (srcP (dCallV lams r 1 (dCons (dVar 5) dNil)))
  (l_come_to_0 K a r))
  (dApp 4 (dCons (dVar 6) dNil)))))
noncomputable def d_come_to (K : PySem.W.Frag) (a : Adr) (r : Nat -> List W -> FR) : List S -> SR :=
 (dSeq (dSetO 2 (dLst (dCons (dVar 0) dNil)))
  (dSeq (dSetD1 3 0 (.inl 0))
  (dSeq (dSetO 4 (dLst dNil))
  (dSeq (whileD (w_come_to_0 K a r)
  (l_come_to_1 K a r) 1000000)
  (dRet (dTup (dCons (dVar 4) (dCons (dVar 2) dNil))))))))
noncomputable def l_partings_0 (K : PySem.W.Frag) (a : Adr) (r : Nat -> List W -> FR) : List S -> SR :=
 (dIfS (dTest (dOp ne2 (dOp ixW (dVar 3) (dVar 5)) (dOp ixW (dVar 3) (dVar 6))))
  (dPutW 4 (dCall (r i_parting_rows) (dCons (dVar 1) (dCons (dVar 2) (dCons (dVar 5) (dCons (dVar 6) dNil))))) (dTup (dCons (dVar 5) (dCons (dVar 6) dNil))))
  dNx)
noncomputable def l_partings_1 (K : PySem.W.Frag) (a : Adr) (r : Nat -> List W -> FR) : List S -> SR :=
 (dForR 6 rng2 (dCons (dOp addW (dVar 5) (dC (.int 1))) (dCons (dFn len1 (dCons (dVar 1) dNil)) dNil))
  (l_partings_0 K a r))
noncomputable def d_partings (K : PySem.W.Frag) (a : Adr) (r : Nat -> List W -> FR) : List S -> SR :=
 (dSeq (dDrop (dCall (r i_check_machine) (dCons (dVar 0) dNil)))
  (dSeq (dSet 1 (dOp ixW (dVar 0) (dC (.int 2))))
  (dSeq (dSet 2 (dCall (r i_kinds_by_length) (dCons (dVar 1) dNil)))
  (dSeq (dSet 3 (dOp ixW (dVar 2) (dUn negW (dC (.int 1)))))
  (dSeq (dSetW 4 (.tup [.int, .int]))
  (dSeq (dForR 5 rng1 (dCons (dFn len1 (dCons (dVar 1) dNil)) dNil)
  (l_partings_1 K a r))
  (dRetW 4)))))))
noncomputable def w_kinds_by_length_0 (K : PySem.W.Frag) (a : Adr) (r : Nat -> List W -> FR) : Den Bool :=
 (dTest (dOp gtW (dFn max1 (dCons (dVar 2) dNil)) (dFn max1 (dCons (dIxV 1 (dUn negW (dC (.int 1)))) dNil))))
noncomputable def l_kinds_by_length_0 (K : PySem.W.Frag) (a : Adr) (r : Nat -> List W -> FR) : List S -> SR :=
 (dSeq (dApp 1 (dCons (dVar 2) dNil))
  (dSet 2 (dCall (r i_finer_kinds) (dCons (dVar 0) (dCons (dVar 2) dNil)))))
noncomputable def d_kinds_by_length (K : PySem.W.Frag) (a : Adr) (r : Nat -> List W -> FR) : List S -> SR :=
 (dSeq (dSetO 1 (dLst (dCons (dOp repW (dFz (dLst (dCons (dC (.int 0)) dNil))) (dFn len1 (dCons (dVar 0) dNil))) dNil)))
  (dSeq (dSet 2 (dCall (r i_finer_kinds) (dCons (dVar 0) (dCons (dIxV 1 (dUn negW (dC (.int 1)))) dNil))))
  (dSeq (whileD (w_kinds_by_length_0 K a r)
  (l_kinds_by_length_0 K a r) 1000000)
  (dRetO 1))))
noncomputable def e_finer_kinds_0 (K : PySem.W.Frag) (a : Adr) (r : Nat -> List W -> FR) : Den W :=
 (dTup (dCons (dVar 0) (dCons (dOp ixW (dVar 2) (dVar 1)) dNil)))
noncomputable def l_finer_kinds_0 (K : PySem.W.Frag) (a : Adr) (r : Nat -> List W -> FR) : List S -> SR :=
 (dSeq (dSet 5 (dFn tup1 (dCons (dFz (dCompP [1] (srcP (dVar 4)) dYes (e_finer_kinds_0 K a r))) dNil)))
  (dSeq (dIfS (dBorrowT (dTest (dOp ninT (dVar 5) (dVar 2))))
  (dPutW 2 (dBorrow (dFn lenT1 (dCons (dVar 2) dNil))) (dVar 5))
  dNx)
  (dApp 3 (dCons (dBorrow (dOp ixT (dVar 2) (dVar 5))) dNil))))
noncomputable def d_finer_kinds (K : PySem.W.Frag) (a : Adr) (r : Nat -> List W -> FR) : List S -> SR :=
 (dSeq (dSetW 2 (.many (.tup [.many .bl, .int])))
  (dSeq (dSetO 3 (dLst dNil))
  (dSeq (dFor 4 (dVar 0)
  (l_finer_kinds_0 K a r))
  (dRetO 3))))
noncomputable def w_parting_rows_0 (K : PySem.W.Frag) (a : Adr) (r : Nat -> List W -> FR) : Den Bool :=
 (dTest (dOp gtW (dVar 4) (dC (.int 0))))
noncomputable def l_parting_rows_0 (K : PySem.W.Frag) (a : Adr) (r : Nat -> List W -> FR) : List S -> SR :=
 (dSeq (dSet 4 (dOp subW (dVar 4) (dC (.int 1))))
  (dSeq (dSet 8 (dCall (r i_parting_row) (dCons (dOp ixW (dVar 0) (dVar 6)) (dCons (dOp ixW (dVar 0) (dVar 7)) (dCons (dOp ixW (dVar 1) (dVar 4)) (dCons (dVar 4) dNil))))))
  (dSeq (dApp 5 (dCons (dVar 8) dNil))
  (dSeq (dSet 6 (dOp ixW (dOp ixW (dOp ixW (dVar 0) (dVar 6)) (dVar 8)) (dC (.int 1))))
  (dSet 7 (dOp ixW (dOp ixW (dOp ixW (dVar 0) (dVar 7)) (dVar 8)) (dC (.int 1))))))))
noncomputable def w_parting_rows_1 (K : PySem.W.Frag) (a : Adr) (r : Nat -> List W -> FR) : Den Bool :=
 (dTest (dOp eq2 (dOp ixW (dOp ixW (dVar 1) (dVar 4)) (dVar 2)) (dOp ixW (dOp ixW (dVar 1) (dVar 4)) (dVar 3))))
noncomputable def l_parting_rows_1 (K : PySem.W.Frag) (a : Adr) (r : Nat -> List W -> FR) : List S -> SR :=
 (dSet 4 (dOp addW (dVar 4) (dC (.int 1))))
noncomputable def d_parting_rows (K : PySem.W.Frag) (a : Adr) (r : Nat -> List W -> FR) : List S -> SR :=
 (dSeq (dSet 4 (dC (.int 0)))
  (dSeq (whileD (w_parting_rows_1 K a r)
  (l_parting_rows_1 K a r) 1000000)
  (dSeq (dSetO 5 (dLst dNil))
  (dSeq (dSet 6 (dVar 2))
  (dSeq (dSet 7 (dVar 3))
  (dSeq (whileD (w_parting_rows_0 K a r)
  (l_parting_rows_0 K a r) 1000000)
  (dRetO 5)))))))
noncomputable def w_parting_row_0 (K : PySem.W.Frag) (a : Adr) (r : Nat -> List W -> FR) : Den Bool :=
 (dNot (dTru (dCall (r i_parts) (dCons (dOp ixW (dVar 0) (dVar 4)) (dCons (dOp ixW (dVar 1) (dVar 4)) (dCons (dVar 2) (dCons (dVar 3) dNil)))))))
noncomputable def l_parting_row_0 (K : PySem.W.Frag) (a : Adr) (r : Nat -> List W -> FR) : List S -> SR :=
 (dSet 4 (dOp addW (dVar 4) (dC (.int 1))))
noncomputable def d_parting_row (K : PySem.W.Frag) (a : Adr) (r : Nat -> List W -> FR) : List S -> SR :=
 (dSeq (dSet 4 (dC (.int 0)))
  (dSeq (whileD (w_parting_row_0 K a r)
  (l_parting_row_0 K a r) 1000000)
  (dRet (dVar 4))))
noncomputable def d_parts (K : PySem.W.Frag) (a : Adr) (r : Nat -> List W -> FR) : List S -> SR :=
 (dSeq (dIfS (dTest (dOp eq2 (dVar 3) (dC (.int 0))))
  (dRet (dOp ne2 (dOp ixW (dVar 0) (dC (.int 0))) (dOp ixW (dVar 1) (dC (.int 0)))))
  dNx)
  (dRet (dOp ne2 (dOp ixW (dVar 2) (dOp ixW (dVar 0) (dC (.int 1)))) (dOp ixW (dVar 2) (dOp ixW (dVar 1) (dC (.int 1)))))))
noncomputable def l_small_0 (K : PySem.W.Frag) (a : Adr) (r : Nat -> List W -> FR) : List S -> SR :=
 (dPut 4 (dMeth "list" indexI (dOp ixW (dVar 3) (dC (.int 1))) (dCons (dOp ixW (dVar 2) (dVar 5)) dNil)) (dVar 5))
noncomputable def d_small (K : PySem.W.Frag) (a : Adr) (r : Nat -> List W -> FR) : List S -> SR :=
 (dSeq (dDrop (dCall (r i_check_machine) (dCons (dVar 0) dNil)))
  (dSeq (dSet 1 (dOp ixW (dVar 0) (dC (.int 2))))
  (dSeq (dSet 2 (dOp ixW (dCall (r i_kinds_by_length) (dCons (dVar 1) dNil)) (dUn negW (dC (.int 1)))))
  (dSeq (dSet 3 (dLamCall (r i_come_to) 19 L_small_0 [1, 2] (dOp ixW (dVar 2) (dC (.int 0)))))
  (dSeq (dSetO 4 (dRepF (dFz (dLst (dCons (dC .non) dNil))) (dFn len1 (dCons (dVar 1) dNil))))
  (dSeq (dFor 5 (dOp ixW (dLamCall (r i_come_to) 20 L_small_1 [1] (dC (.int 0))) (dC (.int 1)))
  (l_small_0 K a r))
  (dRet (dTup (dCons (dTup (dCons (dOp ixW (dVar 0) (dC (.int 0))) (dCons (dOp ixW (dVar 0) (dC (.int 1))) (dCons (dOp ixW (dVar 3) (dC (.int 0))) dNil)))) (dCons (dVar 4) dNil))))))))))
noncomputable def e_pairs_of_kind_0 (K : PySem.W.Frag) (a : Adr) (r : Nat -> List W -> FR) : Den W :=
 (dTup (dCons (dVar 0) (dCons (dOp ixW (dVar 2) (dVar 1)) dNil)))
noncomputable def d_pairs_of_kind (K : PySem.W.Frag) (a : Adr) (r : Nat -> List W -> FR) : List S -> SR :=
 (dRetF (dCompP [1] (srcP (dOp ixW (dVar 0) (dMeth "list" indexI (dVar 1) (dCons (dVar 2) dNil)))) dYes (e_pairs_of_kind_0 K a r)))
noncomputable def d__law_cell_at (K : PySem.W.Frag) (a : Adr) (r : Nat -> List W -> FR) : List S -> SR :=
 (dSeq (dIfS (dTest (dOp ltW (dVar 1) (dFn len1 (dCons (dVar 0) dNil))))
  (dRet (dOp ixW (dVar 0) (dVar 1)))
  dNx)
  (dRet (dC (.int 0))))
noncomputable def d__law_mixed (K : PySem.W.Frag) (a : Adr) (r : Nat -> List W -> FR) : List S -> SR :=
 (dSeq (dSet 2 (dOp modW (dOp mulW (dOp addW (dVar 0) (dOp mulW (dC (.int 7919)) (dVar 1))) (dC (.int 48271))) (dC (.int 2147483647))))
  (dRet (dOp modW (dOp addW (dOp addW (dOp mulW (dVar 2) (dVar 2)) (dOp mulW (dC (.int 7)) (dVar 2))) (dVar 1)) (dC (.int 2147483629)))))
noncomputable def l__law_row_0 (K : PySem.W.Frag) (a : Adr) (r : Nat -> List W -> FR) : List S -> SR :=
 (dSeq (dApp 2 (dCons (dOp eq2 (dOp modW (dVar 0) (dC (.int 2))) (dC (.int 1))) dNil))
  (dSet 0 (dOp fdivW (dVar 0) (dC (.int 2)))))
noncomputable def d__law_row (K : PySem.W.Frag) (a : Adr) (r : Nat -> List W -> FR) : List S -> SR :=
 (dSeq (dSetO 2 (dLst dNil))
  (dSeq (dForR 3 rng1 (dCons (dVar 1) dNil)
  (l__law_row_0 K a r))
  (dSeq (dMut0 2 List.reverse)
  (dRet (dFn tup1 (dCons (dVar 2) dNil))))))
noncomputable def d__law_rows_of (K : PySem.W.Frag) (a : Adr) (r : Nat -> List W -> FR) : List S -> SR :=
 (dRet (dOp ixW (dFz (dLst (dCons (dC (.int 1)) (dCons (dC (.int 2)) (dCons (dC (.int 4)) (dCons (dC (.int 8)) dNil)))))) (dVar 0)))
noncomputable def l__law_machine_0 (K : PySem.W.Frag) (a : Adr) (r : Nat -> List W -> FR) : List S -> SR :=
 (dSeq (dSet 12 (dCall (r i__law_mixed) (dCons (dCall (r i__law_cell_at) (dCons (dVar 0) (dCons (dOp addW (dOp addW (dVar 1) (dC (.int 2))) (dOp modW (dOp modW (dVar 9) (dVar 7)) (dC (.int 6)))) dNil))) (dCons (dOp addW (dOp mulW (dC (.int 8)) (dOp modW (dVar 9) (dVar 7))) (dVar 11)) dNil))))
  (dSeq (dSet 13 (dOp repW (dFz (dLst (dCons (dC (.bl false)) dNil))) (dVar 5)))
  (dSeq (dIfS (dTest (dOp eq2 (dOp modW (dVar 12) (dC (.int 4))) (dC (.int 0))))
  (dSet 13 (dFz (dList (dCons (dCall (r i__law_row) (dCons (dOp fdivW (dVar 12) (dC (.int 4))) (dCons (dVar 5) dNil))) dNil))))
  dNx)
  (dSeq (dSet 14 (dOp modW (dOp fdivW (dVar 12) (dC (.int 64))) (dVar 7)))
  (dSeq (dIfS (dTest (dOp eq2 (dOp modW (dVar 3) (dC (.int 3))) (dC (.int 1))))
  (dSeq (dSet 13 (dOp repW (dFz (dLst (dCons (dOp eq2 (dOp modW (dVar 9) (dVar 7)) (dOp subW (dVar 7) (dC (.int 1)))) dNil))) (dVar 5)))
  (dSet 14 (dOp ixW (dFz (dLst (dCons (dFn min2 (dCons (dOp addW (dOp modW (dVar 9) (dVar 7)) (dC (.int 1))) (dCons (dOp subW (dVar 7) (dC (.int 1))) dNil))) (dCons (dC (.int 0)) dNil)))) (dFn min2 (dCons (dVar 11) (dCons (dC (.int 1)) dNil))))))
  dNx)
  (dSeq (dSet 15 (dOp modW (dCall (r i__law_mixed) (dCons (dOp addW (dVar 3) (dVar 9)) (dCons (dVar 11) dNil))) (dOp addW (dOp fdivW (dOp subW (dOp subW (dVar 6) (dC (.int 1))) (dVar 14)) (dVar 7)) (dC (.int 1)))))
  (dApp 10 (dCons (dTup (dCons (dFn tup1 (dCons (dVar 13) dNil)) (dCons (dOp addW (dVar 14) (dOp mulW (dVar 7) (dVar 15))) dNil))) dNil))))))))
noncomputable def l__law_machine_1 (K : PySem.W.Frag) (a : Adr) (r : Nat -> List W -> FR) : List S -> SR :=
 (dSeq (dSetO 10 (dLst dNil))
  (dSeq (dForR 11 rng1 (dCons (dCall (r i__law_rows_of) (dCons (dVar 4) dNil)) dNil)
  (l__law_machine_0 K a r))
  (dApp 8 (dCons (dVar 10) dNil))))
noncomputable def d__law_machine (K : PySem.W.Frag) (a : Adr) (r : Nat -> List W -> FR) : List S -> SR :=
 (dSeq (dSet 2 (dCall (r i__law_cell_at) (dCons (dVar 0) (dCons (dVar 1) dNil))))
  (dSeq (dSet 3 (dCall (r i__law_cell_at) (dCons (dVar 0) (dCons (dOp addW (dVar 1) (dC (.int 1))) dNil))))
  (dSeq (dSet 4 (dOp modW (dVar 2) (dC (.int 4))))
  (dSeq (dSet 5 (dOp ixW (dFz (dLst (dCons (dC (.int 1)) (dCons (dC (.int 2)) (dCons (dC (.int 1)) (dCons (dC (.int 0)) (dCons (dC (.int 3)) (dCons (dOp addW (dC (.int 4)) (dOp modW (dOp fdivW (dVar 3) (dC (.int 24))) (dC (.int 9)))) (dCons (dC (.int 2)) (dCons (dC (.int 1)) dNil)))))))))) (dOp modW (dOp fdivW (dVar 3) (dC (.int 3))) (dC (.int 8)))))
  (dSeq (dSet 6 (dOp addW (dC (.int 1)) (dOp modW (dOp fdivW (dVar 2) (dC (.int 4))) (dC (.int 11)))))
  (dSeq (dIfS (dOr (dTest (dOp eq2 (dVar 6) (dC (.int 9)))) (dTest (dOp eq2 (dVar 6) (dC (.int 10)))))
  (dSeq (dSet 6 (dOp addW (dC (.int 8)) (dOp modW (dOp fdivW (dVar 2) (dC (.int 44))) (dC (.int 5)))))
  (dSet 4 (dFn min2 (dCons (dVar 4) (dCons (dOp ixW (dFz (dLst (dCons (dC (.int 3)) (dCons (dC (.int 2)) dNil)))) (dFn int1 (dCons (dOp gtW (dVar 6) (dC (.int 9))) dNil))) dNil)))))
  dNx)
  (dSeq (dIfS (dTest (dOp eq2 (dVar 6) (dC (.int 11))))
  (dSeq (dSet 6 (dOp addW (dC (.int 12)) (dOp modW (dOp fdivW (dVar 2) (dC (.int 44))) (dC (.int 9)))))
  (dSet 4 (dOp modW (dVar 4) (dC (.int 2)))))
  dNx)
  (dSeq (dSet 7 (dOp subW (dVar 6) (dOp modW (dOp fdivW (dVar 3) (dC (.int 24))) (dVar 6))))
  (dSeq (dSetO 8 (dLst dNil))
  (dSeq (dForR 9 rng1 (dCons (dVar 6) dNil)
  (l__law_machine_1 K a r))
  (dRet (dTup (dCons (dVar 4) (dCons (dVar 5) (dCons (dVar 8) dNil)))))))))))))))
noncomputable def l__law_come_to_0 (K : PySem.W.Frag) (a : Adr) (r : Nat -> List W -> FR) : List S -> SR :=
 (dIfS (dBorrowT (dTest (dOp ninW (dOp ixW (dVar 3) (dC (.int 1))) (dVar 1))))
  (dApp 1 (dCons (dOp ixW (dVar 3) (dC (.int 1))) dNil))
  dNx)
noncomputable def l__law_come_to_1 (K : PySem.W.Frag) (a : Adr) (r : Nat -> List W -> FR) : List S -> SR :=
 (dIfS (dTest (dOp ltW (dVar 2) (dFnV 1 len1)))
  (dFor 3 (dOp ixW (dVar 0) (dIxV 1 (dVar 2)))
  (l__law_come_to_0 K a r))
  dNx)
noncomputable def d__law_come_to (K : PySem.W.Frag) (a : Adr) (r : Nat -> List W -> FR) : List S -> SR :=
 (dSeq (dSetO 1 (dLst (dCons (dC (.int 0)) dNil)))
  (dSeq (dForR 2 rng1 (dCons (dFn len1 (dCons (dVar 0) dNil)) dNil)
  (l__law_come_to_1 K a r))
  (dRetO 1)))
noncomputable def e_law_0 (K : PySem.W.Frag) (a : Adr) (r : Nat -> List W -> FR) : Den W :=
 (dTup (dCons (dVar 1) (dCons (dVar 0) dNil)))
noncomputable def l_law_0 (K : PySem.W.Frag) (a : Adr) (r : Nat -> List W -> FR) : List S -> SR :=
 (dSet 4 (dOp addW (dVar 4) (dFz (dCompR rng2 [5] (dCons (dOp addW (dVar 5) (dC (.int 1))) (dCons (dVar 3) dNil)) dYes (e_law_0 K a r)))))
noncomputable def d_law (K : PySem.W.Frag) (a : Adr) (r : Nat -> List W -> FR) : List S -> SR :=
 (dSeq (dSet 1 (dCall (r i__law_machine) (dCons (dVar 0) (dCons (dC (.int 0)) dNil))))
  (dSeq (dSet 2 (dOp ixW (dCall (r i_small) (dCons (dVar 1) dNil)) (dC (.int 0))))
  (dSeq (dSet 3 (dFn len1 (dCons (dOp ixW (dVar 2) (dC (.int 2))) dNil)))
  (dSeq (dIfS (dOr (dTest (dOp gtW (dVar 3) (dFn len1 (dCons (dOp ixW (dVar 1) (dC (.int 2))) dNil)))) (dTest (dOp ne2 (dCall (r i__law_come_to) (dCons (dOp ixW (dVar 2) (dC (.int 2))) dNil)) (dFz (dListR (dCons (dVar 3) dNil))))))
  (dRet (dC (.bl false)))
  dNx)
  (dSeq (dSet 4 (dFz (dLst dNil)))
  (dSeq (dForR 5 rng1 (dCons (dVar 3) dNil)
  (l_law_0 K a r))
  (dRet (dOp eq2 (dFz (dListC (r i_partings) (dCons (dVar 2) dNil))) (dVar 4)))))))))
noncomputable def body (K : PySem.W.Frag) (a : Adr) (r : Nat -> List W -> FR) (ws : List W) : Nat -> FR
 | 0 => if ws.length = 1 then (d_rows_many K a r (init 3 ws)).fn else .no
 | 1 => if ws.length = 1 then (d_check_machine K a r (init 6 ws)).fn else .no
 | 2 => if ws.length = 2 then (d_is_state K a r (init 2 ws)).fn else .no
 | 3 => if ws.length = 2 then (d_come_to K a r (init 9 ws)).fn else .no
 | 4 => if ws.length = 1 then (d_partings K a r (init 7 ws)).fn else .no
 | 5 => if ws.length = 1 then (d_kinds_by_length K a r (init 3 ws)).fn else .no
 | 6 => if ws.length = 2 then (d_finer_kinds K a r (init 6 ws)).fn else .no
 | 7 => if ws.length = 4 then (d_parting_rows K a r (init 9 ws)).fn else .no
 | 8 => if ws.length = 4 then (d_parting_row K a r (init 5 ws)).fn else .no
 | 9 => if ws.length = 4 then (d_parts K a r (init 4 ws)).fn else .no
 | 10 => if ws.length = 1 then (d_small K a r (init 6 ws)).fn else .no
 | 11 => if ws.length = 3 then (d_pairs_of_kind K a r (init 3 ws)).fn else .no
 | 12 => if ws.length = 2 then (d__law_cell_at K a r (init 2 ws)).fn else .no
 | 13 => if ws.length = 2 then (d__law_mixed K a r (init 3 ws)).fn else .no
 | 14 => if ws.length = 2 then (d__law_row K a r (init 4 ws)).fn else .no
 | 15 => if ws.length = 1 then (d__law_rows_of K a r (init 1 ws)).fn else .no
 | 16 => if ws.length = 2 then (d__law_machine K a r (init 16 ws)).fn else .no
 | 17 => if ws.length = 1 then (d__law_come_to K a r (init 4 ws)).fn else .no
 | 18 => if ws.length = 1 then (d_law K a r (init 6 ws)).fn else .no
 | 19 => if ws.length = 3 then exprFR (d_lam_small_0 K a r (ws.map .fr)) else .no
 | 20 => if ws.length = 2 then exprFR (d_lam_small_1 K a r (ws.map .fr)) else .no
 | _ => .no
noncomputable def run (K : PySem.W.Frag) (a : Adr) : Nat -> Nat -> List W -> FR
 | 0, _, _ => .no
 | n + 1, i, ws => body K a (run K a n) ws i
theorem run_rows_many {K : PySem.W.Frag} {a : Adr} {n : Nat} {ws : List W} : run K a (n + 1) i_rows_many ws = if ws.length = 1 then (d_rows_many K a (run K a n) (init 3 ws)).fn else .no := rfl
theorem run_check_machine {K : PySem.W.Frag} {a : Adr} {n : Nat} {ws : List W} : run K a (n + 1) i_check_machine ws = if ws.length = 1 then (d_check_machine K a (run K a n) (init 6 ws)).fn else .no := rfl
theorem run_is_state {K : PySem.W.Frag} {a : Adr} {n : Nat} {ws : List W} : run K a (n + 1) i_is_state ws = if ws.length = 2 then (d_is_state K a (run K a n) (init 2 ws)).fn else .no := rfl
theorem run_come_to {K : PySem.W.Frag} {a : Adr} {n : Nat} {ws : List W} : run K a (n + 1) i_come_to ws = if ws.length = 2 then (d_come_to K a (run K a n) (init 9 ws)).fn else .no := rfl
theorem run_partings {K : PySem.W.Frag} {a : Adr} {n : Nat} {ws : List W} : run K a (n + 1) i_partings ws = if ws.length = 1 then (d_partings K a (run K a n) (init 7 ws)).fn else .no := rfl
theorem run_kinds_by_length {K : PySem.W.Frag} {a : Adr} {n : Nat} {ws : List W} : run K a (n + 1) i_kinds_by_length ws = if ws.length = 1 then (d_kinds_by_length K a (run K a n) (init 3 ws)).fn else .no := rfl
theorem run_finer_kinds {K : PySem.W.Frag} {a : Adr} {n : Nat} {ws : List W} : run K a (n + 1) i_finer_kinds ws = if ws.length = 2 then (d_finer_kinds K a (run K a n) (init 6 ws)).fn else .no := rfl
theorem run_parting_rows {K : PySem.W.Frag} {a : Adr} {n : Nat} {ws : List W} : run K a (n + 1) i_parting_rows ws = if ws.length = 4 then (d_parting_rows K a (run K a n) (init 9 ws)).fn else .no := rfl
theorem run_parting_row {K : PySem.W.Frag} {a : Adr} {n : Nat} {ws : List W} : run K a (n + 1) i_parting_row ws = if ws.length = 4 then (d_parting_row K a (run K a n) (init 5 ws)).fn else .no := rfl
theorem run_parts {K : PySem.W.Frag} {a : Adr} {n : Nat} {ws : List W} : run K a (n + 1) i_parts ws = if ws.length = 4 then (d_parts K a (run K a n) (init 4 ws)).fn else .no := rfl
theorem run_small {K : PySem.W.Frag} {a : Adr} {n : Nat} {ws : List W} : run K a (n + 1) i_small ws = if ws.length = 1 then (d_small K a (run K a n) (init 6 ws)).fn else .no := rfl
theorem run_pairs_of_kind {K : PySem.W.Frag} {a : Adr} {n : Nat} {ws : List W} : run K a (n + 1) i_pairs_of_kind ws = if ws.length = 3 then (d_pairs_of_kind K a (run K a n) (init 3 ws)).fn else .no := rfl
theorem run__law_cell_at {K : PySem.W.Frag} {a : Adr} {n : Nat} {ws : List W} : run K a (n + 1) i__law_cell_at ws = if ws.length = 2 then (d__law_cell_at K a (run K a n) (init 2 ws)).fn else .no := rfl
theorem run__law_mixed {K : PySem.W.Frag} {a : Adr} {n : Nat} {ws : List W} : run K a (n + 1) i__law_mixed ws = if ws.length = 2 then (d__law_mixed K a (run K a n) (init 3 ws)).fn else .no := rfl
theorem run__law_row {K : PySem.W.Frag} {a : Adr} {n : Nat} {ws : List W} : run K a (n + 1) i__law_row ws = if ws.length = 2 then (d__law_row K a (run K a n) (init 4 ws)).fn else .no := rfl
theorem run__law_rows_of {K : PySem.W.Frag} {a : Adr} {n : Nat} {ws : List W} : run K a (n + 1) i__law_rows_of ws = if ws.length = 1 then (d__law_rows_of K a (run K a n) (init 1 ws)).fn else .no := rfl
theorem run__law_machine {K : PySem.W.Frag} {a : Adr} {n : Nat} {ws : List W} : run K a (n + 1) i__law_machine ws = if ws.length = 2 then (d__law_machine K a (run K a n) (init 16 ws)).fn else .no := rfl
theorem run__law_come_to {K : PySem.W.Frag} {a : Adr} {n : Nat} {ws : List W} : run K a (n + 1) i__law_come_to ws = if ws.length = 1 then (d__law_come_to K a (run K a n) (init 4 ws)).fn else .no := rfl
theorem run_law {K : PySem.W.Frag} {a : Adr} {n : Nat} {ws : List W} : run K a (n + 1) i_law ws = if ws.length = 1 then (d_law K a (run K a n) (init 6 ws)).fn else .no := rfl
theorem run_lam_small_0 {K : PySem.W.Frag} {a : Adr} {n : Nat} {ws : List W} : run K a (n + 1) i_lam_small_0 ws = if ws.length = 3 then exprFR (d_lam_small_0 K a (run K a n) (ws.map .fr)) else .no := rfl
theorem run_lam_small_1 {K : PySem.W.Frag} {a : Adr} {n : Nat} {ws : List W} : run K a (n + 1) i_lam_small_1 ws = if ws.length = 2 then exprFR (d_lam_small_1 K a (run K a n) (ws.map .fr)) else .no := rfl
section
variable {P : Program} {w : World} {K : PySem.W.Frag} {mg : Str -> Option Value} {base : Heap}
structure Mks (K : PySem.W.Frag) (mg : Str -> Option Value) : Prop where
 small : ∀ f oc od fd sl, mg "small" = some (.ref f) -> K.lookup f = some ⟨oc, od, .func fd, sl⟩ -> MakK K "small" fd.code
structure Ats (K : PySem.W.Frag) (mg : Str -> Option Value) : Prop where
 rows_many : At K mg "rows_many" s_rows_many ["many"]
 check_machine : At K mg "check_machine" s_check_machine ["machine"]
 is_state : At K mg "is_state" s_is_state ["machine", "number"]
 come_to : At K mg "come_to" s_come_to ["begin", "pairs_of"]
 partings : At K mg "partings" s_partings ["machine"]
 kinds_by_length : At K mg "kinds_by_length" s_kinds_by_length ["states"]
 finer_kinds : At K mg "finer_kinds" s_finer_kinds ["states", "kinds"]
 parting_rows : At K mg "parting_rows" s_parting_rows ["states", "levels", "first", "second"]
 parting_row : At K mg "parting_row" s_parting_row ["state", "other", "kinds", "length"]
 parts : At K mg "parts" s_parts ["pair", "other", "kinds", "length"]
 small : At K mg "small" s_small ["machine"]
 pairs_of_kind : At K mg "pairs_of_kind" s_pairs_of_kind ["states", "kinds", "kind"]
 _law_cell_at : At K mg "_law_cell_at" s__law_cell_at ["_law_script", "_law_k"]
 _law_mixed : At K mg "_law_mixed" s__law_mixed ["_law_cell", "_law_k"]
 _law_row : At K mg "_law_row" s__law_row ["_law_number", "_law_many"]
 _law_rows_of : At K mg "_law_rows_of" s__law_rows_of ["_law_many"]
 _law_machine : At K mg "_law_machine" s__law_machine ["_law_script", "_law_at"]
 _law_come_to : At K mg "_law_come_to" s__law_come_to ["_law_states"]
 law : At K mg "law" s_law ["_law_script"]
structure Cals (P : Program) (w : World) (K : PySem.W.Frag) (mg : Str -> Option Value) (base : Heap) (a : Adr) (n : Nat) : Prop where
 rows_many : Cal P w K mg base n "rows_many" ["many"] (spF K (run K a n i_rows_many))
 check_machine : Cal P w K mg base n "check_machine" ["machine"] (spF K (run K a n i_check_machine))
 is_state : Cal P w K mg base n "is_state" ["machine", "number"] (spF K (run K a n i_is_state))
 come_to : Cal P w K mg base n "come_to" ["begin", "pairs_of"] (spF K (run K a n i_come_to))
 partings : Cal P w K mg base n "partings" ["machine"] (spF K (run K a n i_partings))
 kinds_by_length : Cal P w K mg base n "kinds_by_length" ["states"] (spF K (run K a n i_kinds_by_length))
 finer_kinds : Cal P w K mg base n "finer_kinds" ["states", "kinds"] (spF K (run K a n i_finer_kinds))
 parting_rows : Cal P w K mg base n "parting_rows" ["states", "levels", "first", "second"] (spF K (run K a n i_parting_rows))
 parting_row : Cal P w K mg base n "parting_row" ["state", "other", "kinds", "length"] (spF K (run K a n i_parting_row))
 parts : Cal P w K mg base n "parts" ["pair", "other", "kinds", "length"] (spF K (run K a n i_parts))
 small : Cal P w K mg base n "small" ["machine"] (spF K (run K a n i_small))
 pairs_of_kind : Cal P w K mg base n "pairs_of_kind" ["states", "kinds", "kind"] (spF K (run K a n i_pairs_of_kind))
 _law_cell_at : Cal P w K mg base n "_law_cell_at" ["_law_script", "_law_k"] (spF K (run K a n i__law_cell_at))
 _law_mixed : Cal P w K mg base n "_law_mixed" ["_law_cell", "_law_k"] (spF K (run K a n i__law_mixed))
 _law_row : Cal P w K mg base n "_law_row" ["_law_number", "_law_many"] (spF K (run K a n i__law_row))
 _law_rows_of : Cal P w K mg base n "_law_rows_of" ["_law_many"] (spF K (run K a n i__law_rows_of))
 _law_machine : Cal P w K mg base n "_law_machine" ["_law_script", "_law_at"] (spF K (run K a n i__law_machine))
 _law_come_to : Cal P w K mg base n "_law_come_to" ["_law_states"] (spF K (run K a n i__law_come_to))
 law : Cal P w K mg base n "law" ["_law_script"] (spF K (run K a n i_law))
 lam : FnV P w K mg base (CX1 P w) n (spV K lams (run K a n))
structure CalsH (P : Program) (w : World) (K : PySem.W.Frag) (mg : Str -> Option Value) (base : Heap) (a : Adr) (n : Nat) : Prop where
 z : True
theorem b_rows_many {a : Adr} {n : Nat} (B : Blt mg) (M : Exs K mg a) (C : Cals P w K mg base a n) (CH : CalsH P w K mg base a n) (BM : BMain base mg) (MK : Mks K mg) {f : Addr} {cdv : Value} {A : Around} {outer : List Env} {s : Shared} {H : Hp} {E : XK} {Z : Zt} (hr : Room n (A.deeper (PyProof.Rows.envOfC "rows_many" (defScope s_rows_many) s.heap.objs.size f cdv))) :
  DSs Z (cxOf (CX1 P w) P w K mg base ["many", "count", "place"] "rows_many" (defScope s_rows_many) f cdv A outer s H E) (fun _ => E) (defBody s_rows_many) (d_rows_many K a (run K a n)) :=
 (dss_cons (ds_set 1 sc_rows_many.nd de_int)
  (dss_cons (ds_for1 2 sc_rows_many.nd PassesOwn.leaving rfl B.b_range (da_cons (dv 0) da_nil)
  (dss_one (ds_set 1 sc_rows_many.nd (de_mul de_int (dv 1)))))
  (dss_one (ds_ret (dv 1)))))
theorem l_rows_many {K : PySem.W.Frag} {a : Adr} {n : Nat} {ws : List W} (h : run K a (n + 1) i_rows_many ws ≠ .no) : ws.length = 1 /\ (d_rows_many K a (run K a n) (init 3 ws)).fn = run K a (n + 1) i_rows_many ws := by
 rw [run_rows_many] at h |-; split at h
 ·rename_i hl; rw [if_pos hl]; exact ⟨hl, rfl⟩
 ·exact absurd rfl h
theorem ok_rows_many {a : Adr} {n : Nat} (B : Blt mg) (M : Exs K mg a) (C : Cals P w K mg base a n) (CH : CalsH P w K mg base a n) (BM : BMain base mg) (MK : Mks K mg) (A : Ats K mg) : Cal P w K mg base (n + 1) "rows_many" ["many"] (spF K (run K a (n + 1) i_rows_many)) :=
 con A.rows_many sc_rows_many (fun ws hw => (l_rows_many hw).1) fun ws hw f cdv A outer s H E Z hr => ⟨_, b_rows_many B M C CH BM MK hr, (l_rows_many hw).2⟩
theorem b_check_machine {a : Adr} {n : Nat} (B : Blt mg) (M : Exs K mg a) (C : Cals P w K mg base a n) (CH : CalsH P w K mg base a n) (BM : BMain base mg) (MK : Mks K mg) {f : Addr} {cdv : Value} {A : Around} {outer : List Env} {s : Shared} {H : Hp} {E : XK} {Z : Zt} (hr : Room n (A.deeper (PyProof.Rows.envOfC "check_machine" (defScope s_check_machine) s.heap.objs.size f cdv))) :
  DSs Z (cxOf (CX1 P w) P w K mg base ["machine", "states", "pairs_many", "state", "told", "follower"] "check_machine" (defScope s_check_machine) f cdv A outer s H E) (fun _ => E) (defBody s_check_machine) (d_check_machine K a (run K a n)) :=
 (dss_cons (ds_set 1 sc_check_machine.nd (de_ix (dv 0) de_int))
  (dss_cons (ds_set 2 sc_check_machine.nd (de_cal C.rows_many hr pass1 (da_cons (de_ix (dv 0) de_int) da_nil)))
  (dss_cons (ds_if (dt_eq (room_eq hr) (de_len B.b_len (da_cons (dv 1) da_nil)) de_int)
  (dss_one (ds_raise rais1 M.e_NoMachine M.m_NoMachine rfl (da_cons de_str da_nil)))
  dss_nil)
  (dss_one (ds_for 3 sc_check_machine.nd PassesOwn.leaving rfl (dv 1)
  (dss_cons (ds_if (dt_ne (room_eq hr) (de_len B.b_len (da_cons (dv 3) da_nil)) (dv 2))
  (dss_one (ds_raise rais1 M.e_NoMachine M.m_NoMachine rfl (da_cons de_str da_nil)))
  dss_nil)
  (dss_one (ds_forP 4 5 sc_check_machine.nd PassesOwn.leaving rfl (di_pairs (dv 3))
  (dss_cons (ds_if (dt_ne (room_eq hr) (de_len B.b_len (da_cons (dv 4) da_nil)) (de_ix (dv 0) de_int))
  (dss_one (ds_raise rais1 M.e_NoMachine M.m_NoMachine rfl (da_cons de_str da_nil)))
  dss_nil)
  (dss_one (ds_if (dt_not (dt_val (de_cal C.is_state hr pass1 (da_cons (dv 0) (da_cons (dv 5) da_nil)))))
  (dss_one (ds_raise rais1 M.e_NoMachine M.m_NoMachine rfl (da_cons de_str da_nil)))
  dss_nil)))))))))))
theorem l_check_machine {K : PySem.W.Frag} {a : Adr} {n : Nat} {ws : List W} (h : run K a (n + 1) i_check_machine ws ≠ .no) : ws.length = 1 /\ (d_check_machine K a (run K a n) (init 6 ws)).fn = run K a (n + 1) i_check_machine ws := by
 rw [run_check_machine] at h |-; split at h
 ·rename_i hl; rw [if_pos hl]; exact ⟨hl, rfl⟩
 ·exact absurd rfl h
theorem ok_check_machine {a : Adr} {n : Nat} (B : Blt mg) (M : Exs K mg a) (C : Cals P w K mg base a n) (CH : CalsH P w K mg base a n) (BM : BMain base mg) (MK : Mks K mg) (A : Ats K mg) : Cal P w K mg base (n + 1) "check_machine" ["machine"] (spF K (run K a (n + 1) i_check_machine)) :=
 con A.check_machine sc_check_machine (fun ws hw => (l_check_machine hw).1) fun ws hw f cdv A outer s H E Z hr => ⟨_, b_check_machine B M C CH BM MK hr, (l_check_machine hw).2⟩
theorem b_is_state {a : Adr} {n : Nat} (B : Blt mg) (M : Exs K mg a) (C : Cals P w K mg base a n) (CH : CalsH P w K mg base a n) (BM : BMain base mg) (MK : Mks K mg) {f : Addr} {cdv : Value} {A : Around} {outer : List Env} {s : Shared} {H : Hp} {E : XK} {Z : Zt} (hr : Room n (A.deeper (PyProof.Rows.envOfC "is_state" (defScope s_is_state) s.heap.objs.size f cdv))) :
  DSs Z (cxOf (CX1 P w) P w K mg base ["machine", "number"] "is_state" (defScope s_is_state) f cdv A outer s H E) (fun _ => E) (defBody s_is_state) (d_is_state K a (run K a n)) :=
 (dss_one (ds_ret (de_and (de_le de_int (dv 1)) (de_one (de_lt (dv 1) (de_len B.b_len (da_cons (de_ix (dv 0) de_int) da_nil)))))))
theorem l_is_state {K : PySem.W.Frag} {a : Adr} {n : Nat} {ws : List W} (h : run K a (n + 1) i_is_state ws ≠ .no) : ws.length = 2 /\ (d_is_state K a (run K a n) (init 2 ws)).fn = run K a (n + 1) i_is_state ws := by
 rw [run_is_state] at h |-; split at h
 ·rename_i hl; rw [if_pos hl]; exact ⟨hl, rfl⟩
 ·exact absurd rfl h
theorem ok_is_state {a : Adr} {n : Nat} (B : Blt mg) (M : Exs K mg a) (C : Cals P w K mg base a n) (CH : CalsH P w K mg base a n) (BM : BMain base mg) (MK : Mks K mg) (A : Ats K mg) : Cal P w K mg base (n + 1) "is_state" ["machine", "number"] (spF K (run K a (n + 1) i_is_state)) :=
 con A.is_state sc_is_state (fun ws hw => (l_is_state hw).1) fun ws hw f cdv A outer s H E Z hr => ⟨_, b_is_state B M C CH BM MK hr, (l_is_state hw).2⟩
theorem b_come_to {a : Adr} {n : Nat} (B : Blt mg) (M : Exs K mg a) (C : Cals P w K mg base a n) (CH : CalsH P w K mg base a n) (BM : BMain base mg) (MK : Mks K mg) {f : Addr} {cdv : Value} {A : Around} {outer : List Env} {s : Shared} {H : Hp} {E : XK} {Z : Zt} (hr : Room n (A.deeper (PyProof.Rows.envOfC "come_to" (defScope s_come_to) s.heap.objs.size f cdv))) :
  DSs Z (cxOf (CX1 P w) P w K mg base ["begin", "pairs_of", "things", "numbers", "states", "thing", "state", "told", "follower"] "come_to" (defScope s_come_to) f cdv A outer s H E) (fun _ => E) (defBody s_come_to) (d_come_to K a (run K a n)) :=
 (dss_cons (ds_own 2 sc_come_to.nd (df_lst (da_cons (dv 0) da_nil)))
  (dss_cons (ds_setD1 3 0 sc_come_to.nd (pv 0))
  (dss_cons (ds_own 4 sc_come_to.nd (df_lst da_nil))
  (dss_cons (ds_while 1000000 PassesOwn.leaving (dt_lt (de_lenV 4 B.b_len) (de_lenV 2 B.b_len))
  (dss_cons (ds_set 5 sc_come_to.nd (de_ixV 2 (de_lenV 4 B.b_len)))
  (dss_cons (ds_own 6 sc_come_to.nd (df_lst da_nil))
  (dss_cons (ds_forP 7 8 sc_come_to.nd PassesOwn.leaving rfl (di_pairs (de_callV 1 C.lam hr pass1 (da_cons (dv 5) da_nil) (pv 1)))
  (dss_cons (ds_if (dt_borrow fun _ => (dt_ninD (room_eq hr) (dv 8) (dv 3)))
  (dss_cons (ds_putD 3 (room_eq hr) (de_lenV 2 B.b_len) (dv 8))
  (dss_one (ds_app 2 (da_cons (dv 8) da_nil))))
  dss_nil)
  (dss_one (ds_app 6 (da_cons (de_tup (da_cons (dv 7) (da_cons (de_borrow fun _ => (de_ixD (room_eq hr) (dv 3) (dv 8))) da_nil))) da_nil)))))
  (dss_one (ds_app 4 (da_cons (dv 6) da_nil)))))))
  (dss_one (ds_ret (de_tup (da_cons (dv 4) (da_cons (dv 2) da_nil)))))))))
theorem l_come_to {K : PySem.W.Frag} {a : Adr} {n : Nat} {ws : List W} (h : run K a (n + 1) i_come_to ws ≠ .no) : ws.length = 2 /\ (d_come_to K a (run K a n) (init 9 ws)).fn = run K a (n + 1) i_come_to ws := by
 rw [run_come_to] at h |-; split at h
 ·rename_i hl; rw [if_pos hl]; exact ⟨hl, rfl⟩
 ·exact absurd rfl h
theorem ok_come_to {a : Adr} {n : Nat} (B : Blt mg) (M : Exs K mg a) (C : Cals P w K mg base a n) (CH : CalsH P w K mg base a n) (BM : BMain base mg) (MK : Mks K mg) (A : Ats K mg) : Cal P w K mg base (n + 1) "come_to" ["begin", "pairs_of"] (spF K (run K a (n + 1) i_come_to)) :=
 con A.come_to sc_come_to (fun ws hw => (l_come_to hw).1) fun ws hw f cdv A outer s H E Z hr => ⟨_, b_come_to B M C CH BM MK hr, (l_come_to hw).2⟩
theorem b_partings {a : Adr} {n : Nat} (B : Blt mg) (M : Exs K mg a) (C : Cals P w K mg base a n) (CH : CalsH P w K mg base a n) (BM : BMain base mg) (MK : Mks K mg) {f : Addr} {cdv : Value} {A : Around} {outer : List Env} {s : Shared} {H : Hp} {E : XK} {Z : Zt} (hr : Room n (A.deeper (PyProof.Rows.envOfC "partings" (defScope s_partings) s.heap.objs.size f cdv))) :
  DSs Z (cxOf (CX1 P w) P w K mg base ["machine", "states", "levels", "kinds", "parted", "first", "second"] "partings" (defScope s_partings) f cdv A outer s H E) (fun _ => E) (defBody s_partings) (d_partings K a (run K a n)) :=
 (dss_cons (ds_expr (de_cal C.check_machine hr pass1 (da_cons (dv 0) da_nil)))
  (dss_cons (ds_set 1 sc_partings.nd (de_ix (dv 0) de_int))
  (dss_cons (ds_set 2 sc_partings.nd (de_cal C.kinds_by_length hr pass1 (da_cons (dv 1) da_nil)))
  (dss_cons (ds_set 3 sc_partings.nd (de_ix (dv 2) (de_neg de_int)))
  (dss_cons (ds_setW 4 (.tup [.int, .int]) sc_partings.nd)
  (dss_cons (ds_for1 5 sc_partings.nd PassesOwn.leaving rfl B.b_range (da_cons (de_len B.b_len (da_cons (dv 1) da_nil)) da_nil)
  (dss_one (ds_for2 6 sc_partings.nd PassesOwn.leaving rfl B.b_range (da_cons (de_add (dv 5) de_int) (da_cons (de_len B.b_len (da_cons (dv 1) da_nil)) da_nil))
  (dss_one (ds_if (dt_ne (room_eq hr) (de_ix (dv 3) (dv 5)) (de_ix (dv 3) (dv 6)))
  (dss_one (ds_putW 4 M.nt (room_eq hr) (de_cal C.parting_rows hr pass1 (da_cons (dv 1) (da_cons (dv 2) (da_cons (dv 5) (da_cons (dv 6) da_nil))))) (de_tup (da_cons (dv 5) (da_cons (dv 6) da_nil)))))
  dss_nil)))))
  (dss_one (ds_retW 4))))))))
theorem l_partings {K : PySem.W.Frag} {a : Adr} {n : Nat} {ws : List W} (h : run K a (n + 1) i_partings ws ≠ .no) : ws.length = 1 /\ (d_partings K a (run K a n) (init 7 ws)).fn = run K a (n + 1) i_partings ws := by
 rw [run_partings] at h |-; split at h
 ·rename_i hl; rw [if_pos hl]; exact ⟨hl, rfl⟩
 ·exact absurd rfl h
theorem ok_partings {a : Adr} {n : Nat} (B : Blt mg) (M : Exs K mg a) (C : Cals P w K mg base a n) (CH : CalsH P w K mg base a n) (BM : BMain base mg) (MK : Mks K mg) (A : Ats K mg) : Cal P w K mg base (n + 1) "partings" ["machine"] (spF K (run K a (n + 1) i_partings)) :=
 con A.partings sc_partings (fun ws hw => (l_partings hw).1) fun ws hw f cdv A outer s H E Z hr => ⟨_, b_partings B M C CH BM MK hr, (l_partings hw).2⟩
theorem b_kinds_by_length {a : Adr} {n : Nat} (B : Blt mg) (M : Exs K mg a) (C : Cals P w K mg base a n) (CH : CalsH P w K mg base a n) (BM : BMain base mg) (MK : Mks K mg) {f : Addr} {cdv : Value} {A : Around} {outer : List Env} {s : Shared} {H : Hp} {E : XK} {Z : Zt} (hr : Room n (A.deeper (PyProof.Rows.envOfC "kinds_by_length" (defScope s_kinds_by_length) s.heap.objs.size f cdv))) :
  DSs Z (cxOf (CX1 P w) P w K mg base ["states", "levels", "finer"] "kinds_by_length" (defScope s_kinds_by_length) f cdv A outer s H E) (fun _ => E) (defBody s_kinds_by_length) (d_kinds_by_length K a (run K a n)) :=
 (dss_cons (ds_own 1 sc_kinds_by_length.nd (df_lst (da_cons (de_rep (de_fz (df_lst (da_cons de_int da_nil))) (de_len B.b_len (da_cons (dv 0) da_nil))) da_nil)))
  (dss_cons (ds_set 2 sc_kinds_by_length.nd (de_cal C.finer_kinds hr pass1 (da_cons (dv 0) (da_cons (de_ixV 1 (de_neg de_int)) da_nil))))
  (dss_cons (ds_while 1000000 PassesOwn.leaving (dt_gt (de_max1 rfl B.b_max (da_cons (dv 2) da_nil)) (de_max1 rfl B.b_max (da_cons (de_ixV 1 (de_neg de_int)) da_nil)))
  (dss_cons (ds_app 1 (da_cons (dv 2) da_nil))
  (dss_one (ds_set 2 sc_kinds_by_length.nd (de_cal C.finer_kinds hr pass1 (da_cons (dv 0) (da_cons (dv 2) da_nil)))))))
  (dss_one (ds_retO 1)))))
theorem l_kinds_by_length {K : PySem.W.Frag} {a : Adr} {n : Nat} {ws : List W} (h : run K a (n + 1) i_kinds_by_length ws ≠ .no) : ws.length = 1 /\ (d_kinds_by_length K a (run K a n) (init 3 ws)).fn = run K a (n + 1) i_kinds_by_length ws := by
 rw [run_kinds_by_length] at h |-; split at h
 ·rename_i hl; rw [if_pos hl]; exact ⟨hl, rfl⟩
 ·exact absurd rfl h
theorem ok_kinds_by_length {a : Adr} {n : Nat} (B : Blt mg) (M : Exs K mg a) (C : Cals P w K mg base a n) (CH : CalsH P w K mg base a n) (BM : BMain base mg) (MK : Mks K mg) (A : Ats K mg) : Cal P w K mg base (n + 1) "kinds_by_length" ["states"] (spF K (run K a (n + 1) i_kinds_by_length)) :=
 con A.kinds_by_length sc_kinds_by_length (fun ws hw => (l_kinds_by_length hw).1) fun ws hw f cdv A outer s H E Z hr => ⟨_, b_kinds_by_length B M C CH BM MK hr, (l_kinds_by_length hw).2⟩
theorem b_finer_kinds {a : Adr} {n : Nat} (B : Blt mg) (M : Exs K mg a) (C : Cals P w K mg base a n) (CH : CalsH P w K mg base a n) (BM : BMain base mg) (MK : Mks K mg) {f : Addr} {cdv : Value} {A : Around} {outer : List Env} {s : Shared} {H : Hp} {E : XK} {Z : Zt} (hr : Room n (A.deeper (PyProof.Rows.envOfC "finer_kinds" (defScope s_finer_kinds) s.heap.objs.size f cdv))) :
  DSs Z (cxOf (CX1 P w) P w K mg base ["states", "kinds", "numbers", "finer", "state", "seen"] "finer_kinds" (defScope s_finer_kinds) f cdv A outer s H E) (fun _ => E) (defBody s_finer_kinds) (d_finer_kinds K a (run K a n)) :=
 (dss_cons (ds_setW 2 (.many (.tup [.many .bl, .int])) sc_finer_kinds.nd)
  (dss_cons (ds_own 3 sc_finer_kinds.nd (df_lst da_nil))
  (dss_cons (ds_for 4 sc_finer_kinds.nd PassesOwn.leaving rfl (dv 0)
  (dss_cons (ds_set 5 sc_finer_kinds.nd (de_tuple B.b_tuple (da_cons (de_fz (df_compP (x := "told") (y := "follower") (Nf := ["kinds"]) (js := [1]) (sc := defScope s_finer_kinds) (N := ["states", "kinds", "numbers", "finer", "state", "seen"]) rfl (di_pairs (dv 4)) (by decide +kernel)
   (fun _ _ _ _ _ _ => dts_nil)
   (fun _ _ _ _ _ _ => (de_tup (da_cons (dv 0) (da_cons (de_ix (dv 2) (dv 1)) da_nil))))
   (fun _ _ _ _ _ => pg_two (show (["told", "follower", "kinds"] : List Str).Nodup by decide +kernel) rfl))) da_nil)))
  (dss_cons (ds_if (dt_borrow fun _ => (dt_ninT M.nt (room_eq hr) (dv 5) (dv 2)))
  (dss_one (ds_putW 2 M.nt (room_eq hr) (de_borrow fun _ => (de_lenT B.b_len (da_cons (dv 2) da_nil))) (dv 5)))
  dss_nil)
  (dss_one (ds_app 3 (da_cons (de_borrow fun _ => (de_ixT M.nt (room_eq hr) (dv 2) (dv 5))) da_nil))))))
  (dss_one (ds_retO 3)))))
theorem l_finer_kinds {K : PySem.W.Frag} {a : Adr} {n : Nat} {ws : List W} (h : run K a (n + 1) i_finer_kinds ws ≠ .no) : ws.length = 2 /\ (d_finer_kinds K a (run K a n) (init 6 ws)).fn = run K a (n + 1) i_finer_kinds ws := by
 rw [run_finer_kinds] at h |-; split at h
 ·rename_i hl; rw [if_pos hl]; exact ⟨hl, rfl⟩
 ·exact absurd rfl h
theorem ok_finer_kinds {a : Adr} {n : Nat} (B : Blt mg) (M : Exs K mg a) (C : Cals P w K mg base a n) (CH : CalsH P w K mg base a n) (BM : BMain base mg) (MK : Mks K mg) (A : Ats K mg) : Cal P w K mg base (n + 1) "finer_kinds" ["states", "kinds"] (spF K (run K a (n + 1) i_finer_kinds)) :=
 con A.finer_kinds sc_finer_kinds (fun ws hw => (l_finer_kinds hw).1) fun ws hw f cdv A outer s H E Z hr => ⟨_, b_finer_kinds B M C CH BM MK hr, (l_finer_kinds hw).2⟩
theorem b_parting_rows {a : Adr} {n : Nat} (B : Blt mg) (M : Exs K mg a) (C : Cals P w K mg base a n) (CH : CalsH P w K mg base a n) (BM : BMain base mg) (MK : Mks K mg) {f : Addr} {cdv : Value} {A : Around} {outer : List Env} {s : Shared} {H : Hp} {E : XK} {Z : Zt} (hr : Room n (A.deeper (PyProof.Rows.envOfC "parting_rows" (defScope s_parting_rows) s.heap.objs.size f cdv))) :
  DSs Z (cxOf (CX1 P w) P w K mg base ["states", "levels", "first", "second", "length", "numbers", "left", "right", "number"] "parting_rows" (defScope s_parting_rows) f cdv A outer s H E) (fun _ => E) (defBody s_parting_rows) (d_parting_rows K a (run K a n)) :=
 (dss_cons (ds_set 4 sc_parting_rows.nd de_int)
  (dss_cons (ds_while 1000000 PassesOwn.leaving (dt_eq (room_eq hr) (de_ix (de_ix (dv 1) (dv 4)) (dv 2)) (de_ix (de_ix (dv 1) (dv 4)) (dv 3)))
  (dss_one (ds_set 4 sc_parting_rows.nd (de_add (dv 4) de_int))))
  (dss_cons (ds_own 5 sc_parting_rows.nd (df_lst da_nil))
  (dss_cons (ds_set 6 sc_parting_rows.nd (dv 2))
  (dss_cons (ds_set 7 sc_parting_rows.nd (dv 3))
  (dss_cons (ds_while 1000000 PassesOwn.leaving (dt_gt (dv 4) de_int)
  (dss_cons (ds_set 4 sc_parting_rows.nd (de_sub (dv 4) de_int))
  (dss_cons (ds_set 8 sc_parting_rows.nd (de_cal C.parting_row hr pass1 (da_cons (de_ix (dv 0) (dv 6)) (da_cons (de_ix (dv 0) (dv 7)) (da_cons (de_ix (dv 1) (dv 4)) (da_cons (dv 4) da_nil))))))
  (dss_cons (ds_app 5 (da_cons (dv 8) da_nil))
  (dss_cons (ds_set 6 sc_parting_rows.nd (de_ix (de_ix (de_ix (dv 0) (dv 6)) (dv 8)) de_int))
  (dss_one (ds_set 7 sc_parting_rows.nd (de_ix (de_ix (de_ix (dv 0) (dv 7)) (dv 8)) de_int))))))))
  (dss_one (ds_retO 5))))))))
theorem l_parting_rows {K : PySem.W.Frag} {a : Adr} {n : Nat} {ws : List W} (h : run K a (n + 1) i_parting_rows ws ≠ .no) : ws.length = 4 /\ (d_parting_rows K a (run K a n) (init 9 ws)).fn = run K a (n + 1) i_parting_rows ws := by
 rw [run_parting_rows] at h |-; split at h
 ·rename_i hl; rw [if_pos hl]; exact ⟨hl, rfl⟩
 ·exact absurd rfl h
theorem ok_parting_rows {a : Adr} {n : Nat} (B : Blt mg) (M : Exs K mg a) (C : Cals P w K mg base a n) (CH : CalsH P w K mg base a n) (BM : BMain base mg) (MK : Mks K mg) (A : Ats K mg) : Cal P w K mg base (n + 1) "parting_rows" ["states", "levels", "first", "second"] (spF K (run K a (n + 1) i_parting_rows)) :=
 con A.parting_rows sc_parting_rows (fun ws hw => (l_parting_rows hw).1) fun ws hw f cdv A outer s H E Z hr => ⟨_, b_parting_rows B M C CH BM MK hr, (l_parting_rows hw).2⟩
theorem b_parting_row {a : Adr} {n : Nat} (B : Blt mg) (M : Exs K mg a) (C : Cals P w K mg base a n) (CH : CalsH P w K mg base a n) (BM : BMain base mg) (MK : Mks K mg) {f : Addr} {cdv : Value} {A : Around} {outer : List Env} {s : Shared} {H : Hp} {E : XK} {Z : Zt} (hr : Room n (A.deeper (PyProof.Rows.envOfC "parting_row" (defScope s_parting_row) s.heap.objs.size f cdv))) :
  DSs Z (cxOf (CX1 P w) P w K mg base ["state", "other", "kinds", "length", "number"] "parting_row" (defScope s_parting_row) f cdv A outer s H E) (fun _ => E) (defBody s_parting_row) (d_parting_row K a (run K a n)) :=
 (dss_cons (ds_set 4 sc_parting_row.nd de_int)
  (dss_cons (ds_while 1000000 PassesOwn.leaving (dt_not (dt_val (de_cal C.parts hr pass1 (da_cons (de_ix (dv 0) (dv 4)) (da_cons (de_ix (dv 1) (dv 4)) (da_cons (dv 2) (da_cons (dv 3) da_nil)))))))
  (dss_one (ds_set 4 sc_parting_row.nd (de_add (dv 4) de_int))))
  (dss_one (ds_ret (dv 4)))))
theorem l_parting_row {K : PySem.W.Frag} {a : Adr} {n : Nat} {ws : List W} (h : run K a (n + 1) i_parting_row ws ≠ .no) : ws.length = 4 /\ (d_parting_row K a (run K a n) (init 5 ws)).fn = run K a (n + 1) i_parting_row ws := by
 rw [run_parting_row] at h |-; split at h
 ·rename_i hl; rw [if_pos hl]; exact ⟨hl, rfl⟩
 ·exact absurd rfl h
theorem ok_parting_row {a : Adr} {n : Nat} (B : Blt mg) (M : Exs K mg a) (C : Cals P w K mg base a n) (CH : CalsH P w K mg base a n) (BM : BMain base mg) (MK : Mks K mg) (A : Ats K mg) : Cal P w K mg base (n + 1) "parting_row" ["state", "other", "kinds", "length"] (spF K (run K a (n + 1) i_parting_row)) :=
 con A.parting_row sc_parting_row (fun ws hw => (l_parting_row hw).1) fun ws hw f cdv A outer s H E Z hr => ⟨_, b_parting_row B M C CH BM MK hr, (l_parting_row hw).2⟩
theorem b_parts {a : Adr} {n : Nat} (B : Blt mg) (M : Exs K mg a) (C : Cals P w K mg base a n) (CH : CalsH P w K mg base a n) (BM : BMain base mg) (MK : Mks K mg) {f : Addr} {cdv : Value} {A : Around} {outer : List Env} {s : Shared} {H : Hp} {E : XK} {Z : Zt} (hr : Room n (A.deeper (PyProof.Rows.envOfC "parts" (defScope s_parts) s.heap.objs.size f cdv))) :
  DSs Z (cxOf (CX1 P w) P w K mg base ["pair", "other", "kinds", "length"] "parts" (defScope s_parts) f cdv A outer s H E) (fun _ => E) (defBody s_parts) (d_parts K a (run K a n)) :=
 (dss_cons (ds_if (dt_eq (room_eq hr) (dv 3) de_int)
  (dss_one (ds_ret (de_ne (room_eq hr) (de_ix (dv 0) de_int) (de_ix (dv 1) de_int))))
  dss_nil)
  (dss_one (ds_ret (de_ne (room_eq hr) (de_ix (dv 2) (de_ix (dv 0) de_int)) (de_ix (dv 2) (de_ix (dv 1) de_int))))))
theorem l_parts {K : PySem.W.Frag} {a : Adr} {n : Nat} {ws : List W} (h : run K a (n + 1) i_parts ws ≠ .no) : ws.length = 4 /\ (d_parts K a (run K a n) (init 4 ws)).fn = run K a (n + 1) i_parts ws := by
 rw [run_parts] at h |-; split at h
 ·rename_i hl; rw [if_pos hl]; exact ⟨hl, rfl⟩
 ·exact absurd rfl h
theorem ok_parts {a : Adr} {n : Nat} (B : Blt mg) (M : Exs K mg a) (C : Cals P w K mg base a n) (CH : CalsH P w K mg base a n) (BM : BMain base mg) (MK : Mks K mg) (A : Ats K mg) : Cal P w K mg base (n + 1) "parts" ["pair", "other", "kinds", "length"] (spF K (run K a (n + 1) i_parts)) :=
 con A.parts sc_parts (fun ws hw => (l_parts hw).1) fun ws hw f cdv A outer s H E Z hr => ⟨_, b_parts B M C CH BM MK hr, (l_parts hw).2⟩
theorem b_small {a : Adr} {n : Nat} (B : Blt mg) (M : Exs K mg a) (C : Cals P w K mg base a n) (CH : CalsH P w K mg base a n) (BM : BMain base mg) (MK : Mks K mg) {f : Addr} {cdv : Value} {A : Around} {outer : List Env} {s : Shared} {H : Hp} {E : XK} {Z : Zt} (hr : Room n (A.deeper (PyProof.Rows.envOfC "small" (defScope s_small) s.heap.objs.size f cdv))) (hmk : MakK K "small" cdv) :
  DSs Z (cxOf (CX1 P w) P w K mg base ["machine", "states", "kinds", "found", "numbers", "number"] "small" (defScope s_small) f cdv A outer s H E) (fun _ => E) (defBody s_small) (d_small K a (run K a n)) :=
 (dss_cons (ds_expr (de_cal C.check_machine hr pass1 (da_cons (dv 0) da_nil)))
  (dss_cons (ds_set 1 sc_small.nd (de_ix (dv 0) de_int))
  (dss_cons (ds_set 2 sc_small.nd (de_ix (de_cal C.kinds_by_length hr pass1 (da_cons (dv 1) da_nil)) (de_neg de_int)))
  (dss_cons (ds_set 3 sc_small.nd (de_lamcall 19 L_small_0 C.come_to hr pass1 (mk_of hmk BM) (fun _ => rfl) (de_ix (dv 2) de_int) (sc := defScope s_small) (N := ["machine", "states", "kinds", "found", "numbers", "number"]) (nf := ["states", "kinds"]) (by decide +kernel)))
  (dss_cons (ds_own 4 sc_small.nd (df_rep (de_fz (df_lst (da_cons de_non da_nil))) (de_len B.b_len (da_cons (dv 1) da_nil))))
  (dss_cons (ds_for 5 sc_small.nd PassesOwn.leaving rfl (de_ix (de_lamcall 20 L_small_1 C.come_to hr pass1 (mk_of hmk BM) (fun _ => rfl) de_int (sc := defScope s_small) (N := ["machine", "states", "kinds", "found", "numbers", "number"]) (nf := ["states"]) (by decide +kernel)) de_int)
  (dss_one (ds_put 4 (de_indexI (de_ix (dv 3) de_int) (da_cons (de_ix (dv 2) (dv 5)) da_nil)) (dv 5))))
  (dss_one (ds_ret (de_tup (da_cons (de_tup (da_cons (de_ix (dv 0) de_int) (da_cons (de_ix (dv 0) de_int) (da_cons (de_ix (dv 3) de_int) da_nil)))) (da_cons (dv 4) da_nil)))))))))))
theorem l_small {K : PySem.W.Frag} {a : Adr} {n : Nat} {ws : List W} (h : run K a (n + 1) i_small ws ≠ .no) : ws.length = 1 /\ (d_small K a (run K a n) (init 6 ws)).fn = run K a (n + 1) i_small ws := by
 rw [run_small] at h |-; split at h
 ·rename_i hl; rw [if_pos hl]; exact ⟨hl, rfl⟩
 ·exact absurd rfl h
theorem ok_small {a : Adr} {n : Nat} (B : Blt mg) (M : Exs K mg a) (C : Cals P w K mg base a n) (CH : CalsH P w K mg base a n) (BM : BMain base mg) (MK : Mks K mg) (A : Ats K mg) : Cal P w K mg base (n + 1) "small" ["machine"] (spF K (run K a (n + 1) i_small)) :=
 conM A.small MK.small sc_small (fun ws hw => (l_small hw).1) fun ws hw f cdv A outer s H E Z hr hmk => ⟨_, b_small B M C CH BM MK hr hmk, (l_small hw).2⟩
theorem b_pairs_of_kind {a : Adr} {n : Nat} (B : Blt mg) (M : Exs K mg a) (C : Cals P w K mg base a n) (CH : CalsH P w K mg base a n) (BM : BMain base mg) (MK : Mks K mg) {f : Addr} {cdv : Value} {A : Around} {outer : List Env} {s : Shared} {H : Hp} {E : XK} {Z : Zt} (hr : Room n (A.deeper (PyProof.Rows.envOfC "pairs_of_kind" (defScope s_pairs_of_kind) s.heap.objs.size f cdv))) :
  DSs Z (cxOf (CX1 P w) P w K mg base ["states", "kinds", "kind"] "pairs_of_kind" (defScope s_pairs_of_kind) f cdv A outer s H E) (fun _ => E) (defBody s_pairs_of_kind) (d_pairs_of_kind K a (run K a n)) :=
 (dss_one (ds_retF (df_compP (x := "told") (y := "follower") (Nf := ["kinds"]) (js := [1]) (sc := defScope s_pairs_of_kind) (N := ["states", "kinds", "kind"]) rfl (di_pairs (de_ix (dv 0) (de_indexI (dv 1) (da_cons (dv 2) da_nil)))) (by decide +kernel)
   (fun _ _ _ _ _ _ => dts_nil)
   (fun _ _ _ _ _ _ => (de_tup (da_cons (dv 0) (da_cons (de_ix (dv 2) (dv 1)) da_nil))))
   (fun _ _ _ _ _ => pg_two (show (["told", "follower", "kinds"] : List Str).Nodup by decide +kernel) rfl))))
theorem l_pairs_of_kind {K : PySem.W.Frag} {a : Adr} {n : Nat} {ws : List W} (h : run K a (n + 1) i_pairs_of_kind ws ≠ .no) : ws.length = 3 /\ (d_pairs_of_kind K a (run K a n) (init 3 ws)).fn = run K a (n + 1) i_pairs_of_kind ws := by
 rw [run_pairs_of_kind] at h |-; split at h
 ·rename_i hl; rw [if_pos hl]; exact ⟨hl, rfl⟩
 ·exact absurd rfl h
theorem ok_pairs_of_kind {a : Adr} {n : Nat} (B : Blt mg) (M : Exs K mg a) (C : Cals P w K mg base a n) (CH : CalsH P w K mg base a n) (BM : BMain base mg) (MK : Mks K mg) (A : Ats K mg) : Cal P w K mg base (n + 1) "pairs_of_kind" ["states", "kinds", "kind"] (spF K (run K a (n + 1) i_pairs_of_kind)) :=
 con A.pairs_of_kind sc_pairs_of_kind (fun ws hw => (l_pairs_of_kind hw).1) fun ws hw f cdv A outer s H E Z hr => ⟨_, b_pairs_of_kind B M C CH BM MK hr, (l_pairs_of_kind hw).2⟩
theorem b__law_cell_at {a : Adr} {n : Nat} (B : Blt mg) (M : Exs K mg a) (C : Cals P w K mg base a n) (CH : CalsH P w K mg base a n) (BM : BMain base mg) (MK : Mks K mg) {f : Addr} {cdv : Value} {A : Around} {outer : List Env} {s : Shared} {H : Hp} {E : XK} {Z : Zt} (hr : Room n (A.deeper (PyProof.Rows.envOfC "_law_cell_at" (defScope s__law_cell_at) s.heap.objs.size f cdv))) :
  DSs Z (cxOf (CX1 P w) P w K mg base ["_law_script", "_law_k"] "_law_cell_at" (defScope s__law_cell_at) f cdv A outer s H E) (fun _ => E) (defBody s__law_cell_at) (d__law_cell_at K a (run K a n)) :=
 (dss_cons (ds_if (dt_lt (dv 1) (de_len B.b_len (da_cons (dv 0) da_nil)))
  (dss_one (ds_ret (de_ix (dv 0) (dv 1))))
  dss_nil)
  (dss_one (ds_ret de_int)))
theorem l__law_cell_at {K : PySem.W.Frag} {a : Adr} {n : Nat} {ws : List W} (h : run K a (n + 1) i__law_cell_at ws ≠ .no) : ws.length = 2 /\ (d__law_cell_at K a (run K a n) (init 2 ws)).fn = run K a (n + 1) i__law_cell_at ws := by
 rw [run__law_cell_at] at h |-; split at h
 ·rename_i hl; rw [if_pos hl]; exact ⟨hl, rfl⟩
 ·exact absurd rfl h
theorem ok__law_cell_at {a : Adr} {n : Nat} (B : Blt mg) (M : Exs K mg a) (C : Cals P w K mg base a n) (CH : CalsH P w K mg base a n) (BM : BMain base mg) (MK : Mks K mg) (A : Ats K mg) : Cal P w K mg base (n + 1) "_law_cell_at" ["_law_script", "_law_k"] (spF K (run K a (n + 1) i__law_cell_at)) :=
 con A._law_cell_at sc__law_cell_at (fun ws hw => (l__law_cell_at hw).1) fun ws hw f cdv A outer s H E Z hr => ⟨_, b__law_cell_at B M C CH BM MK hr, (l__law_cell_at hw).2⟩
theorem b__law_mixed {a : Adr} {n : Nat} (B : Blt mg) (M : Exs K mg a) (C : Cals P w K mg base a n) (CH : CalsH P w K mg base a n) (BM : BMain base mg) (MK : Mks K mg) {f : Addr} {cdv : Value} {A : Around} {outer : List Env} {s : Shared} {H : Hp} {E : XK} {Z : Zt} (hr : Room n (A.deeper (PyProof.Rows.envOfC "_law_mixed" (defScope s__law_mixed) s.heap.objs.size f cdv))) :
  DSs Z (cxOf (CX1 P w) P w K mg base ["_law_cell", "_law_k", "_law_number"] "_law_mixed" (defScope s__law_mixed) f cdv A outer s H E) (fun _ => E) (defBody s__law_mixed) (d__law_mixed K a (run K a n)) :=
 (dss_cons (ds_set 2 sc__law_mixed.nd (de_mod (de_mul (de_add (dv 0) (de_mul de_int (dv 1))) de_int) de_int))
  (dss_one (ds_ret (de_mod (de_add (de_add (de_mul (dv 2) (dv 2)) (de_mul de_int (dv 2))) (dv 1)) de_int))))
theorem l__law_mixed {K : PySem.W.Frag} {a : Adr} {n : Nat} {ws : List W} (h : run K a (n + 1) i__law_mixed ws ≠ .no) : ws.length = 2 /\ (d__law_mixed K a (run K a n) (init 3 ws)).fn = run K a (n + 1) i__law_mixed ws := by
 rw [run__law_mixed] at h |-; split at h
 ·rename_i hl; rw [if_pos hl]; exact ⟨hl, rfl⟩
 ·exact absurd rfl h
theorem ok__law_mixed {a : Adr} {n : Nat} (B : Blt mg) (M : Exs K mg a) (C : Cals P w K mg base a n) (CH : CalsH P w K mg base a n) (BM : BMain base mg) (MK : Mks K mg) (A : Ats K mg) : Cal P w K mg base (n + 1) "_law_mixed" ["_law_cell", "_law_k"] (spF K (run K a (n + 1) i__law_mixed)) :=
 con A._law_mixed sc__law_mixed (fun ws hw => (l__law_mixed hw).1) fun ws hw f cdv A outer s H E Z hr => ⟨_, b__law_mixed B M C CH BM MK hr, (l__law_mixed hw).2⟩
theorem b__law_row {a : Adr} {n : Nat} (B : Blt mg) (M : Exs K mg a) (C : Cals P w K mg base a n) (CH : CalsH P w K mg base a n) (BM : BMain base mg) (MK : Mks K mg) {f : Addr} {cdv : Value} {A : Around} {outer : List Env} {s : Shared} {H : Hp} {E : XK} {Z : Zt} (hr : Room n (A.deeper (PyProof.Rows.envOfC "_law_row" (defScope s__law_row) s.heap.objs.size f cdv))) :
  DSs Z (cxOf (CX1 P w) P w K mg base ["_law_number", "_law_many", "_law_row_here", "_law_step"] "_law_row" (defScope s__law_row) f cdv A outer s H E) (fun _ => E) (defBody s__law_row) (d__law_row K a (run K a n)) :=
 (dss_cons (ds_own 2 sc__law_row.nd (df_lst da_nil))
  (dss_cons (ds_for1 3 sc__law_row.nd PassesOwn.leaving rfl B.b_range (da_cons (dv 1) da_nil)
  (dss_cons (ds_app 2 (da_cons (de_eq (room_eq hr) (de_mod (dv 0) de_int) de_int) da_nil))
  (dss_one (ds_set 0 sc__law_row.nd (de_fdiv (dv 0) de_int)))))
  (dss_cons (ds_rev 2)
  (dss_one (ds_ret (de_tuple B.b_tuple (da_cons (dv 2) da_nil)))))))
theorem l__law_row {K : PySem.W.Frag} {a : Adr} {n : Nat} {ws : List W} (h : run K a (n + 1) i__law_row ws ≠ .no) : ws.length = 2 /\ (d__law_row K a (run K a n) (init 4 ws)).fn = run K a (n + 1) i__law_row ws := by
 rw [run__law_row] at h |-; split at h
 ·rename_i hl; rw [if_pos hl]; exact ⟨hl, rfl⟩
 ·exact absurd rfl h
theorem ok__law_row {a : Adr} {n : Nat} (B : Blt mg) (M : Exs K mg a) (C : Cals P w K mg base a n) (CH : CalsH P w K mg base a n) (BM : BMain base mg) (MK : Mks K mg) (A : Ats K mg) : Cal P w K mg base (n + 1) "_law_row" ["_law_number", "_law_many"] (spF K (run K a (n + 1) i__law_row)) :=
 con A._law_row sc__law_row (fun ws hw => (l__law_row hw).1) fun ws hw f cdv A outer s H E Z hr => ⟨_, b__law_row B M C CH BM MK hr, (l__law_row hw).2⟩
theorem b__law_rows_of {a : Adr} {n : Nat} (B : Blt mg) (M : Exs K mg a) (C : Cals P w K mg base a n) (CH : CalsH P w K mg base a n) (BM : BMain base mg) (MK : Mks K mg) {f : Addr} {cdv : Value} {A : Around} {outer : List Env} {s : Shared} {H : Hp} {E : XK} {Z : Zt} (hr : Room n (A.deeper (PyProof.Rows.envOfC "_law_rows_of" (defScope s__law_rows_of) s.heap.objs.size f cdv))) :
  DSs Z (cxOf (CX1 P w) P w K mg base ["_law_many"] "_law_rows_of" (defScope s__law_rows_of) f cdv A outer s H E) (fun _ => E) (defBody s__law_rows_of) (d__law_rows_of K a (run K a n)) :=
 (dss_one (ds_ret (de_ix (de_fz (df_lst (da_cons de_int (da_cons de_int (da_cons de_int (da_cons de_int da_nil)))))) (dv 0))))
theorem l__law_rows_of {K : PySem.W.Frag} {a : Adr} {n : Nat} {ws : List W} (h : run K a (n + 1) i__law_rows_of ws ≠ .no) : ws.length = 1 /\ (d__law_rows_of K a (run K a n) (init 1 ws)).fn = run K a (n + 1) i__law_rows_of ws := by
 rw [run__law_rows_of] at h |-; split at h
 ·rename_i hl; rw [if_pos hl]; exact ⟨hl, rfl⟩
 ·exact absurd rfl h
theorem ok__law_rows_of {a : Adr} {n : Nat} (B : Blt mg) (M : Exs K mg a) (C : Cals P w K mg base a n) (CH : CalsH P w K mg base a n) (BM : BMain base mg) (MK : Mks K mg) (A : Ats K mg) : Cal P w K mg base (n + 1) "_law_rows_of" ["_law_many"] (spF K (run K a (n + 1) i__law_rows_of)) :=
 con A._law_rows_of sc__law_rows_of (fun ws hw => (l__law_rows_of hw).1) fun ws hw f cdv A outer s H E Z hr => ⟨_, b__law_rows_of B M C CH BM MK hr, (l__law_rows_of hw).2⟩
theorem b__law_machine {a : Adr} {n : Nat} (B : Blt mg) (M : Exs K mg a) (C : Cals P w K mg base a n) (CH : CalsH P w K mg base a n) (BM : BMain base mg) (MK : Mks K mg) {f : Addr} {cdv : Value} {A : Around} {outer : List Env} {s : Shared} {H : Hp} {E : XK} {Z : Zt} (hr : Room n (A.deeper (PyProof.Rows.envOfC "_law_machine" (defScope s__law_machine) s.heap.objs.size f cdv))) :
  DSs Z (cxOf (CX1 P w) P w K mg base ["_law_script", "_law_at", "_law_cell", "_law_kinds", "_law_many", "_law_wide", "_law_size", "_law_base", "_law_states", "_law_k", "_law_state", "_law_number", "_law_left", "_law_told", "_law_goal", "_law_twin"] "_law_machine" (defScope s__law_machine) f cdv A outer s H E) (fun _ => E) (defBody s__law_machine) (d__law_machine K a (run K a n)) :=
 (dss_cons (ds_set 2 sc__law_machine.nd (de_cal C._law_cell_at hr pass1 (da_cons (dv 0) (da_cons (dv 1) da_nil))))
  (dss_cons (ds_set 3 sc__law_machine.nd (de_cal C._law_cell_at hr pass1 (da_cons (dv 0) (da_cons (de_add (dv 1) de_int) da_nil))))
  (dss_cons (ds_set 4 sc__law_machine.nd (de_mod (dv 2) de_int))
  (dss_cons (ds_set 5 sc__law_machine.nd (de_ix (de_fz (df_lst (da_cons de_int (da_cons de_int (da_cons de_int (da_cons de_int (da_cons de_int (da_cons (de_add de_int (de_mod (de_fdiv (dv 3) de_int) de_int)) (da_cons de_int (da_cons de_int da_nil)))))))))) (de_mod (de_fdiv (dv 3) de_int) de_int)))
  (dss_cons (ds_set 6 sc__law_machine.nd (de_add de_int (de_mod (de_fdiv (dv 2) de_int) de_int)))
  (dss_cons (ds_if (dt_w (dw_or (dt_eq (room_eq hr) (dv 6) de_int) (dw_or1 (dt_eq (room_eq hr) (dv 6) de_int))))
  (dss_cons (ds_set 6 sc__law_machine.nd (de_add de_int (de_mod (de_fdiv (dv 2) de_int) de_int)))
  (dss_one (ds_set 4 sc__law_machine.nd (de_min2 rfl B.b_min (da_cons (dv 4) (da_cons (de_ix (de_fz (df_lst (da_cons de_int (da_cons de_int da_nil)))) (de_int1 B.b_int (da_cons (de_gt (dv 6) de_int) da_nil))) da_nil))))))
  dss_nil)
  (dss_cons (ds_if (dt_eq (room_eq hr) (dv 6) de_int)
  (dss_cons (ds_set 6 sc__law_machine.nd (de_add de_int (de_mod (de_fdiv (dv 2) de_int) de_int)))
  (dss_one (ds_set 4 sc__law_machine.nd (de_mod (dv 4) de_int))))
  dss_nil)
  (dss_cons (ds_set 7 sc__law_machine.nd (de_sub (dv 6) (de_mod (de_fdiv (dv 3) de_int) (dv 6))))
  (dss_cons (ds_own 8 sc__law_machine.nd (df_lst da_nil))
  (dss_cons (ds_for1 9 sc__law_machine.nd PassesOwn.leaving rfl B.b_range (da_cons (dv 6) da_nil)
  (dss_cons (ds_own 10 sc__law_machine.nd (df_lst da_nil))
  (dss_cons (ds_for1 11 sc__law_machine.nd PassesOwn.leaving rfl B.b_range (da_cons (de_cal C._law_rows_of hr pass1 (da_cons (dv 4) da_nil)) da_nil)
  (dss_cons (ds_set 12 sc__law_machine.nd (de_cal C._law_mixed hr pass1 (da_cons (de_cal C._law_cell_at hr pass1 (da_cons (dv 0) (da_cons (de_add (de_add (dv 1) de_int) (de_mod (de_mod (dv 9) (dv 7)) de_int)) da_nil))) (da_cons (de_add (de_mul de_int (de_mod (dv 9) (dv 7))) (dv 11)) da_nil))))
  (dss_cons (ds_set 13 sc__law_machine.nd (de_rep (de_fz (df_lst (da_cons de_bl da_nil))) (dv 5)))
  (dss_cons (ds_if (dt_eq (room_eq hr) (de_mod (dv 12) de_int) de_int)
  (dss_one (ds_set 13 sc__law_machine.nd (de_fz (df_list B.b_list (da_cons (de_cal C._law_row hr pass1 (da_cons (de_fdiv (dv 12) de_int) (da_cons (dv 5) da_nil))) da_nil)))))
  dss_nil)
  (dss_cons (ds_set 14 sc__law_machine.nd (de_mod (de_fdiv (dv 12) de_int) (dv 7)))
  (dss_cons (ds_if (dt_eq (room_eq hr) (de_mod (dv 3) de_int) de_int)
  (dss_cons (ds_set 13 sc__law_machine.nd (de_rep (de_fz (df_lst (da_cons (de_eq (room_eq hr) (de_mod (dv 9) (dv 7)) (de_sub (dv 7) de_int)) da_nil))) (dv 5)))
  (dss_one (ds_set 14 sc__law_machine.nd (de_ix (de_fz (df_lst (da_cons (de_min2 rfl B.b_min (da_cons (de_add (de_mod (dv 9) (dv 7)) de_int) (da_cons (de_sub (dv 7) de_int) da_nil))) (da_cons de_int da_nil)))) (de_min2 rfl B.b_min (da_cons (dv 11) (da_cons de_int da_nil)))))))
  dss_nil)
  (dss_cons (ds_set 15 sc__law_machine.nd (de_mod (de_cal C._law_mixed hr pass1 (da_cons (de_add (dv 3) (dv 9)) (da_cons (dv 11) da_nil))) (de_add (de_fdiv (de_sub (de_sub (dv 6) de_int) (dv 14)) (dv 7)) de_int)))
  (dss_one (ds_app 10 (da_cons (de_tup (da_cons (de_tuple B.b_tuple (da_cons (dv 13) da_nil)) (da_cons (de_add (dv 14) (de_mul (dv 7) (dv 15))) da_nil))) da_nil))))))))))
  (dss_one (ds_app 8 (da_cons (dv 10) da_nil))))))
  (dss_one (ds_ret (de_tup (da_cons (dv 4) (da_cons (dv 5) (da_cons (dv 8) da_nil))))))))))))))))
theorem l__law_machine {K : PySem.W.Frag} {a : Adr} {n : Nat} {ws : List W} (h : run K a (n + 1) i__law_machine ws ≠ .no) : ws.length = 2 /\ (d__law_machine K a (run K a n) (init 16 ws)).fn = run K a (n + 1) i__law_machine ws := by
 rw [run__law_machine] at h |-; split at h
 ·rename_i hl; rw [if_pos hl]; exact ⟨hl, rfl⟩
 ·exact absurd rfl h
theorem ok__law_machine {a : Adr} {n : Nat} (B : Blt mg) (M : Exs K mg a) (C : Cals P w K mg base a n) (CH : CalsH P w K mg base a n) (BM : BMain base mg) (MK : Mks K mg) (A : Ats K mg) : Cal P w K mg base (n + 1) "_law_machine" ["_law_script", "_law_at"] (spF K (run K a (n + 1) i__law_machine)) :=
 con A._law_machine sc__law_machine (fun ws hw => (l__law_machine hw).1) fun ws hw f cdv A outer s H E Z hr => ⟨_, b__law_machine B M C CH BM MK hr, (l__law_machine hw).2⟩
theorem b__law_come_to {a : Adr} {n : Nat} (B : Blt mg) (M : Exs K mg a) (C : Cals P w K mg base a n) (CH : CalsH P w K mg base a n) (BM : BMain base mg) (MK : Mks K mg) {f : Addr} {cdv : Value} {A : Around} {outer : List Env} {s : Shared} {H : Hp} {E : XK} {Z : Zt} (hr : Room n (A.deeper (PyProof.Rows.envOfC "_law_come_to" (defScope s__law_come_to) s.heap.objs.size f cdv))) :
  DSs Z (cxOf (CX1 P w) P w K mg base ["_law_states", "_law_found", "_law_at", "_law_pair"] "_law_come_to" (defScope s__law_come_to) f cdv A outer s H E) (fun _ => E) (defBody s__law_come_to) (d__law_come_to K a (run K a n)) :=
 (dss_cons (ds_own 1 sc__law_come_to.nd (df_lst (da_cons de_int da_nil)))
  (dss_cons (ds_for1 2 sc__law_come_to.nd PassesOwn.leaving rfl B.b_range (da_cons (de_len B.b_len (da_cons (dv 0) da_nil)) da_nil)
  (dss_one (ds_if (dt_lt (dv 2) (de_lenV 1 B.b_len))
  (dss_one (ds_for 3 sc__law_come_to.nd PassesOwn.leaving rfl (de_ix (dv 0) (de_ixV 1 (dv 2)))
  (dss_one (ds_if (dt_borrow fun _ => (dt_nin (room_eq hr) (de_ix (dv 3) de_int) (dv 1)))
  (dss_one (ds_app 1 (da_cons (de_ix (dv 3) de_int) da_nil)))
  dss_nil))))
  dss_nil)))
  (dss_one (ds_retO 1))))
theorem l__law_come_to {K : PySem.W.Frag} {a : Adr} {n : Nat} {ws : List W} (h : run K a (n + 1) i__law_come_to ws ≠ .no) : ws.length = 1 /\ (d__law_come_to K a (run K a n) (init 4 ws)).fn = run K a (n + 1) i__law_come_to ws := by
 rw [run__law_come_to] at h |-; split at h
 ·rename_i hl; rw [if_pos hl]; exact ⟨hl, rfl⟩
 ·exact absurd rfl h
theorem ok__law_come_to {a : Adr} {n : Nat} (B : Blt mg) (M : Exs K mg a) (C : Cals P w K mg base a n) (CH : CalsH P w K mg base a n) (BM : BMain base mg) (MK : Mks K mg) (A : Ats K mg) : Cal P w K mg base (n + 1) "_law_come_to" ["_law_states"] (spF K (run K a (n + 1) i__law_come_to)) :=
 con A._law_come_to sc__law_come_to (fun ws hw => (l__law_come_to hw).1) fun ws hw f cdv A outer s H E Z hr => ⟨_, b__law_come_to B M C CH BM MK hr, (l__law_come_to hw).2⟩
theorem b_law {a : Adr} {n : Nat} (B : Blt mg) (M : Exs K mg a) (C : Cals P w K mg base a n) (CH : CalsH P w K mg base a n) (BM : BMain base mg) (MK : Mks K mg) {f : Addr} {cdv : Value} {A : Around} {outer : List Env} {s : Shared} {H : Hp} {E : XK} {Z : Zt} (hr : Room n (A.deeper (PyProof.Rows.envOfC "law" (defScope s_law) s.heap.objs.size f cdv))) :
  DSs Z (cxOf (CX1 P w) P w K mg base ["_law_script", "_law_machine_here", "_law_least", "_law_size", "_law_due", "_law_low"] "law" (defScope s_law) f cdv A outer s H E) (fun _ => E) (defBody s_law) (d_law K a (run K a n)) :=
 (dss_cons (ds_set 1 sc_law.nd (de_cal C._law_machine hr pass1 (da_cons (dv 0) (da_cons de_int da_nil))))
  (dss_cons (ds_set 2 sc_law.nd (de_ix (de_cal C.small hr pass1 (da_cons (dv 1) da_nil)) de_int))
  (dss_cons (ds_set 3 sc_law.nd (de_len B.b_len (da_cons (de_ix (dv 2) de_int) da_nil)))
  (dss_cons (ds_if (dt_w (dw_or (dt_gt (dv 3) (de_len B.b_len (da_cons (de_ix (dv 1) de_int) da_nil))) (dw_or1 (dt_ne (room_eq hr) (de_cal C._law_come_to hr pass1 (da_cons (de_ix (dv 2) de_int) da_nil)) (de_fz (df_listR rfl B.b_list B.b_range (da_cons (dv 3) da_nil)))))))
  (dss_one (ds_ret de_bl))
  dss_nil)
  (dss_cons (ds_set 4 sc_law.nd (de_fz (df_lst da_nil)))
  (dss_cons (ds_for1 5 sc_law.nd PassesOwn.leaving rfl B.b_range (da_cons (dv 3) da_nil)
  (dss_one (ds_set 4 sc_law.nd (de_add (dv 4) (de_fz (df_comp2 (x := "_law_high") (Nf := ["_law_low"]) (js := [5]) (sc := defScope s_law) (N := ["_law_script", "_law_machine_here", "_law_least", "_law_size", "_law_due", "_law_low"]) rfl B.b_range (da_cons (de_add (dv 5) de_int) (da_cons (dv 3) da_nil)) (by decide +kernel)
   (fun _ _ _ _ _ _ => dts_nil)
   (fun _ _ _ _ _ _ => (de_tup (da_cons (dv 1) (da_cons (dv 0) da_nil))))
   (fun _ _ _ _ _ => pg_nm 0 (show (["_law_high", "_law_low"] : List Str).Nodup by decide +kernel))))))))
  (dss_one (ds_ret (de_eq (room_eq hr) (de_fz (df_listC rfl B.b_list C.partings hr pass1 (da_cons (dv 2) da_nil))) (dv 4))))))))))
theorem l_law {K : PySem.W.Frag} {a : Adr} {n : Nat} {ws : List W} (h : run K a (n + 1) i_law ws ≠ .no) : ws.length = 1 /\ (d_law K a (run K a n) (init 6 ws)).fn = run K a (n + 1) i_law ws := by
 rw [run_law] at h |-; split at h
 ·rename_i hl; rw [if_pos hl]; exact ⟨hl, rfl⟩
 ·exact absurd rfl h
theorem ok_law {a : Adr} {n : Nat} (B : Blt mg) (M : Exs K mg a) (C : Cals P w K mg base a n) (CH : CalsH P w K mg base a n) (BM : BMain base mg) (MK : Mks K mg) (A : Ats K mg) : Cal P w K mg base (n + 1) "law" ["_law_script"] (spF K (run K a (n + 1) i_law)) :=
 con A.law sc_law (fun ws hw => (l_law hw).1) fun ws hw f cdv A outer s H E Z hr => ⟨_, b_law B M C CH BM MK hr, (l_law hw).2⟩
theorem allH {a : Adr} (A : Ats K mg) (B : Blt mg) (M : Exs K mg a) : ∀ n, CalsH P w K mg base a n
 | 0 => ⟨trivial⟩
 | n + 1 => ⟨trivial⟩
theorem okl_small_0 {a : Adr} {n : Nat} (B : Blt mg) (M : Exs K mg a) (C : Cals P w K mg base a n) (CH : CalsH P w K mg base a n) : LamOk P w K mg base n L_small_0 ["kind"] (run K a (n + 1) i_lam_small_0) where
 sc := ⟨rfl, rfl, rfl, by decide +kernel, by decide +kernel, by decide +kernel, by decide +kernel⟩
 bind := fun cl pm c' ctv => us1 fun _ => rfl
 len := fun ws h => by
  rw [run_lam_small_0] at h; split at h
  ·assumption
  ·exact absurd rfl h
 body := fun ws h Z f cd cl A outer s H hr => ⟨d_lam_small_0 K a (run K a n), (de_cal C.pairs_of_kind hr passE (da_cons (dv 1) (da_cons (dv 2) (da_cons (dv 0) da_nil)))), by
  rw [run_lam_small_0] at h |-; split at h
  ·rename_i hl; rw [if_pos hl]
  ·exact absurd rfl h⟩
theorem okl_small_1 {a : Adr} {n : Nat} (B : Blt mg) (M : Exs K mg a) (C : Cals P w K mg base a n) (CH : CalsH P w K mg base a n) : LamOk P w K mg base n L_small_1 ["place"] (run K a (n + 1) i_lam_small_1) where
 sc := ⟨rfl, rfl, rfl, by decide +kernel, by decide +kernel, by decide +kernel, by decide +kernel⟩
 bind := fun cl pm c' ctv => us1 fun _ => rfl
 len := fun ws h => by
  rw [run_lam_small_1] at h; split at h
  ·assumption
  ·exact absurd rfl h
 body := fun ws h Z f cd cl A outer s H hr => ⟨d_lam_small_1 K a (run K a n), (de_ix (dv 1) (dv 0)), by
  rw [run_lam_small_1] at h |-; split at h
  ·rename_i hl; rw [if_pos hl]
  ·exact absurd rfl h⟩
theorem okl {a : Adr} {n : Nat} (B : Blt mg) (M : Exs K mg a) (C : Cals P w K mg base a n) (CH : CalsH P w K mg base a n) : FnV P w K mg base (CX1 P w) (n + 1) (spV K lams (run K a (n + 1))) := fnV_of fun i l h => by
 unfold lams at h
 split at h
 ·cases h; exact ⟨_, okl_small_0 B M C CH⟩
 ·cases h; exact ⟨_, okl_small_1 B M C CH⟩
 ·cases h
theorem all {a : Adr} (A : Ats K mg) (B : Blt mg) (M : Exs K mg a) (BM : BMain base mg) (MK : Mks K mg) : ∀ n, Cals P w K mg base a n
 | 0 => ⟨con0 A.rows_many, con0 A.check_machine, con0 A.is_state, con0 A.come_to, con0 A.partings, con0 A.kinds_by_length, con0 A.finer_kinds, con0 A.parting_rows, con0 A.parting_row, con0 A.parts, con0 A.small, con0 A.pairs_of_kind, con0 A._law_cell_at, con0 A._law_mixed, con0 A._law_row, con0 A._law_rows_of, con0 A._law_machine, con0 A._law_come_to, con0 A.law, fnV0⟩
 | n + 1 => ⟨ok_rows_many B M (all A B M BM MK n) (allH A B M n) BM MK A, ok_check_machine B M (all A B M BM MK n) (allH A B M n) BM MK A, ok_is_state B M (all A B M BM MK n) (allH A B M n) BM MK A, ok_come_to B M (all A B M BM MK n) (allH A B M n) BM MK A, ok_partings B M (all A B M BM MK n) (allH A B M n) BM MK A, ok_kinds_by_length B M (all A B M BM MK n) (allH A B M n) BM MK A, ok_finer_kinds B M (all A B M BM MK n) (allH A B M n) BM MK A, ok_parting_rows B M (all A B M BM MK n) (allH A B M n) BM MK A, ok_parting_row B M (all A B M BM MK n) (allH A B M n) BM MK A, ok_parts B M (all A B M BM MK n) (allH A B M n) BM MK A, ok_small B M (all A B M BM MK n) (allH A B M n) BM MK A, ok_pairs_of_kind B M (all A B M BM MK n) (allH A B M n) BM MK A, ok__law_cell_at B M (all A B M BM MK n) (allH A B M n) BM MK A, ok__law_mixed B M (all A B M BM MK n) (allH A B M n) BM MK A, ok__law_row B M (all A B M BM MK n) (allH A B M n) BM MK A, ok__law_rows_of B M (all A B M BM MK n) (allH A B M n) BM MK A, ok__law_machine B M (all A B M BM MK n) (allH A B M n) BM MK A, ok__law_come_to B M (all A B M BM MK n) (allH A B M n) BM MK A, ok_law B M (all A B M BM MK n) (allH A B M n) BM MK A, okl B M (all A B M BM MK n) (allH A B M n)⟩
theorem law_fn {a : Adr} {f : Addr} {fd : FuncData} (A : Ats K mg) (B : Blt mg) (M : Exs K mg a) (BM : BMain base mg) (MK : Mks K mg) (F : Fun K "law" "law" s_law f fd) (n : Nat) : FnOk P w K mg base (CX1 P w) (n + 1) f fd ["_law_script"] (spF K (run K a (n + 1) i_law)) :=
 conF F sc_law (fun ws hw => (l_law hw).1) fun ws hw cdv A' outer s H E Z hr => ⟨_, b_law B M (all A B M BM MK n) (allH A B M n) BM MK hr, (l_law hw).2⟩
end
theorem mk {l : PySem.W.OpenLaw} {w : World} {K : PySem.W.Frag} {h : Heap} {mg : Str -> Option Value} {fa : Addr} (X : K.In h) (G : h.Ns mainGlobals mg) (hfa : mg "law" = some (.ref fa))
  {f0 : Addr} {od0 an0 : Option Addr} {sl0 : Array (Option Value)} {oc0 kV0 dc0 pm0 cd0 ct0 : Value}
  {f1 : Addr} {od1 an1 : Option Addr} {sl1 : Array (Option Value)} {oc1 kV1 dc1 pm1 cd1 ct1 : Value}
  {f2 : Addr} {od2 an2 : Option Addr} {sl2 : Array (Option Value)} {oc2 kV2 dc2 pm2 cd2 ct2 : Value}
  {f3 : Addr} {od3 an3 : Option Addr} {sl3 : Array (Option Value)} {oc3 kV3 dc3 pm3 cd3 ct3 : Value}
  {f4 : Addr} {od4 an4 : Option Addr} {sl4 : Array (Option Value)} {oc4 kV4 dc4 pm4 cd4 ct4 : Value}
  {f5 : Addr} {od5 an5 : Option Addr} {sl5 : Array (Option Value)} {oc5 kV5 dc5 pm5 cd5 ct5 : Value}
  {f6 : Addr} {od6 an6 : Option Addr} {sl6 : Array (Option Value)} {oc6 kV6 dc6 pm6 cd6 ct6 : Value}
  {f7 : Addr} {od7 an7 : Option Addr} {sl7 : Array (Option Value)} {oc7 kV7 dc7 pm7 cd7 ct7 : Value}
  {f8 : Addr} {od8 an8 : Option Addr} {sl8 : Array (Option Value)} {oc8 kV8 dc8 pm8 cd8 ct8 : Value}
  {f9 : Addr} {od9 an9 : Option Addr} {sl9 : Array (Option Value)} {oc9 kV9 dc9 pm9 cd9 ct9 : Value}
  {f10 : Addr} {od10 an10 : Option Addr} {sl10 : Array (Option Value)} {oc10 kV10 dc10 pm10 cd10 ct10 : Value}
  {f11 : Addr} {od11 an11 : Option Addr} {sl11 : Array (Option Value)} {oc11 kV11 dc11 pm11 cd11 ct11 : Value}
  {f12 : Addr} {od12 an12 : Option Addr} {sl12 : Array (Option Value)} {oc12 kV12 dc12 pm12 cd12 ct12 : Value}
  {f13 : Addr} {od13 an13 : Option Addr} {sl13 : Array (Option Value)} {oc13 kV13 dc13 pm13 cd13 ct13 : Value}
  {f14 : Addr} {od14 an14 : Option Addr} {sl14 : Array (Option Value)} {oc14 kV14 dc14 pm14 cd14 ct14 : Value}
  {f15 : Addr} {od15 an15 : Option Addr} {sl15 : Array (Option Value)} {oc15 kV15 dc15 pm15 cd15 ct15 : Value}
  {f16 : Addr} {od16 an16 : Option Addr} {sl16 : Array (Option Value)} {oc16 kV16 dc16 pm16 cd16 ct16 : Value}
  {f17 : Addr} {od17 an17 : Option Addr} {sl17 : Array (Option Value)} {oc17 kV17 dc17 pm17 cd17 ct17 : Value}
  {f18 : Addr} {od18 an18 : Option Addr} {sl18 : Array (Option Value)} {oc18 kV18 dc18 pm18 cd18 ct18 : Value}
  {A_CircuitError : Addr}
  {A_NoMachine : Addr}
  {cc10 PP10 : Addr}
  (a0 : PySem.W.nsIn K mainGlobals "rows_many" = some (some (.ref f0)))
  (l0 : K.lookup f0 = some ⟨oc0, od0, .func (PySem.W.fnOf "rows_many" "rows_many" (defArgs s_rows_many) (defBody s_rows_many) (defScope s_rows_many) .none kV0 dc0 pm0 an0 cd0 ct0), sl0⟩)
  (c0 : PySem.W.codeIn K cd0 "rows_many" = true)
  (k0 : PySem.W.keepIn K (.ref f0) = true)
  (a1 : PySem.W.nsIn K mainGlobals "check_machine" = some (some (.ref f1)))
  (l1 : K.lookup f1 = some ⟨oc1, od1, .func (PySem.W.fnOf "check_machine" "check_machine" (defArgs s_check_machine) (defBody s_check_machine) (defScope s_check_machine) .none kV1 dc1 pm1 an1 cd1 ct1), sl1⟩)
  (c1 : PySem.W.codeIn K cd1 "check_machine" = true)
  (k1 : PySem.W.keepIn K (.ref f1) = true)
  (a2 : PySem.W.nsIn K mainGlobals "is_state" = some (some (.ref f2)))
  (l2 : K.lookup f2 = some ⟨oc2, od2, .func (PySem.W.fnOf "is_state" "is_state" (defArgs s_is_state) (defBody s_is_state) (defScope s_is_state) .none kV2 dc2 pm2 an2 cd2 ct2), sl2⟩)
  (c2 : PySem.W.codeIn K cd2 "is_state" = true)
  (k2 : PySem.W.keepIn K (.ref f2) = true)
  (a3 : PySem.W.nsIn K mainGlobals "come_to" = some (some (.ref f3)))
  (l3 : K.lookup f3 = some ⟨oc3, od3, .func (PySem.W.fnOf "come_to" "come_to" (defArgs s_come_to) (defBody s_come_to) (defScope s_come_to) .none kV3 dc3 pm3 an3 cd3 ct3), sl3⟩)
  (c3 : PySem.W.codeIn K cd3 "come_to" = true)
  (k3 : PySem.W.keepIn K (.ref f3) = true)
  (a4 : PySem.W.nsIn K mainGlobals "partings" = some (some (.ref f4)))
  (l4 : K.lookup f4 = some ⟨oc4, od4, .func (PySem.W.fnOf "partings" "partings" (defArgs s_partings) (defBody s_partings) (defScope s_partings) .none kV4 dc4 pm4 an4 cd4 ct4), sl4⟩)
  (c4 : PySem.W.codeIn K cd4 "partings" = true)
  (k4 : PySem.W.keepIn K (.ref f4) = true)
  (a5 : PySem.W.nsIn K mainGlobals "kinds_by_length" = some (some (.ref f5)))
  (l5 : K.lookup f5 = some ⟨oc5, od5, .func (PySem.W.fnOf "kinds_by_length" "kinds_by_length" (defArgs s_kinds_by_length) (defBody s_kinds_by_length) (defScope s_kinds_by_length) .none kV5 dc5 pm5 an5 cd5 ct5), sl5⟩)
  (c5 : PySem.W.codeIn K cd5 "kinds_by_length" = true)
  (k5 : PySem.W.keepIn K (.ref f5) = true)
  (a6 : PySem.W.nsIn K mainGlobals "finer_kinds" = some (some (.ref f6)))
  (l6 : K.lookup f6 = some ⟨oc6, od6, .func (PySem.W.fnOf "finer_kinds" "finer_kinds" (defArgs s_finer_kinds) (defBody s_finer_kinds) (defScope s_finer_kinds) .none kV6 dc6 pm6 an6 cd6 ct6), sl6⟩)
  (c6 : PySem.W.codeIn K cd6 "finer_kinds" = true)
  (k6 : PySem.W.keepIn K (.ref f6) = true)
  (a7 : PySem.W.nsIn K mainGlobals "parting_rows" = some (some (.ref f7)))
  (l7 : K.lookup f7 = some ⟨oc7, od7, .func (PySem.W.fnOf "parting_rows" "parting_rows" (defArgs s_parting_rows) (defBody s_parting_rows) (defScope s_parting_rows) .none kV7 dc7 pm7 an7 cd7 ct7), sl7⟩)
  (c7 : PySem.W.codeIn K cd7 "parting_rows" = true)
  (k7 : PySem.W.keepIn K (.ref f7) = true)
  (a8 : PySem.W.nsIn K mainGlobals "parting_row" = some (some (.ref f8)))
  (l8 : K.lookup f8 = some ⟨oc8, od8, .func (PySem.W.fnOf "parting_row" "parting_row" (defArgs s_parting_row) (defBody s_parting_row) (defScope s_parting_row) .none kV8 dc8 pm8 an8 cd8 ct8), sl8⟩)
  (c8 : PySem.W.codeIn K cd8 "parting_row" = true)
  (k8 : PySem.W.keepIn K (.ref f8) = true)
  (a9 : PySem.W.nsIn K mainGlobals "parts" = some (some (.ref f9)))
  (l9 : K.lookup f9 = some ⟨oc9, od9, .func (PySem.W.fnOf "parts" "parts" (defArgs s_parts) (defBody s_parts) (defScope s_parts) .none kV9 dc9 pm9 an9 cd9 ct9), sl9⟩)
  (c9 : PySem.W.codeIn K cd9 "parts" = true)
  (k9 : PySem.W.keepIn K (.ref f9) = true)
  (a10 : PySem.W.nsIn K mainGlobals "small" = some (some (.ref f10)))
  (l10 : K.lookup f10 = some ⟨oc10, od10, .func (PySem.W.fnOf "small" "small" (defArgs s_small) (defBody s_small) (defScope s_small) .none kV10 dc10 pm10 an10 cd10 ct10), sl10⟩)
  (c10 : PySem.W.codeIn K cd10 "small" = true)
  (k10 : PySem.W.keepIn K (.ref f10) = true)
  (a11 : PySem.W.nsIn K mainGlobals "pairs_of_kind" = some (some (.ref f11)))
  (l11 : K.lookup f11 = some ⟨oc11, od11, .func (PySem.W.fnOf "pairs_of_kind" "pairs_of_kind" (defArgs s_pairs_of_kind) (defBody s_pairs_of_kind) (defScope s_pairs_of_kind) .none kV11 dc11 pm11 an11 cd11 ct11), sl11⟩)
  (c11 : PySem.W.codeIn K cd11 "pairs_of_kind" = true)
  (k11 : PySem.W.keepIn K (.ref f11) = true)
  (a12 : PySem.W.nsIn K mainGlobals "_law_cell_at" = some (some (.ref f12)))
  (l12 : K.lookup f12 = some ⟨oc12, od12, .func (PySem.W.fnOf "_law_cell_at" "_law_cell_at" (defArgs s__law_cell_at) (defBody s__law_cell_at) (defScope s__law_cell_at) .none kV12 dc12 pm12 an12 cd12 ct12), sl12⟩)
  (c12 : PySem.W.codeIn K cd12 "_law_cell_at" = true)
  (k12 : PySem.W.keepIn K (.ref f12) = true)
  (a13 : PySem.W.nsIn K mainGlobals "_law_mixed" = some (some (.ref f13)))
  (l13 : K.lookup f13 = some ⟨oc13, od13, .func (PySem.W.fnOf "_law_mixed" "_law_mixed" (defArgs s__law_mixed) (defBody s__law_mixed) (defScope s__law_mixed) .none kV13 dc13 pm13 an13 cd13 ct13), sl13⟩)
  (c13 : PySem.W.codeIn K cd13 "_law_mixed" = true)
  (k13 : PySem.W.keepIn K (.ref f13) = true)
  (a14 : PySem.W.nsIn K mainGlobals "_law_row" = some (some (.ref f14)))
  (l14 : K.lookup f14 = some ⟨oc14, od14, .func (PySem.W.fnOf "_law_row" "_law_row" (defArgs s__law_row) (defBody s__law_row) (defScope s__law_row) .none kV14 dc14 pm14 an14 cd14 ct14), sl14⟩)
  (c14 : PySem.W.codeIn K cd14 "_law_row" = true)
  (k14 : PySem.W.keepIn K (.ref f14) = true)
  (a15 : PySem.W.nsIn K mainGlobals "_law_rows_of" = some (some (.ref f15)))
  (l15 : K.lookup f15 = some ⟨oc15, od15, .func (PySem.W.fnOf "_law_rows_of" "_law_rows_of" (defArgs s__law_rows_of) (defBody s__law_rows_of) (defScope s__law_rows_of) .none kV15 dc15 pm15 an15 cd15 ct15), sl15⟩)
  (c15 : PySem.W.codeIn K cd15 "_law_rows_of" = true)
  (k15 : PySem.W.keepIn K (.ref f15) = true)
  (a16 : PySem.W.nsIn K mainGlobals "_law_machine" = some (some (.ref f16)))
  (l16 : K.lookup f16 = some ⟨oc16, od16, .func (PySem.W.fnOf "_law_machine" "_law_machine" (defArgs s__law_machine) (defBody s__law_machine) (defScope s__law_machine) .none kV16 dc16 pm16 an16 cd16 ct16), sl16⟩)
  (c16 : PySem.W.codeIn K cd16 "_law_machine" = true)
  (k16 : PySem.W.keepIn K (.ref f16) = true)
  (a17 : PySem.W.nsIn K mainGlobals "_law_come_to" = some (some (.ref f17)))
  (l17 : K.lookup f17 = some ⟨oc17, od17, .func (PySem.W.fnOf "_law_come_to" "_law_come_to" (defArgs s__law_come_to) (defBody s__law_come_to) (defScope s__law_come_to) .none kV17 dc17 pm17 an17 cd17 ct17), sl17⟩)
  (c17 : PySem.W.codeIn K cd17 "_law_come_to" = true)
  (k17 : PySem.W.keepIn K (.ref f17) = true)
  (a18 : PySem.W.nsIn K mainGlobals "law" = some (some (.ref f18)))
  (l18 : K.lookup f18 = some ⟨oc18, od18, .func (PySem.W.fnOf "law" "law" (defArgs s_law) (defBody s_law) (defScope s_law) .none kV18 dc18 pm18 an18 cd18 ct18), sl18⟩)
  (c18 : PySem.W.codeIn K cd18 "law" = true)
  (k18 : PySem.W.keepIn K (.ref f18) = true)
  (v10 : cd10 = .ref cc10)
  (h10 : PySem.W.codeHdIn K cc10 PP10 = true)
  (m10 : (mainGlobals, markO PP10 (("small" ++ ".<locals>.") ++ "<lambda>")) ∈ K)
  (n_CircuitError : PySem.W.nsIn K mainGlobals "CircuitError" = some (some (.ref A_CircuitError)))
  (n_NoMachine : PySem.W.nsIn K mainGlobals "NoMachine" = some (some (.ref A_NoMachine)))
  (z_int : PySem.W.nsIn K mainGlobals "int" = some none)
  (z_len : PySem.W.nsIn K mainGlobals "len" = some none)
  (z_list : PySem.W.nsIn K mainGlobals "list" = some none)
  (z_max : PySem.W.nsIn K mainGlobals "max" = some none)
  (z_min : PySem.W.nsIn K mainGlobals "min" = some none)
  (z_range : PySem.W.nsIn K mainGlobals "range" = some none)
  (z_tuple : PySem.W.nsIn K mainGlobals "tuple" = some none)
  (e_NoMachine : excIn K A_NoMachine A_CircuitError = true)
  (nt : NoTup K)
  (n : Nat) (hL : ∀ a : Adr, Exs K mg a -> ∀ ns : List Int, ns.length <= 63 -> run K a (n + 1) i_law [.lst (ns.map .int)] = .ok (.fr (.bl true))) :
  ∃ fd : FuncData, (∀ (s : Shared) (v : Value), BindsTo s fd ⟨[v], []⟩ [("_law_script", v)]) /\ ∀ base : Heap, K.In base -> base.Ns mainGlobals mg -> BMain base mg -> FnOk l.prog w K mg base (CX1 l.prog w) (n + 1) fa fd ["_law_script"] (spLaw K) := by
 have e := hfa.symm.trans (PySem.W.mg_of X G a18)
 cases e
 have A : Ats K mg := ⟨⟨⟨_, _, fun_mk (st := s_rows_many) l0 c0 k0, PySem.W.mg_of X G a0, (fun_mk (st := s_rows_many) l0 c0 k0).binds (ps := ["many"]) fun _ _ _ _ _ _ => us1 fun _ => rfl⟩⟩,
  ⟨⟨_, _, fun_mk (st := s_check_machine) l1 c1 k1, PySem.W.mg_of X G a1, (fun_mk (st := s_check_machine) l1 c1 k1).binds (ps := ["machine"]) fun _ _ _ _ _ _ => us1 fun _ => rfl⟩⟩,
  ⟨⟨_, _, fun_mk (st := s_is_state) l2 c2 k2, PySem.W.mg_of X G a2, (fun_mk (st := s_is_state) l2 c2 k2).binds (ps := ["machine", "number"]) fun _ _ _ _ _ _ => us2 fun _ _ => rfl⟩⟩,
  ⟨⟨_, _, fun_mk (st := s_come_to) l3 c3 k3, PySem.W.mg_of X G a3, (fun_mk (st := s_come_to) l3 c3 k3).binds (ps := ["begin", "pairs_of"]) fun _ _ _ _ _ _ => us2 fun _ _ => rfl⟩⟩,
  ⟨⟨_, _, fun_mk (st := s_partings) l4 c4 k4, PySem.W.mg_of X G a4, (fun_mk (st := s_partings) l4 c4 k4).binds (ps := ["machine"]) fun _ _ _ _ _ _ => us1 fun _ => rfl⟩⟩,
  ⟨⟨_, _, fun_mk (st := s_kinds_by_length) l5 c5 k5, PySem.W.mg_of X G a5, (fun_mk (st := s_kinds_by_length) l5 c5 k5).binds (ps := ["states"]) fun _ _ _ _ _ _ => us1 fun _ => rfl⟩⟩,
  ⟨⟨_, _, fun_mk (st := s_finer_kinds) l6 c6 k6, PySem.W.mg_of X G a6, (fun_mk (st := s_finer_kinds) l6 c6 k6).binds (ps := ["states", "kinds"]) fun _ _ _ _ _ _ => us2 fun _ _ => rfl⟩⟩,
  ⟨⟨_, _, fun_mk (st := s_parting_rows) l7 c7 k7, PySem.W.mg_of X G a7, (fun_mk (st := s_parting_rows) l7 c7 k7).binds (ps := ["states", "levels", "first", "second"]) fun _ _ _ _ _ _ => us4 fun _ _ _ _ => rfl⟩⟩,
  ⟨⟨_, _, fun_mk (st := s_parting_row) l8 c8 k8, PySem.W.mg_of X G a8, (fun_mk (st := s_parting_row) l8 c8 k8).binds (ps := ["state", "other", "kinds", "length"]) fun _ _ _ _ _ _ => us4 fun _ _ _ _ => rfl⟩⟩,
  ⟨⟨_, _, fun_mk (st := s_parts) l9 c9 k9, PySem.W.mg_of X G a9, (fun_mk (st := s_parts) l9 c9 k9).binds (ps := ["pair", "other", "kinds", "length"]) fun _ _ _ _ _ _ => us4 fun _ _ _ _ => rfl⟩⟩,
  ⟨⟨_, _, fun_mk (st := s_small) l10 c10 k10, PySem.W.mg_of X G a10, (fun_mk (st := s_small) l10 c10 k10).binds (ps := ["machine"]) fun _ _ _ _ _ _ => us1 fun _ => rfl⟩⟩,
  ⟨⟨_, _, fun_mk (st := s_pairs_of_kind) l11 c11 k11, PySem.W.mg_of X G a11, (fun_mk (st := s_pairs_of_kind) l11 c11 k11).binds (ps := ["states", "kinds", "kind"]) fun _ _ _ _ _ _ => us3 fun _ _ _ => rfl⟩⟩,
  ⟨⟨_, _, fun_mk (st := s__law_cell_at) l12 c12 k12, PySem.W.mg_of X G a12, (fun_mk (st := s__law_cell_at) l12 c12 k12).binds (ps := ["_law_script", "_law_k"]) fun _ _ _ _ _ _ => us2 fun _ _ => rfl⟩⟩,
  ⟨⟨_, _, fun_mk (st := s__law_mixed) l13 c13 k13, PySem.W.mg_of X G a13, (fun_mk (st := s__law_mixed) l13 c13 k13).binds (ps := ["_law_cell", "_law_k"]) fun _ _ _ _ _ _ => us2 fun _ _ => rfl⟩⟩,
  ⟨⟨_, _, fun_mk (st := s__law_row) l14 c14 k14, PySem.W.mg_of X G a14, (fun_mk (st := s__law_row) l14 c14 k14).binds (ps := ["_law_number", "_law_many"]) fun _ _ _ _ _ _ => us2 fun _ _ => rfl⟩⟩,
  ⟨⟨_, _, fun_mk (st := s__law_rows_of) l15 c15 k15, PySem.W.mg_of X G a15, (fun_mk (st := s__law_rows_of) l15 c15 k15).binds (ps := ["_law_many"]) fun _ _ _ _ _ _ => us1 fun _ => rfl⟩⟩,
  ⟨⟨_, _, fun_mk (st := s__law_machine) l16 c16 k16, PySem.W.mg_of X G a16, (fun_mk (st := s__law_machine) l16 c16 k16).binds (ps := ["_law_script", "_law_at"]) fun _ _ _ _ _ _ => us2 fun _ _ => rfl⟩⟩,
  ⟨⟨_, _, fun_mk (st := s__law_come_to) l17 c17 k17, PySem.W.mg_of X G a17, (fun_mk (st := s__law_come_to) l17 c17 k17).binds (ps := ["_law_states"]) fun _ _ _ _ _ _ => us1 fun _ => rfl⟩⟩,
  ⟨⟨_, _, fun_mk (st := s_law) l18 c18 k18, PySem.W.mg_of X G a18, (fun_mk (st := s_law) l18 c18 k18).binds (ps := ["_law_script"]) fun _ _ _ _ _ _ => us1 fun _ => rfl⟩⟩⟩
 have B : Blt mg := ⟨PySem.W.mg_none_of X G z_int, PySem.W.mg_none_of X G z_len, PySem.W.mg_none_of X G z_list, PySem.W.mg_none_of X G z_max, PySem.W.mg_none_of X G z_min, PySem.W.mg_none_of X G z_range, PySem.W.mg_none_of X G z_tuple⟩
 have M : Exs K mg ⟨A_CircuitError, A_NoMachine⟩ := ⟨trivial, PySem.W.mg_of X G n_CircuitError, PySem.W.mg_of X G n_NoMachine, e_NoMachine, nt⟩
 have MK : Mks K mg := ⟨fun f oc od fd sl e1 e2 => by
  have z := (PySem.W.mg_of X G a10).symm.trans e1
  cases z
  rw [l10] at e2
  cases e2
  exact ⟨cc10, PP10, _, v10, h10, m10⟩⟩
 exact ⟨_, fun s v => .of_eq rfl, fun base _ _ BM => (law_fn A B M BM MK (fun_mk (st := s_law) l18 c18 k18) n).imp fun vs H Q E q => spLaw_of (hL _ M) q⟩
end Q
set_option Elab.async false
set_option linter.all false
set_option maxRecDepth 100000
set_option maxHeartbeats 1000000
namespace Q
open PySem L2 D
local macro_rules | `(tactic| walk_at "den") => `(tactic| try simp only [dCallV_s, callV0_fn, dLamCall_s, lamCallK_some, caps_nil, dSetD1_s, setD1C_i, dListC_s, listCK_dw, dRepF_s, dPutD_s, putD0_d, putDC_ib, hide_dic, ninD_i, ixD_i, dSetW_s, dPutW_s, putW0_d, dRetW_s, retW_d, lenT_d, hide_dw, hide_nest, hide_thr, call_thr, dListR_s, compKX_s, compXR_ok, compXR_ex, dBorrow_s, dBorrowT_s, borrow_ok, borrow_ex, borrowT_ok, borrowT_ex, borrow_ite, borrowT_ite, hide_nil, hide_cons, hide_own, hide_fr, hide_no, dMut0_s, mut0_own, dPut_s, putA_own, putB_own, putC_some, dLend_s, lendA_own, lendB_own, lendC_fr, dMeth_s, kind_s, kind_l, dForP_s, turnT_nx, turnT_ct, turnT_bk, turnT_rt, turnT_ex, turnT_no, turnT_ite, srcE_s, srcEW_l, srcP_s, srcPW_some, compPK_s, dCompP_s, dSeq_s, seq_nx, seq_rt, seq_ex, seq_bk, seq_ct, seq_no, seq_ite, bind_ok, bind_ex, bind_no, bind_ite, stm_ok, stm_ex, stm_no, stm_ite, fn_nx, fn_rt, fn_ex, fn_no, fn_ite, ofOpt_some, ofOpt_none, ofOpt_ite, dVar_s, var_fr, var_own, dC_s, dOp_s, dUn_s, dTest_s, test_bl, dTru_s, dOr_s, dNot_s, dAndV_s, and_bl, dNil_s, dCons_s, dTup_s, dLst_s, dFz_s, dFn_s, dList_s, dNx_s, dDrop_s, dRet_s, dRetF_s, dRetO_s, ret_own, ret_fr, dIfS_s, dSet_s, dSetO_s, dCall_s, call_fr, call_own, call_ex, call_no, call_ite, dCallF_s, callF_own, callF_ex, callF_ite, dCallH_s, callH_fr, callH_own, dFor_s, dForR_s, forW_some, turn_nx, turn_ct, turn_bk, turn_rt, turn_ex, turn_no, turn_ite, dIxV_s, look_some, lk_fr, lk_own, dFnV_s, fnV_fr, fnV_own, dApp_s, own_q, app_k, dRaise_s, compK_s, dCompR_s, compW_some, compR_some, dYes_s, frzs_nil, frzs_cons, pjS_nil, pjS_cons, add_ii, add_ss, add_ll, sub_ii, mul_ii, fdiv_ii, mod_ii, lt_ii, le_ii, gt_ii, neg_i, eq_ii, eq_ss, eq_bb, ne_ii, ne_ss, ne_bb, ix_t, ix_l, len_t, len_l, tup_l, tup_t, lst_l, lst_t, tru_b, tru_i, tru_n, tru_t, tru_l, seq_t, seq_l, sc_i, sc_b, sc_s, sc_n, sl_l, at0, at1, at2, str_eq, rng1, rng2, init, Option.map_some, Option.bind_some, List.map_cons, List.map_nil, List.length_cons, List.length_nil, List.replicate_succ, List.replicate_zero, List.cons_append, List.nil_append, List.getElem?_cons_zero, List.getElem?_cons_succ, List.set_cons_zero, List.set_cons_succ, if_true, if_false, decide_eq_true_eq, reduceIte, Bool.false_eq_true, ite_true, ite_false, Nat.reduceSub, Nat.reduceAdd, Nat.reduceLeDiff, Nat.zero_add, Nat.le_refl, Int.reduceLT, Int.reduceLE, Int.reduceNeg, true_and, and_true, true_or, or_true, false_and, and_false, false_or, or_false, not_true_eq_false, not_false_eq_true, decide_true, decide_false, Bool.not_true, Bool.not_false, String.reduceEq, Nat.reduceEqDiff, min_ii, int_i, int_b, fVal_s, fmtK_some, Int.reduceToNat, Int.reducePow, Nat.reduceLT, cast0, cast1, Int.reduceEq, Int.reduceMod, Int.reduceDiv, Int.reduceAdd, Int.reduceSub, Int.reduceMul])
section
variable {K : PySem.W.Frag} {a : Adr} {mg : Str -> Option Value}
theorem cell_run (n : Nat) (ns : List Int) {k : Int} (hk : 0 <= k) : run K a (n + 1) i__law_cell_at [.lst (ns.map .int), .int k] = .ok (.fr (.int (ns.getD k.toNat 0))) := by
 rw [run__law_cell_at]
 unfold d__law_cell_at
 walk_at "den"
 by_cases h : k < ns.length
 ·rw [if_pos (by simpa using h), at_pos hk]
  have e : (ns.map W.int)[k.toNat]? = some (.int (ns.getD k.toNat 0)) := by
   have : k.toNat < ns.length := by omega
   simp [List.getD, this]
  rw [e]
  walk_at "den"
 ·rw [if_neg (by simpa using h)]
  have : ns.getD k.toNat 0 = 0 := by
   have : ¬ k.toNat < ns.length := by omega
   simp [List.getD, this]
  rw [this]
theorem for_inv {i : Nat} {b : List S -> SR} (I : Nat -> List S -> Prop) : ∀ (ws : List W) (k : Nat) (e : List S), I k e -> (∀ (j : Nat) (w : W) (e : List S), w ∈ ws -> I j e -> ∃ e', b (e.set i (.fr w)) = .nx e' /\ I (j + 1) e') -> ∃ e', forD i b ws e = .nx e' /\ I (k + ws.length) e'
 | [], k, e, h0, _ => ⟨e, rfl, h0⟩
 | w :: ws, k, e, h0, h => by
  obtain ⟨e1, h1, h2⟩ := h k w e (by simp) h0
  obtain ⟨e2, h3, h4⟩ := for_inv I ws (k + 1) e1 h2 fun j u e hu => h j u e (by simp [hu])
  refine ⟨e2, ?_, ?_⟩
  ·rw [for_cons, h1, turn_nx, h3]
  ·rw [List.length_cons]
   have : k + 1 + ws.length = k + (ws.length + 1) := by omega
   rw [<- this]; exact h4
theorem len_range {lo hi : Int} : (rangeW lo hi).length = (hi - lo).toNat := by simp [rangeW]
noncomputable def mix2 (c k : Int) : Int := ((c + 7919 * k) * 48271 % 2147483647 * ((c + 7919 * k) * 48271 % 2147483647) + 7 * ((c + 7919 * k) * 48271 % 2147483647) + k) % 2147483629
theorem mix2_run (n : Nat) (c k : Int) : run K a (n + 1) i__law_mixed [.int c, .int k] = .ok (.fr (.int (mix2 c k))) := by
 rw [run__law_mixed]
 unfold d__law_mixed
 walk_at "den"
 rw [if_pos (by omega)]
 rfl
theorem lrow_run (n : Nat) (c : Int) (m : Nat) (hm : m <= 1000) : ∃ bs : List Bool, run K a (n + 1) i__law_row [.int c, .int (m : Int)] = .ok (.fr (.tup (bs.map .bl))) /\ bs.length = m := by
 rw [run__law_row]
 unfold d__law_row
 walk_at "den"
 rw [if_pos (okI_of (by omega) (by omega))]
 walk_at "den"
 obtain ⟨e', h2, bs, c', z, rfl, hl⟩ := for_rangeI (b := l__law_row_0 K a (run K a n)) (i := 3) (lo := 0) (hi := (m : Int)) m (by omega) (fun j e => ∃ (bs : List Bool) (c' : Int) (z : S), e = [.fr (.int c'), .fr (.int (m : Int)), .own false (bs.map .bl), z] /\ bs.length = j) [.fr (.int c), .fr (.int (m : Int)), .own false [], .no] ⟨[], _, _, rfl, rfl⟩ (by
  rintro j e hj ⟨bs, c', z, rfl, hl⟩
  unfold l__law_row_0
  walk_at "den"
  rw [if_pos (by rw [List.length_map]; omega)]
  walk_at "den"
  exact ⟨_, rfl, bs ++ [_], _, _, by rw [List.map_append]; rfl, by simp [hl]⟩)
 rw [h2]
 walk_at "den"
 exact ⟨bs.reverse, by rw [List.map_reverse], by simpa using hl⟩
noncomputable def encB (bs : List Bool) : W := .tup (bs.map .bl)
noncomputable abbrev Pr := List Bool × Nat
structure Mc where
 m : Nat
 wide : Nat
 states : List (List Pr)
structure Mc.Ok (c : Mc) : Prop where
 few : c.m <= 3
 wd : c.wide <= 12
 pos : 0 < c.states.length
 most : c.states.length <= 20
 st : ∀ s ∈ c.states, s.length = 2 ^ c.m
 pr : ∀ s ∈ c.states, ∀ p ∈ s, p.1.length = c.wide /\ p.2 < c.states.length
noncomputable def bN1 (b : Bool) : Nat := if b = true then 1 else 0
noncomputable def numF (row : List Bool) : Nat := row.foldl (fun n b => 2 * n + bN1 b) 0
noncomputable def Mc.at (c : Mc) (s : Nat) (row : List Bool) : Pr := (c.states.getD s []).getD (numF row) ([], 0)
theorem take_snoc {α : Type} {l : List α} {j : Nat} (h : j < l.length) : l.take (j + 1) = l.take j ++ [l[j]] := by
 rw [List.take_add_one, List.getElem?_eq_getElem h]; rfl
theorem twin_lt {size base goal v : Int} (h1 : 0 < base) (h2 : base <= size) (h3 : 0 <= goal) (h4 : goal < base) : 0 < (size - 1 - goal) / base + 1 /\ 0 <= goal + base * (v % ((size - 1 - goal) / base + 1)) /\ goal + base * (v % ((size - 1 - goal) / base + 1)) < size := by
 have q0 : 0 <= (size - 1 - goal) / base := Int.ediv_nonneg (by omega) (by omega)
 have q1 : base * ((size - 1 - goal) / base) <= size - 1 - goal := Int.mul_ediv_self_le (by omega)
 generalize (size - 1 - goal) / base = q at q0 q1
 have t0 : 0 <= v % (q + 1) := Int.emod_nonneg _ (by omega)
 have t1 : v % (q + 1) < q + 1 := Int.emod_lt_of_pos _ (by omega)
 generalize v % (q + 1) = t at t0 t1
 have m0 : 0 <= base * t := Int.mul_nonneg (by omega) t0
 have m1 : base * t <= base * q := Int.mul_le_mul_of_nonneg_left (by omega) (by omega)
 exact ⟨by omega, by omega, by omega⟩
noncomputable def encPr (p : Pr) : W := .tup [encB p.1, .int (p.2 : Int)]
noncomputable def encSt (s : List Pr) : W := .lst (s.map encPr)
noncomputable def encMc (c : Mc) : W := .tup [.int (c.m : Int), .int (c.wide : Int), .lst (c.states.map encSt)]
theorem many_run (n m : Nat) (hm : m <= 100) : run K a (n + 1) i_rows_many [.int (m : Int)] = .ok (.fr (.int ((2 ^ m : Nat) : Int))) := by
 rw [run_rows_many]
 unfold d_rows_many
 walk_at "den"
 rw [if_pos (okI_of (by omega) (by omega))]
 walk_at "den"
 obtain ⟨e', h2, z, rfl⟩ := for_rangeI (b := l_rows_many_0 K a (run K a n)) (i := 2) (lo := 0) (hi := (m : Int)) m (by omega) (fun j e => ∃ z, e = [.fr (.int (m : Int)), .fr (.int ((2 ^ j : Nat) : Int)), z]) [.fr (.int (m : Int)), .fr (.int 1), .no] ⟨.no, rfl⟩ (by
  rintro j e hj ⟨z, rfl⟩
  unfold l_rows_many_0
  walk_at "den"
  refine ⟨_, rfl, .fr (.int (0 + (j : Int))), ?_⟩
  rw [Nat.pow_succ, Int.natCast_mul, Int.mul_comm]
  rfl)
 rw [h2]
 walk_at "den"
theorem isstate_run (n : Nat) (c : Mc) {s : Nat} (h : s < c.states.length) : run K a (n + 1) i_is_state [encMc c, .int (s : Int)] = .ok (.fr (.bl true)) := by
 rw [run_is_state]
 unfold d_is_state encMc
 walk_at "den"
 rw [List.length_map, if_pos (show (0 : Int) <= s by omega), decide_eq_true (show (s : Int) < (c.states.length : Int) by omega)]
theorem pairs_encPr (l : List Pr) : pairsW (l.map encPr) = some (l.map fun p => (encB p.1, W.int (p.2 : Int))) := by
 induction l with
 | nil => rfl
 | cons p l ih =>
  rw [List.map_cons, List.map_cons]
  show (pairsW (l.map encPr)).map _ = _
  rw [ih]
  rfl
theorem forP_inv {i j : Nat} {b : List S -> SR} (I : List S -> Prop) : ∀ (ps : List (W × W)) (e : List S), I e -> (∀ p ∈ ps, ∀ e, I e -> ∃ e', b ((e.set i (.fr p.1)).set j (.fr p.2)) = .nx e' /\ I e') -> ∃ e', forP i j b ps e = .nx e' /\ I e'
 | [], e, h, _ => ⟨e, rfl, h⟩
 | p :: ps, e, h, st => by
  obtain ⟨e1, h1, h2⟩ := st p (by simp) e h
  obtain ⟨e2, h3, h4⟩ := forP_inv I ps e1 h2 (fun q hq => st q (by simp [hq]))
  refine ⟨e2, ?_, h4⟩
  show (b ((e.set i (.fr p.1)).set j (.fr p.2))).turnT (forP i j b ps) = _
  rw [h1]
  exact h3
theorem mc_ix0 (c : Mc) : ixW (encMc c) (.int 0) = some (.int (c.m : Int)) := rfl
theorem mc_ix1 (c : Mc) : ixW (encMc c) (.int 1) = some (.int (c.wide : Int)) := rfl
theorem mc_ix2 (c : Mc) : ixW (encMc c) (.int 2) = some (.lst (c.states.map encSt)) := rfl
theorem check_run (n : Nat) (c : Mc) (hc : c.Ok) : run K a (n + 2) i_check_machine [encMc c] = .ok (.fr .non) := by
 rw [run_check_machine]
 unfold d_check_machine
 walk_at "den"
 rw [mc_ix2]
 walk_at "den"
 rw [mc_ix0]
 walk_at "den"
 rw [many_run n c.m (by have := hc.few; omega)]
 walk_at "den"
 rw [List.length_map, if_neg (by have := hc.pos; omega)]
 walk_at "den"
 obtain ⟨e', k1, z3, z4, z5, k2⟩ := for_inv (i := 3) (b := l_check_machine_1 K a (run K a (n + 1))) (fun _ e => ∃ z3 z4 z5, e = [.fr (encMc c), .fr (.lst (c.states.map encSt)), .fr (.int ((2 ^ c.m : Nat) : Int)), z3, z4, z5]) (c.states.map encSt) 0 [.fr (encMc c), .fr (.lst (c.states.map encSt)), .fr (.int ((2 ^ c.m : Nat) : Int)), .no, .no, .no] ⟨_, _, _, rfl⟩ (by
  rintro j w e hw ⟨z3, z4, z5, rfl⟩
  obtain ⟨s, hs, rfl⟩ := List.mem_map.mp hw
  unfold l_check_machine_1
  simp only [encSt]
  walk_at "den"
  rw [List.length_map, hc.st s hs, if_neg (by simp)]
  walk_at "den"
  rw [pairs_encPr]
  walk_at "den"
  obtain ⟨e1, h1, z4, z5, rfl⟩ := forP_inv (i := 4) (j := 5) (b := l_check_machine_0 K a (run K a (n + 1))) (fun e => ∃ z4 z5, e = [.fr (encMc c), .fr (.lst (c.states.map encSt)), .fr (.int ((2 ^ c.m : Nat) : Int)), .fr (.lst (s.map encPr)), z4, z5]) (s.map fun p => (encB p.1, W.int (p.2 : Int))) [.fr (encMc c), .fr (.lst (c.states.map encSt)), .fr (.int ((2 ^ c.m : Nat) : Int)), .fr (.lst (s.map encPr)), z4, z5] ⟨_, _, rfl⟩ (by
   rintro q hq e ⟨z4, z5, rfl⟩
   obtain ⟨p, hp, rfl⟩ := List.mem_map.mp hq
   obtain ⟨p1, p2⟩ := hc.pr s hs p hp
   unfold l_check_machine_0
   simp only [encB]
   walk_at "den"
   rw [mc_ix1]
   walk_at "den"
   rw [List.length_map, p1, if_neg (by simp)]
   walk_at "den"
   rw [isstate_run n c p2]
   walk_at "den"
   exact ⟨_, rfl, _, _, rfl⟩)
  rw [h1]
  exact ⟨_, rfl, _, _, _, rfl⟩)
 rw [k1, k2]
 rfl
theorem at_st {c : Mc} {s : Nat} (hs : s < c.states.length) : atI (c.states.map encSt) (s : Int) = some (encSt (c.states.getD s [])) := by
 refine atI_nat ?_
 rw [List.getElem?_map, List.getElem?_eq_getElem hs]
 simp [List.getD, hs]
theorem rep_b (b : Bool) (m : Nat) (h : m <= 100) : repW (.lst [.bl b]) (.int (m : Int)) = some (.lst ((List.replicate m b).map .bl)) := by
 rw [rep_li, if_pos ⟨okI_of (by omega) (by omega), by simp; omega⟩, Int.toNat_natCast]
 congr 2
 have : ∀ k : Nat, (List.replicate k [W.bl b]).flatten = (List.replicate k b).map W.bl := fun k => by
  induction k with
  | zero => rfl
  | succ k ih => rw [List.replicate_succ, List.flatten_cons, ih, List.replicate_succ]; rfl
 exact this _
theorem at4 {m : Nat} (h : m <= 3) : atI [W.int 1, .int 2, .int 4, .int 8] (m : Int) = some (.int ((2 ^ m : Nat) : Int)) := by
 have : m = 0 \/ m = 1 \/ m = 2 \/ m = 3 := by omega
 rcases this with rfl | rfl | rfl | rfl <;> rfl
theorem rowsof_run (n m : Nat) (h : m <= 3) : run K a (n + 1) i__law_rows_of [.int (m : Int)] = .ok (.fr (.int ((2 ^ m : Nat) : Int))) := by
 rw [run__law_rows_of]
 unfold d__law_rows_of
 walk_at "den"
 rw [at4 h]
 walk_at "den"
noncomputable def pair44 (K : PySem.W.Frag) (a : Adr) (n : Nat) : List S -> SR :=
 (dSeq (dSet 15 (dOp modW (dCall (run K a (n + 2) i__law_mixed) (dCons (dOp addW (dVar 3) (dVar 9)) (dCons (dVar 11) dNil))) (dOp addW (dOp fdivW (dOp subW (dOp subW (dVar 6) (dC (.int 1))) (dVar 14)) (dVar 7)) (dC (.int 1)))))
  (dApp 10 (dCons (dTup (dCons (dFn tup1 (dCons (dVar 13) dNil)) (dCons (dOp addW (dVar 14) (dOp mulW (dVar 7) (dVar 15))) dNil))) dNil)))
noncomputable def goal44 (K : PySem.W.Frag) (a : Adr) (n : Nat) : List S -> SR :=
 (dSeq (dSet 14 (dOp modW (dOp fdivW (dVar 12) (dC (.int 64))) (dVar 7)))
  (dSeq (dIfS (dTest (dOp eq2 (dOp modW (dVar 3) (dC (.int 3))) (dC (.int 1))))
  (dSeq (dSet 13 (dOp repW (dFz (dLst (dCons (dOp eq2 (dOp modW (dVar 9) (dVar 7)) (dOp subW (dVar 7) (dC (.int 1)))) dNil))) (dVar 5)))
  (dSet 14 (dOp ixW (dFz (dLst (dCons (dFn min2 (dCons (dOp addW (dOp modW (dVar 9) (dVar 7)) (dC (.int 1))) (dCons (dOp subW (dVar 7) (dC (.int 1))) dNil))) (dCons (dC (.int 0)) dNil)))) (dFn min2 (dCons (dVar 11) (dCons (dC (.int 1)) dNil))))))
  dNx)
  (pair44 K a n)))
noncomputable def sts44 (K : PySem.W.Frag) (a : Adr) (n : Nat) : List S -> SR :=
 (dSeq (dSet 7 (dOp subW (dVar 6) (dOp modW (dOp fdivW (dVar 3) (dC (.int 24))) (dVar 6))))
  (dSeq (dSetO 8 (dLst dNil))
  (dSeq (dForR 9 rng1 (dCons (dVar 6) dNil)
  (l__law_machine_1 K a (run K a (n + 2))))
  (dRet (dTup (dCons (dVar 4) (dCons (dVar 5) (dCons (dVar 8) dNil))))))))
noncomputable def sec44 (K : PySem.W.Frag) (a : Adr) (n : Nat) : List S -> SR :=
 (dSeq (dIfS (dTest (dOp eq2 (dVar 6) (dC (.int 11))))
  (dSeq (dSet 6 (dOp addW (dC (.int 12)) (dOp modW (dOp fdivW (dVar 2) (dC (.int 44))) (dC (.int 9)))))
  (dSet 4 (dOp modW (dVar 4) (dC (.int 2)))))
  dNx)
  (sts44 K a n))
theorem l0_eq {n : Nat} : l__law_machine_0 K a (run K a (n + 2)) = (dSeq (dSet 12 (dCall (run K a (n + 2) i__law_mixed) (dCons (dCall (run K a (n + 2) i__law_cell_at) (dCons (dVar 0) (dCons (dOp addW (dOp addW (dVar 1) (dC (.int 2))) (dOp modW (dOp modW (dVar 9) (dVar 7)) (dC (.int 6)))) dNil))) (dCons (dOp addW (dOp mulW (dC (.int 8)) (dOp modW (dVar 9) (dVar 7))) (dVar 11)) dNil))))
  (dSeq (dSet 13 (dOp repW (dFz (dLst (dCons (dC (.bl false)) dNil))) (dVar 5)))
  (dSeq (dIfS (dTest (dOp eq2 (dOp modW (dVar 12) (dC (.int 4))) (dC (.int 0))))
  (dSet 13 (dFz (dList (dCons (dCall (run K a (n + 2) i__law_row) (dCons (dOp fdivW (dVar 12) (dC (.int 4))) (dCons (dVar 5) dNil))) dNil))))
  dNx)
  (goal44 K a n)))) := rfl
theorem mac_eq {n : Nat} : d__law_machine K a (run K a (n + 2)) = (dSeq (dSet 2 (dCall (run K a (n + 2) i__law_cell_at) (dCons (dVar 0) (dCons (dVar 1) dNil))))
  (dSeq (dSet 3 (dCall (run K a (n + 2) i__law_cell_at) (dCons (dVar 0) (dCons (dOp addW (dVar 1) (dC (.int 1))) dNil))))
  (dSeq (dSet 4 (dOp modW (dVar 2) (dC (.int 4))))
  (dSeq (dSet 5 (dOp ixW (dFz (dLst (dCons (dC (.int 1)) (dCons (dC (.int 2)) (dCons (dC (.int 1)) (dCons (dC (.int 0)) (dCons (dC (.int 3)) (dCons (dOp addW (dC (.int 4)) (dOp modW (dOp fdivW (dVar 3) (dC (.int 24))) (dC (.int 9)))) (dCons (dC (.int 2)) (dCons (dC (.int 1)) dNil)))))))))) (dOp modW (dOp fdivW (dVar 3) (dC (.int 3))) (dC (.int 8)))))
  (dSeq (dSet 6 (dOp addW (dC (.int 1)) (dOp modW (dOp fdivW (dVar 2) (dC (.int 4))) (dC (.int 11)))))
  (dSeq (dIfS (dOr (dTest (dOp eq2 (dVar 6) (dC (.int 9)))) (dTest (dOp eq2 (dVar 6) (dC (.int 10)))))
  (dSeq (dSet 6 (dOp addW (dC (.int 8)) (dOp modW (dOp fdivW (dVar 2) (dC (.int 44))) (dC (.int 5)))))
  (dSet 4 (dFn min2 (dCons (dVar 4) (dCons (dOp ixW (dFz (dLst (dCons (dC (.int 3)) (dCons (dC (.int 2)) dNil)))) (dFn int1 (dCons (dOp gtW (dVar 6) (dC (.int 9))) dNil))) dNil)))))
  dNx)
  (sec44 K a n))))))) := rfl
theorem pair_run (n : Nat) (z0 z1 z2 z4 z5 z8 z12 z15 : S) (kinds k num goal size base : Int) (h1 : 0 < base) (h2 : base <= size) (h3 : size <= 20) (h4 : 0 <= goal) (h5 : goal < base) (st : List Pr) (hl : st.length <= 100) (bs : List Bool) :
  ∃ p : Pr, ∃ z, p.1.length = bs.length /\ (p.2 : Int) < size /\ pair44 K a n [z0, z1, z2, .fr (.int kinds), z4, z5, .fr (.int size), .fr (.int base), z8, .fr (.int k), .own false (st.map encPr), .fr (.int num), z12, .fr (.lst (bs.map .bl)), .fr (.int goal), z15] =
   .nx [z0, z1, z2, .fr (.int kinds), z4, z5, .fr (.int size), .fr (.int base), z8, .fr (.int k), .own false ((st ++ [p]).map encPr), .fr (.int num), z12, .fr (.lst (bs.map .bl)), .fr (.int goal), z] := by
 have t := twin_lt (size := size) (base := base) (goal := goal) (v := mix2 (kinds + k) num) h1 h2 h4 h5
 unfold pair44
 walk_at "den"
 rw [mix2_run (n + 1)]
 walk_at "den"
 rw [if_pos ⟨h1, by omega⟩, if_pos t.1, if_pos (.inl ⟨by omega, by omega⟩), if_pos (by rw [List.length_map]; omega)]
 obtain ⟨q, hq⟩ : ∃ q : Nat, goal + base * (mix2 (kinds + k) num % ((size - 1 - goal) / base + 1)) = (q : Int) := ⟨(goal + base * (mix2 (kinds + k) num % ((size - 1 - goal) / base + 1))).toNat, by have := t.2.1; omega⟩
 have t3 := t.2.2
 rw [hq] at t3
 refine ⟨(bs, q), .fr (.int (mix2 (kinds + k) num % ((size - 1 - goal) / base + 1))), rfl, t3, ?_⟩
 rw [hq, List.map_append]
 rfl
theorem goal_run (n : Nat) (z0 z1 z2 z4 z8 z14 z15 : S) (wide : Nat) (hw : wide <= 12) (kinds k left size base : Int) (num : Nat) (h1 : 0 < base) (h2 : base <= size) (h3 : size <= 20) (st : List Pr) (hl : st.length <= 100) (bs : List Bool) (hb : bs.length = wide) :
  ∃ p : Pr, ∃ z13 z14' z15', p.1.length = wide /\ (p.2 : Int) < size /\ goal44 K a n [z0, z1, z2, .fr (.int kinds), z4, .fr (.int (wide : Int)), .fr (.int size), .fr (.int base), z8, .fr (.int k), .own false (st.map encPr), .fr (.int (num : Int)), .fr (.int left), .fr (.lst (bs.map .bl)), z14, z15] =
   .nx [z0, z1, z2, .fr (.int kinds), z4, .fr (.int (wide : Int)), .fr (.int size), .fr (.int base), z8, .fr (.int k), .own false ((st ++ [p]).map encPr), .fr (.int (num : Int)), .fr (.int left), z13, z14', z15'] := by
 have g0 := Int.emod_nonneg (left / 64) (show base ≠ 0 by omega)
 have g1 := Int.emod_lt_of_pos (left / 64) h1
 unfold goal44
 walk_at "den"
 rw [if_pos h1]
 walk_at "den"
 by_cases hc : kinds % 3 = 1
 ·rw [if_pos hc, if_pos h1]
  walk_at "den"
  rw [rep_b _ _ (by omega)]
  walk_at "den"
  rw [if_pos h1]
  have k0 := Int.emod_nonneg k (show base ≠ 0 by omega)
  have k1 := Int.emod_lt_of_pos k h1
  have gg : ∃ g : Int, atI [W.int (if base - 1 < k % base + 1 then base - 1 else k % base + 1), W.int 0] (if 1 < (num : Int) then 1 else (num : Int)) = some (.int g) /\ 0 <= g /\ g < base := by
   by_cases q : num = 0
   ·subst q
    refine ⟨_, rfl, ?_, ?_⟩ <;> split <;> omega
   ·have e : (if 1 < (num : Int) then 1 else (num : Int)) = 1 := by split <;> omega
    rw [e]
    exact ⟨0, rfl, by omega, by omega⟩
  obtain ⟨g, e1, e2, e3⟩ := gg
  rw [e1]
  walk_at "den"
  obtain ⟨p, z, p1, p2, p3⟩ := pair_run (K := K) (a := a) n z0 z1 z2 z4 (.fr (.int (wide : Int))) z8 (.fr (.int left)) z15 kinds k (num : Int) g size base h1 h2 h3 e2 e3 st hl (List.replicate wide (decide (k % base = base - 1)))
  exact ⟨p, _, _, z, by rw [p1, List.length_replicate], p2, p3⟩
 ·rw [if_neg hc]
  walk_at "den"
  obtain ⟨p, z, p1, p2, p3⟩ := pair_run (K := K) (a := a) n z0 z1 z2 z4 (.fr (.int (wide : Int))) z8 (.fr (.int left)) z15 kinds k (num : Int) (left / 64 % base) size base h1 h2 h3 g0 g1 st hl bs
  exact ⟨p, _, _, z, by rw [p1, hb], p2, p3⟩
theorem turn_run (n : Nat) (ns : List Int) (p : Nat) (z2 z4 z8 z12 z13 z14 z15 : S) (wide : Nat) (hw : wide <= 12) (kinds k size base : Int) (num : Nat) (h1 : 0 < base) (h2 : base <= size) (h3 : size <= 20) (st : List Pr) (hl : st.length <= 100) :
  ∃ q : Pr, ∃ z12' z13' z14' z15', q.1.length = wide /\ (q.2 : Int) < size /\ l__law_machine_0 K a (run K a (n + 2)) [.fr (.lst (ns.map .int)), .fr (.int (p : Int)), z2, .fr (.int kinds), z4, .fr (.int (wide : Int)), .fr (.int size), .fr (.int base), z8, .fr (.int k), .own false (st.map encPr), .fr (.int (num : Int)), z12, z13, z14, z15] =
   .nx [.fr (.lst (ns.map .int)), .fr (.int (p : Int)), z2, .fr (.int kinds), z4, .fr (.int (wide : Int)), .fr (.int size), .fr (.int base), z8, .fr (.int k), .own false ((st ++ [q]).map encPr), .fr (.int (num : Int)), z12', z13', z14', z15'] := by
 have k0 := Int.emod_nonneg k (show base ≠ 0 by omega)
 rw [l0_eq]
 walk_at "den"
 rw [if_pos h1]
 walk_at "den"
 rw [cell_run (n + 1) ns (by omega)]
 walk_at "den"
 rw [if_pos h1]
 walk_at "den"
 rw [mix2_run (n + 1)]
 walk_at "den"
 rw [rep_b _ _ (by omega)]
 walk_at "den"
 generalize mix2 _ _ = left
 by_cases hc : left % 4 = 0
 ·rw [if_pos hc]
  obtain ⟨bs, b1, b2⟩ := lrow_run (K := K) (a := a) (n + 1) (left / 4) wide (by omega)
  rw [b1]
  walk_at "den"
  obtain ⟨q, y13, y14, y15, q1, q2, q3⟩ := goal_run (K := K) (a := a) n (.fr (.lst (ns.map .int))) (.fr (.int (p : Int))) z2 z4 z8 z14 z15 wide hw kinds k left size base num h1 h2 h3 st hl bs b2
  exact ⟨q, _, y13, y14, y15, q1, q2, q3⟩
 ·rw [if_neg hc]
  walk_at "den"
  obtain ⟨q, y13, y14, y15, q1, q2, q3⟩ := goal_run (K := K) (a := a) n (.fr (.lst (ns.map .int))) (.fr (.int (p : Int))) z2 z4 z8 z14 z15 wide hw kinds k left size base num h1 h2 h3 st hl (List.replicate wide false) List.length_replicate
  exact ⟨q, _, y13, y14, y15, q1, q2, q3⟩
theorem state_run (n : Nat) (ns : List Int) (p : Nat) (z2 z10 z11 z12 z13 z14 z15 : S) (m wide : Nat) (hm : m <= 3) (hw : wide <= 12) (kinds k size base : Int) (h1 : 0 < base) (h2 : base <= size) (h3 : size <= 20) (sts : List (List Pr)) (hl : sts.length <= 100) :
  ∃ s : List Pr, ∃ y10 y11 y12 y13 y14 y15, s.length = 2 ^ m /\ (∀ q ∈ s, q.1.length = wide /\ (q.2 : Int) < size) /\ l__law_machine_1 K a (run K a (n + 2)) [.fr (.lst (ns.map .int)), .fr (.int (p : Int)), z2, .fr (.int kinds), .fr (.int (m : Int)), .fr (.int (wide : Int)), .fr (.int size), .fr (.int base), .own false (sts.map encSt), .fr (.int k), z10, z11, z12, z13, z14, z15] =
   .nx [.fr (.lst (ns.map .int)), .fr (.int (p : Int)), z2, .fr (.int kinds), .fr (.int (m : Int)), .fr (.int (wide : Int)), .fr (.int size), .fr (.int base), .own false ((sts ++ [s]).map encSt), .fr (.int k), y10, y11, y12, y13, y14, y15] := by
 have hp : 2 ^ m <= 2 ^ 3 := Nat.pow_le_pow_right (by decide) hm
 have hp8 : (2 : Nat) ^ 3 = 8 := rfl
 unfold l__law_machine_1
 walk_at "den"
 rw [rowsof_run (n + 1) m hm]
 generalize hR : 2 ^ m = R at hp
 walk_at "den"
 rw [if_pos (okI_of (by omega) (by omega))]
 walk_at "den"
 obtain ⟨e', h4, s, y11, y12, y13, y14, y15, rfl, s1, s2⟩ := for_rangeI (b := l__law_machine_0 K a (run K a (n + 2))) (i := 11) (lo := 0) (hi := (R : Int)) R (by omega) (fun j e => ∃ (s : List Pr) (z11 z12 z13 z14 z15 : S), e = [.fr (.lst (ns.map .int)), .fr (.int (p : Int)), z2, .fr (.int kinds), .fr (.int (m : Int)), .fr (.int (wide : Int)), .fr (.int size), .fr (.int base), .own false (sts.map encSt), .fr (.int k), .own false (s.map encPr), z11, z12, z13, z14, z15] /\ s.length = j /\ ∀ q ∈ s, q.1.length = wide /\ (q.2 : Int) < size)
  [.fr (.lst (ns.map .int)), .fr (.int (p : Int)), z2, .fr (.int kinds), .fr (.int (m : Int)), .fr (.int (wide : Int)), .fr (.int size), .fr (.int base), .own false (sts.map encSt), .fr (.int k), .own false [], z11, z12, z13, z14, z15] ⟨[], z11, z12, z13, z14, z15, rfl, rfl, fun q hq => nomatch hq⟩ (by
  rintro j e hj ⟨s, z11, z12, z13, z14, z15, rfl, s1, s2⟩
  rw [Int.zero_add]
  obtain ⟨q, y12, y13, y14, y15, q1, q2, q3⟩ := turn_run (K := K) (a := a) n ns p z2 (.fr (.int (m : Int))) (.own false (sts.map encSt)) z12 z13 z14 z15 wide hw kinds k size base j h1 h2 h3 s (by omega)
  refine ⟨_, q3, s ++ [q], _, y12, y13, y14, y15, rfl, by simp [s1], fun x hx => ?_⟩
  rcases List.mem_append.mp hx with z | z
  ·exact s2 x z
  ·rw [List.mem_singleton.mp z]; exact ⟨q1, q2⟩)
 rw [h4]
 walk_at "den"
 rw [if_pos (by rw [List.length_map]; omega)]
 refine ⟨s, .fr (.lst (s.map encPr)), y11, y12, y13, y14, y15, s1, s2, ?_⟩
 rw [List.map_append]
 rfl
theorem sts_run (n : Nat) (ns : List Int) (p : Nat) (z2 : S) (m wide size : Nat) (hm : m <= 3) (hw : wide <= 12) (kinds : Int) (h0 : 0 < size) (h3 : size <= 20) :
  ∃ c : Mc, c.Ok /\ (sts44 K a n [.fr (.lst (ns.map .int)), .fr (.int (p : Int)), z2, .fr (.int kinds), .fr (.int (m : Int)), .fr (.int (wide : Int)), .fr (.int (size : Int)), .no, .no, .no, .no, .no, .no, .no, .no, .no]).fn = .ok (.fr (encMc c)) /\ c.m = m := by
 have b0 := Int.emod_nonneg (kinds / 24) (show (size : Int) ≠ 0 by omega)
 have b1 := Int.emod_lt_of_pos (kinds / 24) (show (0 : Int) < (size : Int) by omega)
 obtain ⟨base, hb⟩ : ∃ b : Int, (size : Int) - kinds / 24 % (size : Int) = b := ⟨_, rfl⟩
 unfold sts44
 walk_at "den"
 rw [if_pos (show (0 : Int) < (size : Int) by omega)]
 walk_at "den"
 rw [hb, if_pos (okI_of (by omega) (by omega))]
 walk_at "den"
 obtain ⟨e', h4, sts, y9, y10, y11, y12, y13, y14, y15, rfl, s1, s2⟩ := for_rangeI (b := l__law_machine_1 K a (run K a (n + 2))) (i := 9) (lo := 0) (hi := (size : Int)) size (by omega) (fun j e => ∃ (sts : List (List Pr)) (z9 z10 z11 z12 z13 z14 z15 : S), e = [.fr (.lst (ns.map .int)), .fr (.int (p : Int)), z2, .fr (.int kinds), .fr (.int (m : Int)), .fr (.int (wide : Int)), .fr (.int (size : Int)), .fr (.int base), .own false (sts.map encSt), z9, z10, z11, z12, z13, z14, z15] /\ sts.length = j /\ ∀ s ∈ sts, s.length = 2 ^ m /\ ∀ q ∈ s, q.1.length = wide /\ (q.2 : Int) < (size : Int))
  [.fr (.lst (ns.map .int)), .fr (.int (p : Int)), z2, .fr (.int kinds), .fr (.int (m : Int)), .fr (.int (wide : Int)), .fr (.int (size : Int)), .fr (.int base), .own false [], .no, .no, .no, .no, .no, .no, .no] ⟨[], _, _, _, _, _, _, _, rfl, rfl, fun q hq => nomatch hq⟩ (by
  rintro j e hj ⟨sts, z9, z10, z11, z12, z13, z14, z15, rfl, s1, s2⟩
  obtain ⟨s, y10, y11, y12, y13, y14, y15, q1, q2, q3⟩ := state_run (K := K) (a := a) n ns p z2 z10 z11 z12 z13 z14 z15 m wide hm hw kinds (0 + (j : Int)) (size : Int) base (by omega) (by omega) (by omega) sts (by omega)
  refine ⟨_, q3, sts ++ [s], _, y10, y11, y12, y13, y14, y15, rfl, by simp [s1], fun x hx => ?_⟩
  rcases List.mem_append.mp hx with z | z
  ·exact s2 x z
  ·rw [List.mem_singleton.mp z]; exact ⟨q1, q2⟩)
 rw [h4]
 walk_at "den"
 refine ⟨⟨m, wide, sts⟩, ⟨hm, hw, by show 0 < sts.length; omega, by show sts.length <= 20; omega, fun s hs => (s2 s hs).1, fun s hs q hq => ⟨((s2 s hs).2 q hq).1, ?_⟩⟩, rfl, rfl⟩
 have := ((s2 s hs).2 q hq).2
 show q.2 < sts.length
 omega
theorem wide8 {j : Int} {x : Int} (h0 : 0 <= j) (h1 : j < 8) (hx : 0 <= x) (hx2 : x < 9) : ∃ w : Nat, atI [W.int 1, .int 2, .int 1, .int 0, .int 3, .int (4 + x), .int 2, .int 1] j = some (.int (w : Int)) /\ w <= 12 := by
 have : j = 0 \/ j = 1 \/ j = 2 \/ j = 3 \/ j = 4 \/ j = 5 \/ j = 6 \/ j = 7 := by omega
 rcases this with rfl | rfl | rfl | rfl | rfl | rfl | rfl | rfl
 ·exact ⟨1, rfl, by omega⟩
 ·exact ⟨2, rfl, by omega⟩
 ·exact ⟨1, rfl, by omega⟩
 ·exact ⟨0, rfl, by omega⟩
 ·exact ⟨3, rfl, by omega⟩
 ·refine ⟨(4 + x).toNat, ?_, by omega⟩
  rw [show (((4 + x).toNat : Nat) : Int) = 4 + x by omega]
  rfl
 ·exact ⟨2, rfl, by omega⟩
 ·exact ⟨1, rfl, by omega⟩
theorem sec_run (n : Nat) (ns : List Int) (p : Nat) (m wide size : Nat) (hm : m <= 3) (hw : wide <= 12) (cell kinds : Int) (h0 : 0 < size) (h3 : size <= 12) :
  ∃ c : Mc, c.Ok /\ (sec44 K a n [.fr (.lst (ns.map .int)), .fr (.int (p : Int)), .fr (.int cell), .fr (.int kinds), .fr (.int (m : Int)), .fr (.int (wide : Int)), .fr (.int (size : Int)), .no, .no, .no, .no, .no, .no, .no, .no, .no]).fn = .ok (.fr (encMc c)) := by
 unfold sec44
 walk_at "den"
 by_cases hc : (size : Int) = 11
 ·rw [if_pos hc]
  walk_at "den"
  obtain ⟨sz, e1, e2, e3⟩ : ∃ s : Nat, 12 + cell / 44 % 9 = (s : Int) /\ 0 < s /\ s <= 20 := ⟨(12 + cell / 44 % 9).toNat, by omega, by omega, by omega⟩
  obtain ⟨mm, e4, e5⟩ : ∃ s : Nat, (m : Int) % 2 = (s : Int) /\ s <= 3 := ⟨((m : Int) % 2).toNat, by omega, by omega⟩
  rw [e1, e4]
  obtain ⟨c, c1, c2, _⟩ := sts_run (K := K) (a := a) n ns p (.fr (.int cell)) mm wide sz e5 hw kinds e2 e3
  exact ⟨c, c1, c2⟩
 ·rw [if_neg hc]
  walk_at "den"
  obtain ⟨c, c1, c2, _⟩ := sts_run (K := K) (a := a) n ns p (.fr (.int cell)) m wide size hm hw kinds h0 (by omega)
  exact ⟨c, c1, c2⟩
theorem machine_run (n : Nat) (ns : List Int) (p : Nat) : ∃ c : Mc, c.Ok /\ run K a (n + 3) i__law_machine [.lst (ns.map .int), .int (p : Int)] = .ok (.fr (encMc c)) := by
 rw [run__law_machine]
 rw [mac_eq]
 walk_at "den"
 rw [cell_run (n + 1) ns (by omega)]
 walk_at "den"
 rw [cell_run (n + 1) ns (by omega)]
 walk_at "den"
 generalize ns.getD _ 0 = kinds
 generalize ns.getD _ 0 = cell
 obtain ⟨wide, w1, w2⟩ := wide8 (j := kinds / 3 % 8) (x := kinds / 24 % 9) (by omega) (by omega) (by omega) (by omega)
 rw [w1]
 obtain ⟨m, m1, m2⟩ : ∃ m : Nat, cell % 4 = (m : Int) /\ m <= 3 := ⟨(cell % 4).toNat, by omega, by omega⟩
 obtain ⟨s, s1, s2, s3⟩ : ∃ s : Nat, 1 + cell / 4 % 11 = (s : Int) /\ 0 < s /\ s <= 11 := ⟨(1 + cell / 4 % 11).toNat, by omega, by omega, by omega⟩
 rw [m1]
 walk_at "den"
 rw [s1]
 have big : ∀ A B : FR, (∃ c : Mc, c.Ok /\ A = .ok (.fr (encMc c))) -> (∃ c : Mc, c.Ok /\ B = .ok (.fr (encMc c))) -> ∃ c : Mc, c.Ok /\ (if (s : Int) = 9 then A else if (s : Int) = 10 then A else B) = .ok (.fr (encMc c)) := by
  intro A B hA hB
  split
  ·exact hA
  ·split
   ·exact hA
   ·exact hB
 refine big _ _ ?_ ?_
 ·obtain ⟨s', e1, e2, e3⟩ : ∃ s : Nat, 8 + cell / 44 % 5 = (s : Int) /\ 0 < s /\ s <= 12 := ⟨(8 + cell / 44 % 5).toNat, by omega, by omega, by omega⟩
  rw [e1]
  have at2 : ∃ y : Nat, atI [W.int 3, W.int 2] (if 9 < (s' : Int) then 1 else 0) = some (.int (y : Int)) := by
   split
   ·exact ⟨2, rfl⟩
   ·exact ⟨3, rfl⟩
  obtain ⟨y, hy⟩ := at2
  rw [hy]
  walk_at "den"
  obtain ⟨mm, e4, e5⟩ : ∃ q : Nat, (if (y : Int) < (m : Int) then (y : Int) else (m : Int)) = (q : Int) /\ q <= 3 := by
   by_cases z : (y : Int) < (m : Int)
   ·exact ⟨y, by rw [if_pos z], by omega⟩
   ·exact ⟨m, by rw [if_neg z], m2⟩
  rw [e4]
  exact sec_run n ns p mm wide s' e5 w2 cell kinds e2 e3
 ·exact sec_run n ns p m wide s m2 w2 cell kinds s2 (by omega)
noncomputable def posK : List Kx -> Kx -> Nat
 | [], _ => 0
 | k :: l, x => if k = x then 0 else posK l x + 1
theorem posK_get {x : Kx} : ∀ {l : List Kx}, x ∈ l -> l[posK l x]? = some x
 | [], h => nomatch h
 | k :: l, h => by
  unfold posK
  by_cases e : k = x
  ·rw [if_pos e, e]; rfl
  ·rw [if_neg e, List.getElem?_cons_succ]
   exact posK_get ((List.mem_cons.mp h).resolve_left fun z => e z.symm)
theorem posK_lt {x : Kx} {l : List Kx} (h : x ∈ l) : posK l x < l.length := (List.getElem?_eq_some_iff.mp (posK_get h)).1
theorem posK_app {x : Kx} {m : List Kx} : ∀ {l : List Kx}, x ∈ l -> posK (l ++ m) x = posK l x
 | [], h => nomatch h
 | k :: l, h => by
  show (if k = x then 0 else posK (l ++ m) x + 1) = (if k = x then 0 else posK l x + 1)
  by_cases e : k = x
  ·rw [if_pos e, if_pos e]
  ·rw [if_neg e, if_neg e, posK_app ((List.mem_cons.mp h).resolve_left fun z => e z.symm)]
theorem posK_new {x : Kx} : ∀ {l : List Kx}, x ∉ l -> posK (l ++ [x]) x = l.length
 | [], _ => by show (if x = x then 0 else _) = 0; rw [if_pos rfl]
 | k :: l, h => by
  show (if k = x then 0 else posK (l ++ [x]) x + 1) = l.length + 1
  rw [if_neg (fun e => h (by simp [e])), posK_new (fun z => h (by simp [z]))]
theorem posK_inj {x y : Kx} {l : List Kx} (hx : x ∈ l) (hy : y ∈ l) (h : posK l x = posK l y) : x = y := by
 have h1 := posK_get hx
 have h2 := posK_get hy
 rw [h] at h1
 rw [h1] at h2
 exact Option.some.inj h2
noncomputable def iotaW (o : Nat) : Nat -> List W
 | 0 => []
 | n + 1 => .int (o : Int) :: iotaW (o + 1) n
theorem iota_snoc : ∀ (n o : Nat), iotaW o n ++ [.int ((o + n : Nat) : Int)] = iotaW o (n + 1)
 | 0, o => rfl
 | n + 1, o => by
  show W.int (o : Int) :: (iotaW (o + 1) n ++ [W.int ((o + (n + 1) : Nat) : Int)]) = W.int (o : Int) :: iotaW (o + 1) (n + 1)
  rw [show o + (n + 1) = (o + 1) + n by omega, iota_snoc n (o + 1)]
theorem lk_iota {x : Kx} : ∀ (l : List Kx) (o : Nat), lkW l (iotaW o l.length) x = if x ∈ l then some (.int ((o + posK l x : Nat) : Int)) else none
 | [], o => by rw [if_neg (by simp)]; rfl
 | k :: l, o => by
  show (if k = x then some (W.int (o : Int)) else lkW l (iotaW (o + 1) l.length) x) = _
  by_cases e : k = x
  ·rw [if_pos e, if_pos (by simp [e]), show posK (k :: l) x = 0 from if_pos e]
   rfl
  ·rw [if_neg e, lk_iota l (o + 1), show posK (k :: l) x = posK l x + 1 from if_neg e]
   by_cases h : x ∈ l
   ·rw [if_pos h, if_pos (by simp [h]), show o + 1 + posK l x = o + (posK l x + 1) by omega]
   ·rw [if_neg h, if_neg (by simp [h]; exact fun z => e z.symm)]
noncomputable def addK (l : List Kx) (x : Kx) : List Kx := if x ∈ l then l else l ++ [x]
theorem addK_pre (l : List Kx) (x : Kx) : ∃ m, addK l x = l ++ m := by
 unfold addK
 split
 ·exact ⟨[], by simp⟩
 ·exact ⟨[x], rfl⟩
theorem addK_in (l : List Kx) (x : Kx) : x ∈ addK l x := by
 unfold addK
 split
 ·assumption
 ·simp
theorem addK_len (l : List Kx) (x : Kx) : (addK l x).length <= l.length + 1 := by
 unfold addK
 split <;> simp
theorem fold_pre : ∀ (xs l : List Kx), ∃ m, xs.foldl addK l = l ++ m
 | [], l => ⟨[], by simp⟩
 | x :: xs, l => by
  obtain ⟨m1, h1⟩ := addK_pre l x
  obtain ⟨m2, h2⟩ := fold_pre xs (addK l x)
  exact ⟨m1 ++ m2, by rw [List.foldl_cons, h2, h1, List.append_assoc]⟩
theorem fold_in : ∀ (xs l : List Kx), ∀ x ∈ xs, x ∈ xs.foldl addK l
 | [], _, _, h => nomatch h
 | y :: xs, l, x, h => by
  rw [List.foldl_cons]
  rcases List.mem_cons.mp h with rfl | h
  ·obtain ⟨m, e⟩ := fold_pre xs (addK l x)
   rw [e]
   exact List.mem_append_left _ (addK_in l x)
  ·exact fold_in xs _ x h
theorem fold_len : ∀ (xs l : List Kx), (xs.foldl addK l).length <= l.length + xs.length
 | [], l => by simp
 | x :: xs, l => by
  rw [List.foldl_cons]
  have := fold_len xs (addK l x)
  have := addK_len l x
  simp only [List.length_cons]
  omega
noncomputable def prK (ks : List Nat) (p : Pr) : Kx := .tup [.tup (p.1.map .bl), .int ((ks.getD p.2 0 : Nat) : Int)]
noncomputable def stK (ks : List Nat) (s : List Pr) : Kx := .tup (s.map (prK ks))
noncomputable def fin (c : Mc) (ks : List Nat) : List Nat := c.states.map fun s => posK ((c.states.map (stK ks)).foldl addK []) (stK ks s)
theorem fin_len (c : Mc) (ks : List Nat) : (fin c ks).length = c.states.length := by unfold fin; rw [List.length_map]
theorem fin_get {c : Mc} {ks : List Nat} {i : Nat} (h : i < c.states.length) : (fin c ks).getD i 0 = posK ((c.states.map (stK ks)).foldl addK []) (stK ks (c.states.getD i [])) := by
 unfold fin
 simp [List.getD, h]
theorem st_in {c : Mc} {i : Nat} (h : i < c.states.length) : c.states.getD i [] ∈ c.states := by
 have e : c.states.getD i [] = c.states[i] := by simp [List.getD, h]
 rw [e]; exact List.getElem_mem h
theorem fin_eq {c : Mc} {ks : List Nat} {i j : Nat} (hi : i < c.states.length) (hj : j < c.states.length) : (fin c ks).getD i 0 = (fin c ks).getD j 0 ↔ stK ks (c.states.getD i []) = stK ks (c.states.getD j []) := by
 rw [fin_get hi, fin_get hj]
 refine ⟨fun h => posK_inj (fold_in _ _ _ (List.mem_map_of_mem (st_in hi))) (fold_in _ _ _ (List.mem_map_of_mem (st_in hj))) h, fun h => by rw [h]⟩
theorem fin_lt {c : Mc} {ks : List Nat} : ∀ k ∈ fin c ks, k < c.states.length := by
 intro k hk
 unfold fin at hk
 obtain ⟨s, hs, rfl⟩ := List.mem_map.mp hk
 have h1 := posK_lt (fold_in (c.states.map (stK ks)) [] _ (List.mem_map_of_mem hs))
 have h2 := fold_len (c.states.map (stK ks)) []
 simp only [List.length_map, List.length_nil] at h2
 omega
noncomputable def lev (c : Mc) : Nat -> List Nat
 | 0 => List.replicate c.states.length 0
 | t + 1 => fin c (lev c t)
theorem lev_len (c : Mc) : ∀ t, (lev c t).length = c.states.length
 | 0 => List.length_replicate
 | t + 1 => fin_len c _
theorem lev_lt {c : Mc} (h : 0 < c.states.length) : ∀ t, ∀ k ∈ lev c t, k < c.states.length
 | 0, k, hk => by
  have := List.eq_of_mem_replicate hk
  omega
 | t + 1, k, hk => fin_lt k hk
noncomputable def kd (c : Mc) (t i : Nat) : Nat := (lev c t).getD i 0
noncomputable def told (c : Mc) (i r : Nat) : List Bool := ((c.states.getD i []).getD r ([], 0)).1
noncomputable def nxt (c : Mc) (i r : Nat) : Nat := ((c.states.getD i []).getD r ([], 0)).2
theorem nxt_lt {c : Mc} (hc : c.Ok) {i r : Nat} (hi : i < c.states.length) (hr : r < 2 ^ c.m) : nxt c i r < c.states.length := by
 have hs := st_in hi
 have hl := hc.st _ hs
 unfold nxt
 have hr' : r < (c.states.getD i []).length := by omega
 have e : (c.states.getD i []).getD r ([], 0) = (c.states.getD i [])[r] := by generalize c.states.getD i [] = s at hr'; simp [List.getD, hr']
 rw [e]
 exact (hc.pr _ hs _ (List.getElem_mem hr')).2
theorem kd_zero (c : Mc) (i : Nat) : kd c 0 i = 0 := by
 unfold kd lev
 by_cases h : i < c.states.length
 ·simp [List.getD, h]
 ·simp [List.getD, h]
theorem prK_inj {ks : List Nat} {p q : Pr} : prK ks p = prK ks q ↔ p.1 = q.1 /\ ks.getD p.2 0 = ks.getD q.2 0 := by
 unfold prK
 constructor
 ·intro h
  injection h with h
  injection h with h1 h2
  injection h1 with h1
  injection h2 with h2 _
  injection h2 with h2
  exact ⟨(List.map_inj_right (fun x y h => by injection h)).mp h1, by omega⟩
 ·rintro ⟨h1, h2⟩
  rw [h1, h2]
theorem kd_succ {c : Mc} (hc : c.Ok) {t i j : Nat} (hi : i < c.states.length) (hj : j < c.states.length) : kd c (t + 1) i = kd c (t + 1) j ↔ ∀ r, r < 2 ^ c.m -> told c i r = told c j r /\ kd c t (nxt c i r) = kd c t (nxt c j r) := by
 show (fin c (lev c t)).getD i 0 = (fin c (lev c t)).getD j 0 ↔ _
 rw [fin_eq hi hj]
 have l1 := hc.st _ (st_in hi)
 have l2 := hc.st _ (st_in hj)
 unfold stK told nxt kd
 generalize c.states.getD i [] = s at l1
 generalize c.states.getD j [] = s' at l2
 have key : ∀ (s s' : List Pr), s.length = s'.length -> (s.map (prK (lev c t)) = s'.map (prK (lev c t)) ↔ ∀ r, r < s.length -> prK (lev c t) (s.getD r ([], 0)) = prK (lev c t) (s'.getD r ([], 0))) := by
  intro s s' hl
  constructor
  ·intro h r hr
   have z := congrArg (fun l => l[r]?) h
   simp only [List.getElem?_map, List.getElem?_eq_getElem hr, List.getElem?_eq_getElem (hl ▸ hr), Option.map_some] at z
   simpa [List.getD, hr, hl ▸ hr] using Option.some.inj z
  ·intro h
   apply List.ext_getElem?
   intro r
   by_cases hr : r < s.length
   ·have z := h r hr
    simp only [List.getElem?_map, List.getElem?_eq_getElem hr, List.getElem?_eq_getElem (hl ▸ hr), Option.map_some]
    congr 1
    simpa [List.getD, hr, hl ▸ hr] using z
   ·simp [hr, hl ▸ hr]
 have e : (Kx.tup (s.map (prK (lev c t))) = Kx.tup (s'.map (prK (lev c t)))) ↔ s.map (prK (lev c t)) = s'.map (prK (lev c t)) := ⟨fun h => by injection h, fun h => by rw [h]⟩
 rw [e, key s s' (by omega), l1]
 exact ⟨fun h r hr => prK_inj.mp (h r hr), fun h r hr => prK_inj.mpr (h r hr)⟩
theorem kd_coarse {c : Mc} (hc : c.Ok) : ∀ (t : Nat) {i j : Nat}, i < c.states.length -> j < c.states.length -> kd c (t + 1) i = kd c (t + 1) j -> kd c t i = kd c t j
 | 0, i, j, _, _, _ => by rw [kd_zero, kd_zero]
 | t + 1, i, j, hi, hj, h => by
  rw [kd_succ hc hi hj] at h |-
  exact fun r hr => ⟨(h r hr).1, kd_coarse hc t (nxt_lt hc hi hr) (nxt_lt hc hj hr) (h r hr).2⟩
theorem kd_le {c : Mc} (hc : c.Ok) {i j : Nat} (hi : i < c.states.length) (hj : j < c.states.length) : ∀ {s t : Nat}, s <= t -> kd c t i = kd c t j -> kd c s i = kd c s j
  | s, 0, h, e => by have : s = 0 := by omega
                     subst this; exact e
  | s, t + 1, h, e => by
    by_cases z : s = t + 1
    . rw [z]; exact e
    . exact kd_le hc hi hj (by omega) (kd_coarse hc t hi hj e)
def Sep (c : Mc) (t i j : Nat) : Prop := kd c (t + 1) i ≠ kd c (t + 1) j /\ kd c t i = kd c t j
theorem sep_ex {c : Mc} {i j : Nat} : ∀ {L : Nat}, kd c L i ≠ kd c L j -> ∃ t, t < L /\ Sep c t i j
 | 0, h => absurd (by rw [kd_zero, kd_zero]) h
 | L + 1, h => by
  by_cases e : kd c L i = kd c L j
  ·exact ⟨L, by omega, h, e⟩
  ·obtain ⟨t, h1, h2⟩ := sep_ex (L := L) e
   exact ⟨t, by omega, h2⟩
theorem sep_uni {c : Mc} (hc : c.Ok) {i j s t : Nat} (hi : i < c.states.length) (hj : j < c.states.length) (h1 : Sep c s i j) (h2 : Sep c t i j) : s = t := by
 rcases Nat.lt_trichotomy s t with h | h | h
 ·exact absurd (kd_le hc hi hj (show s + 1 <= t by omega) h2.2) h1.1
 ·exact h
 ·exact absurd (kd_le hc hi hj (show t + 1 <= s by omega) h1.2) h2.1
def Part (c : Mc) (t i j r : Nat) : Prop := if t = 0 then told c i r ≠ told c j r else kd c t (nxt c i r) ≠ kd c t (nxt c j r)
theorem part_ex {c : Mc} (hc : c.Ok) {t i j : Nat} (hi : i < c.states.length) (hj : j < c.states.length) (h : Sep c t i j) : ∃ r, r < 2 ^ c.m /\ Part c t i j r /\ ∀ q, q < r -> ¬ Part c t i j q := by
 have ex : ∃ r, r < 2 ^ c.m /\ Part c t i j r := Classical.byContradiction fun hn => by
  refine h.1 ((kd_succ hc hi hj).mpr fun r hr => ?_)
  have np : ¬ Part c t i j r := fun z => hn ⟨r, hr, z⟩
  unfold Part at np
  by_cases ht : t = 0
  ·subst ht
   rw [if_pos rfl] at np
   exact ⟨Classical.not_not.mp np, by rw [kd_zero, kd_zero]⟩
  ·rw [if_neg ht] at np
   obtain ⟨t', rfl⟩ : ∃ t', t = t' + 1 := ⟨t - 1, by omega⟩
   exact ⟨((kd_succ hc hi hj).mp h.2 r hr).1, Classical.not_not.mp np⟩
 obtain ⟨r, hr, hp⟩ := ex
 have : ∀ n r, r <= n -> r < 2 ^ c.m -> Part c t i j r -> ∃ r, r < 2 ^ c.m /\ Part c t i j r /\ ∀ q, q < r -> ¬ Part c t i j q := by
  intro n
  induction n with
  | zero => intro r h0 hr hp; exact ⟨r, hr, hp, fun q hq => by omega⟩
  | succ n ih =>
   intro r h0 hr hp
   by_cases hq : ∃ q, q < r /\ Part c t i j q
   ·obtain ⟨q, h1, h2⟩ := hq
    exact ih q (by omega) (by omega) h2
   ·exact ⟨r, hr, hp, fun q h1 h2 => hq ⟨q, h1, h2⟩⟩
 exact this r r (Nat.le_refl _) hr hp
inductive Rows (c : Mc) : Nat -> Nat -> Nat -> List Nat -> Prop
 | nil {i j : Nat} : Rows c 0 i j []
 | cons {t i j r : Nat} {rs : List Nat} (hr : r < 2 ^ c.m) (hp : Part c t i j r) (hl : ∀ q, q < r -> ¬ Part c t i j q) (h : Rows c t (nxt c i r) (nxt c j r) rs) : Rows c (t + 1) i j (r :: rs)
theorem sep_next {c : Mc} (hc : c.Ok) {t i j r : Nat} (hi : i < c.states.length) (hj : j < c.states.length) (h : Sep c (t + 1) i j) (hr : r < 2 ^ c.m) (hp : Part c (t + 1) i j r) : Sep c t (nxt c i r) (nxt c j r) := by
 unfold Part at hp
 rw [if_neg (by omega)] at hp
 exact ⟨hp, ((kd_succ hc hi hj).mp h.2 r hr).2⟩
theorem rows_ex {c : Mc} (hc : c.Ok) : ∀ (t : Nat) {i j : Nat}, i < c.states.length -> j < c.states.length -> Sep c t i j -> ∃ rs, Rows c (t + 1) i j rs
 | 0, i, j, hi, hj, h => by
  obtain ⟨r, h1, h2, h3⟩ := part_ex hc hi hj h
  exact ⟨[r], .cons h1 h2 h3 .nil⟩
 | t + 1, i, j, hi, hj, h => by
  obtain ⟨r, h1, h2, h3⟩ := part_ex hc hi hj h
  obtain ⟨rs, h4⟩ := rows_ex hc t (nxt_lt hc hi h1) (nxt_lt hc hj h1) (sep_next hc hi hj h h1 h2)
  exact ⟨r :: rs, .cons h1 h2 h3 h4⟩
noncomputable def nW50 (k : Nat) : W := .int (k : Int)
noncomputable def encK (ks : List Nat) : W := .lst (ks.map nW50)
theorem kx_bs : ∀ bs : List Bool, kxWs (bs.map .bl) = some (bs.map .bl)
 | [] => rfl
 | b :: bs => by
  show (match kxW (.bl b), kxWs (bs.map .bl) with | some k, some ks => some (k :: ks) | _, _ => none) = _
  rw [kx_bs bs]
  rfl
noncomputable def seenW (ks : List Nat) (p : Pr) : W := .tup [encB p.1, nW50 (ks.getD p.2 0)]
theorem kx_pr (ks : List Nat) (p : Pr) : kxW (seenW ks p) = some (prK ks p) := by
 show (kxWs [encB p.1, nW50 (ks.getD p.2 0)]).map Kx.tup = _
 have e : kxWs [encB p.1, nW50 (ks.getD p.2 0)] = some [.tup (p.1.map .bl), .int ((ks.getD p.2 0 : Nat) : Int)] := by
  show (match (kxWs (p.1.map .bl)).map Kx.tup, (some [Kx.int ((ks.getD p.2 0 : Nat) : Int)] : Option (List Kx)) with | some k, some ks => some (k :: ks) | _, _ => none) = _
  rw [kx_bs]
  rfl
 rw [e]
 rfl
theorem kx_prs (ks : List Nat) : ∀ s : List Pr, kxWs (s.map (seenW ks)) = some (s.map (prK ks))
 | [] => rfl
 | p :: s => by
  show (match kxW (seenW ks p), kxWs (s.map (seenW ks)) with | some k, some ks => some (k :: ks) | _, _ => none) = _
  rw [kx_pr, kx_prs ks s]
  rfl
theorem key_st (ks : List Nat) (s : List Pr) : keyT (.tup (s.map (seenW ks))) = some (stK ks s) := by
 show (kxWs (s.map (seenW ks))).map Kx.tup = _
 rw [kx_prs]
 rfl
theorem conf_bs : ∀ bs : List Bool, ConfM (bs.map .bl) .bl
 | [] => trivial
 | _ :: bs => ⟨trivial, conf_bs bs⟩
theorem dep_bs : ∀ bs : List Bool, Kx.depths (bs.map .bl) = 0
 | [] => rfl
 | b :: bs => by show max 0 (Kx.depths (bs.map .bl)) = 0; rw [dep_bs bs]; rfl
theorem fits_st (ks : List Nat) (s : List Pr) : fits (stK ks s) (.many (.tup [.many .bl, .int])) := by
 have h1 : ∀ s : List Pr, ConfM (s.map (prK ks)) (.tup [.many .bl, .int]) := fun s => by
  induction s with
  | nil => trivial
  | cons p s ih => exact ⟨⟨conf_bs p.1, trivial, trivial⟩, ih⟩
 have h2 : ∀ s : List Pr, Kx.depths (s.map (prK ks)) <= 2 := fun s => by
  induction s with
  | nil => exact Nat.zero_le _
  | cons p s ih =>
   show max (max (Kx.depths (p.1.map .bl) + 1) (max 0 0) + 1) (Kx.depths (s.map (prK ks))) <= 2
   rw [dep_bs]
   omega
 refine ⟨h1 s, ?_⟩
 show Kx.depths (s.map (prK ks)) + 1 <= 7
 have := h2 s
 omega
noncomputable def Dj (c : Mc) (ks : List Nat) (j : Nat) : List Kx := ((c.states.take j).map (stK ks)).foldl addK []
theorem Dj_succ {c : Mc} {ks : List Nat} {j : Nat} (h : j < c.states.length) : Dj c ks (j + 1) = addK (Dj c ks j) (stK ks c.states[j]) := by
 unfold Dj
 rw [take_snoc h, List.map_append, List.foldl_append]
 rfl
theorem Dj_len {c : Mc} {ks : List Nat} (j : Nat) : (Dj c ks j).length <= j := by
 have := fold_len ((c.states.take j).map (stK ks)) []
 unfold Dj
 simp only [List.length_map, List.length_take, List.length_nil] at this
 omega
theorem Dj_pos {c : Mc} {ks : List Nat} {j : Nat} {x : Kx} (h : x ∈ Dj c ks j) : posK ((c.states.map (stK ks)).foldl addK []) x = posK (Dj c ks j) x := by
 have e : (c.states.map (stK ks)).foldl addK [] = (((c.states.drop j).map (stK ks)).foldl addK (Dj c ks j)) := by
  unfold Dj
  rw [<- List.foldl_append, <- List.map_append, List.take_append_drop]
 rw [e]
 obtain ⟨m, hm⟩ := fold_pre ((c.states.drop j).map (stK ks)) (Dj c ks j)
 rw [hm]
 exact posK_app h
noncomputable def fpos (c : Mc) (ks : List Nat) (s : List Pr) : Nat := posK ((c.states.map (stK ks)).foldl addK []) (stK ks s)
theorem at_encK {ks : List Nat} {i : Nat} (h : i < ks.length) : atI (ks.map nW50) (i : Int) = some (nW50 (ks.getD i 0)) := by
 refine atI_nat ?_
 rw [List.getElem?_map, List.getElem?_eq_getElem h]
 simp [List.getD, h]
theorem get_encSt {c : Mc} {j : Nat} {w : W} (h : (c.states.map encSt)[j]? = some w) : ∃ hj : j < c.states.length, w = encSt c.states[j] := by
 have hj : j < c.states.length := by have := (List.getElem?_eq_some_iff.mp h).1; simpa using this
 refine ⟨hj, ?_⟩
 rw [List.getElem?_map, List.getElem?_eq_getElem hj] at h
 exact (Option.some.inj h).symm
theorem fturn_run (n : Nat) (c : Mc) (hc : c.Ok) (ks : List Nat) (hk : ks.length = c.states.length) (j : Nat) (hj : j < c.states.length) (out : List Nat) (ho : out.length <= 100) (w0 : W) (z5 : S) :
  ∃ z5', l_finer_kinds_0 K a (run K a n) [.fr w0, .fr (encK ks), .dw (.many (.tup [.many .bl, .int])) (Dj c ks j) (iotaW 0 (Dj c ks j).length), .own false (out.map nW50), .fr (encSt c.states[j]), z5] =
   .nx [.fr w0, .fr (encK ks), .dw (.many (.tup [.many .bl, .int])) (Dj c ks (j + 1)) (iotaW 0 (Dj c ks (j + 1)).length), .own false ((out ++ [fpos c ks c.states[j]]).map nW50), .fr (encSt c.states[j]), z5'] := by
 have hmost := hc.most
 have hs := hc.st _ (List.getElem_mem hj)
 have hpr := hc.pr _ (List.getElem_mem hj)
 have p8 : 2 ^ c.m <= 8 := Nat.le_trans (Nat.pow_le_pow_right (by decide) hc.few) (by decide)
 have hin := addK_in (Dj c ks j) (stK ks c.states[j])
 have hpos := Dj_pos (c := c) (ks := ks) (j := j + 1) (x := stK ks c.states[j]) (by rw [Dj_succ hj]; exact hin)
 have hdl := Dj_len (c := c) (ks := ks) j
 have hsucc := Dj_succ (c := c) (ks := ks) hj
 generalize hst : c.states[j] = s at *
 have hseen : List.map (fun p : W × W => W.tup [p.1, (ixW (encK ks) p.2).getD .non]) (List.filter (fun _ => true) (s.map fun p => (encB p.1, W.int (p.2 : Int)))) = s.map (seenW ks) := by
  rw [List.filter_eq_self.mpr (fun _ _ => rfl), List.map_map]
  refine List.map_congr_left fun p hp => ?_
  show W.tup [encB p.1, (atI (ks.map nW50) (p.2 : Int)).getD .non] = seenW ks p
  rw [at_encK (by rw [hk]; exact (hpr p hp).2)]
  rfl
 unfold l_finer_kinds_0
 unfold encSt
 walk_at "den"
 rw [pairs_encPr]
 walk_at "den"
 rw [if_pos (by rw [List.length_map]; omega)]
 simp only [frz1, pj1, List.getElem?_cons_succ, List.getElem?_cons_zero]
 rw [compP_map (q := fun _ => true) (g := fun p => .tup [p.1, (ixW (encK ks) p.2).getD .non])]
 ·walk_at "den"
  rw [hseen, ninT_d (key_st ks s) (fits_st ks s), lk_iota]
  have app : ∀ D : List Kx, D = addK (Dj c ks j) (stK ks s) -> ∃ z5', (dApp 3 (dCons (dBorrow (dOp ixT (dVar 2) (dVar 5))) dNil)) [.fr w0, .fr (encK ks), .dw (.many (.tup [.many .bl, .int])) D (iotaW 0 D.length), .own false (out.map nW50), .fr (.lst (s.map encPr)), .fr (.tup (s.map (seenW ks)))] =
    .nx [.fr w0, .fr (encK ks), .dw (.many (.tup [.many .bl, .int])) (Dj c ks (j + 1)) (iotaW 0 (Dj c ks (j + 1)).length), .own false ((out ++ [fpos c ks s]).map nW50), .fr (.lst (s.map encPr)), z5'] := by
   rintro D rfl
   walk_at "den"
   rw [ixT_d (key_st ks s) (fits_st ks s), lk_iota, if_pos hin]
   walk_at "den"
   rw [if_pos (by rw [List.length_map]; omega), hsucc]
   refine ⟨.fr (.tup (s.map (seenW ks))), ?_⟩
   rw [hsucc] at hpos
   rw [<- hpos, List.map_append]
   rfl
  by_cases hm : stK ks s ∈ Dj c ks j
  ·rw [if_pos hm]
   have e : addK (Dj c ks j) (stK ks s) = Dj c ks j := if_pos hm
   have q := app (Dj c ks j) e.symm
   revert q
   walk_at "den"
   exact id
  ·rw [if_neg hm]
   have e : addK (Dj c ks j) (stK ks s) = Dj c ks j ++ [stK ks s] := if_neg hm
   have q := app _ e.symm
   revert q
   walk_at "den"
   intro q
   rw [putWC_d (key_st ks s) (by omega) (by rfl) (fits_st ks s) (by rw [lk_iota, if_neg hm])]
   walk_at "den"
   rw [show iotaW 0 (Dj c ks j).length ++ [W.int ((Dj c ks j).length : Int)] = iotaW 0 (Dj c ks j ++ [stK ks s]).length by rw [List.length_append]; have := iota_snoc (Dj c ks j).length 0; rw [Nat.zero_add] at this; exact this]
   exact q
 ·intro q hq
  obtain ⟨p, hp, rfl⟩ := List.mem_map.mp hq
  refine ⟨_, rfl, fun _ => ?_⟩
  unfold e_finer_kinds_0 encK
  walk_at "den"
  rw [at_encK (by rw [hk]; exact (hpr p hp).2)]
  walk_at "den"
  exact ⟨_, rfl⟩
theorem finer_run (n : Nat) (c : Mc) (hc : c.Ok) (ks : List Nat) (hk : ks.length = c.states.length) : run K a (n + 1) i_finer_kinds [.lst (c.states.map encSt), encK ks] = .ok (.own false ((fin c ks).map nW50)) := by
 have hmost := hc.most
 rw [run_finer_kinds]
 unfold d_finer_kinds
 walk_at "den"
 obtain ⟨e', h1, z4, z5, h2⟩ := for_ix (b := l_finer_kinds_0 K a (run K a n)) (i := 4) (fun j e => ∃ z4 z5, e = [.fr (.lst (c.states.map encSt)), .fr (encK ks), .dw (.many (.tup [.many .bl, .int])) (Dj c ks j) (iotaW 0 (Dj c ks j).length), .own false (((c.states.take j).map (fpos c ks)).map nW50), z4, z5]) (c.states.map encSt) 0 [.fr (.lst (c.states.map encSt)), .fr (encK ks), .dw (.many (.tup [.many .bl, .int])) [] [], .own false [], .no, .no] ⟨_, _, rfl⟩ (by
  rintro j w e hw ⟨z4, z5, rfl⟩
  obtain ⟨hj, rfl⟩ := get_encSt hw
  rw [Nat.zero_add] at *
  obtain ⟨z5', q⟩ := fturn_run (K := K) (a := a) n c hc ks hk j hj ((c.states.take j).map (fpos c ks)) (by simp; omega) _ z5
  refine ⟨_, q, .fr (encSt c.states[j]), z5', ?_⟩
  rw [take_snoc hj, List.map_append (f := fpos c ks)]
  rfl)
 rw [h1, h2]
 walk_at "den"
 rw [List.length_map, List.take_of_length_le (by omega)]
 rfl
noncomputable def levs (c : Mc) (t : Nat) : List W := (List.range (t + 1)).map fun s => encK (lev c s)
theorem levs_succ (c : Mc) (t : Nat) : levs c (t + 1) = levs c t ++ [encK (lev c (t + 1))] := by
 unfold levs
 rw [List.range_succ (n := t + 1), List.map_append]
 rfl
theorem levs_len (c : Mc) (t : Nat) : (levs c t).length = t + 1 := by unfold levs; simp
theorem at_last {α : Type} {l : List α} {x : α} : atI (l ++ [x]) (-1) = some x := by
 unfold atI ixN
 rw [if_neg (by decide), if_pos (by simp; omega)]
 have e : (-1 + ((l ++ [x]).length : Int)).toNat = l.length := by simp; omega
 show (l ++ [x])[(-1 + ((l ++ [x]).length : Int)).toNat]? = some x
 rw [e]
 simp
theorem levs_last (c : Mc) (t : Nat) : atI (levs c t) (-1) = some (encK (lev c t)) := by
 cases t with
 | zero => exact at_last (l := [])
 | succ t => rw [levs_succ]; exact at_last
theorem levs_at (c : Mc) {t s : Nat} (h : s <= t) : atI (levs c t) (s : Int) = some (encK (lev c s)) := by
 refine atI_nat ?_
 unfold levs
 rw [List.getElem?_map, List.getElem?_range (by omega)]
 rfl
theorem rep_0 (m : Nat) (h : m <= 100) : repW (.lst [.int 0]) (.int (m : Int)) = some (encK (List.replicate m 0)) := by
 rw [rep_li, if_pos ⟨okI_of (by omega) (by omega), by simp; omega⟩, Int.toNat_natCast]
 unfold encK
 congr 2
 have : ∀ k : Nat, (List.replicate k [W.int 0]).flatten = (List.replicate k 0).map nW50 := fun k => by
  induction k with
  | zero => rfl
  | succ k ih => rw [List.replicate_succ, List.flatten_cons, ih, List.replicate_succ]; rfl
 exact this _
theorem lev_ne {c : Mc} (hc : c.Ok) (t : Nat) : lev c t ≠ [] := fun h => by
 have := lev_len c t
 rw [h] at this
 have := hc.pos
 simp at *
 omega
theorem eqWs_bb : ∀ x y : List Bool, eqWs (x.map .bl) (y.map .bl) = some (decide (x = y))
 | [], [] => rfl
 | [], _ :: _ => rfl
 | _ :: _, [] => rfl
 | a :: x, b :: y => by
  show (match eqW (.bl a) (.bl b), eqWs (x.map .bl) (y.map .bl) with | some p, some q => some (p && q) | _, _ => none) = _
  rw [eqWs_bb x y]
  show some ((a == b) && decide (x = y)) = _
  congr 1
  cases a <;> cases b <;> simp
theorem ne_bb (x y : List Bool) : ne2 (encB x) (encB y) = some (.bl (!decide (x = y))) := by
 have h : depWs (x.map .bl) = 0 := (plain_bools x).2.1
 unfold ne2 encB
 rw [if_pos (show depW (.tup (x.map .bl)) <= 150 by show depWs (x.map .bl) + 1 <= 150; omega)]
 simp [eqW, eqWs_bb]
theorem ix_st (s : List Pr) (k : Int) : ixW (encSt s) (.int k) = atI (s.map encPr) k := rfl
theorem ix_pr1 (p : Pr) : ixW (encPr p) (.int 1) = some (.int (p.2 : Int)) := rfl
noncomputable def prAt (c : Mc) (i r : Nat) : Pr := (c.states.getD i []).getD r ([], 0)
theorem at_pr2 {c : Mc} (hc : c.Ok) {i r : Nat} (hi : i < c.states.length) (hr : r < 2 ^ c.m) : atI ((c.states.getD i []).map encPr) (r : Int) = some (encPr (prAt c i r)) := by
 have hl := hc.st _ (st_in hi)
 have hr' : r < (c.states.getD i []).length := by omega
 refine atI_nat ?_
 rw [List.getElem?_map, List.getElem?_eq_getElem hr']
 unfold prAt
 generalize c.states.getD i [] = s at hr'
 simp [List.getD, hr']
theorem parts_run (n : Nat) (c : Mc) (hc : c.Ok) (t i j r : Nat) (hi : i < c.states.length) (hj : j < c.states.length) (hr : r < 2 ^ c.m) :
  ∃ b : Bool, (b = true ↔ Part c t i j r) /\ run K a (n + 1) i_parts [encPr (prAt c i r), encPr (prAt c j r), encK (lev c t), .int (t : Int)] = .ok (.fr (.bl b)) := by
 have n1 : (prAt c i r).2 < (lev c t).length := by rw [lev_len]; exact nxt_lt hc hi hr
 have n2 : (prAt c j r).2 < (lev c t).length := by rw [lev_len]; exact nxt_lt hc hj hr
 rw [run_parts]
 unfold d_parts encPr encK
 walk_at "den"
 by_cases ht : t = 0
 ·subst ht
  rw [if_pos (by rfl), ne_bb]
  refine ⟨_, ?_, rfl⟩
  unfold Part
  rw [if_pos rfl]
  simp [told, prAt]
 ·rw [if_neg (by omega), at_encK n1]
  walk_at "den"
  rw [at_encK n2]
  unfold nW50
  walk_at "den"
  refine ⟨_, ?_, rfl⟩
  unfold Part
  rw [if_neg ht]
  unfold kd nxt
  simp only [prAt, Bool.not_eq_true']
  constructor
  ·intro h z
   exact of_decide_eq_false h (congrArg (fun k : Nat => (k : Int)) z)
  ·intro h
   exact decide_eq_false fun z => h (by omega)
theorem rloop_run (n : Nat) (c : Mc) (hc : c.Ok) (t i j r : Nat) (hi : i < c.states.length) (hj : j < c.states.length) (hr : r < 2 ^ c.m) (hp : Part c t i j r) (hl : ∀ q, q < r -> ¬ Part c t i j q) : ∀ (d fuel q : Nat), q + d = r -> d <= fuel ->
  whileD (w_parting_row_0 K a (run K a (n + 1))) (l_parting_row_0 K a (run K a (n + 1))) (fuel + 1) [.fr (encSt (c.states.getD i [])), .fr (encSt (c.states.getD j [])), .fr (encK (lev c t)), .fr (.int (t : Int)), .fr (.int (q : Int))] = .nx [.fr (encSt (c.states.getD i [])), .fr (encSt (c.states.getD j [])), .fr (encK (lev c t)), .fr (.int (t : Int)), .fr (.int (r : Int))] := by
 intro d
 induction d with
 | zero =>
  intro fuel q hq _
  have hq : q = r := by omega
  subst hq
  obtain ⟨b, b1, b2⟩ := parts_run (K := K) (a := a) n c hc t i j q hi hj hr
  rw [b1.mpr hp] at b2
  rw [while_s]
  have hw : w_parting_row_0 K a (run K a (n + 1)) [.fr (encSt (c.states.getD i [])), .fr (encSt (c.states.getD j [])), .fr (encK (lev c t)), .fr (.int (t : Int)), .fr (.int (q : Int))] = .ok false [.fr (encSt (c.states.getD i [])), .fr (encSt (c.states.getD j [])), .fr (encK (lev c t)), .fr (.int (t : Int)), .fr (.int (q : Int))] := by
   unfold w_parting_row_0 encSt
   walk_at "den"
   rw [at_pr2 hc hi hr]
   walk_at "den"
   rw [at_pr2 hc hj hr]
   walk_at "den"
   rw [b2]
   walk_at "den"
  rw [hw]
  walk_at "den"
 | succ d ih =>
  intro fuel q hq hf
  obtain ⟨fuel, rfl⟩ : ∃ f, fuel = f + 1 := ⟨fuel - 1, by omega⟩
  have hq2 : q < 2 ^ c.m := by omega
  obtain ⟨b, b1, b2⟩ := parts_run (K := K) (a := a) n c hc t i j q hi hj hq2
  have hb : b = false := by
   cases b with
   | false => rfl
   | true => exact absurd (b1.mp rfl) (hl q (by omega))
  rw [hb] at b2
  rw [while_s]
  have hw : w_parting_row_0 K a (run K a (n + 1)) [.fr (encSt (c.states.getD i [])), .fr (encSt (c.states.getD j [])), .fr (encK (lev c t)), .fr (.int (t : Int)), .fr (.int (q : Int))] = .ok true [.fr (encSt (c.states.getD i [])), .fr (encSt (c.states.getD j [])), .fr (encK (lev c t)), .fr (.int (t : Int)), .fr (.int (q : Int))] := by
   unfold w_parting_row_0 encSt
   walk_at "den"
   rw [at_pr2 hc hi hq2]
   walk_at "den"
   rw [at_pr2 hc hj hq2]
   walk_at "den"
   rw [b2]
   walk_at "den"
  have hb2 : l_parting_row_0 K a (run K a (n + 1)) [.fr (encSt (c.states.getD i [])), .fr (encSt (c.states.getD j [])), .fr (encK (lev c t)), .fr (.int (t : Int)), .fr (.int (q : Int))] = .nx [.fr (encSt (c.states.getD i [])), .fr (encSt (c.states.getD j [])), .fr (encK (lev c t)), .fr (.int (t : Int)), .fr (.int ((q + 1 : Nat) : Int))] := by
   unfold l_parting_row_0
   walk_at "den"
   rfl
  rw [hw]
  walk_at "den"
  rw [hb2]
  walk_at "den"
  exact ih fuel (q + 1) (by omega) (by omega)
theorem row_run (n : Nat) (c : Mc) (hc : c.Ok) (t i j r : Nat) (hi : i < c.states.length) (hj : j < c.states.length) (hr : r < 2 ^ c.m) (hp : Part c t i j r) (hl : ∀ q, q < r -> ¬ Part c t i j q) :
  run K a (n + 2) i_parting_row [encSt (c.states.getD i []), encSt (c.states.getD j []), encK (lev c t), .int (t : Int)] = .ok (.fr (.int (r : Int))) := by
 have p8 : 2 ^ c.m <= 8 := Nat.le_trans (Nat.pow_le_pow_right (by decide) hc.few) (by decide)
 rw [run_parting_row]
 unfold d_parting_row
 walk_at "den"
 have q := rloop_run (K := K) (a := a) n c hc t i j r hi hj hr hp hl r 999999 0 (by omega) (by omega)
 rw [show (1000000 : Nat) = 999999 + 1 from rfl]
 rw [show (W.int 0) = W.int ((0 : Nat) : Int) from rfl, q]
 walk_at "den"
theorem at_lev {c : Mc} (t : Nat) {i : Nat} (hi : i < c.states.length) : atI ((lev c t).map nW50) (i : Int) = some (.int ((kd c t i : Nat) : Int)) := at_encK (by rw [lev_len]; exact hi)
theorem floop_run (n : Nat) (c : Mc) (hc : c.Ok) (w0 : W) (L t i j : Nat) (hi : i < c.states.length) (hj : j < c.states.length) (hs : Sep c t i j) (hL : t + 1 <= L) : ∀ (d fuel s : Nat), s + d = t + 1 -> d <= fuel ->
  whileD (w_parting_rows_1 K a (run K a n)) (l_parting_rows_1 K a (run K a n)) (fuel + 1) [.fr w0, .fr (.lst (levs c L)), .fr (.int (i : Int)), .fr (.int (j : Int)), .fr (.int (s : Int)), .no, .no, .no, .no] = .nx [.fr w0, .fr (.lst (levs c L)), .fr (.int (i : Int)), .fr (.int (j : Int)), .fr (.int ((t + 1 : Nat) : Int)), .no, .no, .no, .no] := by
 intro d
 induction d with
 | zero =>
  intro fuel s hq _
  have hq : s = t + 1 := by omega
  subst hq
  have hw : w_parting_rows_1 K a (run K a n) [.fr w0, .fr (.lst (levs c L)), .fr (.int (i : Int)), .fr (.int (j : Int)), .fr (.int ((t + 1 : Nat) : Int)), .no, .no, .no, .no] = .ok false [.fr w0, .fr (.lst (levs c L)), .fr (.int (i : Int)), .fr (.int (j : Int)), .fr (.int ((t + 1 : Nat) : Int)), .no, .no, .no, .no] := by
   unfold w_parting_rows_1
   walk_at "den"
   rw [levs_at c hL]
   unfold encK
   walk_at "den"
   rw [at_lev (t + 1) hi]
   walk_at "den"
   rw [levs_at c hL]
   unfold encK
   walk_at "den"
   rw [at_lev (t + 1) hj]
   walk_at "den"
   rw [decide_eq_false (show ¬ ((kd c (t + 1) i : Nat) : Int) = ((kd c (t + 1) j : Nat) : Int) from fun z => hs.1 (by omega))]
  rw [while_s, hw]
  walk_at "den"
 | succ d ih =>
  intro fuel s hq hf
  obtain ⟨fuel, rfl⟩ : ∃ f, fuel = f + 1 := ⟨fuel - 1, by omega⟩
  have hsL : s <= L := by omega
  have he : kd c s i = kd c s j := kd_le hc hi hj (show s <= t by omega) hs.2
  have hw : w_parting_rows_1 K a (run K a n) [.fr w0, .fr (.lst (levs c L)), .fr (.int (i : Int)), .fr (.int (j : Int)), .fr (.int (s : Int)), .no, .no, .no, .no] = .ok true [.fr w0, .fr (.lst (levs c L)), .fr (.int (i : Int)), .fr (.int (j : Int)), .fr (.int (s : Int)), .no, .no, .no, .no] := by
   unfold w_parting_rows_1
   walk_at "den"
   rw [levs_at c hsL]
   unfold encK
   walk_at "den"
   rw [at_lev s hi]
   walk_at "den"
   rw [levs_at c hsL]
   unfold encK
   walk_at "den"
   rw [at_lev s hj]
   walk_at "den"
   rw [decide_eq_true (by rw [he])]
  have hb2 : l_parting_rows_1 K a (run K a n) [.fr w0, .fr (.lst (levs c L)), .fr (.int (i : Int)), .fr (.int (j : Int)), .fr (.int (s : Int)), .no, .no, .no, .no] = .nx [.fr w0, .fr (.lst (levs c L)), .fr (.int (i : Int)), .fr (.int (j : Int)), .fr (.int ((s + 1 : Nat) : Int)), .no, .no, .no, .no] := by
   unfold l_parting_rows_1
   walk_at "den"
   rfl
  rw [while_s, hw]
  walk_at "den"
  rw [hb2]
  walk_at "den"
  exact ih fuel (s + 1) (by omega) (by omega)
theorem sloop_run (n : Nat) (c : Mc) (hc : c.Ok) (L : Nat) (z2 z3 : S) : ∀ {t l r : Nat} {rs : List Nat}, Rows c t l r rs -> l < c.states.length -> r < c.states.length -> t <= L -> ∀ (fuel : Nat) (acc : List Nat) (z8 : S), t <= fuel -> acc.length + t <= 100 ->
  ∃ z4 z6 z7 z8', whileD (w_parting_rows_0 K a (run K a (n + 2))) (l_parting_rows_0 K a (run K a (n + 2))) (fuel + 1) [.fr (.lst (c.states.map encSt)), .fr (.lst (levs c L)), z2, z3, .fr (.int (t : Int)), .own false (acc.map nW50), .fr (.int (l : Int)), .fr (.int (r : Int)), z8] = .nx [.fr (.lst (c.states.map encSt)), .fr (.lst (levs c L)), z2, z3, z4, .own false ((acc ++ rs).map nW50), z6, z7, z8'] := by
 intro t l r rs h
 induction h with
 | @nil i j =>
  intro _ _ _ fuel acc z8 _ _
  rw [while_s]
  have hw : w_parting_rows_0 K a (run K a (n + 2)) [.fr (.lst (c.states.map encSt)), .fr (.lst (levs c L)), z2, z3, .fr (.int ((0 : Nat) : Int)), .own false (acc.map nW50), .fr (.int (i : Int)), .fr (.int (j : Int)), z8] = .ok false [.fr (.lst (c.states.map encSt)), .fr (.lst (levs c L)), z2, z3, .fr (.int ((0 : Nat) : Int)), .own false (acc.map nW50), .fr (.int (i : Int)), .fr (.int (j : Int)), z8] := by
   unfold w_parting_rows_0
   walk_at "den"
  rw [hw]
  walk_at "den"
  exact ⟨_, _, _, _, by rw [List.append_nil]⟩
 | @cons t i j q rs hr hp hl h ih =>
  intro hi hj ht fuel acc z8 hf ha
  obtain ⟨fuel, rfl⟩ : ∃ f, fuel = f + 1 := ⟨fuel - 1, by omega⟩
  have ni := nxt_lt hc hi hr
  have nj := nxt_lt hc hj hr
  have hw : w_parting_rows_0 K a (run K a (n + 2)) [.fr (.lst (c.states.map encSt)), .fr (.lst (levs c L)), z2, z3, .fr (.int ((t + 1 : Nat) : Int)), .own false (acc.map nW50), .fr (.int (i : Int)), .fr (.int (j : Int)), z8] = .ok true [.fr (.lst (c.states.map encSt)), .fr (.lst (levs c L)), z2, z3, .fr (.int ((t + 1 : Nat) : Int)), .own false (acc.map nW50), .fr (.int (i : Int)), .fr (.int (j : Int)), z8] := by
   unfold w_parting_rows_0
   walk_at "den"
   rw [decide_eq_true (by omega)]
  have hb : l_parting_rows_0 K a (run K a (n + 2)) [.fr (.lst (c.states.map encSt)), .fr (.lst (levs c L)), z2, z3, .fr (.int ((t + 1 : Nat) : Int)), .own false (acc.map nW50), .fr (.int (i : Int)), .fr (.int (j : Int)), z8] = .nx [.fr (.lst (c.states.map encSt)), .fr (.lst (levs c L)), z2, z3, .fr (.int (t : Int)), .own false ((acc ++ [q]).map nW50), .fr (.int ((nxt c i q : Nat) : Int)), .fr (.int ((nxt c j q : Nat) : Int)), .fr (.int (q : Int))] := by
   unfold l_parting_rows_0
   walk_at "den"
   rw [show ((t + 1 : Nat) : Int) - 1 = (t : Int) by omega, at_st hi]
   walk_at "den"
   rw [at_st hj]
   walk_at "den"
   rw [levs_at c (show t <= L by omega)]
   walk_at "den"
   rw [row_run n c hc t i j q hi hj hr hp hl]
   walk_at "den"
   rw [if_pos (by rw [List.length_map]; omega)]
   walk_at "den"
   rw [at_st hi]
   walk_at "den"
   rw [ix_st, at_pr2 hc hi hr]
   walk_at "den"
   rw [ix_pr1]
   walk_at "den"
   rw [at_st hj]
   walk_at "den"
   rw [ix_st, at_pr2 hc hj hr]
   walk_at "den"
   rw [ix_pr1]
   walk_at "den"
   rw [List.map_append]
   rfl
  rw [while_s, hw]
  walk_at "den"
  rw [hb]
  walk_at "den"
  obtain ⟨z4, z6, z7, z8', g⟩ := ih ni nj (by omega) fuel (acc ++ [q]) (.fr (.int (q : Int))) (by omega) (by simp; omega)
  refine ⟨z4, z6, z7, z8', ?_⟩
  rw [g, List.append_assoc]
  rfl
theorem rows_run (n : Nat) (c : Mc) (hc : c.Ok) (L t i j : Nat) (hi : i < c.states.length) (hj : j < c.states.length) (hs : Sep c t i j) (hL : t + 1 <= L) (hL2 : L <= 50) (rs : List Nat) (hr : Rows c (t + 1) i j rs) :
  run K a (n + 3) i_parting_rows [.lst (c.states.map encSt), .lst (levs c L), .int (i : Int), .int (j : Int)] = .ok (.own false (rs.map nW50)) := by
 rw [run_parting_rows]
 unfold d_parting_rows
 walk_at "den"
 have q := floop_run (K := K) (a := a) (n + 2) c hc (.lst (c.states.map encSt)) L t i j hi hj hs hL (t + 1) 999999 0 (by omega) (by omega)
 rw [show (1000000 : Nat) = 999999 + 1 from rfl]
 rw [show (W.int 0) = W.int ((0 : Nat) : Int) from rfl, q]
 walk_at "den"
 obtain ⟨z4, z6, z7, z8', g⟩ := sloop_run (K := K) (a := a) n c hc L (.fr (.int (i : Int))) (.fr (.int (j : Int))) hr hi hj hL 999999 [] .no (by omega) (by simp; omega)
 rw [show ([] : List W) = ([] : List Nat).map nW50 from rfl]
 rw [g]
 walk_at "den"
noncomputable def kx2 (p : Nat × Nat) : Kx := .tup [.int (p.1 : Int), .int (p.2 : Int)]
theorem kx2_inj {p q : Nat × Nat} (h : kx2 p = kx2 q) : p = q := by
 unfold kx2 at h
 injection h with h
 injection h with h1 h2
 injection h2 with h2 _
 injection h1 with h1
 injection h2 with h2
 exact Prod.ext (by omega) (by omega)
noncomputable def rowsOf (c : Mc) (p : Nat × Nat) : List Nat := Classical.epsilon fun rs => ∃ t, Sep c t p.1 p.2 /\ Rows c (t + 1) p.1 p.2 rs
theorem rowsOf_spec {c : Mc} (hc : c.Ok) {L i j : Nat} (hi : i < c.states.length) (hj : j < c.states.length) (h : kd c L i ≠ kd c L j) : ∃ t, t + 1 <= L /\ Sep c t i j /\ Rows c (t + 1) i j (rowsOf c (i, j)) := by
 obtain ⟨t, ht, hs⟩ := sep_ex h
 obtain ⟨rs, hr⟩ := rows_ex hc t hi hj hs
 obtain ⟨t', hs', hr'⟩ : ∃ t, Sep c t i j /\ Rows c (t + 1) i j (rowsOf c (i, j)) := Classical.epsilon_spec (p := fun rs => ∃ t, Sep c t (i, j).1 (i, j).2 /\ Rows c (t + 1) (i, j).1 (i, j).2 rs) ⟨rs, t, hs, hr⟩
 have e := sep_uni hc hi hj hs hs'
 subst e
 exact ⟨t, by omega, hs, hr'⟩
noncomputable def rowW (c : Mc) (p : Nat × Nat) : W := encK (rowsOf c p)
theorem lk_pairs {f : Nat × Nat -> W} {q : Nat × Nat} : ∀ ps : List (Nat × Nat), lkW (ps.map kx2) (ps.map f) (kx2 q) = if q ∈ ps then some (f q) else none
 | [] => by rw [if_neg (by simp)]; rfl
 | p :: ps => by
  show (if kx2 p = kx2 q then some (f p) else lkW (ps.map kx2) (ps.map f) (kx2 q)) = _
  by_cases e : p = q
  ·rw [if_pos (by rw [e]), if_pos (by simp [e]), e]
  ·rw [if_neg (fun z => e (kx2_inj z)), lk_pairs ps]
   by_cases h : q ∈ ps
   ·rw [if_pos h, if_pos (by simp [h])]
   ·rw [if_neg h, if_neg (by simp [h]; exact fun z => e z.symm)]
noncomputable def pairW (p : Nat × Nat) : W := .tup [.int (p.1 : Int), .int (p.2 : Int)]
theorem key_pair (p : Nat × Nat) : keyT (pairW p) = some (kx2 p) := rfl
theorem fits_pair (p : Nat × Nat) : fits (kx2 p) (.tup [.int, .int]) := ⟨⟨trivial, trivial, trivial⟩, by show max 0 (max 0 0) + 1 <= 7; decide⟩
theorem nd_len : ∀ (n : Nat) {l : List Nat}, l.Nodup -> (∀ x ∈ l, x < n) -> l.length <= n
 | 0, l, _, h => by
  cases l with
  | nil => simp
  | cons x l => exact absurd (h x (by simp)) (by omega)
 | n + 1, l, hn, h => by
  by_cases m : n ∈ l
  ·have e := List.length_erase_of_mem m
   have := nd_len n (hn.erase n) (fun x hx => by
    have := (hn.mem_erase_iff).mp hx
    have := h x this.2
    omega)
   have : 0 < l.length := List.length_pos_of_mem m
   omega
  ·have := nd_len n hn (fun x hx => by
    have := h x hx
    have : x ≠ n := fun z => m (z ▸ hx)
    omega)
   omega
theorem nd_all {n : Nat} {l : List Nat} (hn : l.Nodup) (h : ∀ x ∈ l, x < n) (hl : n <= l.length) {y : Nat} (hy : y < n) : y ∈ l := Classical.byContradiction fun z => by
 have := nd_len n (l := y :: l) (List.nodup_cons.mpr ⟨z, hn⟩) (fun x hx => by
  rcases List.mem_cons.mp hx with rfl | hx
  ·exact hy
  ·exact h x hx)
 simp at this
 omega
noncomputable def addN (l : List Nat) (x : Nat) : List Nat := if x ∈ l then l else l ++ [x]
theorem addN_pre (l : List Nat) (x : Nat) : ∃ m, addN l x = l ++ m := by
 unfold addN
 split
 ·exact ⟨[], by simp⟩
 ·exact ⟨[x], rfl⟩
theorem addN_in (l : List Nat) (x : Nat) : x ∈ addN l x := by
 unfold addN
 split
 ·assumption
 ·simp
theorem addN_nd {l : List Nat} (h : l.Nodup) (x : Nat) : (addN l x).Nodup := by
 unfold addN
 split
 ·exact h
 ·rename_i hx
  refine List.nodup_append.mpr ⟨h, by simp, ?_⟩
  intro a ha b hb e
  simp at hb
  subst hb
  subst e
  exact hx ha
theorem foldN_pre : ∀ (xs l : List Nat), ∃ m, xs.foldl addN l = l ++ m
 | [], l => ⟨[], by simp⟩
 | x :: xs, l => by
  obtain ⟨m1, h1⟩ := addN_pre l x
  obtain ⟨m2, h2⟩ := foldN_pre xs (addN l x)
  exact ⟨m1 ++ m2, by rw [List.foldl_cons, h2, h1, List.append_assoc]⟩
theorem foldN_in : ∀ (xs l : List Nat), ∀ x ∈ xs, x ∈ xs.foldl addN l
 | [], _, _, h => nomatch h
 | y :: xs, l, x, h => by
  rw [List.foldl_cons]
  rcases List.mem_cons.mp h with rfl | h
  ·obtain ⟨m, e⟩ := foldN_pre xs (addN l x)
   rw [e]
   exact List.mem_append_left _ (addN_in l x)
  ·exact foldN_in xs _ x h
theorem foldN_nd : ∀ (xs : List Nat) {l : List Nat}, l.Nodup -> (xs.foldl addN l).Nodup
 | [], _, h => h
 | x :: xs, l, h => foldN_nd xs (addN_nd h x)
theorem foldN_all {B : Nat -> Prop} : ∀ (xs l : List Nat), (∀ x ∈ l, B x) -> (∀ x ∈ xs, B x) -> ∀ x ∈ xs.foldl addN l, B x
 | [], _, h, _ => h
 | y :: xs, l, h, g => foldN_all xs (addN l y) (fun x hx => by
   unfold addN at hx
   split at hx
   ·exact h x hx
   ·rcases List.mem_append.mp hx with z | z
    ·exact h x z
    ·rw [List.mem_singleton.mp z]; exact g y (by simp)) fun x hx => g x (by simp [hx])
theorem ix_app {l m : List Nat} {x : Nat} (h : x ∈ l) : (l ++ m).idxOf x = l.idxOf x := by
 rw [List.idxOf_append, if_pos h]
theorem ix_new {l m : List Nat} {x : Nat} (h : x ∉ l) : (l ++ x :: m).idxOf x = l.length := by
 rw [List.idxOf_append, if_neg h, List.idxOf_cons_self]
 omega
theorem ix_lt {l : List Nat} {x : Nat} (h : x ∈ l) : l.idxOf x < l.length := List.idxOf_lt_length_iff.mpr h
theorem ix_get {l : List Nat} {x : Nat} (h : x ∈ l) : l.getD (l.idxOf x) 0 = x := by
 have := ix_lt h
 simp [List.getD, this]
theorem nd_ix {l : List Nat} (hn : l.Nodup) {i : Nat} (h : i < l.length) : l.idxOf (l.getD i 0) = i := by
 have h1 : l.getD i 0 = l[i] := by simp [List.getD, h]
 rw [h1]
 have h3 := ix_lt (List.getElem_mem h)
 exact (List.getElem_inj hn).mp (List.getElem_idxOf h3)
theorem fold_num : ∀ (xs T1 m T : List Nat), T = xs.foldl addN T1 ++ m -> (xs.map (T.idxOf ·)).foldl addN (List.range T1.length) = List.range (xs.foldl addN T1).length
 | [], T1, m, T, _ => rfl
 | x :: xs, T1, m, T, h => by
  rw [List.foldl_cons] at h |-
  rw [List.map_cons, List.foldl_cons]
  have := fold_num xs (addN T1 x) m T h
  rw [<- this]
  congr 1
  obtain ⟨m1, h1⟩ := foldN_pre xs (addN T1 x)
  rw [h1, List.append_assoc] at h
  by_cases hx : x ∈ T1
  ·have e : addN T1 x = T1 := if_pos hx
   rw [e] at h |-
   rw [h, ix_app hx]
   unfold addN
   rw [if_pos (List.mem_range.mpr (ix_lt hx))]
  ·have e : addN T1 x = T1 ++ [x] := if_neg hx
   rw [e] at h |-
   rw [List.append_assoc] at h
   rw [h]
   show addN _ ((T1 ++ x :: (m1 ++ m)).idxOf x) = _
   rw [ix_new hx]
   unfold addN
   rw [if_neg (by simp), List.length_append, List.length_singleton, List.range_succ]
noncomputable def bf (g : Nat -> List Pr) (b : Nat) : Nat -> List Nat
 | 0 => [b]
 | i + 1 => if i < (bf g b i).length then ((g ((bf g b i).getD i 0)).map (·.2)).foldl addN (bf g b i) else bf g b i
theorem bf_pre (g : Nat -> List Pr) (b i : Nat) : ∃ m, bf g b (i + 1) = bf g b i ++ m := by
 show ∃ m, (if i < (bf g b i).length then ((g ((bf g b i).getD i 0)).map (·.2)).foldl addN (bf g b i) else bf g b i) = _
 split
 ·exact foldN_pre _ _
 ·exact ⟨[], by simp⟩
theorem bf_pres (g : Nat -> List Pr) (b i : Nat) : ∀ d, ∃ m, bf g b (i + d) = bf g b i ++ m
 | 0 => ⟨[], by simp⟩
 | d + 1 => by
  obtain ⟨m1, h1⟩ := bf_pres g b i d
  obtain ⟨m2, h2⟩ := bf_pre g b (i + d)
  exact ⟨m1 ++ m2, by rw [<- Nat.add_assoc, h2, h1, List.append_assoc]⟩
theorem bf_nd (g : Nat -> List Pr) (b : Nat) : ∀ i, (bf g b i).Nodup
 | 0 => by simp [bf]
 | i + 1 => by
  unfold bf
  split
  ·exact foldN_nd _ (bf_nd g b i)
  ·exact bf_nd g b i
theorem bf_all {g : Nat -> List Pr} {b : Nat} {B : Nat -> Prop} (h0 : B b) (hs : ∀ x, B x -> ∀ p ∈ g x, B p.2) : ∀ i, ∀ x ∈ bf g b i, B x
 | 0 => fun x hx => by
  have : x = b := by simpa [bf] using hx
  rw [this]; exact h0
 | i + 1 => by
  unfold bf
  split
  ·rename_i hi
   refine foldN_all _ _ (bf_all h0 hs i) fun x hx => ?_
   obtain ⟨p, hp, rfl⟩ := List.mem_map.mp hx
   refine hs _ (bf_all h0 hs i _ ?_) p hp
   have e : (bf g b i).getD i 0 = (bf g b i)[i] := by simp [List.getD, hi]
   rw [e]; exact List.getElem_mem hi
  ·exact bf_all h0 hs i
theorem bf_head (g : Nat -> List Pr) (b i : Nat) : ∃ m, bf g b i = b :: m := by
 obtain ⟨m, h⟩ := bf_pres g b 0 i
 rw [Nat.zero_add] at h
 exact ⟨m, by rw [h]; rfl⟩
noncomputable def numSt (T : List Nat) (s : List Pr) : List Pr := s.map fun p => (p.1, T.idxOf p.2)
theorem numSt_app {T m : List Nat} {s : List Pr} (h : ∀ p ∈ s, p.2 ∈ T) : numSt (T ++ m) s = numSt T s := by
 unfold numSt
 refine List.map_congr_left fun p hp => ?_
 rw [ix_app (h p hp)]
theorem bf_cl {g : Nat -> List Pr} {b : Nat} : ∀ i, i <= (bf g b i).length -> ∀ x ∈ (bf g b i).take i, ∀ p ∈ g x, p.2 ∈ bf g b i
 | 0, _, x, hx => by simp at hx
 | i + 1, hl, x, hx => by
  obtain ⟨m, hm⟩ := bf_pre g b i
  intro p hp
  by_cases hi : i < (bf g b i).length
  ·have hx' : x ∈ (bf g b i).take (i + 1) := by
    rw [hm, List.take_append_of_le_length (by omega)] at hx
    exact hx
   rw [List.take_succ_eq_append_getElem hi] at hx'
   rcases List.mem_append.mp hx' with z | z
   ·rw [hm]
    exact List.mem_append_left _ (bf_cl i (by omega) x z p hp)
   ·rw [List.mem_singleton] at z
    subst z
    unfold bf
    rw [if_pos hi]
    refine foldN_in _ _ _ (List.mem_map.mpr ⟨p, ?_, rfl⟩)
    have e : (bf g b i).getD i 0 = (bf g b i)[i] := by simp [List.getD, hi]
    rw [e]; exact hp
  ·have e : bf g b (i + 1) = bf g b i := by
    show (if i < (bf g b i).length then _ else bf g b i) = _
    rw [if_neg hi]
   rw [e] at hl
   omega
theorem bf_st {g : Nat -> List Pr} {b i : Nat} (hi : i < (bf g b i).length) : ((bf g b (i + 1)).take (i + 1)).map (fun x => numSt (bf g b (i + 1)) (g x)) = ((bf g b i).take i).map (fun x => numSt (bf g b i) (g x)) ++ [numSt (bf g b (i + 1)) (g ((bf g b i).getD i 0))] := by
 obtain ⟨m, hm⟩ := bf_pre g b i
 have e : (bf g b i).getD i 0 = (bf g b i)[i] := by simp [List.getD, hi]
 have h1 : (bf g b (i + 1)).take (i + 1) = (bf g b i).take i ++ [(bf g b i)[i]] := by
  rw [hm, List.take_append_of_le_length (by omega), List.take_succ_eq_append_getElem hi]
 rw [h1, List.map_append, e]
 congr 1
 refine List.map_congr_left fun x hx => ?_
 rw [hm]
 exact numSt_app (bf_cl i (by omega) x hx)
def Stab (c : Mc) (L : Nat) : Prop := ∀ i j, i < c.states.length -> j < c.states.length -> kd c L i = kd c L j -> kd c (L + 1) i = kd c (L + 1) j
theorem stab_all {c : Mc} (hc : c.Ok) {L : Nat} (h : Stab c L) : ∀ (t i j : Nat), i < c.states.length -> j < c.states.length -> kd c L i = kd c L j -> kd c t i = kd c t j
 | 0, i, j, _, _, _ => by rw [kd_zero, kd_zero]
 | t + 1, i, j, hi, hj, e => by
  have e1 := (kd_succ hc hi hj).mp (h i j hi hj e)
  exact (kd_succ hc hi hj).mpr fun r hr => ⟨(e1 r hr).1, stab_all hc h t _ _ (nxt_lt hc hi hr) (nxt_lt hc hj hr) (e1 r hr).2⟩
theorem fold_onto : ∀ (xs D : List Kx), (∀ k, k < D.length -> ∃ x ∈ D, posK D x = k) -> ∀ k, k < (xs.foldl addK D).length -> ∃ x ∈ xs.foldl addK D, posK (xs.foldl addK D) x = k
 | [], D, h => h
 | y :: xs, D, h => by
  rw [List.foldl_cons]
  refine fold_onto xs (addK D y) fun k hk => ?_
  unfold addK at hk |-
  by_cases hy : y ∈ D
  ·rw [if_pos hy] at hk |-
   exact h k hk
  ·rw [if_neg hy] at hk |-
   by_cases hk' : k < D.length
   ·obtain ⟨x, hx, e⟩ := h k hk'
    exact ⟨x, List.mem_append_left _ hx, by rw [posK_app hx, e]⟩
   ·refine ⟨y, by simp, ?_⟩
    rw [posK_new hy]
    simp at hk
    omega
theorem fold_from : ∀ (xs D : List Kx), ∀ x ∈ xs.foldl addK D, x ∈ D \/ x ∈ xs
 | [], D, x, h => .inl h
 | y :: xs, D, x, h => by
  rw [List.foldl_cons] at h
  rcases fold_from xs (addK D y) x h with z | z
  ·unfold addK at z
   split at z
   ·exact .inl z
   ·rcases List.mem_append.mp z with z | z
    ·exact .inl z
    ·exact .inr (by simp [List.mem_singleton.mp z])
  ·exact .inr (by simp [z])
theorem kd_mem {c : Mc} {t i : Nat} (h : i < c.states.length) : kd c t i ∈ lev c t := by
 have h' : i < (lev c t).length := by rw [lev_len]; exact h
 unfold kd
 rw [show (lev c t).getD i 0 = (lev c t)[i] by simp [List.getD, h']]
 exact List.getElem_mem h'
theorem mem_kd {c : Mc} {t k : Nat} (h : k ∈ lev c t) : ∃ i, i < c.states.length /\ kd c t i = k := by
 obtain ⟨i, hi, e⟩ := List.getElem_of_mem h
 refine ⟨i, by rw [<- lev_len c t]; exact hi, ?_⟩
 unfold kd
 rw [<- e]
 simp [List.getD, hi]
theorem lev_onto {c : Mc} (hc : c.Ok) : ∀ (t : Nat) {M k : Nat}, M ∈ lev c t -> k <= M -> ∃ i, i < c.states.length /\ kd c t i = k
 | 0, M, k, hM, hk => by
  have e : M = 0 := List.eq_of_mem_replicate hM
  exact ⟨0, hc.pos, by rw [kd_zero]; omega⟩
 | t + 1, M, k, hM, hk => by
  have hM' : M ∈ fin c (lev c t) := hM
  unfold fin at hM'
  obtain ⟨s, hs, e⟩ := List.mem_map.mp hM'
  have h1 := posK_lt (fold_in (c.states.map (stK (lev c t))) [] _ (List.mem_map_of_mem hs))
  obtain ⟨x, hx, e2⟩ := fold_onto (c.states.map (stK (lev c t))) [] (fun k hk => by simp at hk) k (by omega)
  rcases fold_from _ _ x hx with z | z
  ·simp at z
  ·obtain ⟨s', hs', rfl⟩ := List.mem_map.mp z
   refine mem_kd (t := t + 1) ?_
   show k ∈ fin c (lev c t)
   unfold fin
   exact List.mem_map.mpr ⟨s', hs', e2⟩
theorem stab_of {c : Mc} (hc : c.Ok) {L M M' : Nat} (hM : M ∈ lev c L) (hM2 : ∀ k ∈ lev c L, k <= M) (hM3 : ∀ k ∈ lev c (L + 1), k <= M') (hle : M' <= M) : Stab c L := by
 have sur := fun k (hk : k <= M) => lev_onto hc L hM hk
 let rep : Nat -> Nat := fun k => Classical.epsilon fun i => i < c.states.length /\ kd c L i = k
 have hrep : ∀ k, k <= M -> rep k < c.states.length /\ kd c L (rep k) = k := fun k hk => Classical.epsilon_spec (p := fun i => i < c.states.length /\ kd c L i = k) (sur k hk)
 have hnd : ((List.range (M + 1)).map fun k => kd c (L + 1) (rep k)).Nodup := by
  refine List.pairwise_map.mpr (List.Pairwise.imp_of_mem (R := (· ≠ ·)) ?_ List.nodup_range)
  intro x y hx hy hne e
  refine hne ?_
  have hx := hrep x (by have := List.mem_range.mp hx; omega)
  have hy := hrep y (by have := List.mem_range.mp hy; omega)
  have := kd_coarse hc L hx.1 hy.1 e
  rw [hx.2, hy.2] at this
  exact this
 have key : ∀ i, i < c.states.length -> kd c (L + 1) i = kd c (L + 1) (rep (kd c L i)) := fun i hi => by
  have hm := nd_all (n := M + 1) hnd (fun x hx => by
   obtain ⟨k, hk, rfl⟩ := List.mem_map.mp hx
   have hk := hrep k (by have := List.mem_range.mp hk; omega)
   have := hM3 _ (kd_mem (t := L + 1) hk.1)
   omega) (by simp) (y := kd c (L + 1) i) (by have := hM3 _ (kd_mem (t := L + 1) hi); omega)
  obtain ⟨k, hk, e⟩ := List.mem_map.mp hm
  have hk := hrep k (by have := List.mem_range.mp hk; omega)
  have := kd_coarse hc L hk.1 hi e
  rw [hk.2] at this
  rw [<- this]
  exact e.symm
 intro i j hi hj e
 rw [key i hi, key j hj, e]
theorem max_K2 {ks : List Nat} (h : ks ≠ []) : ∃ M : Nat, max1 [encK ks] = some (.int (M : Int)) /\ M ∈ ks /\ ∀ k ∈ ks, k <= M := by
 cases ks with
 | nil => exact absurd rfl h
 | cons k ks =>
  have e : max1 [encK (k :: ks)] = some (.int (maxL (k : Int) (ks.map fun x : Nat => (x : Int)))) := by
   have := max1_l (n := (k : Int)) (ns := ks.map fun x : Nat => (x : Int))
   rw [List.map_cons, List.map_map] at this
   exact this
  obtain ⟨h1, h2, h3⟩ := maxL_is (ks.map fun x : Nat => (x : Int)) (k : Int)
  have hall : ∀ M : Nat, maxL (k : Int) (ks.map fun x : Nat => (x : Int)) = (M : Int) -> ∀ x ∈ k :: ks, x <= M := fun M hM x hx => by
   rcases List.mem_cons.mp hx with rfl | hx
   ·omega
   ·have := h3 (x : Int) (List.mem_map.mpr ⟨x, hx, rfl⟩)
    omega
  rcases h1 with h1 | h1
  ·exact ⟨k, by rw [e, h1], by simp, hall k h1⟩
  ·obtain ⟨x, hx, hx2⟩ := List.mem_map.mp h1
   exact ⟨x, by rw [e, <- hx2], by simp [hx], hall x hx2.symm⟩
noncomputable def rep (c : Mc) (L k : Nat) : Nat := (lev c L).idxOf k
theorem rep_lt {c : Mc} {L k : Nat} (h : k ∈ lev c L) : rep c L k < c.states.length := by
 rw [<- lev_len c L]; exact ix_lt h
theorem rep_kd {c : Mc} {L k : Nat} (h : k ∈ lev c L) : kd c L (rep c L k) = k := ix_get h
noncomputable def kPr (c : Mc) (L k : Nat) : List Pr := (c.states.getD (rep c L k) []).map fun p => (p.1, kd c L p.2)
theorem kPr_mem {c : Mc} (hc : c.Ok) {L k : Nat} (h : k ∈ lev c L) : ∀ p ∈ kPr c L k, p.2 ∈ lev c L := fun p hp => by
 unfold kPr at hp
 obtain ⟨q, hq, rfl⟩ := List.mem_map.mp hp
 exact kd_mem (hc.pr _ (st_in (rep_lt h)) q hq).2
noncomputable def lst' (c : Mc) (L : Nat) (T : List Nat) : Mc := ⟨c.m, c.wide, T.map fun k => numSt T (kPr c L k)⟩
structure Cl (c : Mc) (L : Nat) (T : List Nat) : Prop where
 nd : T.Nodup
 mem : ∀ k ∈ T, k ∈ lev c L
 pos : 0 < T.length
 cl : ∀ k ∈ T, ∀ p ∈ kPr c L k, p.2 ∈ T
theorem Cl.len {c : Mc} (hc : c.Ok) {L : Nat} {T : List Nat} (h : Cl c L T) : T.length <= c.states.length := nd_len _ h.nd fun k hk => lev_lt hc.pos L k (h.mem k hk)
theorem Cl.ok {c : Mc} (hc : c.Ok) {L : Nat} {T : List Nat} (h : Cl c L T) : (lst' c L T).Ok where
 few := hc.few
 wd := hc.wd
 pos := by show 0 < (T.map _).length; rw [List.length_map]; exact h.pos
 most := by
  show (T.map _).length <= 20
  rw [List.length_map]
  have := h.len hc
  have := hc.most
  omega
 st := fun s hs => by
  obtain ⟨k, hk, rfl⟩ := List.mem_map.mp hs
  unfold numSt kPr
  rw [List.length_map, List.length_map]
  exact hc.st _ (st_in (rep_lt (h.mem k hk)))
 pr := fun s hs p hp => by
  obtain ⟨k, hk, rfl⟩ := List.mem_map.mp hs
  have hp' := hp
  unfold numSt at hp
  obtain ⟨q, hq, rfl⟩ := List.mem_map.mp hp
  have h2 := h.cl k hk q hq
  unfold kPr at hq
  obtain ⟨q', hq', rfl⟩ := List.mem_map.mp hq
  refine ⟨(hc.pr _ (st_in (rep_lt (h.mem k hk))) q' hq').1, ?_⟩
  show _ < (T.map _).length
  rw [List.length_map]
  exact ix_lt h2
theorem lst_len {c : Mc} {L : Nat} {T : List Nat} : (lst' c L T).states.length = T.length := List.length_map _
theorem lst_at {c : Mc} {L : Nat} {T : List Nat} {x : Nat} (hx : x < T.length) : (lst' c L T).states.getD x [] = numSt T (kPr c L (T.getD x 0)) := by
 show (T.map _).getD x [] = _
 simp [List.getD, hx]
theorem lst_pr {c : Mc} (hc : c.Ok) {L : Nat} {T : List Nat} (h : Cl c L T) {x r : Nat} (hx : x < T.length) (hr : r < 2 ^ c.m) : told (lst' c L T) x r = told c (rep c L (T.getD x 0)) r /\ nxt (lst' c L T) x r = T.idxOf (kd c L (nxt c (rep c L (T.getD x 0)) r)) := by
 have hk : T.getD x 0 ∈ lev c L := h.mem _ (by rw [show T.getD x 0 = T[x] by simp [List.getD, hx]]; exact List.getElem_mem hx)
 have hl := hc.st _ (st_in (rep_lt hk))
 unfold told nxt
 rw [lst_at hx]
 unfold numSt kPr
 generalize c.states.getD (rep c L (T.getD x 0)) [] = s at hl
 have : r < s.length := by omega
 simp [List.getD, this]
theorem lst_part {c : Mc} (hc : c.Ok) {L : Nat} (hs : Stab c L) {T : List Nat} (h : Cl c L T) : ∀ (t x y : Nat), x < T.length -> y < T.length -> kd (lst' c L T) t x = kd (lst' c L T) t y -> kd c t (rep c L (T.getD x 0)) = kd c t (rep c L (T.getD y 0))
 | 0, x, y, _, _, _ => by rw [kd_zero, kd_zero]
 | t + 1, x, y, hx, hy, e => by
  have gm : ∀ {x}, x < T.length -> T.getD x 0 ∈ T := fun {x} hx => by rw [show T.getD x 0 = T[x] by simp [List.getD, hx]]; exact List.getElem_mem hx
  have rx := rep_lt (h.mem _ (gm hx))
  have ry := rep_lt (h.mem _ (gm hy))
  have e1 := (kd_succ (h.ok hc) (by rw [lst_len]; exact hx) (by rw [lst_len]; exact hy)).mp e
  refine (kd_succ hc rx ry).mpr fun r hr => ?_
  obtain ⟨e2, e3⟩ := e1 r hr
  obtain ⟨x1, x2⟩ := lst_pr hc h hx hr
  obtain ⟨y1, y2⟩ := lst_pr hc h hy hr
  rw [x1, y1] at e2
  refine ⟨e2, ?_⟩
  rw [x2, y2] at e3
  have inT : ∀ {x}, x < T.length -> kd c L (nxt c (rep c L (T.getD x 0)) r) ∈ T := fun {x} hx => by
   have hk := h.mem _ (gm hx)
   have hl := hc.st _ (st_in (rep_lt hk))
   refine h.cl _ (gm hx) (((c.states.getD (rep c L (T.getD x 0)) []).getD r ([], 0)).1, kd c L (nxt c (rep c L (T.getD x 0)) r)) ?_
   unfold kPr nxt
   generalize c.states.getD (rep c L (T.getD x 0)) [] = s at hl
   have hr' : r < s.length := by omega
   refine List.mem_map.mpr ⟨s.getD r ([], 0), ?_, rfl⟩
   rw [show s.getD r ([], 0) = s[r] by simp [List.getD, hr']]
   exact List.getElem_mem hr'
  have q := lst_part hc hs h t _ _ (ix_lt (inT hx)) (ix_lt (inT hy)) e3
  rw [ix_get (inT hx), ix_get (inT hy)] at q
  have nx := nxt_lt hc rx hr
  have ny := nxt_lt hc ry hr
  have bx := stab_all hc hs t _ _ (rep_lt (kd_mem (t := L) nx)) nx (rep_kd (kd_mem nx))
  have by' := stab_all hc hs t _ _ (rep_lt (kd_mem (t := L) ny)) ny (rep_kd (kd_mem ny))
  rw [bx, by'] at q
  exact q
theorem lst_sep {c : Mc} (hc : c.Ok) {L : Nat} (hs : Stab c L) {T : List Nat} (h : Cl c L T) {L' : Nat} (hs' : Stab (lst' c L T) L') {x y : Nat} (hx : x < T.length) (hy : y < T.length) (hne : x ≠ y) : kd (lst' c L T) L' x ≠ kd (lst' c L T) L' y := fun e => by
 have gm : ∀ {x}, x < T.length -> T.getD x 0 ∈ T := fun {x} hx => by rw [show T.getD x 0 = T[x] by simp [List.getD, hx]]; exact List.getElem_mem hx
 have e1 := stab_all (h.ok hc) hs' L x y (by rw [lst_len]; exact hx) (by rw [lst_len]; exact hy) e
 have e2 := lst_part hc hs h L x y hx hy e1
 rw [rep_kd (h.mem _ (gm hx)), rep_kd (h.mem _ (gm hy))] at e2
 have := nd_ix h.nd hx
 rw [e2, nd_ix h.nd hy] at this
 exact hne this.symm
noncomputable def nD : Nat -> List Nat -> List (Key × Sv)
 | _, [] => []
 | o, x :: T => (.inl (x : Int), .inl (o : Int)) :: nD (o + 1) T
theorem nD_snoc {x : Nat} : ∀ (T : List Nat) (o : Nat), nD o (T ++ [x]) = nD o T ++ [(.inl (x : Int), .inl ((o + T.length : Nat) : Int))]
 | [], o => rfl
 | y :: T, o => by
  show _ :: nD (o + 1) (T ++ [x]) = _ :: (nD (o + 1) T ++ _)
  rw [nD_snoc T (o + 1), show o + 1 + T.length = o + (y :: T).length by simp; omega]
theorem nD_len : ∀ (T : List Nat) (o : Nat), (nD o T).length = T.length
 | [], _ => rfl
 | _ :: T, o => by show (nD (o + 1) T).length + 1 = _; rw [nD_len T]; rfl
theorem nD_lk {x : Nat} : ∀ (T : List Nat) (o : Nat), lk (nD o T) (.inl (x : Int)) = if x ∈ T then some (.inl ((o + T.idxOf x : Nat) : Int)) else none
 | [], o => by rw [if_neg (by simp)]; rfl
 | y :: T, o => by
  unfold lk
  rw [nD, List.find?_cons]
  by_cases e : y = x
  ·subst e
   simp
  ·rw [decide_eq_false (fun z => e (by injection z with z; omega))]
   show lk (nD (o + 1) T) (.inl (x : Int)) = _
   rw [nD_lk T (o + 1)]
   have e2 : (y :: T).idxOf x = T.idxOf x + 1 := by rw [List.idxOf_cons, beq_false_of_ne e]; rfl
   by_cases h : x ∈ T
   ·rw [if_pos h, if_pos (by simp [h]), e2, show o + 1 + T.idxOf x = o + (T.idxOf x + 1) by omega]
   ·rw [if_neg h, if_neg (by simp [h]; exact fun z => e z.symm)]
theorem nD_put {x : Nat} {T : List Nat} (h : x ∉ T) : putL (nD 0 T) (.inl (x : Int)) (.inl (T.length : Int)) = nD 0 (T ++ [x]) := by
 have e : ∀ (T : List Nat) (o : Nat), x ∉ T -> ((nD o T).any fun p => decide (p.1 = .inl (x : Int))) = false := fun T => by
  induction T with
  | nil => intro _ _; rfl
  | cons y T ih =>
   intro o h
   show (decide ((Sum.inl (y : Int) : Key) = .inl (x : Int)) || (nD (o + 1) T).any _) = false
   have hne : y ≠ x := fun z => h (by simp [z])
   rw [ih (o + 1) (fun z => h (by simp [z])), decide_eq_false (fun z => hne (by injection z with z; omega))]
   rfl
 unfold putL
 rw [if_neg (by rw [e T 0 h]; exact Bool.false_ne_true), nD_snoc, Nat.zero_add]
theorem putDC_ii {e : List S} {i : Nat} {m n : Int} {kvs : List (Key × Sv)} : putDC i (.int m) (.int n) e (some (.dic (.k kvs))) = if kvs.length < 16777216 /\ onlyD i e = true then .nx (e.set i (.dic (.k (putL kvs (.inl n) (.inl m))))) else .no := rfl
theorem cturn_run (r : Nat -> List W -> FR) (w0 w1 : W) (T : List Nat) (hT : T.length <= 50) (sts : List W) (z5 : W) (st : List Pr) (hst : st.length <= 100) (t : List Bool) (f : Nat) :
  l_come_to_0 K a r [.fr w0, .fr w1, .own false (T.map nW50), .dic (.k (nD 0 T)), .own false sts, .fr z5, .own false (st.map encPr), .fr (encB t), .fr (.int (f : Int))] =
   .nx [.fr w0, .fr w1, .own false ((addN T f).map nW50), .dic (.k (nD 0 (addN T f))), .own false sts, .fr z5, .own false ((st ++ [(t, (addN T f).idxOf f)]).map encPr), .fr (encB t), .fr (.int (f : Int))] := by
 unfold l_come_to_0
 walk_at "den"
 rw [nD_lk]
 by_cases h : f ∈ T
 ·have e : addN T f = T := if_pos h
  rw [if_pos h, if_neg (by simp)]
  walk_at "den"
  rw [if_pos (by rfl), if_pos (by rw [List.length_map]; omega), List.map_append, e]
  rfl
 ·have e : addN T f = T ++ [f] := if_neg h
  rw [if_neg h, if_pos (by rfl), putDC_ii, if_pos ⟨by rw [nD_len]; omega, by rfl⟩, List.length_map, nD_put h]
  walk_at "den"
  rw [if_pos (by rw [List.length_map]; omega)]
  walk_at "den"
  rw [nD_lk, if_pos (by simp)]
  walk_at "den"
  rw [if_pos (by rfl), if_pos (by rw [List.length_map]; omega), List.map_append, e, List.map_append]
  rfl
theorem cfor_run (r : Nat -> List W -> FR) (w0 w1 : W) (sts : List W) (z5 : W) : ∀ (ps : List Pr) (T : List Nat) (st : List Pr) (z7 z8 : S), T.length + ps.length <= 50 -> st.length + ps.length <= 100 ->
  ∃ z7' z8', forP 7 8 (l_come_to_0 K a r) (ps.map fun p => (encB p.1, W.int (p.2 : Int))) [.fr w0, .fr w1, .own false (T.map nW50), .dic (.k (nD 0 T)), .own false sts, .fr z5, .own false (st.map encPr), z7, z8] =
   .nx [.fr w0, .fr w1, .own false (((ps.map (·.2)).foldl addN T).map nW50), .dic (.k (nD 0 ((ps.map (·.2)).foldl addN T))), .own false sts, .fr z5, .own false ((st ++ numSt ((ps.map (·.2)).foldl addN T) ps).map encPr), z7', z8']
 | [], T, st, z7, z8, _, _ => ⟨z7, z8, by show SR.nx _ = _; simp [numSt]⟩
 | p :: ps, T, st, z7, z8, h1, h2 => by
  have q := cturn_run (K := K) (a := a) r w0 w1 T (by simp at h1; omega) sts z5 st (by simp at h2; omega) p.1 p.2
  have hl : (addN T p.2).length <= T.length + 1 := by unfold addN; split <;> simp
  obtain ⟨z7', z8', g⟩ := cfor_run r w0 w1 sts z5 ps (addN T p.2) (st ++ [(p.1, (addN T p.2).idxOf p.2)]) (.fr (encB p.1)) (.fr (.int (p.2 : Int))) (by simp at h1; omega) (by simp at h2 |-; omega)
  refine ⟨z7', z8', ?_⟩
  show (l_come_to_0 K a r [.fr w0, .fr w1, .own false (T.map nW50), .dic (.k (nD 0 T)), .own false sts, .fr z5, .own false (st.map encPr), .fr (encB p.1), .fr (.int (p.2 : Int))]).turnT (forP 7 8 (l_come_to_0 K a r) (ps.map fun p => (encB p.1, W.int (p.2 : Int)))) = _
  rw [q]
  walk_at "den"
  rw [g]
  show _ = SR.nx [.fr w0, .fr w1, .own false (((ps.map (·.2)).foldl addN (addN T p.2)).map nW50), .dic (.k (nD 0 ((ps.map (·.2)).foldl addN (addN T p.2)))), .own false sts, .fr z5, .own false ((st ++ numSt ((ps.map (·.2)).foldl addN (addN T p.2)) (p :: ps)).map encPr), z7', z8']
  obtain ⟨m, hm⟩ := foldN_pre (ps.map (·.2)) (addN T p.2)
  have e : (st ++ [(p.1, (addN T p.2).idxOf p.2)]) ++ numSt ((ps.map (·.2)).foldl addN (addN T p.2)) ps = st ++ numSt ((ps.map (·.2)).foldl addN (addN T p.2)) (p :: ps) := by
   unfold numSt
   rw [List.map_cons, List.append_assoc]
   congr 2
   rw [hm, ix_app (addN_in T p.2)]
   rfl
  rw [e]
structure Told53 (K : PySem.W.Frag) (a : Adr) (n : Nat) (j : Nat) (l : Lm) (caps : List W) (g : Nat -> List Pr) (B : Nat -> Prop) : Prop where
 call : ∀ x, B x -> ∀ e, callVK lams (run K a n) j l caps [.int (x : Int)] e = .ok (encSt (g x)) e
 next : ∀ x, B x -> ∀ p ∈ g x, B p.2
 few : ∀ x, B x -> x < 20
 len : ∀ x, B x -> (g x).length <= 8
noncomputable def cEnv (w0 w1 : W) (g : Nat -> List Pr) (b i : Nat) (z5 z6 z7 z8 : S) : List S := [.fr w0, .fr w1, .own false ((bf g b i).map nW50), .dic (.k (nD 0 (bf g b i))), .own false ((((bf g b i).take i).map fun x => numSt (bf g b i) (g x)).map encSt), z5, z6, z7, z8]
theorem cloop_run (n : Nat) {j : Nat} {l : Lm} {caps : List W} {g : Nat -> List Pr} {B : Nat -> Prop} (H : Told53 K a n j l caps g B) (w0 : W) (b : Nat) (hb : B b) : ∀ (fuel i : Nat) (z5 z6 z7 z8 : S), i <= (bf g b i).length -> 21 <= i + fuel ->
  ∃ (I : Nat) (y5 y6 y7 y8 : S), (bf g b I).length = I /\ whileD (w_come_to_0 K a (run K a n)) (l_come_to_1 K a (run K a n)) (fuel + 1) (cEnv w0 (.fn j l caps) g b i z5 z6 z7 z8) = .nx (cEnv w0 (.fn j l caps) g b I y5 y6 y7 y8)
 | 0, i, z5, z6, z7, z8, hi, hf => by
  have := nd_len 20 (bf_nd g b i) (fun x hx => H.few x (bf_all hb H.next i x hx))
  omega
 | fuel + 1, i, z5, z6, z7, z8, hi, hf => by
  have hl := nd_len 20 (bf_nd g b i) (fun x hx => H.few x (bf_all hb H.next i x hx))
  have ht : (((bf g b i).take i).map fun x => numSt (bf g b i) (g x)).length = i := by rw [List.length_map, List.length_take]; omega
  have hw : w_come_to_0 K a (run K a n) (cEnv w0 (.fn j l caps) g b i z5 z6 z7 z8) = .ok (decide (i < (bf g b i).length)) (cEnv w0 (.fn j l caps) g b i z5 z6 z7 z8) := by
   unfold w_come_to_0 cEnv
   walk_at "den"
   have ht2 : ((((bf g b i).take i).map fun x => numSt (bf g b i) (g x)).map encSt).length = i := by rw [List.length_map]; exact ht
   rw [ht2, List.length_map]
   congr 1
   rw [decide_eq_decide]
   omega
  rw [while_s, hw]
  by_cases h : i < (bf g b i).length
  ·have hB : B ((bf g b i).getD i 0) := bf_all hb H.next i _ (by rw [show (bf g b i).getD i 0 = (bf g b i)[i] by simp [List.getD, h]]; exact List.getElem_mem h)
   have hgl := H.len _ hB
   have he : bf g b (i + 1) = ((g ((bf g b i).getD i 0)).map (·.2)).foldl addN (bf g b i) := by
    show (if i < (bf g b i).length then _ else _) = _
    rw [if_pos h]
   obtain ⟨y7, y8, q⟩ := cfor_run (K := K) (a := a) (run K a n) w0 (.fn j l caps) ((((bf g b i).take i).map fun x => numSt (bf g b i) (g x)).map encSt) (.int ((bf g b i).getD i 0 : Int)) (g ((bf g b i).getD i 0)) (bf g b i) [] z7 z8 (by omega) (by rw [List.length_nil]; omega)
   rw [<- he] at q
   have hbd : l_come_to_1 K a (run K a n) (cEnv w0 (.fn j l caps) g b i z5 z6 z7 z8) = .nx (cEnv w0 (.fn j l caps) g b (i + 1) (.fr (.int ((bf g b i).getD i 0 : Int))) (.fr (encSt (numSt (bf g b (i + 1)) (g ((bf g b i).getD i 0))))) y7 y8) := by
    unfold l_come_to_1 cEnv
    walk_at "den"
    rw [List.length_map, ht, at_encK h]
    unfold nW50 at q |-
    walk_at "den"
    rw [H.call _ hB]
    unfold encSt at q |-
    walk_at "den"
    rw [pairs_encPr]
    walk_at "den"
    rw [show ([] : List W) = ([] : List Pr).map encPr from rfl, q]
    walk_at "den"
    rw [if_pos (by rw [List.length_map, ht]; omega), bf_st h, List.map_append]
    rfl
   rw [decide_eq_true h]
   walk_at "den"
   rw [hbd]
   walk_at "den"
   obtain ⟨m, hm⟩ := bf_pre g b i
   exact cloop_run n H w0 b hb fuel (i + 1) _ _ _ _ (by
    have hp : (bf g b i).length <= (bf g b (i + 1)).length := by rw [hm]; simp
    omega) (by omega)
  ·rw [decide_eq_false h]
   walk_at "den"
   exact ⟨i, z5, z6, z7, z8, by omega, rfl⟩
theorem come_run (n : Nat) {j : Nat} {l : Lm} {caps : List W} {g : Nat -> List Pr} {B : Nat -> Prop} (H : Told53 K a n j l caps g B) (b : Nat) (hb : B b) : ∃ I : Nat, (bf g b I).length = I /\
  run K a (n + 1) i_come_to [.int (b : Int), .fn j l caps] = .ok (.fr (.tup [.lst (((bf g b I).map fun x => numSt (bf g b I) (g x)).map encSt), .lst ((bf g b I).map nW50)])) := by
 rw [run_come_to]
 unfold d_come_to
 walk_at "den"
 obtain ⟨I, y5, y6, y7, y8, h1, h2⟩ := cloop_run (K := K) (a := a) n H (.int (b : Int)) b hb 999999 0 .no .no .no .no (by simp) (by omega)
 rw [show (1000000 : Nat) = 999999 + 1 from rfl]
 have e : ([S.fr (W.int (b : Int)), .fr (.fn j l caps), .own false [W.int (b : Int)], .dic (.k [(.inl (b : Int), .inl 0)]), .own false [], .no, .no, .no, .no] : List S) = cEnv (.int (b : Int)) (.fn j l caps) g b 0 .no .no .no .no := rfl
 rw [e, h2]
 unfold cEnv
 walk_at "den"
 refine ⟨I, h1, ?_⟩
 rw [List.take_of_length_le (by omega)]
theorem kloop_run2 (n : Nat) (c : Mc) (hc : c.Ok) : ∀ (fuel t M : Nat), max1 [encK (lev c t)] = some (.int (M : Int)) -> M ∈ lev c t -> (∀ k ∈ lev c t, k <= M) -> t <= M -> M < c.states.length -> c.states.length <= t + fuel ->
  ∃ (L : Nat) (z : S), Stab c L /\ L < c.states.length /\ whileD (w_kinds_by_length_0 K a (run K a (n + 1))) (l_kinds_by_length_0 K a (run K a (n + 1))) (fuel + 1) [.fr (.lst (c.states.map encSt)), .own false (levs c t), .fr (encK (lev c (t + 1)))] = .nx [.fr (.lst (c.states.map encSt)), .own false (levs c L), z] := by
 intro fuel
 induction fuel with
 | zero => intro t M h1 _ _ h2 h3 h4; omega
 | succ fuel ih =>
  intro t M h1 hM1 hM2 h2 h3 h4
  have hmost := hc.most
  obtain ⟨M', m1, m2, m3⟩ := max_K2 (lev_ne hc (t + 1))
  have hM' := lev_lt hc.pos (t + 1) M' m2
  have hw : w_kinds_by_length_0 K a (run K a (n + 1)) [.fr (.lst (c.states.map encSt)), .own false (levs c t), .fr (encK (lev c (t + 1)))] = .ok (decide ((M : Int) < (M' : Int))) [.fr (.lst (c.states.map encSt)), .own false (levs c t), .fr (encK (lev c (t + 1)))] := by
   unfold w_kinds_by_length_0
   walk_at "den"
   rw [m1]
   walk_at "den"
   rw [levs_last]
   walk_at "den"
   rw [h1]
   walk_at "den"
  rw [while_s, hw]
  walk_at "den"
  by_cases hlt : (M : Int) < (M' : Int)
  ·rw [if_pos hlt]
   unfold l_kinds_by_length_0
   walk_at "den"
   rw [if_pos (by rw [levs_len]; omega)]
   walk_at "den"
   rw [finer_run n c hc (lev c (t + 1)) (lev_len c (t + 1))]
   walk_at "den"
   have q := ih (t + 1) M' m1 m2 m3 (by omega) hM' (by omega)
   rw [levs_succ] at q
   exact q
  ·rw [if_neg hlt]
   exact ⟨t, _, stab_of hc hM1 hM2 m3 (by omega), by omega, rfl⟩
theorem kbl_run2 (n : Nat) (c : Mc) (hc : c.Ok) : ∃ L : Nat, Stab c L /\ L < c.states.length /\ run K a (n + 2) i_kinds_by_length [.lst (c.states.map encSt)] = .ok (.own false (levs c L)) := by
 have hmost := hc.most
 have hpos := hc.pos
 rw [run_kinds_by_length]
 unfold d_kinds_by_length
 walk_at "den"
 rw [List.length_map, rep_0 _ (by omega)]
 walk_at "den"
 rw [show atI [encK (List.replicate c.states.length 0)] (-1) = some (encK (lev c 0)) by exact at_last (l := [])]
 walk_at "den"
 rw [finer_run n c hc (lev c 0) (lev_len c 0)]
 walk_at "den"
 obtain ⟨M, m1, m2, m3⟩ := max_K2 (lev_ne hc 0)
 have hM := lev_lt hc.pos 0 M m2
 obtain ⟨L, z, q0, q1, q2⟩ := kloop_run2 (K := K) (a := a) n c hc 999999 0 M m1 m2 m3 (by omega) hM (by omega)
 have e : ([encK (List.replicate c.states.length 0)] : List W) = levs c 0 := rfl
 rw [e]
 rw [show (W.lst (List.map nW50 (fin c (lev c 0)))) = encK (lev c 1) from rfl]
 rw [show (1000000 : Nat) = 999999 + 1 from rfl]
 rw [q2]
 walk_at "den"
 exact ⟨L, q0, q1, rfl⟩
noncomputable def row53 (i k : Nat) : List (Nat × Nat) := (List.range k).map fun j => (i, i + 1 + j)
noncomputable def due53 (N : Nat) : Nat -> List (Nat × Nat)
 | 0 => []
 | i + 1 => due53 N i ++ row53 i (N - (i + 1))
theorem row53_succ (i k : Nat) : row53 i (k + 1) = row53 i k ++ [(i, i + 1 + k)] := by
 unfold row53
 rw [List.range_succ, List.map_append]
 rfl
theorem row53_len (i k : Nat) : (row53 i k).length = k := by unfold row53; simp
theorem due53_mem {N : Nat} : ∀ {i : Nat} {p : Nat × Nat}, p ∈ due53 N i -> p.1 < i
 | 0, p, h => nomatch h
 | i + 1, p, h => by
  rcases List.mem_append.mp h with z | z
  ·have := due53_mem z
   omega
  ·unfold row53 at z
   obtain ⟨j, _, rfl⟩ := List.mem_map.mp z
   show i < i + 1
   omega
theorem row53_mem {i k : Nat} {p : Nat × Nat} (h : p ∈ row53 i k) : p.1 = i /\ p.2 < i + 1 + k := by
 unfold row53 at h
 obtain ⟨j, hj, rfl⟩ := List.mem_map.mp h
 have := List.mem_range.mp hj
 exact ⟨rfl, by show i + 1 + j < _; omega⟩
theorem due53_len {N : Nat} (hN : N <= 20) : ∀ i, (due53 N i).length <= 20 * i
 | 0 => by simp [due53]
 | i + 1 => by
  show (due53 N i ++ row53 i (N - (i + 1))).length <= _
  rw [List.length_append, row53_len]
  have := due53_len hN i
  omega
theorem pturn_run2 (n : Nat) (c : Mc) (hc : c.Ok) (L : Nat) (hL : L < c.states.length) (w0 : W) (ps : List (Nat × Nat)) (i j : Nat) (hij : i < j) (hj : j < c.states.length) (hn : (i, j) ∉ ps) (hl : ps.length <= 1000) (h : kd c L i ≠ kd c L j) :
  l_partings_0 K a (run K a (n + 3)) [.fr w0, .fr (.lst (c.states.map encSt)), .fr (.lst (levs c L)), .fr (encK (lev c L)), .dw (.tup [.int, .int]) (ps.map kx2) (ps.map (rowW c)), .fr (.int (i : Int)), .fr (.int (j : Int))] =
   .nx [.fr w0, .fr (.lst (c.states.map encSt)), .fr (.lst (levs c L)), .fr (encK (lev c L)), .dw (.tup [.int, .int]) ((ps ++ [(i, j)]).map kx2) ((ps ++ [(i, j)]).map (rowW c)), .fr (.int (i : Int)), .fr (.int (j : Int))] := by
 have hi : i < c.states.length := by omega
 have hmost := hc.most
 unfold l_partings_0 encK
 walk_at "den"
 rw [at_lev L hi]
 walk_at "den"
 rw [at_lev L hj]
 walk_at "den"
 obtain ⟨t, t1, t2, t3⟩ := rowsOf_spec hc hi hj h
 rw [if_pos (by simp; omega), rows_run n c hc L t i j hi hj t2 t1 (by omega) _ t3]
 walk_at "den"
 rw [show W.tup [W.int (i : Int), W.int (j : Int)] = pairW (i, j) from rfl, putWC_d (key_pair (i, j)) (by rw [List.length_map]; omega) (by rfl) (fits_pair (i, j)) (by rw [lk_pairs, if_neg hn])]
 rw [List.map_append, List.map_append]
 rfl
theorem pinner_run2 (n : Nat) (c : Mc) (hc : c.Ok) (L : Nat) (hL : L < c.states.length) (hall : ∀ i j, i < j -> j < c.states.length -> kd c L i ≠ kd c L j) (w0 : W) (i : Nat) (hi : i < c.states.length) (z6 : S) :
  ∃ z6' : S, l_partings_1 K a (run K a (n + 3)) [.fr w0, .fr (.lst (c.states.map encSt)), .fr (.lst (levs c L)), .fr (encK (lev c L)), .dw (.tup [.int, .int]) ((due53 c.states.length i).map kx2) ((due53 c.states.length i).map (rowW c)), .fr (.int (i : Int)), z6] =
   .nx [.fr w0, .fr (.lst (c.states.map encSt)), .fr (.lst (levs c L)), .fr (encK (lev c L)), .dw (.tup [.int, .int]) ((due53 c.states.length (i + 1)).map kx2) ((due53 c.states.length (i + 1)).map (rowW c)), .fr (.int (i : Int)), z6'] := by
 have hmost := hc.most
 have hdl := due53_len hmost i
 unfold l_partings_1
 walk_at "den"
 rw [List.length_map, if_pos ⟨okI_of (by omega) (by omega), okI_of (by omega) (by omega)⟩]
 walk_at "den"
 obtain ⟨e', h2, z6', rfl⟩ := for_rangeI (b := l_partings_0 K a (run K a (n + 3))) (i := 6) (lo := (i : Int) + 1) (hi := (c.states.length : Int)) (c.states.length - (i + 1)) (by omega) (fun j e => ∃ z : S, e = [.fr w0, .fr (.lst (c.states.map encSt)), .fr (.lst (levs c L)), .fr (encK (lev c L)), .dw (.tup [.int, .int]) ((due53 c.states.length i ++ row53 i j).map kx2) ((due53 c.states.length i ++ row53 i j).map (rowW c)), .fr (.int (i : Int)), z])
  [.fr w0, .fr (.lst (c.states.map encSt)), .fr (.lst (levs c L)), .fr (encK (lev c L)), .dw (.tup [.int, .int]) ((due53 c.states.length i).map kx2) ((due53 c.states.length i).map (rowW c)), .fr (.int (i : Int)), z6] ⟨z6, by rw [show row53 i 0 = [] from rfl, List.append_nil]⟩ (by
  rintro j e hj ⟨z, rfl⟩
  have r1 := pturn_run2 (K := K) (a := a) n c hc L hL w0 (due53 c.states.length i ++ row53 i j) i (i + 1 + j) (by omega) (by omega) (fun h => by
   rcases List.mem_append.mp h with z | z
   ·have : i < i := due53_mem z
    omega
   ·have : i + 1 + j < i + 1 + j := (row53_mem z).2
    omega) (by rw [List.length_append, row53_len]; omega) (hall i (i + 1 + j) (by omega) (by omega))
  have e1 : ((i : Int) + 1 + (j : Int)) = ((i + 1 + j : Nat) : Int) := by omega
  rw [e1]
  refine ⟨_, r1, .fr (.int ((i + 1 + j : Nat) : Int)), ?_⟩
  rw [row53_succ, List.append_assoc])
 rw [h2]
 exact ⟨z6', rfl⟩
theorem partings_run2 (n : Nat) (c : Mc) (hc : c.Ok) (hall : ∀ L, Stab c L -> ∀ i j, i < j -> j < c.states.length -> kd c L i ≠ kd c L j) : run K a (n + 4) i_partings [encMc c] = .ok (.dw (.tup [.int, .int]) ((due53 c.states.length c.states.length).map kx2) ((due53 c.states.length c.states.length).map (rowW c))) := by
 have hmost := hc.most
 obtain ⟨L, hS, hL, k1⟩ := kbl_run2 (K := K) (a := a) (n + 1) c hc
 rw [run_partings]
 unfold d_partings
 walk_at "den"
 rw [check_run (n + 1) c hc]
 walk_at "den"
 rw [mc_ix2]
 walk_at "den"
 rw [k1]
 walk_at "den"
 rw [levs_last]
 walk_at "den"
 rw [List.length_map, if_pos (okI_of (by omega) (by omega))]
 walk_at "den"
 obtain ⟨e', h2, z5, z6, rfl⟩ := for_rangeI (b := l_partings_1 K a (run K a (n + 3))) (i := 5) (lo := 0) (hi := (c.states.length : Int)) c.states.length (by omega) (fun j e => ∃ z5 z6 : S, e = [.fr (encMc c), .fr (.lst (c.states.map encSt)), .fr (.lst (levs c L)), .fr (encK (lev c L)), .dw (.tup [.int, .int]) ((due53 c.states.length j).map kx2) ((due53 c.states.length j).map (rowW c)), z5, z6])
  [.fr (encMc c), .fr (.lst (c.states.map encSt)), .fr (.lst (levs c L)), .fr (encK (lev c L)), .dw (.tup [.int, .int]) [] [], .no, .no] ⟨_, _, rfl⟩ (by
  rintro j e hj ⟨z5, z6, rfl⟩
  rw [Int.zero_add]
  obtain ⟨z6', r1⟩ := pinner_run2 (K := K) (a := a) n c hc L hL (hall L hS) (encMc c) j hj z6
  exact ⟨_, r1, _, z6', rfl⟩)
 rw [h2]
 walk_at "den"
theorem ints_nW : ∀ ks : List Nat, intsW (ks.map nW50) = some (ks.map fun k : Nat => (k : Int))
 | [] => rfl
 | k :: ks => by
  show (intsW (ks.map nW50)).map _ = _
  rw [ints_nW ks]
  rfl
theorem idxI_nat {k : Nat} : ∀ {ks : List Nat}, k ∈ ks -> idxI (k : Int) (ks.map fun k : Nat => (k : Int)) = some (ks.idxOf k)
 | [], h => nomatch h
 | y :: ks, h => by
  show (if (y : Int) = (k : Int) then some 0 else (idxI (k : Int) (ks.map fun k : Nat => (k : Int))).map (· + 1)) = _
  by_cases e : y = k
  ·subst e
   rw [if_pos rfl, List.idxOf_cons_self]
  ·rw [if_neg (by omega), idxI_nat ((List.mem_cons.mp h).resolve_left fun z => e z.symm), List.idxOf_cons, beq_false_of_ne e]
   rfl
theorem index_nat {k : Nat} {ks : List Nat} (h : k ∈ ks) : indexI (.lst (ks.map nW50)) [.int (k : Int)] = some (.int ((ks.idxOf k : Nat) : Int)) := by
 show (match intsW (ks.map nW50) with
  | some ys => match idxI (k : Int) ys with
   | some j => some (W.int (j : Int))
   | none => none
  | none => none) = _
 rw [ints_nW]
 dsimp only
 rw [idxI_nat h]
theorem nf_bs : ∀ bs : List Bool, noFns (bs.map .bl) = true
 | [] => rfl
 | b :: bs => by show (true && noFns (bs.map .bl)) = true; rw [nf_bs bs]; rfl
theorem nf_pr (p : Pr) : noFn (encPr p) = true := by
 show (noFns (p.1.map .bl) && (true && true)) = true
 rw [nf_bs]; rfl
theorem nf_map {α : Type} {f : α -> W} (h : ∀ x, noFn (f x) = true) : ∀ l : List α, noFns (l.map f) = true
 | [] => rfl
 | x :: l => by show (noFn (f x) && noFns (l.map f)) = true; rw [h x, nf_map h l]; rfl
theorem nf_st (s : List Pr) : noFn (encSt s) = true := nf_map nf_pr s
theorem nf_sts (l : List (List Pr)) : noFn (.lst (l.map encSt)) = true := nf_map nf_st l
theorem nf_K (ks : List Nat) : noFn (.lst (ks.map nW50)) = true := nf_map (fun _ => rfl) ks
theorem pk_run (n : Nat) (c : Mc) (hc : c.Ok) (L k : Nat) (hk : k ∈ lev c L) : run K a (n + 1) i_pairs_of_kind [.lst (c.states.map encSt), encK (lev c L), .int (k : Int)] = .ok (.own false ((kPr c L k).map encPr)) := by
 have hr := rep_lt hk
 have hs := st_in hr
 have hpr := hc.pr _ hs
 have hl := hc.st _ hs
 have p8 : 2 ^ c.m <= 8 := Nat.le_trans (Nat.pow_le_pow_right (by decide) hc.few) (by decide)
 rw [run_pairs_of_kind]
 unfold d_pairs_of_kind encK
 walk_at "den"
 rw [index_nat hk]
 walk_at "den"
 rw [show (((lev c L).idxOf k : Nat) : Int) = ((rep c L k : Nat) : Int) from rfl, at_st hr]
 unfold kPr
 generalize c.states.getD (rep c L k) [] = s at *
 unfold encSt
 walk_at "den"
 rw [pairs_encPr]
 walk_at "den"
 rw [if_pos (by rw [List.length_map]; omega)]
 simp only [frz1, pj1, List.getElem?_cons_succ, List.getElem?_cons_zero]
 rw [compP_map (q := fun _ => true) (g := fun p => .tup [p.1, (ixW (encK (lev c L)) p.2).getD .non])]
 ·walk_at "den"
  rw [List.filter_eq_self.mpr (fun _ _ => rfl), List.map_map, List.map_map]
  congr 2
  refine List.map_congr_left fun p hp => ?_
  show W.tup [encB p.1, (atI ((lev c L).map nW50) (p.2 : Int)).getD .non] = _
  rw [at_encK (by rw [lev_len]; exact (hpr p hp).2)]
  rfl
 ·intro q hq
  obtain ⟨p, hp, rfl⟩ := List.mem_map.mp hq
  refine ⟨_, rfl, fun _ => ?_⟩
  unfold e_pairs_of_kind_0 encK
  walk_at "den"
  rw [at_encK (by rw [lev_len]; exact (hpr p hp).2)]
  walk_at "den"
  exact ⟨_, rfl⟩
theorem told_0 (n : Nat) (c : Mc) (hc : c.Ok) (L : Nat) : Told53 K a (n + 2) 19 L_small_0 [.lst (c.states.map encSt), encK (lev c L)] (kPr c L) (· ∈ lev c L) where
 call := fun x hx e => by
  refine callVK_of lams_small_0 rfl (by show (noFn (.lst (c.states.map encSt)) && (noFn (encK (lev c L)) && true)) = true; rw [nf_sts, show noFn (encK (lev c L)) = true from nf_K _]; rfl) ?_
  show run K a (n + 2) i_lam_small_0 [.int (x : Int), .lst (c.states.map encSt), encK (lev c L)] = _
  rw [run_lam_small_0]
  unfold d_lam_small_0
  walk_at "den"
  rw [pk_run n c hc L x hx]
  walk_at "den"
  rfl
 next := fun x hx => kPr_mem hc hx
 few := fun x hx => by
  have := lev_lt hc.pos L x hx
  have := hc.most
  omega
 len := fun x hx => by
  have p8 : 2 ^ c.m <= 8 := Nat.le_trans (Nat.pow_le_pow_right (by decide) hc.few) (by decide)
  unfold kPr
  rw [List.length_map, hc.st _ (st_in (rep_lt hx))]
  exact p8
theorem told_1 (n : Nat) (c : Mc) (hc : c.Ok) : Told53 K a (n + 1) 20 L_small_1 [.lst (c.states.map encSt)] (fun x => c.states.getD x []) (· < c.states.length) where
 call := fun x hx e => by
  refine callVK_of lams_small_1 rfl (by show (noFn (.lst (c.states.map encSt)) && true) = true; rw [nf_sts]; rfl) ?_
  show run K a (n + 1) i_lam_small_1 [.int (x : Int), .lst (c.states.map encSt)] = _
  rw [run_lam_small_1]
  unfold d_lam_small_1
  walk_at "den"
  rw [at_st hx]
  walk_at "den"
  rfl
 next := fun x hx p hp => (hc.pr _ (st_in hx) p hp).2
 few := fun x hx => by
  have := hc.most
  omega
 len := fun x hx => by
  have p8 : 2 ^ c.m <= 8 := Nat.le_trans (Nat.pow_le_pow_right (by decide) hc.few) (by decide)
  rw [hc.st _ (st_in hx)]
  exact p8
theorem cl_of {c : Mc} (hc : c.Ok) {L I : Nat} (h : (bf (kPr c L) (kd c L 0) I).length = I) : Cl c L (bf (kPr c L) (kd c L 0) I) where
 nd := bf_nd _ _ _
 mem := bf_all (B := (· ∈ lev c L)) (kd_mem hc.pos) (fun x hx => kPr_mem hc hx) I
 pos := by
  obtain ⟨m, e⟩ := bf_head (kPr c L) (kd c L 0) I
  rw [e]; simp
 cl := fun k hk => bf_cl I (by omega) k (by rw [List.take_of_length_le (by omega)]; exact hk)
theorem come_kd {c : Mc} (hc : c.Ok) {L : Nat} (hs : Stab c L) {T : List Nat} (h : Cl c L T) (h0 : kd c L 0 ∈ T) (i : Nat) : ∀ x ∈ bf (fun x => c.states.getD x []) 0 i, x < c.states.length /\ kd c L x ∈ T :=
 bf_all (B := fun x => x < c.states.length /\ kd c L x ∈ T) ⟨hc.pos, h0⟩ (fun x hx p hp => by
  have hl := hc.st _ (st_in hx.1)
  have hp2 := (hc.pr _ (st_in hx.1) p hp).2
  refine ⟨hp2, ?_⟩
  obtain ⟨r, hr, e⟩ := List.getElem_of_mem hp
  have hk := kd_mem (t := L) hx.1
  have e1 : nxt c x r = p.2 := by
   unfold nxt
   rw [<- e]
   generalize c.states.getD x [] = s at hr
   simp [List.getD, hr]
  have q := ((kd_succ hc (rep_lt hk) hx.1).mp (hs _ _ (rep_lt hk) hx.1 (rep_kd hk)) r (by omega)).2
  rw [e1] at q
  rw [<- q]
  have hl2 := hc.st _ (st_in (rep_lt hk))
  refine h.cl _ hx.2 (((c.states.getD (rep c L (kd c L x)) []).getD r ([], 0)).1, kd c L (nxt c (rep c L (kd c L x)) r)) ?_
  unfold kPr nxt
  generalize c.states.getD (rep c L (kd c L x)) [] = s at hl2
  have hr' : r < s.length := by omega
  refine List.mem_map.mpr ⟨s.getD r ([], 0), ?_, rfl⟩
  rw [show s.getD r ([], 0) = s[r] by simp [List.getD, hr']]
  exact List.getElem_mem hr') i
theorem rep_non (m : Nat) (h : m <= 100) : repL (.lst [.non]) (.int (m : Int)) = some (List.replicate m .non) := by
 show (if okI (m : Int) = true /\ ([W.non] : List W).length * (m : Int).toNat <= 16777216 then some (List.replicate (m : Int).toNat [W.non]).flatten else none) = _
 rw [if_pos ⟨okI_of (by omega) (by omega), by rw [Int.toNat_natCast]; simp; omega⟩, Int.toNat_natCast, List.flatten_replicate_singleton]
theorem sturn_run (n : Nat) (c : Mc) (L : Nat) (T : List Nat) (w0 w1 w3 : W) (x : Nat) (hx : x < c.states.length) (hk : kd c L x ∈ T) (ws : List W) (hw : ws.length = c.states.length) :
  ∃ ws' : List W, ws'.length = c.states.length /\ l_small_0 K a (run K a n) [.fr w0, .fr w1, .fr (encK (lev c L)), .fr (.tup [w3, .lst (T.map nW50)]), .own false ws, .fr (.int (x : Int))] = .nx [.fr w0, .fr w1, .fr (encK (lev c L)), .fr (.tup [w3, .lst (T.map nW50)]), .own false ws', .fr (.int (x : Int))] := by
 unfold l_small_0 encK
 walk_at "den"
 rw [at_lev L hx]
 walk_at "den"
 rw [index_nat hk]
 walk_at "den"
 rw [show ixN ws.length (x : Int) = some x by unfold ixN; rw [if_pos (by omega), if_pos (by omega)]; rfl]
 walk_at "den"
 exact ⟨_, by rw [List.length_set]; exact hw, rfl⟩
theorem small_run (n : Nat) (c : Mc) (hc : c.Ok) : ∃ (L I : Nat) (ws : List W), Stab c L /\ (bf (kPr c L) (kd c L 0) I).length = I /\ run K a (n + 4) i_small [encMc c] = .ok (.fr (.tup [encMc (lst' c L (bf (kPr c L) (kd c L 0) I)), .lst ws])) := by
 have hmost := hc.most
 have hpos := hc.pos
 obtain ⟨L, hS, hL, k1⟩ := kbl_run2 (K := K) (a := a) (n + 1) c hc
 obtain ⟨I, hI, c1⟩ := come_run (K := K) (a := a) (n + 2) (told_0 n c hc L) (kd c L 0) (kd_mem hc.pos)
 obtain ⟨J, hJ, c2⟩ := come_run (K := K) (a := a) (n + 2) (told_1 (n + 1) c hc) 0 hc.pos
 have hcl := cl_of hc hI
 have h0 : kd c L 0 ∈ bf (kPr c L) (kd c L 0) I := by
  obtain ⟨m, e⟩ := bf_head (kPr c L) (kd c L 0) I
  rw [e]; simp
 have hck := come_kd hc hS hcl h0 J
 rw [run_small]
 unfold d_small
 walk_at "den"
 rw [check_run (n + 1) c hc]
 walk_at "den"
 rw [mc_ix2]
 walk_at "den"
 rw [k1]
 walk_at "den"
 rw [levs_last]
 walk_at "den"
 rw [show ixW (encK (lev c L)) (.int 0) = some (.int ((kd c L 0 : Nat) : Int)) from at_encK (i := 0) (by rw [lev_len]; exact hpos)]
 walk_at "den"
 generalize hT : bf (kPr c L) (kd c L 0) I = T at *
 rw [show capsOf [1, 2] [S.fr (encMc c), S.fr (W.lst (List.map encSt c.states)), S.fr (encK (lev c L)), S.no, S.no, S.no] = some [.lst (c.states.map encSt), encK (lev c L)] from rfl, lamCallK_some, c1, lamRes_fr (by show (noFn (.lst ((T.map fun x => numSt T (kPr c L x)).map encSt)) && (noFn (.lst (T.map nW50)) && true)) = true; rw [nf_sts, nf_K]; rfl)]
 walk_at "den"
 rw [List.length_map, rep_non _ (by omega)]
 walk_at "den"
 rw [show ∀ s3 s4 : S, capsOf [1] [S.fr (encMc c), S.fr (W.lst (List.map encSt c.states)), S.fr (encK (lev c L)), s3, s4, S.no] = some [.lst (c.states.map encSt)] from fun _ _ => rfl, lamCallK_some]
 rw [show (W.int 0) = W.int ((0 : Nat) : Int) from rfl, c2, lamRes_fr (by show (noFn (.lst _) && (noFn (.lst _) && true)) = true; rw [nf_sts, nf_K]; rfl)]
 walk_at "den"
 obtain ⟨e', f1, ws, z5, f2, rfl⟩ := for_inv (b := l_small_0 K a (run K a (n + 3))) (i := 5) (fun _ e => ∃ (ws : List W) (z5 : S), ws.length = c.states.length /\ e = [S.fr (encMc c), S.fr (W.lst (List.map encSt c.states)), S.fr (encK (lev c L)), S.fr (W.tup [W.lst (List.map encSt (List.map (fun x => numSt T (kPr c L x)) T)), W.lst (List.map nW50 T)]), S.own false ws, z5])
  (List.map nW50 (bf (fun x => c.states.getD x []) 0 J)) 0 [S.fr (encMc c), S.fr (W.lst (List.map encSt c.states)), S.fr (encK (lev c L)), S.fr (W.tup [W.lst (List.map encSt (List.map (fun x => numSt T (kPr c L x)) T)), W.lst (List.map nW50 T)]), S.own false (List.replicate c.states.length W.non), S.no] ⟨_, _, List.length_replicate, rfl⟩ (by
  rintro j w e hw ⟨ws, z5, h1, rfl⟩
  obtain ⟨x, hx, rfl⟩ := List.mem_map.mp hw
  obtain ⟨x1, x2⟩ := hck x hx
  obtain ⟨ws', w1, w2⟩ := sturn_run (K := K) (a := a) (n + 3) c L T (encMc c) (W.lst (List.map encSt c.states)) (W.lst (List.map encSt (List.map (fun x => numSt T (kPr c L x)) T))) x x1 x2 ws h1
  exact ⟨_, w2, ws', _, w1, rfl⟩)
 rw [f1]
 walk_at "den"
 rw [mc_ix0]
 walk_at "den"
 rw [mc_ix1]
 walk_at "den"
 refine ⟨L, I, ws, hS, by rw [hT]; exact hI, ?_⟩
 rw [hT]
 rfl
theorem nin_nat (f : Nat) (F : List Nat) : ninW (.int (f : Int)) (.lst (F.map nW50)) = some (.bl (!decide (f ∈ F))) := by
 have h1 : ∀ F : List Nat, (F.map nW50).all scalW = true := fun F => by
  induction F with
  | nil => rfl
  | cons x F ih => show (true && (F.map nW50).all scalW) = true; rw [ih]; rfl
 have h2 : ∀ F : List Nat, ((F.map nW50).any fun y => eqS y (.int (f : Int))) = decide (f ∈ F) := fun F => by
  induction F with
  | nil => rfl
  | cons x F ih =>
   show (eqS (.int (x : Int)) (.int (f : Int)) || (F.map nW50).any _) = _
   rw [ih]
   show (decide ((x : Int) = (f : Int)) || decide (f ∈ F)) = _
   by_cases e : x = f
   ·simp [e]
   ·rw [decide_eq_false (by omega)]
    simp
    exact fun z => absurd z.symm e
 show (if scalW (.int (f : Int)) = true /\ (F.map nW50).all scalW = true then some (W.bl (!(F.map nW50).any fun y => eqS y (.int (f : Int)))) else none) = _
 rw [if_pos ⟨rfl, h1 F⟩, h2 F]
theorem lcturn_run (r : Nat -> List W -> FR) (w0 w2 : W) (F : List Nat) (hF : F.length <= 50) (p : Pr) : l__law_come_to_0 K a r [.fr w0, .own false (F.map nW50), .fr w2, .fr (encPr p)] = .nx [.fr w0, .own false ((addN F p.2).map nW50), .fr w2, .fr (encPr p)] := by
 unfold l__law_come_to_0 encPr
 walk_at "den"
 rw [nin_nat]
 walk_at "den"
 by_cases h : p.2 ∈ F
 ·rw [decide_eq_true h, show addN F p.2 = F from if_pos h]
  walk_at "den"
 ·rw [decide_eq_false h, show addN F p.2 = F ++ [p.2] from if_neg h]
  walk_at "den"
  rw [if_pos (by rw [List.length_map]; omega), List.map_append]
  rfl
theorem lcfor_run (r : Nat -> List W -> FR) (w0 w2 : W) : ∀ (s : List Pr) (F : List Nat) (z3 : S), F.length + s.length <= 50 ->
  ∃ z3', forD 3 (l__law_come_to_0 K a r) (s.map encPr) [.fr w0, .own false (F.map nW50), .fr w2, z3] = .nx [.fr w0, .own false (((s.map (·.2)).foldl addN F).map nW50), .fr w2, z3']
 | [], F, z3, _ => ⟨z3, rfl⟩
 | p :: s, F, z3, h => by
  have hl : (addN F p.2).length <= F.length + 1 := by unfold addN; split <;> simp
  have q := lcturn_run (K := K) (a := a) r w0 w2 F (by simp at h; omega) p
  obtain ⟨z3', g⟩ := lcfor_run r w0 w2 s (addN F p.2) (.fr (encPr p)) (by simp at h; omega)
  refine ⟨z3', ?_⟩
  show (l__law_come_to_0 K a r [.fr w0, .own false (F.map nW50), .fr w2, .fr (encPr p)]).turnT (forD 3 (l__law_come_to_0 K a r) (s.map encPr)) = _
  rw [q]
  walk_at "den"
  exact g
theorem bf_get {g : Nat -> List Pr} {b i j : Nat} (h : i < (bf g b j).length) (d : Nat) : (bf g b (j + d)).getD i 0 = (bf g b j).getD i 0 := by
 obtain ⟨m, hm⟩ := bf_pres g b j d
 rw [hm]
 unfold List.getD
 rw [List.getElem?_append_left h]
theorem kPr_len {c : Mc} (hc : c.Ok) {L k : Nat} (h : k ∈ lev c L) : (kPr c L k).length <= 8 := by
 have p8 : 2 ^ c.m <= 8 := Nat.le_trans (Nat.pow_le_pow_right (by decide) hc.few) (by decide)
 unfold kPr
 rw [List.length_map, hc.st _ (st_in (rep_lt h))]
 exact p8
theorem lc_run (n : Nat) (c : Mc) (hc : c.Ok) (L I : Nat) (hI : (bf (kPr c L) (kd c L 0) I).length = I) : run K a (n + 1) i__law_come_to [.lst ((lst' c L (bf (kPr c L) (kd c L 0) I)).states.map encSt)] = .ok (.own false ((List.range I).map nW50)) := by
 have hcl := cl_of hc hI
 have hok := hcl.ok hc
 have hmost := hok.most
 have hlen : (lst' c L (bf (kPr c L) (kd c L 0) I)).states.length = I := by rw [lst_len]; exact hI
 have p8 : 2 ^ c.m <= 8 := Nat.le_trans (Nat.pow_le_pow_right (by decide) hc.few) (by decide)
 rw [run__law_come_to]
 unfold d__law_come_to
 walk_at "den"
 rw [List.length_map, hlen, if_pos (okI_of (by omega) (by omega))]
 walk_at "den"
 obtain ⟨e', h2, z2, z3, rfl⟩ := for_rangeI (b := l__law_come_to_1 K a (run K a n)) (i := 2) (lo := 0) (hi := (I : Int)) I (by omega) (fun j e => ∃ z2 z3 : S, e = [.fr (.lst ((lst' c L (bf (kPr c L) (kd c L 0) I)).states.map encSt)), .own false ((List.range (bf (kPr c L) (kd c L 0) j).length).map nW50), z2, z3])
  [.fr (.lst ((lst' c L (bf (kPr c L) (kd c L 0) I)).states.map encSt)), .own false [.int 0], .no, .no] ⟨_, _, rfl⟩ (by
  rintro j e hj ⟨z2, z3, rfl⟩
  rw [Int.zero_add]
  show ∃ e', l__law_come_to_1 K a (run K a n) [.fr (.lst ((lst' c L (bf (kPr c L) (kd c L 0) I)).states.map encSt)), .own false ((List.range (bf (kPr c L) (kd c L 0) j).length).map nW50), .fr (.int (j : Int)), z3] = _ /\ _
  unfold l__law_come_to_1
  walk_at "den"
  rw [List.length_map, List.length_range]
  by_cases h : j < (bf (kPr c L) (kd c L 0) j).length
  ·rw [if_pos (by omega), show atI ((List.range (bf (kPr c L) (kd c L 0) j).length).map nW50) (j : Int) = some (.int (j : Int)) by
    rw [at_encK (by rw [List.length_range]; exact h)]
    simp [List.getD, h, nW50]]
   walk_at "den"
   rw [at_st (by rw [hlen]; exact hj), lst_at (by rw [hI]; exact hj)]
   unfold encSt
   walk_at "den"
   have hle : (bf (kPr c L) (kd c L 0) j).length <= 20 := nd_len 20 (bf_nd _ _ _) fun x hx => by
    have := lev_lt hc.pos L x (bf_all (B := (· ∈ lev c L)) (kd_mem hc.pos) (fun x hx => kPr_mem hc hx) j x hx)
    have := hc.most
    omega
   have ex : (bf (kPr c L) (kd c L 0) I).getD j 0 = (bf (kPr c L) (kd c L 0) j).getD j 0 := by
    rw [show I = j + (I - j) by omega]
    exact bf_get h _
   have hx : (bf (kPr c L) (kd c L 0) j).getD j 0 ∈ lev c L := bf_all (B := (· ∈ lev c L)) (kd_mem hc.pos) (fun x hx => kPr_mem hc hx) j _ (by rw [show (bf (kPr c L) (kd c L 0) j).getD j 0 = (bf (kPr c L) (kd c L 0) j)[j] by simp [List.getD, h]]; exact List.getElem_mem h)
   have hkl : (kPr c L ((bf (kPr c L) (kd c L 0) j).getD j 0)).length <= 8 := kPr_len hc hx
   obtain ⟨z3', q⟩ := lcfor_run (K := K) (a := a) (run K a n) (.lst ((lst' c L (bf (kPr c L) (kd c L 0) I)).states.map encSt)) (.int (j : Int)) (numSt (bf (kPr c L) (kd c L 0) I) (kPr c L ((bf (kPr c L) (kd c L 0) I).getD j 0))) (List.range (bf (kPr c L) (kd c L 0) j).length) z3 (by unfold numSt; rw [List.length_map, List.length_range, ex]; omega)
   unfold encSt at q
   rw [q]
   obtain ⟨m, hm⟩ := bf_pres (kPr c L) (kd c L 0) (j + 1) (I - (j + 1))
   rw [show j + 1 + (I - (j + 1)) = I by omega] at hm
   have he : bf (kPr c L) (kd c L 0) (j + 1) = ((kPr c L ((bf (kPr c L) (kd c L 0) j).getD j 0)).map (·.2)).foldl addN (bf (kPr c L) (kd c L 0) j) := by
    show (if j < (bf (kPr c L) (kd c L 0) j).length then _ else _) = _
    rw [if_pos h]
   have fn := fold_num ((kPr c L ((bf (kPr c L) (kd c L 0) j).getD j 0)).map (·.2)) (bf (kPr c L) (kd c L 0) j) m (bf (kPr c L) (kd c L 0) I) (by rw [<- he]; exact hm)
   refine ⟨_, rfl, .fr (.int (j : Int)), z3', ?_⟩
   rw [<- he] at fn
   rw [<- fn, ex]
   unfold numSt
   rw [List.map_map, List.map_map]
   rfl
  ·rw [if_neg (by omega)]
   have he : bf (kPr c L) (kd c L 0) (j + 1) = bf (kPr c L) (kd c L 0) j := by
    show (if j < (bf (kPr c L) (kd c L 0) j).length then _ else _) = _
    rw [if_neg h]
   refine ⟨_, rfl, .fr (.int (j : Int)), z3, ?_⟩
   rw [he])
 rw [h2]
 walk_at "den"
 rw [hI]
theorem eqWs_ns : ∀ rs : List Nat, eqWs (rs.map nW50) (rs.map nW50) = some true
 | [] => rfl
 | r :: rs => by
  show (match eqW (nW50 r) (nW50 r), eqWs (rs.map nW50) (rs.map nW50) with | some p, some q => some (p && q) | _, _ => none) = _
  rw [eqWs_ns rs]
  simp [eqW, nW50]
theorem dep_ns : ∀ rs : List Nat, depWs (rs.map nW50) = 0
 | [] => rfl
 | r :: rs => by show max 0 (depWs (rs.map nW50)) = 0; rw [dep_ns rs]; rfl
theorem ne_ns (rs : List Nat) : ne2 (.lst (rs.map nW50)) (.lst (rs.map nW50)) = some (.bl false) := by
 unfold ne2
 rw [if_pos (show depW (.lst (rs.map nW50)) <= 150 by show depWs _ + 1 <= 150; rw [dep_ns]; decide)]
 simp [eqW, eqWs_ns]
theorem eqW_pair (p : Nat × Nat) : eqW (pairW p) (pairW p) = some true := by simp [pairW, eqW, eqWs]
theorem eqWs_pairs : ∀ ps : List (Nat × Nat), eqWs (ps.map pairW) (ps.map pairW) = some true
 | [] => rfl
 | p :: ps => by
  show (match eqW (pairW p) (pairW p), eqWs (ps.map pairW) (ps.map pairW) with | some p, some q => some (p && q) | _, _ => none) = _
  rw [eqWs_pairs ps, eqW_pair]
  rfl
theorem dep_pairs : ∀ ps : List (Nat × Nat), depWs (ps.map pairW) <= 1
 | [] => by show 0 <= 1; decide
 | p :: ps => by
  show max (depW (pairW p)) (depWs (ps.map pairW)) <= 1
  have h : depW (pairW p) = 1 := rfl
  have := dep_pairs ps
  rw [h]
  omega
theorem eq_pairs (ps : List (Nat × Nat)) : eq2 (.lst (ps.map pairW)) (.lst (ps.map pairW)) = some (.bl true) := by
 unfold eq2
 rw [if_pos (show depW (.lst (ps.map pairW)) <= 150 by show depWs _ + 1 <= 150; have := dep_pairs ps; omega)]
 simp [eqW, eqWs_pairs]
theorem due_turn (n : Nat) (w0 w1 w2 : W) (I j : Nat) (hI : I <= 20) (hj : j < I) : l_law_0 K a (run K a n) [.fr w0, .fr w1, .fr w2, .fr (.int (I : Int)), .fr (.lst ((due53 I j).map pairW)), .fr (.int (j : Int))] = .nx [.fr w0, .fr w1, .fr w2, .fr (.int (I : Int)), .fr (.lst ((due53 I (j + 1)).map pairW)), .fr (.int (j : Int))] := by
 have hdl := due53_len hI j
 unfold l_law_0
 walk_at "den"
 rw [if_pos ⟨okI_of (by omega) (by omega), okI_of (by omega) (by omega)⟩]
 have er : rangeW ((j : Int) + 1) (I : Int) = (List.range (I - (j + 1))).map fun k : Nat => W.int ((j : Int) + 1 + (k : Int)) := by
  unfold rangeW
  rw [show ((I : Int) - ((j : Int) + 1)).toNat = I - (j + 1) by omega]
 rw [er]
 walk_at "den"
 rw [if_pos (by rw [List.length_map, List.length_range]; omega)]
 simp only [frz1, pj1, List.getElem?_cons_succ, List.getElem?_cons_zero]
 rw [D.comp_map (g := fun w => W.tup [.int (j : Int), w])]
 ·walk_at "den"
  rw [List.map_map, if_pos (by rw [List.length_map, List.length_map, List.length_range]; omega)]
  have ed : due53 I (j + 1) = due53 I j ++ row53 j (I - (j + 1)) := rfl
  rw [ed, List.map_append]
  unfold row53
  rw [List.map_map]
  rfl
 ·intro w hw
  unfold e_law_0
  walk_at "den"
  exact ⟨_, rfl⟩
theorem law_true {mg : Str -> Option Value} (M : Exs K mg a) (ns : List Int) (hl : ns.length <= 63) : run K a 151 i_law [.lst (ns.map .int)] = .ok (.fr (.bl true)) := by
 rw [run_law]
 unfold d_law
 walk_at "den"
 obtain ⟨c, hc, r1⟩ := machine_run (K := K) (a := a) 147 ns 0
 have r1 : run K a 150 i__law_machine [.lst (ns.map .int), .int 0] = _ := r1
 rw [r1]
 walk_at "den"
 obtain ⟨L, I, ws, hS, hI, s1⟩ := small_run (K := K) (a := a) 146 c hc
 have s1 : run K a 150 i_small [encMc c] = _ := s1
 rw [s1]
 walk_at "den"
 have lc := lc_run (K := K) (a := a) 149 c hc L I hI
 have hcl := cl_of hc hI
 have hok := hcl.ok hc
 have hlen := hcl.len hc
 have hsep := fun L' (h : Stab (lst' c L (bf (kPr c L) (kd c L 0) I)) L') i j (h1 : i < j) (h2 : j < (lst' c L (bf (kPr c L) (kd c L 0) I)).states.length) => lst_sep hc hS hcl h (x := i) (y := j) (by rw [lst_len] at h2; omega) (by rw [lst_len] at h2; omega) (by omega)
 have pr := partings_run2 (K := K) (a := a) 146 _ hok hsep
 have hsz : (lst' c L (bf (kPr c L) (kd c L 0) I)).states.length = I := by rw [lst_len]; exact hI
 rw [hI] at hlen
 have hm := hok.most
 have hcm := hc.most
 generalize lst' c L (bf (kPr c L) (kd c L 0) I) = c' at *
 rw [mc_ix2]
 walk_at "den"
 rw [mc_ix2]
 walk_at "den"
 rw [List.length_map, List.length_map, hsz]
 rw [if_neg (by omega), mc_ix2]
 walk_at "den"
 have lc : run K a 150 i__law_come_to [W.lst (List.map encSt c'.states)] = _ := lc
 rw [lc]
 walk_at "den"
 rw [listR_i (by omega)]
 walk_at "den"
 rw [show ((List.range I).map fun (k : Nat) => W.int (k : Int)) = (List.range I).map nW50 from rfl, ne_ns]
 walk_at "den"
 rw [if_pos (okI_of (by omega) (by omega))]
 walk_at "den"
 obtain ⟨e', h2, z5, rfl⟩ := for_rangeI (b := l_law_0 K a (run K a 150)) (i := 5) (lo := 0) (hi := (I : Int)) I (by omega) (fun j e => ∃ z5 : S, e = [.fr (.lst (ns.map .int)), .fr (encMc c), .fr (encMc c'), .fr (.int (I : Int)), .fr (.lst ((due53 I j).map pairW)), z5])
  [.fr (.lst (ns.map .int)), .fr (encMc c), .fr (encMc c'), .fr (.int (I : Int)), .fr (.lst []), .no] ⟨_, rfl⟩ (by
  rintro j e hj ⟨z5, rfl⟩
  rw [Int.zero_add]
  exact ⟨_, due_turn 150 _ _ _ I j (by omega) hj, _, rfl⟩)
 rw [h2]
 walk_at "den"
 have pr : run K a 150 i_partings [encMc c'] = _ := pr
 rw [pr]
 walk_at "den"
 rw [List.map_map, hsz]
 rw [show (wK ∘ kx2) = pairW from rfl, eq_pairs]
 walk_at "den"
end
theorem walk {l : PySem.W.OpenLaw} {q : Program} {loose : List Str} {XP : (Str -> Option Value) -> Heap -> Prop} {YP : World -> Heap -> Prop} {d : DefRec} {K : Params -> PySem.W.Frag} {tabs : List (Addr × Str)} (hn : l.most = some 63) (hdf : d.params.defaults = [])
  (hY : ∀ (w : World) (h : Heap), YP w h -> (K w.params).In h) (hT : ∀ (w : World) (h : Heap), YP w h -> ∀ P ∈ tabs.map (·.1), h.get? P = some (PySem.W.tabObj #[]))
  (hG : ∀ w : World, ((D.dropT (K w.params)).lookup mainGlobals).isSome = true) (hNM : ∀ w : World, noMark (K w.params) = true) (hd : tabs.all (fun p => tabs.lookup p.1 == some p.2) = true)
  (hK : ∀ w : World, tabs.all (fun p => ((D.dropT (K w.params)).lookup p.1).isNone) = true) (hc : ∀ w : World, ∀ p ∈ tabs, ∃ c, PySem.W.codeHdIn (K w.params) c p.1 = true)
  (F : ∀ (w : World) (mg : Str -> Option Value) (fa : Addr) (h : Heap), (D.markT (D.dropT (K w.params)) tabs).In h -> h.Ns mainGlobals mg -> mg d.name = some (.ref fa) ->
   ∃ fd : FuncData, (∀ (s : Shared) (u : Value), BindsTo s fd ⟨[u], []⟩ [("_law_script", u)]) /\ ∀ base : Heap, (D.markT (D.dropT (K w.params)) tabs).In base -> base.Ns mainGlobals mg -> BMain base mg -> FnOk l.prog w (D.markT (D.dropT (K w.params)) tabs) mg base (CX1 l.prog w) 151 fa fd ["_law_script"] (spLaw (D.markT (D.dropT (K w.params)) tabs))) :
  PySem.W.WalkO q loose XP YP l.row.toRowW d [] (fun f vs => PySem.call f vs) :=
 L2.walk_ofT (K := fun p => D.markT (D.dropT (K p)) tabs) (tabs := tabs) (n := 63) (k := 151) (x := "_law_script") (CX := fun w => CX1 l.prog w) (sp := fun w => spLaw (D.markT (D.dropT (K w.params)) tabs)) hn (by decide) hdf ⟨rfl, by decide, by decide, rfl⟩ (fun w h Y => D.in_m (hG w) (D.dropT_in (hY w h Y))) F (fun _ _ a ns hl hS => ⟨a, ns, rfl, hS, hl, fun _ => rfl⟩) (fun _ _ _ _ _ z => cx1_no z)
  (fun w => D.marks_look (D.noMark_drop (hNM w)) hd) (fun w h Y => D.tabs_at (hY w h Y) (hT w h Y) (hc w)) (fun w => D.tabs_none (hG w) (hK w))
end Q
open PySem PySem.W PyProof.Rows
set_option maxRecDepth 100000 in
set_option maxHeartbeats 0 in
theorem PySem.Challenge.cw_circuits_k53_small_fewest_holds : PySem.Challenge.rw_circuits_k53_small_fewest.Holds := by
 w_on; o_law; k_head; (case hw => w_witness2)
 k_fill
 refine Q.walk (l := PySem.Challenge.rw_circuits_k53_small_fewest) (tabs := [(109, ("small" ++ ".<locals>.") ++ "<lambda>")]) rfl rfl (fun w h Y => PySem.W.km_in_of Y) (fun w h Y => PySem.W.km_tabs_of Y) (fun w => by kernel_rfl) (fun w => by kernel_rfl) (by decide +kernel) (fun w => by kernel_rfl) (fun w => List.forall_mem_cons.mpr ⟨⟨113, by kernel_rfl⟩, fun _ h => nomatch h⟩) ?F
 case F =>
  intro w mg fa h KX G hmg
  refine' Q.mk KX G hmg ?a0 ?l0 ?c0 ?k0 ?a1 ?l1 ?c1 ?k1 ?a2 ?l2 ?c2 ?k2 ?a3 ?l3 ?c3 ?k3 ?a4 ?l4 ?c4 ?k4 ?a5 ?l5 ?c5 ?k5 ?a6 ?l6 ?c6 ?k6 ?a7 ?l7 ?c7 ?k7 ?a8 ?l8 ?c8 ?k8 ?a9 ?l9 ?c9 ?k9 ?a10 ?l10 ?c10 ?k10 ?a11 ?l11 ?c11 ?k11 ?a12 ?l12 ?c12 ?k12 ?a13 ?l13 ?c13 ?k13 ?a14 ?l14 ?c14 ?k14 ?a15 ?l15 ?c15 ?k15 ?a16 ?l16 ?c16 ?k16 ?a17 ?l17 ?c17 ?k17 ?a18 ?l18 ?c18 ?k18 ?v10 ?h10 ?m10 ?n_CircuitError ?n_NoMachine ?z_int ?z_len ?z_list ?z_max ?z_min ?z_range ?z_tuple ?e_NoMachine ?nt 150 ?hL
  (case a0 => exact D.ns_m (D.nsIn_drop (by k_is) (by kernel_rfl)))
  (case l0 => exact D.look_m (D.lookup_drop (by k_is) (by kernel_rfl)))
  (case c0 => exact D.code_m (D.codeIn_drop (by k_is) (by kernel_rfl)))
  (case k0 => exact D.keep_m (by kernel_rfl))
  (case a1 => exact D.ns_m (D.nsIn_drop (by k_is) (by kernel_rfl)))
  (case l1 => exact D.look_m (D.lookup_drop (by k_is) (by kernel_rfl)))
  (case c1 => exact D.code_m (D.codeIn_drop (by k_is) (by kernel_rfl)))
  (case k1 => exact D.keep_m (by kernel_rfl))
  (case a2 => exact D.ns_m (D.nsIn_drop (by k_is) (by kernel_rfl)))
  (case l2 => exact D.look_m (D.lookup_drop (by k_is) (by kernel_rfl)))
  (case c2 => exact D.code_m (D.codeIn_drop (by k_is) (by kernel_rfl)))
  (case k2 => exact D.keep_m (by kernel_rfl))
  (case a3 => exact D.ns_m (D.nsIn_drop (by k_is) (by kernel_rfl)))
  (case l3 => exact D.look_m (D.lookup_drop (by k_is) (by kernel_rfl)))
  (case c3 => exact D.code_m (D.codeIn_drop (by k_is) (by kernel_rfl)))
  (case k3 => exact D.keep_m (by kernel_rfl))
  (case a4 => exact D.ns_m (D.nsIn_drop (by k_is) (by kernel_rfl)))
  (case l4 => exact D.look_m (D.lookup_drop (by k_is) (by kernel_rfl)))
  (case c4 => exact D.code_m (D.codeIn_drop (by k_is) (by kernel_rfl)))
  (case k4 => exact D.keep_m (by kernel_rfl))
  (case a5 => exact D.ns_m (D.nsIn_drop (by k_is) (by kernel_rfl)))
  (case l5 => exact D.look_m (D.lookup_drop (by k_is) (by kernel_rfl)))
  (case c5 => exact D.code_m (D.codeIn_drop (by k_is) (by kernel_rfl)))
  (case k5 => exact D.keep_m (by kernel_rfl))
  (case a6 => exact D.ns_m (D.nsIn_drop (by k_is) (by kernel_rfl)))
  (case l6 => exact D.look_m (D.lookup_drop (by k_is) (by kernel_rfl)))
  (case c6 => exact D.code_m (D.codeIn_drop (by k_is) (by kernel_rfl)))
  (case k6 => exact D.keep_m (by kernel_rfl))
  (case a7 => exact D.ns_m (D.nsIn_drop (by k_is) (by kernel_rfl)))
  (case l7 => exact D.look_m (D.lookup_drop (by k_is) (by kernel_rfl)))
  (case c7 => exact D.code_m (D.codeIn_drop (by k_is) (by kernel_rfl)))
  (case k7 => exact D.keep_m (by kernel_rfl))
  (case a8 => exact D.ns_m (D.nsIn_drop (by k_is) (by kernel_rfl)))
  (case l8 => exact D.look_m (D.lookup_drop (by k_is) (by kernel_rfl)))
  (case c8 => exact D.code_m (D.codeIn_drop (by k_is) (by kernel_rfl)))
  (case k8 => exact D.keep_m (by kernel_rfl))
  (case a9 => exact D.ns_m (D.nsIn_drop (by k_is) (by kernel_rfl)))
  (case l9 => exact D.look_m (D.lookup_drop (by k_is) (by kernel_rfl)))
  (case c9 => exact D.code_m (D.codeIn_drop (by k_is) (by kernel_rfl)))
  (case k9 => exact D.keep_m (by kernel_rfl))
  (case a10 => exact D.ns_m (D.nsIn_drop (by k_is) (by kernel_rfl)))
  (case l10 => exact D.look_m (D.lookup_drop (by k_is) (by kernel_rfl)))
  (case c10 => exact D.code_m (D.codeIn_drop (by k_is) (by kernel_rfl)))
  (case k10 => exact D.keep_m (by kernel_rfl))
  (case a11 => exact D.ns_m (D.nsIn_drop (by k_is) (by kernel_rfl)))
  (case l11 => exact D.look_m (D.lookup_drop (by k_is) (by kernel_rfl)))
  (case c11 => exact D.code_m (D.codeIn_drop (by k_is) (by kernel_rfl)))
  (case k11 => exact D.keep_m (by kernel_rfl))
  (case a12 => exact D.ns_m (D.nsIn_drop (by k_is) (by kernel_rfl)))
  (case l12 => exact D.look_m (D.lookup_drop (by k_is) (by kernel_rfl)))
  (case c12 => exact D.code_m (D.codeIn_drop (by k_is) (by kernel_rfl)))
  (case k12 => exact D.keep_m (by kernel_rfl))
  (case a13 => exact D.ns_m (D.nsIn_drop (by k_is) (by kernel_rfl)))
  (case l13 => exact D.look_m (D.lookup_drop (by k_is) (by kernel_rfl)))
  (case c13 => exact D.code_m (D.codeIn_drop (by k_is) (by kernel_rfl)))
  (case k13 => exact D.keep_m (by kernel_rfl))
  (case a14 => exact D.ns_m (D.nsIn_drop (by k_is) (by kernel_rfl)))
  (case l14 => exact D.look_m (D.lookup_drop (by k_is) (by kernel_rfl)))
  (case c14 => exact D.code_m (D.codeIn_drop (by k_is) (by kernel_rfl)))
  (case k14 => exact D.keep_m (by kernel_rfl))
  (case a15 => exact D.ns_m (D.nsIn_drop (by k_is) (by kernel_rfl)))
  (case l15 => exact D.look_m (D.lookup_drop (by k_is) (by kernel_rfl)))
  (case c15 => exact D.code_m (D.codeIn_drop (by k_is) (by kernel_rfl)))
  (case k15 => exact D.keep_m (by kernel_rfl))
  (case a16 => exact D.ns_m (D.nsIn_drop (by k_is) (by kernel_rfl)))
  (case l16 => exact D.look_m (D.lookup_drop (by k_is) (by kernel_rfl)))
  (case c16 => exact D.code_m (D.codeIn_drop (by k_is) (by kernel_rfl)))
  (case k16 => exact D.keep_m (by kernel_rfl))
  (case a17 => exact D.ns_m (D.nsIn_drop (by k_is) (by kernel_rfl)))
  (case l17 => exact D.look_m (D.lookup_drop (by k_is) (by kernel_rfl)))
  (case c17 => exact D.code_m (D.codeIn_drop (by k_is) (by kernel_rfl)))
  (case k17 => exact D.keep_m (by kernel_rfl))
  (case a18 => exact D.ns_m (D.nsIn_drop (by k_is) (by kernel_rfl)))
  (case l18 => exact D.look_m (D.lookup_drop (by k_is) (by kernel_rfl)))
  (case c18 => exact D.code_m (D.codeIn_drop (by k_is) (by kernel_rfl)))
  (case k18 => exact D.keep_m (by kernel_rfl))
  (case v10 => exact rfl)
  (case h10 => exact (show PySem.W.codeHdIn _ _ 109 = true by kernel_rfl))
  (case m10 => exact List.mem_append_right _ (by simp))
  (case n_CircuitError => exact D.ns_m (D.nsIn_drop (by k_is) (by kernel_rfl)))
  (case n_NoMachine => exact D.ns_m (D.nsIn_drop (by k_is) (by kernel_rfl)))
  (case z_int => exact D.ns_m (D.nsIn_drop (by k_is) (by kernel_rfl)))
  (case z_len => exact D.ns_m (D.nsIn_drop (by k_is) (by kernel_rfl)))
  (case z_list => exact D.ns_m (D.nsIn_drop (by k_is) (by kernel_rfl)))
  (case z_max => exact D.ns_m (D.nsIn_drop (by k_is) (by kernel_rfl)))
  (case z_min => exact D.ns_m (D.nsIn_drop (by k_is) (by kernel_rfl)))
  (case z_range => exact D.ns_m (D.nsIn_drop (by k_is) (by kernel_rfl)))
  (case z_tuple => exact D.ns_m (D.nsIn_drop (by k_is) (by kernel_rfl)))
  (case e_NoMachine => kernel_rfl)
  (case nt => exact D.no_m (by kernel_rfl) D.dropT_no)
  (case hL => exact fun a M ns hl => Q.law_true M ns hl)

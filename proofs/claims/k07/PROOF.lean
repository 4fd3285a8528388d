import PyProof.Rows.All
import Wide.All
import OpenK.AllK
import Wide.FinOn
import HandS.ForMost
import HandS.ForExc
import HandS.Wide
import HandS.Codes
import HandS.IsInst
import HandS.SortInts
import HandS.Conv
import HandS.Style
import HandS.Defaults
import HandS.Strs
import HandS.Zip
import HandS.ExcInit
import HandS.ExcField
import HandS.ExcIs
import HandS.TryOnly
import HandS.Walk
import KE.GoesMore
import PyProof.Draws
import PySem.Challenge.RW_termstill_k07_rules_refused
set_option Elab.async false
set_option maxRecDepth 100000
namespace Ts
open PySem L2

/-! ### heaps -/
/-- all but two places stay -/
def Kept (D L : Addr) (H H' : Hp) : Prop := ∀ b o, b ≠ D → b ≠ L → H b = some o → H' b = some o
theorem Kept.refl {D L : Addr} {H : Hp} : Kept D L H H := fun _ _ _ _ h => h
theorem Kept.trans {D L : Addr} {H H1 H2 : Hp} (a : Kept D L H H1) (b : Kept D L H1 H2) : Kept D L H H2 := fun c o h1 h2 h => b c o h1 h2 (a c o h1 h2 h)
theorem Kept.new {D L p : Addr} {o : HO} {H H1 : Hp} (a : Kept D L H H1) (h : H1 p = none) : Kept D L H (upd H1 p o) := fun b u h1 h2 e => by
  rw [upd_ne (ne_of_none (a b u h1 h2 e) h)]
  exact a b u h1 h2 e
theorem Kept.atD {D L : Addr} {o : HO} {H H1 : Hp} (a : Kept D L H H1) : Kept D L H (upd H1 D o) := fun b u h1 h2 e => by
  rw [upd_ne h1]
  exact a b u h1 h2 e
theorem Kept.atL {D L : Addr} {o : HO} {H H1 : Hp} (a : Kept D L H H1) : Kept D L H (upd H1 L o) := fun b u h1 h2 e => by
  rw [upd_ne h2]
  exact a b u h1 h2 e
theorem Same.kept {D L : Addr} {H H' : Hp} (s : Same H H') : Kept D L H H' := fun b o _ _ h => s b o h
theorem Same.new {H H1 : Hp} {p : Addr} {o : HO} (s : Same H H1) (h : H1 p = none) : Same H (upd H1 p o) := fun b u e => by
  rw [upd_ne (ne_of_none (s b u e) h)]
  exact s b u e

/-! ### lists of ints compared with the empty list -/
theorem dpAll_ints {K : PySem.W.Frag} {H : Hp} : ∀ cs : List Int, DpAll K H (cs.map V.int) (cs.map PyData.int)
  | [] => .nil
  | c :: cs => .cons (.int c) (dpAll_ints cs)
theorem eqv_nil (cs : List Int) : PyData.eqv (.list (cs.map PyData.int)) (.list []) = cs.isEmpty := by
  cases cs with
  | nil => rfl
  | cons c cs => rfl
theorem ne_nil {K : PySem.W.Frag} {H : Hp} {L p : Addr} {cs : List Int} (hL : SqL K H L (cs.map V.int)) (hp : H p = some (.lst [])) {Q : VK} (q : Q (.bl (!cs.isEmpty)) H) : rNeD K (.ref L) (.ref p) H Q := by
  refine ⟨.list (cs.map .int), .list [], .lst hL (dpAll_ints cs), .lst (SqL.of hp) .nil, PySem.W.ke_shaped_ints cs, PySem.W.ke_shaped_ints [], ?_⟩
  rw [eqv_nil]
  exact q

/-! ### what the law draws from -/
/-- at D the pair (list of the great cells, a small number), the list at L -/
structure DealAt (H : Hp) (D L : Addr) : Prop where
  ex : ∃ (cs : List Int) (m : Int), H D = some (.lst [.ref L, .int m]) ∧ H L = some (.lst (cs.map V.int)) ∧ cs.length ≤ 60 ∧ (∀ c ∈ cs, 0 ≤ c) ∧ 0 ≤ m ∧ m < 2147483647
theorem deal_ne {H : Hp} {D L : Addr} {m : Int} {cs : List Int} (h1 : H D = some (.lst [.ref L, .int m])) (h2 : H L = some (.lst (cs.map V.int))) : D ≠ L := by
  intro e
  subst e
  rw [h1] at h2
  cases cs with
  | nil => cases h2
  | cons c cs => cases h2
theorem DealAt.ne {H : Hp} {D L : Addr} (d : DealAt H D L) : D ≠ L := by
  obtain ⟨cs, m, h1, h2, _⟩ := d.ex
  exact deal_ne h1 h2
theorem DealAt.someD {H : Hp} {D L : Addr} (d : DealAt H D L) : ∃ o, H D = some o := by
  obtain ⟨cs, m, h1, h2, _⟩ := d.ex
  exact ⟨_, h1⟩
theorem DealAt.someL {H : Hp} {D L : Addr} (d : DealAt H D L) : ∃ o, H L = some o := by
  obtain ⟨cs, m, h1, h2, _⟩ := d.ex
  exact ⟨_, h2⟩
theorem DealAt.same {H H' : Hp} {D L : Addr} (d : DealAt H D L) (s : Same H H') : DealAt H' D L := by
  obtain ⟨cs, m, h1, h2, r⟩ := d.ex
  exact ⟨cs, m, s _ _ h1, s _ _ h2, r⟩
/-- a draw, or several: the deal goes on, all else stays -/
structure Went (D L : Addr) (H H' : Hp) : Prop where
  d : DealAt H' D L
  k : Kept D L H H'
theorem Went.trans {D L : Addr} {H H1 H2 : Hp} (a : Went D L H H1) (b : Went D L H1 H2) : Went D L H H2 := ⟨b.d, a.k.trans b.k⟩
theorem Went.same {D L : Addr} {H H1 H2 : Hp} (a : Went D L H H1) (s : Same H1 H2) : Went D L H H2 := ⟨a.d.same s, a.k.trans (Same.kept s)⟩
theorem Went.new {D L p : Addr} {o : HO} {H H1 : Hp} (a : Went D L H H1) (h : H1 p = none) : Went D L H (upd H1 p o) := a.same (Same.new (Same.refl _) h)

/-! ### the promise of a draw -/
def spDraw : Sp := fun vs H Q _ => ∃ (D L : Addr) (n : Int), vs = [.ref D, .int n] ∧ DealAt H D L ∧ 0 < n ∧ n < 2 ^ 64 ∧
  ∀ (d : Int) (H' : Hp), 0 ≤ d → d < n → Went D L H H' → Q (.int d) H'
theorem fdiv_nonneg {a b : Int} (h1 : 0 ≤ a) (h2 : 0 < b) : 0 ≤ a / b := Int.ediv_nonneg h1 (Int.le_of_lt h2)

theorem cs_last {cs : List Int} (h : cs.isEmpty = false) : ∃ ds d, cs = ds ++ [d] := by
  cases cs with
  | nil => cases h
  | cons c cs => exact ⟨(c :: cs).dropLast, (c :: cs).getLast (by simp), (List.dropLast_concat_getLast (by simp)).symm⟩

theorem cut_to {α : Type} (f : α → V) (xs : List α) (k : Nat) : cutV (xs.map f) none (some (k : Int)) = (xs.take k).map f := by
  unfold cutV
  rw [HT.sIx_none, HT.sIx_nat, List.drop_zero, Nat.sub_zero, List.map_take, List.length_map]
  by_cases h : k ≤ xs.length
  · rw [Nat.min_eq_left h]
  · rw [Nat.min_eq_right (by omega), List.take_of_length_le (by rw [List.length_map]; exact Nat.le_refl _), List.take_of_length_le (by rw [List.length_map]; omega)]
/-- the item of a mapped list -/
theorem map_at {α : Type} {f : α → V} {xs : List α} {i : Nat} {y : V} (h : (xs.map f)[i]? = some y) : ∃ x, y = f x ∧ xs[i]? = some x := by
  rw [List.getElem?_map] at h
  cases e : xs[i]? with
  | none => rw [e] at h; cases h
  | some x => rw [e] at h; exact ⟨x, (Option.some.inj h).symm, rfl⟩
theorem at_lt {α : Type} {xs : List α} {i : Nat} {x : α} (h : xs[i]? = some x) : i < xs.length := (List.getElem?_eq_some_iff.mp h).1
theorem at_mem {α : Type} {xs : List α} {i : Nat} {x : α} (h : xs[i]? = some x) : x ∈ xs := List.mem_of_getElem? h
theorem abs_nn (i : Int) : 0 ≤ (if i < 0 then -i else i) := by split <;> omega
theorem same_upd_new {H H1 : Hp} {p : Addr} {o : HO} (s : Same H H1) (hp : H p = none) : Same H (upd H1 p o) := fun b u e => by
  rw [upd_ne (ne_of_none e hp)]
  exact s b u e
theorem yes_ {σ : L2.St} {H : Hp} {A : Hp → Prop} {B : Hp → Prop} (h : A H) : tYes σ H (fun b H3 => if b = true then A H3 else B H3) := by
  show (if true = true then A H else B H)
  exact iteT h
def spDeal (K : PySem.W.Frag) : Sp := fun vs H Q _ => ∃ (a : Addr) (ns : List Int), vs = [.ref a] ∧ SqL K H a (ns.map V.int) ∧ ns.length ≤ 63 ∧
  ∀ (D L : Addr) (H' : Hp), DealAt H' D L → Same H H' → H D = none → H L = none → Q (.ref D) H'

/-! ### flat values -/
def okV : V → Bool
  | .non => true
  | .bl _ => true
  | .int _ => true
  | .str x => PySem.PyData.strOk x
  | _ => false
def toD : V → PyData
  | .non => .none
  | .bl b => .bool b
  | .int i => .int i
  | .str x => .str x
  | _ => .none
theorem dp_ok {K : PySem.W.Frag} {H : Hp} {v : V} (h : okV v = true) : Dp K H v (toD v) := by
  cases v with
  | non => exact .non
  | bl b => exact .bl b
  | int i => exact .int i
  | str x => exact .str x
  | byt b => cases h
  | flt b => cases h
  | ref a => cases h
  | ty n => cases h
theorem dpAll_ok {K : PySem.W.Frag} {H : Hp} : ∀ {xs : List V}, xs.all okV = true → DpAll K H xs (xs.map toD)
  | [], _ => .nil
  | x :: xs, h => by
    rw [List.all_cons, Bool.and_eq_true] at h
    exact .cons (dp_ok h.1) (dpAll_ok h.2)
theorem lay_ok {v : V} (h : okV v = true) : PyData.canLay0 (toD v) = true := by
  cases v <;> first | rfl | exact h | cases h
theorem layAll_ok : ∀ {xs : List V}, xs.all okV = true → PyData.canLayAll0 (xs.map toD) = true
  | [], _ => rfl
  | x :: xs, h => by
    rw [List.all_cons, Bool.and_eq_true] at h
    simp [PyData.canLayAll0, lay_ok h.1, layAll_ok h.2]
theorem depth_ok (v : V) : PyData.depth (toD v) = 0 := by cases v <;> rfl
theorem depthAll_ok : ∀ xs : List V, PyData.depthAll (xs.map toD) = 0
  | [] => rfl
  | x :: xs => by simp [PyData.depthAll, depth_ok, depthAll_ok xs]
theorem shaped_ok {xs : List V} (h : xs.all okV = true) : SeqAt.shaped (.list (xs.map toD)) = true := by
  simp [SeqAt.shaped, PyData.canLay0, PyData.depth, layAll_ok h, depthAll_ok]
theorem eqv_nilF (xs : List V) : PyData.eqv (.list (xs.map toD)) (.list []) = xs.isEmpty := by
  cases xs with
  | nil => rfl
  | cons c cs => rfl
theorem ne_nilF {K : PySem.W.Frag} {H : Hp} {L p : Addr} {xs : List V} (hL : SqL K H L xs) (ho : xs.all okV = true) (hp : H p = some (.lst [])) {Q : VK} (q : Q (.bl (!xs.isEmpty)) H) : rNeD K (.ref L) (.ref p) H Q := by
  refine ⟨.list (xs.map toD), .list [], .lst hL (dpAll_ok ho), .lst (SqL.of hp) .nil, shaped_ok ho, PySem.W.ke_shaped_ints [], ?_⟩
  rw [eqv_nilF]
  exact q
theorem okV_flat {v : V} (h : okV v = true) : flatV v = true := by
  cases v <;> first | rfl | cases h
theorem Kept.seq {K : PySem.W.Frag} {D L a : Addr} {xs : List V} {H H' : Hp} (k : Kept D L H H') (h1 : a ≠ D) (h2 : a ≠ L) (h : SqL K H a xs) : SqL K H' a xs := by
  rcases h with (h | ⟨o, h⟩) | h
  · exact .inl (.inl (k _ _ h1 h2 h))
  · exact .inl (.inr ⟨o, k _ _ h1 h2 h⟩)
  · exact .inr h
/-- not one of the deal's two lists -/
def Off (H : Hp) (D L a : Addr) : Prop := a ≠ D ∧ a ≠ L
theorem off_new {H : Hp} {D L a : Addr} (d : DealAt H D L) (h : H a = none) : a ≠ D ∧ a ≠ L := by
  obtain ⟨o, hD⟩ := d.someD
  obtain ⟨o', hL⟩ := d.someL
  exact ⟨(ne_of_none hD h).symm, (ne_of_none hL h).symm⟩

/-! ### picking, mixing -/
def spPick (K : PySem.W.Frag) : Sp := fun vs H Q _ => ∃ (D L a : Addr) (xs : List V), vs = [.ref D, .ref a] ∧ DealAt H D L ∧ SqL K H a xs ∧ a ≠ D ∧ a ≠ L ∧ 0 < xs.length ∧ xs.length ≤ 1000 ∧
  ∀ (v : V) (H' : Hp), v ∈ xs → Went D L H H' → Q v H'
def spMixed (K : PySem.W.Frag) : Sp := fun vs H Q _ => ∃ (D L a : Addr) (xs : List V), vs = [.ref D, .ref a] ∧ DealAt H D L ∧ SqL K H a xs ∧ a ≠ D ∧ a ≠ L ∧ xs.all okV = true ∧ xs.length ≤ 1000 ∧
  ∀ (p : Addr) (ys : List V) (H' : Hp), ys.Perm xs → Went D L H H' → H p = none → H' p = some (.lst ys) → Q (.ref p) H'
theorem seqIndex_nat {j n : Nat} (h : j < n) : seqIndex? (j : Int) n = some j := by
  unfold seqIndex?
  simp only [show ¬ ((j : Int) < 0) by omega, if_false]
  rw [show (decide (0 ≤ (j : Int)) && decide ((j : Int) < (n : Int))) = true by simp; omega]
  simp
theorem erase_perm {α : Type} : ∀ {xs : List α} {j : Nat} {y : α}, xs[j]? = some y → (y :: xs.eraseIdx j).Perm xs
  | [], j, y, h => by simp at h
  | x :: xs, 0, y, h => by
    have e : x = y := Option.some.inj h
    rw [e]
    exact List.Perm.refl _
  | x :: xs, j + 1, y, h => by
    have ih := erase_perm (xs := xs) (j := j) (y := y) h
    exact (List.Perm.swap x y _).trans (ih.cons x)
end Ts

namespace Ts
open PySem L2
open PySem.Builtin in
/-- sorted(xs), xs a list or a tuple of ints -/
def rSortedQ (K : PySem.W.Frag) : List V → Hp → VK → Prop := fun vs H Q => ∃ (a : Addr) (ns : List Int), vs = [V.ref a] ∧ (SqL K H a (ns.map V.int) ∨ SqT K H a (ns.map V.int)) ∧
  ∀ (ys : List Int) (p : Addr), ys.Perm ns → ys.Pairwise (· ≤ ·) → H p = none → Q (.ref p) (upd H p (.lst (ys.map V.int)))
section
variable {X : Cx}
open PyProof.Rows in
theorem cr_sortedQ : CallR X (.builtin "sorted") (rSortedQ X.K) := by
  intro pins s σ H vs us Q I r h
  obtain ⟨a, ns, rfl, hs, q⟩ := h
  rw [Vals.ref1 r]
  have hob : ∃ (T : String) (o : Obj) (its : List Value) (n : Nat), (T = "list" ∨ T = "tuple") ∧ s.heap.get? a = some o ∧ o.cls = .type T ∧ o.data = .seq its.toArray n ∧ Vals (ns.map V.int) its ∧ (ns.map V.int).length ≤ sizeLine := by
    rcases hs with hs | hs
    · obtain ⟨its, rv, ⟨o, n, e1, e2, _, e3⟩, hz⟩ := I.list hs
      exact ⟨_, o, its, n, .inl rfl, e1, e2, e3, rv, hz⟩
    · obtain ⟨its, rv, ⟨o, e1, e2, n, e3⟩, hz⟩ := I.tuple hs
      exact ⟨_, o, its, n, .inr rfl, e1, e2, e3, rv, hz⟩
  obtain ⟨T, o, its, n, hT, e1, e2, e3, rv, hz⟩ := hob
  have hi := rv.ints
  have hl : its.length ≤ sizeLine := by rw [← rv.length]; exact hz
  refine Calls.call_function_entry kind_sorted (prog := X.prog) (w := X.w) plain_sorted entry_sorted (args_sorted1 _) ?_
  unfold PySem.Builtin.«sorted»
  refine wpAny_bind (m := PySem.checkCount "sorted" 1 1 _) (wpAny_pure (wpAny_bind ?_))
  refine wpAny_collect_seq a hT e1 e2 e3 (fun h1 keep => wpAny_bind (wpAny_newList ?_ (by simpa using hl))) (by rw [List.size_toArray]; exact hl)
  have I1 : Inv X pins σ H { s with heap := h1 } := I.kept (t' := s.toks) keep
  have hnew : (h1.push (seqObj "list" its.toArray 0)).get? h1.objs.size = some (seqObj "list" its.toArray 0) := Heap.get?_push_size _ rfl
  refine wpAny_bind (wpAny_holding (wpAny_call_entry slot_list_sort ⟨_, hnew, rfl⟩ entry_list_sort (SrtO.list_sort_ord SrtO.swo_int hnew hl (fun h2 => SrtO.ints_sortable hi h2) fun out o1 o2 => ⟨_, rfl, wpAny_pure ⟨_, rfl, ?_⟩⟩) (args_list_sort _)))
  obtain ⟨k1, k2, k3⟩ := SrtO.ints_out hi o1 o2
  obtain ⟨ep, hat⟩ := PyProof.Rows.sortedHeap_at (vs := its) (out := out.toArray) hnew
  have hlen : ((out.map SrtO.iv).map V.int).length ≤ sizeLine := by
    rw [List.length_map, k2.length_eq, ← List.length_map (f := V.int)]
    exact hz
  refine ⟨.ref _, upd H h1.objs.size (.lst ((out.map SrtO.iv).map V.int)), I1.laid (t' := s.toks) (fun b u e => ?_) (Nat.le_refl _) ⟨hlen, out, ep, vals_of_ints k1, hat⟩, rfl, q _ _ k2 k3 (I1.hok.fresh (Nat.le_refl _))⟩
  have hb : b < h1.objs.size := Heap.lt_size e
  rw [PyProof.Rows.sortedHeap_old (Nat.ne_of_lt hb) (Heap.lt_size (Heap.get?_push_of_some (seqObj "list" its.toArray 0) e))]
  exact Heap.get?_push_of_some _ e
end
end Ts

namespace Ts
open PySem L2
/-! ### values and their types -/
inductive Kd where
  | non | bl | int | str | lst | tup | own
  deriving DecidableEq
def Kd.inI : Kd → Bool | .int => true | .bl => true | _ => false
def Kd.inB : Kd → Bool | .bl => true | _ => false
def Kd.inS : Kd → Bool | .str => true | _ => false
def Kd.inL : Kd → Bool | .lst => true | _ => false
def Kd.inT : Kd → Bool | .tup => true | _ => false
structure TyV (K : PySem.W.Frag) (H : Hp) (v : V) (k : Kd) : Prop where
  ex : ∃ t, TyX K H v t ∧ PySem.W.kitOne K t (.type "int") = some k.inI ∧ PySem.W.kitOne K t (.type "bool") = some k.inB ∧ PySem.W.kitOne K t (.type "str") = some k.inS ∧ PySem.W.kitOne K t (.type "list") = some k.inL ∧ PySem.W.kitOne K t (.type "tuple") = some k.inT
  i1 : k = .int → ∃ i, v = .int i
  s1 : k = .str → ∃ x, v = .str x
theorem tyV_int {K : PySem.W.Frag} {H : Hp} {i : Int} : TyV K H (.int i) .int :=
  ⟨⟨_, .base (.int i), kit_ty (by decide +kernel), kit_ty (by decide +kernel), kit_ty (by decide +kernel), kit_ty (by decide +kernel), kit_ty (by decide +kernel)⟩, fun _ => ⟨i, rfl⟩, fun h => (by cases h)⟩
theorem tyV_bl {K : PySem.W.Frag} {H : Hp} {b : Bool} : TyV K H (.bl b) .bl :=
  ⟨⟨_, .base (.bl b), kit_ty (by decide +kernel), kit_ty (by decide +kernel), kit_ty (by decide +kernel), kit_ty (by decide +kernel), kit_ty (by decide +kernel)⟩, fun h => (by cases h), fun h => (by cases h)⟩
theorem tyV_non {K : PySem.W.Frag} {H : Hp} : TyV K H .non .non :=
  ⟨⟨_, .base .non, kit_ty (by decide +kernel), kit_ty (by decide +kernel), kit_ty (by decide +kernel), kit_ty (by decide +kernel), kit_ty (by decide +kernel)⟩, fun h => (by cases h), fun h => (by cases h)⟩
theorem tyV_str {K : PySem.W.Frag} {H : Hp} {x : Str} : TyV K H (.str x) .str :=
  ⟨⟨_, .base (.str x), kit_ty (by decide +kernel), kit_ty (by decide +kernel), kit_ty (by decide +kernel), kit_ty (by decide +kernel), kit_ty (by decide +kernel)⟩, fun h => (by cases h), fun _ => ⟨x, rfl⟩⟩
theorem tyV_list {K : PySem.W.Frag} {H : Hp} {a : Addr} {xs : List V} (h : SqL K H a xs) : TyV K H (.ref a) .lst := by
  refine ⟨?_, fun h => (by cases h), fun h => (by cases h)⟩
  have e : TyX K H (.ref a) (.type "list") := by
    rcases h with (h | ⟨o, h⟩) | ⟨o, its, n, h1, h2, _⟩
    · exact .base (.lst h)
    · exact .base (.frz h)
    · exact .kList h1 h2
  exact ⟨_, e, kit_ty (by decide +kernel), kit_ty (by decide +kernel), kit_ty (by decide +kernel), kit_ty (by decide +kernel), kit_ty (by decide +kernel)⟩
theorem tyV_tup {K : PySem.W.Frag} {H : Hp} {a : Addr} {xs : List V} (h : SqT K H a xs) : TyV K H (.ref a) .tup := by
  refine ⟨?_, fun h => (by cases h), fun h => (by cases h)⟩
  have e : TyX K H (.ref a) (.type "tuple") := by
    rcases h with (h | ⟨o, h⟩) | ⟨o, its, n, h1, h2, _⟩
    · exact .base (.tup h)
    · exact .fTuple h
    · exact .kTuple h1 h2
  exact ⟨_, e, kit_ty (by decide +kernel), kit_ty (by decide +kernel), kit_ty (by decide +kernel), kit_ty (by decide +kernel), kit_ty (by decide +kernel)⟩
theorem TyX.same {K : PySem.W.Frag} {H H' : Hp} {v : V} {t : Value} (h : TyX K H v t) (s : Same H H') : TyX K H' v t := by
  cases h with
  | base h =>
    refine .base ?_
    cases h with
    | non => exact .non
    | bl x => exact .bl x
    | int i => exact .int i
    | str x => exact .str x
    | flt x => exact .flt x
    | lst e => exact .lst (s _ _ e)
    | frz e => exact .frz (s _ _ e)
    | tup e => exact .tup (s _ _ e)
    | dK e => exact .dK (s _ _ e)
    | dT e => exact .dT (s _ _ e)
    | ins e cl ha hn htk hm => exact .ins (s _ _ e) cl ha hn htk hm
  | byt b => exact .byt b
  | set e => exact .set (s _ _ e)
  | kList e c => exact .kList e c
  | kTuple e c => exact .kTuple e c
  | kDict e c => exact .kDict e c
  | fTuple e => exact .fTuple (s _ _ e)
  | fDict e => exact .fDict (s _ _ e)
theorem TyV.same {K : PySem.W.Frag} {H H' : Hp} {v : V} {k : Kd} (h : TyV K H v k) (s : Same H H') : TyV K H' v k := by
  obtain ⟨⟨t, h1, h2⟩, h3, h4⟩ := h
  exact ⟨⟨t, TyX.same h1 s, h2⟩, h3, h4⟩
theorem Same.sqt {K : PySem.W.Frag} {H H' : Hp} {a : Addr} {xs : List V} (e : Same H H') (h : SqT K H a xs) : SqT K H' a xs := by
  rcases h with (h | ⟨o, h⟩) | h
  · exact .inl (.inl (e _ _ h))
  · exact .inl (.inr ⟨o, e _ _ h⟩)
  · exact .inr h
/-- the answer of is_count -/
def cntV : V → Bool
  | .int i => decide (1 ≤ i)
  | _ => false
def spIsInt (K : PySem.W.Frag) : Sp := fun vs H Q _ => ∃ (v : V) (k : Kd), vs = [v] ∧ TyV K H v k ∧ Q (.bl (decide (k = .int))) H
def spIsCount (K : PySem.W.Frag) : Sp := fun vs H Q _ => ∃ (v : V) (k : Kd), vs = [v] ∧ TyV K H v k ∧ Q (.bl (decide (k = .int) && cntV v)) H
def spIsSeq (K : PySem.W.Frag) : Sp := fun vs H Q _ => ∃ (v : V) (k : Kd), vs = [v] ∧ TyV K H v k ∧ ∀ H', Same H H' → Q (.bl (k.inL || k.inT)) H'
end Ts

namespace Ts
open PySem L2
/-! ### isinstance of a caught error that keeps something -/
section
variable {prog : Program} {w : World} {A : Around} {E : Value → Shared → Prop} {s : Shared} {K : PySem.W.Frag} {x D : Addr} {ox od : Obj}
open PySem.W PySem.Calls PyProof.Rows
theorem class_of_err {Q : Option Value → Shared → Prop} (c : ExcC K D) (X : K.In s.heap) (I : InstAt s.heap x ox D (some od)) (h : Q (some (.ref D)) { s with toks := s.toks + 1 }) :
    wpAny (model prog w) A (getAttr? (.ref x) "__class__") Q E s := by
  have some_cls : (clsIn K D).isSome = true := by
    obtain ⟨cd, e, _⟩ := any_some c.hd
    rw [e]
    rfl
  have found : findObj K D (some od) "__class__" = _ := findObj_data some_cls c.ha c.hn c.ht
  have n2 : (Value.builtin "BaseException.__getattribute__" == Value.builtin "object.__getattribute__") = false := by decide +kernel
  have n1 : (onTheHeap (Value.ref D) && Value.builtin "BaseException.__getattribute__" == Value.builtin "object.__getattribute__") = false := by
    rw [n2]
    rfl
  have n0 : (false && onTheHeap (Value.builtin "BaseException.__getattribute__")) = false := rfl
  obtain ⟨hp, gs, dr, tk, os⟩ := s
  have ty := I.type (M := model prog w)
  have l3 := looks_find (M := model prog w) X I found
  unfold getAttr? getAttrBy? getAttrBy
  refine wpAny_bind (wpAny_mkText (wpAny_bind (wpAny_attempt (wpAny_holding (wpAny_bind (ty.at (wpAny_bind ((looks_findIn (M := model prog w) X c.hg).at ?_))))))))
  refine (show wpAny _ _ (if (onTheHeap (Value.ref D) && Value.builtin "BaseException.__getattribute__" == Value.builtin "object.__getattribute__") = true then _ else _) _ _ _ from ?_)
  rw [n1, if_neg Bool.false_ne_true]
  unfold getAttrByItsOwn hookBefore
  refine wpAny_bind ?_
  rw [if_pos (show onTheHeap (Value.ref D) = true by rfl)]
  refine (looks_findIn (M := model prog w) X c.hk).at (wpAny_bind (wpAny_attempt (wpAny_holding ?_)))
  unfold callGetattribute
  rw [n0, if_neg Bool.false_ne_true]
  unfold boundAndCalled
  rw [PySem.F.excAttr_ValueError.ga.bind (.ref x)]
  refine wpAny_bind (wpAny_pure (show wpAny _ _ (call (.builtin "BaseException.__getattribute__") [.ref x, .str "__class__" tk]) _ _ _ from ?_))
  refine wpAny_call (codeAny_call_builtin PySem.F.excAttr_ValueError.ga.plain PySem.F.entry_bexc_ga ?_)
  refine @check_slot (model prog w) _ _ ⟨hp, gs, dr, tk + 1, os⟩ "BaseException.__getattribute__" "BaseException" "__getattribute__" (.ref x) [.str "__class__" tk] [] _ (by decide +kernel) (by decide +kernel) (ty.andThen (looks_subIn X c.hs)) (PySem.F.args_bexc_ga (.ref x) (.str "__class__" tk)) ?_
  unfold Builtin.«object.__getattribute__»
  refine wpAny_bind (wpAny_of_eq (a := ((Value.ref x : Value), [Value.str "__class__" tk])) (by first | rfl | (simp only [slotArgs]; rfl)) (wpAny_bind (wpAny_pure (wpAny_bind (ty.at (wpAny_bind (l3.at ?_)))))))
  refine (show wpAny _ _ (holding [Value.builtin "object.__class__"] (call (.builtin "getset_descriptor.__get__") [.builtin "object.__class__", .ref x, .ref D]) >>= ret) _ _ _ from ?_)
  refine wpAny_bind (wpAny_holding (wpAny_call (class_get (s := ⟨hp, gs, dr, tk + 1, os⟩) (ox := ox) (od := some od) X I c.hm (wpAny_pure ?_))))
  refine (show wpAny _ _ (handedOut (.ref D)) _ _ _ from ?_)
  rw [handedOut_of (v := .ref D) rfl]
  first
    | exact wpAny_pure (wpAny_pure h)
    | exact wpAny_pure h
    | exact wpAny_pure (wpAny_bind (wpAny_pure (wpAny_pure h)))
theorem kit_err (c : ExcC K D) : KitX K (.ref x) (.ref D) (fun h => InstAt h x ox D (some od)) where
  ty := fun _ _ _ I => I.type
  it := fun _ _ X _ => by
    obtain ⟨cd, e, _⟩ := any_some c.hd
    unfold clsIn at e
    split at e
    · rename_i a1 a2 a3 a4 ho
      intro A' Q' E' s' kk q
      unfold isType loadHead
      exact wpAny_bind (wpAny_loadPart (kk _ _ (X _ _ ho)) (wpAny_pure q))
    · cases e
  ne := fun h tp dd its n sl X htp => Bool.eq_false_iff.mpr fun q => by
    obtain ⟨cd, e, _⟩ := any_some c.hd
    have e2 : D = tp := Value.ref.inj (beq_iff_eq.mp q)
    subst e2
    unfold clsIn at e
    split at e
    · rename_i a1 a2 a3 a4 ho
      cases (X _ _ ho).symm.trans htp
    · cases e
  ca := fun X I k => class_of_err c X I k
end

def rIsD (K : PySem.W.Frag) (D a : Addr) (cls : Value) (d : Option Addr) : List V → Hp → VK → Prop := fun xs H Q => ∃ (c : V) (cv : Value) (b : Bool) (dd : Addr) (fs : List (Str × V)), xs = [.ref a, c] ∧ (∀ u, RelV c u → u = cv) ∧ cls = .ref D ∧ d = some dd ∧ H dd = some (.xd fs) ∧ PySem.W.kitOne K (.ref D) cv = some b ∧ Q (.bl b) H
theorem call_isD {X : Cx} {a D : Addr} {cls : Value} {d : Option Addr} {oe : Obj} {pn : List (Addr × Obj)} (C : ExcC X.K D) (hz : Zc cls d oe) (hf : ∃ vs, oe.data = .fields vs) : CallR (X.suite a ((a, oe) :: pn)) (.builtin "isinstance") (rIsD X.K D a cls d) := by
  intro pins s σ H xs us Q I r h
  obtain ⟨c, cv, b, dd, fs, rfl, hcv, rfl, rfl, hd, e, q⟩ := h
  obtain ⟨u1, u2, rfl, r1, r2⟩ := vals2 r
  cases r1
  have ec := hcv _ r2
  subst ec
  obtain ⟨hget, _⟩ := I.pin (a, oe) (List.mem_append.mpr (.inl List.mem_cons_self))
  obtain ⟨vs, hv⟩ := hf
  have hx : ObjOk X.prog X.w H s.heap dd (.xd fs) := I.hok dd _ hd
  obtain ⟨mA, hns, _⟩ := hx
  obtain ⟨od, ho, _⟩ := lookIn_ns hns
  have J : PySem.W.InstAt s.heap a oe D (some od) := ⟨hget, hz.1, by unfold PySem.W.notCls; rw [hv] <;> rfl, by rw [hz.2]; exact ho⟩
  exact PySem.W.kia_one (kit_err C) I.kIn J e (fun z => nomatch z) fun tk => ⟨.bl b, H, I.kept (t' := tk) fun _ _ z => z, rfl, q⟩
/-! ### errors with one thing kept -/
def spExc (C : Addr) (f : Str) : Sp := fun vs H Q _ => ∃ (a : Addr) (v : V), vs = [.ref a, v] ∧ H a = some (exo a C none) ∧ ∀ dx, H dx = none → dx ≠ a → Q .non (upd (upd H dx (exd dx [(f, v)])) a (exo a C (some dx)))
theorem mk_ex {C : Addr} {f : Str} {v : V} {H1 : Hp} {Q : XK} (h : ∀ d, H1 d = none → Q (.ref C) (some d) (upd H1 d (.xd [(f, v)]))) :
    [v].length ≤ 1000 ∧ ∀ a, H1 a = none → spExc C f (.ref a :: ([v] ++ [])) (upd H1 a (exo a C none))
      (fun u H2 => u = .non ∧ ∃ (d : Addr) (fs : List (Str × V)), H2 a = some (exo a C (some d)) ∧ H2 d = some (exd d fs) ∧ H1 d = none ∧ Q (.ref C) (some d) (upd (del H2 a) d (.xd fs))) (fun _ _ _ => False) := by
  refine ⟨(by show 1 ≤ 1000; decide), fun a na => ⟨a, v, rfl, upd_same, fun dx n ne => ⟨rfl, dx, _, upd_same, by rw [upd_ne ne, upd_same], ?_, ?_⟩⟩⟩
  · rw [upd_ne ne] at n
    exact n
  · have n1 : H1 dx = none := by
      rw [upd_ne ne] at n
      exact n
    have e : upd (del (upd (upd (upd H1 a (exo a C none)) dx (exd dx [(f, v)])) a (exo a C (some dx))) a) dx (.xd [(f, v)]) = upd H1 dx (.xd [(f, v)]) := by
      funext b
      by_cases h1 : b = dx
      · rw [h1, upd_same, upd_same]
      · rw [upd_ne h1, upd_ne h1]
        by_cases h2 : b = a
        · rw [h2, del_same, na]
        · rw [del_ne h2, upd_ne h2, upd_ne h1, upd_ne h2]
    rw [e]
    exact h dx n1
theorem passesLen {X : Cx} {W : WX} (tk : Takes X W) : Passes (L2.CX X.prog X.w) X (fun cls d H => ∀ σ : L2.St, σ.length = X.N.length → W cls d σ H) := fun pins σ H s e s' I c =>
  tk e s' (XE.of_call I (fun _ _ _ h => h σ I.len) c)
theorem passesN {X : Cx} {W : WX} (n : Nat) (tk : Takes X W) (hn : X.N.length = n) : Passes (L2.CX X.prog X.w) X (fun cls d H => ∀ σ : L2.St, σ.length = n → W cls d σ H) := fun pins σ H s e s' I c =>
  tk e s' (XE.of_call I (fun _ _ _ h => h σ (I.len.trans hn)) c)
theorem passesUp {X : Cx} {E : XK} (tk : Takes X (fun cls d _ H => E cls d H)) : Passes (L2.CX X.prog X.w) X E := fun pins σ H s e s' I c =>
  tk e s' (XE.of_call I (fun _ _ _ h => h) c)
end Ts

namespace Ts
open PySem L2
def noNames : List V := [.str "any", .str "none", .str "anew", .str "lift", .str "term"]
def letters : Str := "abcdefghijklmnopqrstuvwxyz"
def nameB (x : Str) : Bool := !inV (.str x) noNames && ((decide (1 ≤ (x.length : Int)) && decide ((x.length : Int) ≤ 4)) && x.cps.toList.all fun c => decide (c ∈ letters.cps.toList))
def nameV : V → Bool
  | .str x => nameB x
  | _ => false
/-- a value of which the type is known, a text not too long -/
def GoodV (K : PySem.W.Frag) (H : Hp) (v : V) : Prop := ∃ k, TyV K H v k ∧ ∀ x, v = .str x → x.length ≤ 1000 ∧ PyData.strOk x = true
theorem GoodV.same {K : PySem.W.Frag} {H H' : Hp} {v : V} (g : GoodV K H v) (s : Same H H') : GoodV K H' v := by
  obtain ⟨k, t, h⟩ := g
  exact ⟨k, t.same s, h⟩
theorem TyX.went {K : PySem.W.Frag} {D L : Addr} {H H' : Hp} {v : V} {t : Value} (h : TyX K H v t) (d : DealAt H D L) (w : Went D L H H') : TyX K H' v t := by
  have key : ∀ {a : Addr} {o : HO}, H a = some o → (∀ xs, o ≠ .lst xs) → H' a = some o := fun {a o} e n => by
    refine w.k _ _ (fun z => ?_) (fun z => ?_) e
    · obtain ⟨cs, m, h1, _⟩ := d.ex
      rw [z, h1] at e
      exact n _ (Option.some.inj e).symm
    · obtain ⟨cs, m, _, h1, _⟩ := d.ex
      rw [z, h1] at e
      exact n _ (Option.some.inj e).symm
  cases h with
  | base h =>
    cases h with
    | non => exact .base .non
    | bl x => exact .base (.bl x)
    | int i => exact .base (.int i)
    | str x => exact .base (.str x)
    | flt x => exact .base (.flt x)
    | @lst a xs e =>
      by_cases hD : a = D
      · obtain ⟨cs, m, h1, _⟩ := w.d.ex
        rw [hD]
        exact .base (.lst h1)
      · by_cases hL : a = L
        · obtain ⟨cs, m, _, h1, _⟩ := w.d.ex
          rw [hL]
          exact .base (.lst h1)
        · exact .base (.lst (w.k _ _ hD hL e))
    | frz e => exact .base (.frz (key e fun _ z => by cases z))
    | tup e => exact .base (.tup (key e fun _ z => by cases z))
    | dK e => exact .base (.dK (key e fun _ z => by cases z))
    | dT e => exact .base (.dT (key e fun _ z => by cases z))
    | ins e cl ha hn htk hm => exact .base (.ins (key e fun _ z => by cases z) cl ha hn htk hm)
  | byt b => exact .byt b
  | set e => exact .set (key e fun _ z => by cases z)
  | kList e c => exact .kList e c
  | kTuple e c => exact .kTuple e c
  | kDict e c => exact .kDict e c
  | fTuple e => exact .fTuple (key e fun _ z => by cases z)
  | fDict e => exact .fDict (key e fun _ z => by cases z)
theorem TyV.went {K : PySem.W.Frag} {D L : Addr} {H H' : Hp} {v : V} {k : Kd} (h : TyV K H v k) (d : DealAt H D L) (w : Went D L H H') : TyV K H' v k := by
  obtain ⟨⟨t, h1, h2⟩, h3, h4⟩ := h
  exact ⟨⟨t, TyX.went h1 d w, h2⟩, h3, h4⟩
theorem GoodV.went {K : PySem.W.Frag} {D L : Addr} {H H' : Hp} {v : V} (g : GoodV K H v) (d : DealAt H D L) (w : Went D L H H') : GoodV K H' v := by
  obtain ⟨k, t, h⟩ := g
  exact ⟨k, t.went d w, h⟩
def spIsName (K : PySem.W.Frag) : Sp := fun vs H Q _ => ∃ v, vs = [v] ∧ GoodV K H v ∧ ∀ H', Same H H' → Q (.bl (nameV v)) H'
/-- all(..) over the signs of a text -/
theorem all_take {α : Type} {p : α → Bool} {xs : List α} : ∀ {i : Nat} {x : α}, xs[i]? = some x → (xs.take (i + 1)).all p = ((xs.take i).all p && p x) := by
  intro i x h
  rw [List.take_add_one, h]
  simp [List.all_append]
end Ts

namespace Ts
open PySem L2
theorem cnt_eq {K : PySem.W.Frag} {H : Hp} {v : V} {k : Kd} (h : TyV K H v k) : (decide (k = .int) && cntV v) = cntV v := by
  obtain ⟨⟨t, tx, t1, t2, t3, t4, t5⟩, i1, _⟩ := h
  by_cases e : k = .int
  · rw [decide_eq_true e]
    rfl
  · rw [decide_eq_false e]
    cases v with
    | int i =>
      cases tx with
      | base hb =>
        cases hb
        rw [kit_ty (a := "int") (b := "int") (r := true) (by decide +kernel)] at t1
        rw [kit_ty (a := "int") (b := "bool") (r := false) (by decide +kernel)] at t2
        cases k <;> first | exact absurd rfl e | exact absurd t1 (by decide) | exact absurd t2 (by decide)
    | _ => rfl
/-- a def that may raise, by its body -/
theorem fnX {P : Program} {w : World} {K : PySem.W.Frag} {mg : Str → Option Value} {base : Heap} {x qual : Str} {st : Stmt} {f : Addr} {fd : FuncData} {N ps : List Str} {k : Nat} {sp : Sp} (F : C8.Fun K x qual st f fd) (S : FnScope N ps (C8.fnScope st)) (len : ∀ vs H Q E, sp vs H Q E → vs.length = ps.length)
    (hbody : ∀ (cdv : Value) (A : Around) (outer : List Env) (s : Shared) (H : Hp) (vs : List V) (Q : VK) (E : XK), Room k (A.deeper (PyProof.Rows.envOfC qual (C8.fnScope st) s.heap.objs.size f cdv)) → sp vs H Q E →
      ∃ t, PSs (cxOf (L2.CX P w) P w K mg base N qual (C8.fnScope st) f cdv A outer s H E) (C8.fnBody st) t ∧ t { nx := fun _ H' => Q .non H', rt := Q } (start N vs) H) : FnOk P w K mg base (L2.CX P w) (k + 1) f fd ps sp := by
  obtain ⟨oc, od, dV, kV, doc, pm, an, cdv, ct, osl, rfl, lk, hcd⟩ := F.ex
  exact fn_of lk hcd S len fun A outer s H vs Q E hr hsp => hbody cdv A outer s H vs Q E hr hsp
/-- a def that may raise, called by its name -/
structure CalX (P : Program) (w : World) (K : PySem.W.Frag) (mg : Str → Option Value) (base : Heap) (k : Nat) (x : Str) (sp : Sp) (dvs : List V) : Prop where
  ex : ∃ (f : Addr) (fd : FuncData) (ps : List Str) (ds : List Value), FnOk P w K mg base (L2.CX P w) k f fd ps sp ∧ mg x = some (.ref f) ∧ PySem.W.keepIn K (.ref f) = true ∧ Binds K fd ps ds ∧ Vals dvs ds
/-- a class whose __init__ may raise -/
structure MakX (P : Program) (w : World) (K : PySem.W.Frag) (mg : Str → Option Value) (base : Heap) (k : Nat) (x : Str) (C : Addr) (sp : Sp) (dvs : List V) : Prop where
  ex : ∃ (f : Addr) (fd : FuncData) (ps : List Str) (ds : List Value), Mk K C f ∧ FnOk P w K mg base (L2.CX P w) k f fd ps sp ∧ mg x = some (.ref C) ∧ Binds K fd ps ds ∧ Vals dvs ds
/-- an error class that keeps one thing -/
structure Err (P : Program) (w : World) (K : PySem.W.Frag) (mg : Str → Option Value) (base : Heap) (x : Str) (C : Addr) (fl : Str) : Prop where
  ex : ∃ (fI : Addr) (fd : FuncData) (ps : List Str), OexC K C ∧ PySem.W.findIn K (.ref C) "__init__" = some (some (.ref fI)) ∧ PySem.W.typeIn K (.ref fI) = some (.type "function") ∧ FnOk P w K mg base C8.CX0 1 fI fd ps (spExc C fl) ∧ Binds K fd ps [] ∧ mg x = some (.ref C)
section
variable {X : Cx} {k j : Nat} {C : Addr} {x : Str} {sp : Sp} {dvs : List V} {E : XK} {p pos : Pos} {e : Expr} {es : List Expr} {ta : TA} {fl : Str}
theorem pe_cX (c : CalX X.prog X.w X.K X.mg X.base k x sp dvs) (hr : Room j X.A) (hk : k ≤ j) (hx : Passes (L2.CX X.prog X.w) X E) (hg : Gl X x) (ha : PA X (e :: es) ta)
    (hdb : (x == ("__debug__" : Str)) = false := by decide) (he : starEach (e :: es) X.env = (false, eval e X.env) :: starEach es X.env := by rfl) (hpl : (backTo pos (starEach es X.env)).any (·.1) = false := by rfl) :
    PE X (.Call (.Name x p) (e :: es) [] pos) (tCall sp dvs E ta) := by
  obtain ⟨f, fd, ps, ds, F, hm, kp, b, d⟩ := c.ex
  exact pe_call F (hr.mono hk) hg hm kp b d hx ha hdb he hpl
theorem pe_mkX (c : MakX X.prog X.w X.K X.mg X.base k x C sp dvs) (hr : Room j X.A) (hk : k + 1 ≤ j) (hx : Passes (L2.CX X.prog X.w) X E) (hg : Gl X x) (ha : PA X (e :: es) ta)
    (hdb : (x == ("__debug__" : Str)) = false := by decide) (he : starEach (e :: es) X.env = (false, eval e X.env) :: starEach es X.env := by rfl) (hpl : (backTo pos (starEach es X.env)).any (·.1) = false := by rfl) :
    PE X (.Call (.Name x p) (e :: es) [] pos) (tMake C sp dvs E ta) := by
  obtain ⟨f, fd, ps, ds, M, F, hm, b, d⟩ := c.ex
  exact pe_make M F (hr.mono hk) hg hm b d hx ha hdb he hpl
theorem pmk_err (c : Err X.prog X.w X.K X.mg X.base x C fl) (hr : Room j X.A) (hk : 2 ≤ j) (hg : Gl X x) (ha : PA X (e :: es) ta)
    (hdb : (x == ("__debug__" : Str)) = false := by decide) (he : starEach (e :: es) X.env = (false, eval e X.env) :: starEach es X.env := by rfl) (hpl : (backTo pos (starEach es X.env)).any (·.1) = false := by rfl) :
    PMk X (.Call (.Name x p) (e :: es) [] pos) (tMkO C (spExc C fl) [] ta) := by
  obtain ⟨fI, fd, ps, T, iC, tI, F, b, hm⟩ := c.ex
  exact pmk_oex T iC tI F (hr.mono hk) b .nil C8.pass0 hg hm ha hdb he hpl
end
/-! ### the arguments of kinds -/
def dueC (nm : V) (prs : List (Str × V)) (tm : V) : Option Str :=
  if nameV nm = false then some "name" else match prs.find? fun p => !cntV p.2 with
    | some p => some p.1
    | none => if tm ≠ .non ∧ cntV tm = false then some "times" else none
/-- at a list of pairs (a word, a value) -/
def PrsAt (K : PySem.W.Frag) (H : Hp) (a : Addr) (prs : List (Str × V)) : Prop := ∃ ts : List Addr, H a = some (.lst (ts.map V.ref)) ∧ ts.length = prs.length ∧ ∀ (i : Nat) (t : Addr) (p : Str × V), ts[i]? = some t → prs[i]? = some p → H t = some (.tup [.str p.1, p.2])
theorem PrsAt.same {K : PySem.W.Frag} {H H' : Hp} {a : Addr} {prs : List (Str × V)} (h : PrsAt K H a prs) (s : Same H H') : PrsAt K H' a prs := by
  obtain ⟨ts, h1, h2, h3⟩ := h
  exact ⟨ts, s _ _ h1, h2, fun i t p a b => s _ _ (h3 i t p a b)⟩
def spCheck (K : PySem.W.Frag) (CI : Addr) : Sp := fun vs H Q E => ∃ (nm : V) (a : Addr) (prs : List (Str × V)) (tm : V), vs = [nm, .ref a, tm] ∧ PrsAt K H a prs ∧ GoodV K H nm ∧ GoodV K H tm ∧ (∀ p ∈ prs, GoodV K H p.2) ∧
  (dueC nm prs tm = none → ∀ H', Same H H' → Q .non H') ∧
  ∀ wd, dueC nm prs tm = some wd → ∀ (H' : Hp) (d : Addr), Same H H' → H' d = some (.xd [("word", .str wd)]) → E (.ref CI) (some d) H'
theorem find_pre {α : Type} {p : α → Bool} {xs : List α} {i : Nat} {x : α} (hx : xs[i]? = some x) (h0 : ∀ y ∈ xs.take i, p y = false) (h1 : p x = true) : xs.find? p = some x := by
  have e : xs = xs.take i ++ x :: xs.drop (i + 1) := by
    obtain ⟨hi, rfl⟩ := List.getElem?_eq_some_iff.mp hx
    rw [← List.drop_eq_getElem_cons hi, List.take_append_drop]
  rw [e, List.find?_append, List.find?_eq_none.mpr (fun y hy => by rw [h0 y hy]; exact Bool.false_ne_true), List.find?_cons, h1]
  rfl
end Ts

namespace Ts
open PySem L2
/-- all but one place stay -/
def But (x : Addr) (H H' : Hp) : Prop := ∀ b o, H b = some o → b ≠ x → H' b = some o
theorem But.refl {x : Addr} {H : Hp} : But x H H := fun _ _ h _ => h
theorem But.trans {x : Addr} {H H1 H2 : Hp} (a : But x H H1) (b : But x H1 H2) : But x H H2 := fun c o h n => b c o (a c o h n) n
theorem But.same {x : Addr} {H H1 H2 : Hp} (a : But x H H1) (s : Same H1 H2) : But x H H2 := fun c o h n => s c o (a c o h n)
theorem Same.but {x : Addr} {H H1 : Hp} (s : Same H H1) : But x H H1 := fun c o h _ => s c o h
theorem But.at {x : Addr} {H H1 : Hp} {o : HO} (a : But x H H1) : But x H (upd H1 x o) := fun c u h n => by
  rw [upd_ne n]
  exact a c u h n
theorem But.seq {K : PySem.W.Frag} {x a C dx : Addr} {fs : List (Str × V)} {xs : List V} {H H' : Hp} (b : But x H H') (hx : H x = some (.ins C dx fs)) (h : SqL K H a xs) : SqL K H' a xs := by
  rcases h with (h | ⟨o, h⟩) | h
  · exact .inl (.inl (b _ _ h (ne_of h hx (by intro z; cases z))))
  · exact .inl (.inr ⟨o, b _ _ h (ne_of h hx (by intro z; cases z))⟩)
  · exact .inr h
theorem But.sqt {K : PySem.W.Frag} {x a C dx : Addr} {fs : List (Str × V)} {xs : List V} {H H' : Hp} (b : But x H H') (hx : H x = some (.ins C dx fs)) (h : SqT K H a xs) : SqT K H' a xs := by
  rcases h with (h | ⟨o, h⟩) | h
  · exact .inl (.inl (b _ _ h (ne_of h hx (by intro z; cases z))))
  · exact .inl (.inr ⟨o, b _ _ h (ne_of h hx (by intro z; cases z))⟩)
  · exact .inr h
theorem few {f : Str} {v : V} {fs : List (Str × V)} {n : Nat} (h : fs.length ≤ n) : (putF f v fs).length ≤ n + 1 := Nat.le_trans (length_putF f v fs) (Nat.succ_le_succ h)
theorem few0 : ([] : List (Str × V)).length ≤ 0 := Nat.le_refl _
theorem few_lt {fs : List (Str × V)} {n : Nat} (h : fs.length ≤ n) (h2 : n < 1000) : fs.length < 1000 := Nat.lt_of_le_of_lt h h2
/-- what the text's class says: no class of it has these names -/
structure ClsN (K : PySem.W.Frag) (C : Addr) (ns : List Str) : Prop where
  cl : Cls K C
  no : ∀ n ∈ ns, NoAttr K C n
def stillF (nm d tm : V) : List (Str × V) := putF "times" tm (putF "days" d (putF "name" nm []))
def anewF (nm d tm : V) : List (Str × V) := putF "times" tm (putF "left" d (putF "name" nm []))
def liftF (nm b t tm : V) : List (Str × V) := putF "times" tm (putF "top" t (putF "by" b (putF "name" nm [])))
/-- the promise of a kind's __init__: due, what its arguments owe; fs, its attributes -/
def spKind (K : PySem.W.Frag) (C CI : Addr) (n : Nat) (due : List V → Option Str) (fs : List V → List (Str × V)) : Sp := fun vs H Q E => ∃ (x dx : Addr) (ws : List V), vs = .ref x :: ws ∧ ws.length = n ∧ H x = some (.ins C dx []) ∧ (∀ v ∈ ws, GoodV K H v) ∧
  (due ws = none → ∀ H', H' x = some (.ins C dx (fs ws)) → But x H H' → Q .non H') ∧
  ∀ wd, due ws = some wd → ∀ (H' : Hp) (d : Addr), Same H H' → H' d = some (.xd [("word", .str wd)]) → E (.ref CI) (some d) H'
def dueS : List V → Option Str | [a, b, c] => dueC a [("days", b)] c | _ => none
def dueA : List V → Option Str | [a, b, c] => dueC a [("left", b)] c | _ => none
def dueL : List V → Option Str | [a, b, c, d] => dueC a [("by", b), ("top", c)] d | _ => none
def fsS : List V → List (Str × V) | [a, b, c] => stillF a b c | _ => []
def fsA : List V → List (Str × V) | [a, b, c] => anewF a b c | _ => []
def fsL : List V → List (Str × V) | [a, b, c, d] => liftF a b c d | _ => []
theorem len3 {α : Type} {ws : List α} (h : ws.length = 3) : ∃ a b c, ws = [a, b, c] := by
  match ws, h with
  | [a, b, c], _ => exact ⟨a, b, c, rfl⟩
theorem len4 {α : Type} {ws : List α} (h : ws.length = 4) : ∃ a b c d, ws = [a, b, c, d] := by
  match ws, h with
  | [a, b, c, d], _ => exact ⟨a, b, c, d, rfl⟩
end Ts

namespace Ts
open PySem L2
theorem nodup_le : ∀ {xs ys : List Int}, xs.Nodup → (∀ x ∈ xs, x ∈ ys) → xs.length ≤ ys.length
  | [], _, _, _ => Nat.zero_le _
  | x :: xs, ys, h, hs => by
    rw [List.nodup_cons] at h
    have h1 : x ∈ ys := hs x (List.mem_cons_self ..)
    have h2 := nodup_le (xs := xs) (ys := ys.erase x) h.2 fun z hz => by
      have hne : z ≠ x := fun e => h.1 (e ▸ hz)
      exact (List.mem_erase_of_ne hne).mpr (hs z (List.mem_cons_of_mem _ hz))
    have h3 := List.length_erase_of_mem h1
    have h4 : 0 < ys.length := List.length_pos_of_mem h1
    rw [List.length_cons]
    omega
/-- at most six days of the week are off: one is on -/
theorem day_on {rs : List Int} (h : rs.length ≤ 6) : ∃ k : Int, 0 ≤ k ∧ k < 7 ∧ ¬ k ∈ rs := by
  by_cases e : ∃ k : Int, 0 ≤ k ∧ k < 7 ∧ ¬ k ∈ rs
  · exact e
  · have h1 : ∀ x ∈ ([0, 1, 2, 3, 4, 5, 6] : List Int), x ∈ rs := fun x hx => by
      by_cases hm : x ∈ rs
      · exact hm
      · refine absurd ⟨x, ?_, ?_, hm⟩ e
        · simp only [List.mem_cons, List.not_mem_nil, or_false] at hx
          omega
        · simp only [List.mem_cons, List.not_mem_nil, or_false] at hx
          omega
    have h2 := nodup_le (by decide) h1
    simp only [List.length_cons, List.length_nil] at h2
    omega
theorem least_day {rs : List Int} (t : Int) : ∀ n : Nat, (∃ c, t ≤ c ∧ c < t + n ∧ ¬ c % 7 ∈ rs) → ∃ e, t ≤ e ∧ e < t + n ∧ ¬ e % 7 ∈ rs ∧ ∀ c, t ≤ c → c < e → c % 7 ∈ rs
  | 0, ⟨c, h1, h2, _⟩ => by omega
  | n + 1, ⟨c, h1, h2, h3⟩ => by
    by_cases h : ∃ c, t ≤ c ∧ c < t + (n : Int) ∧ ¬ c % 7 ∈ rs
    · obtain ⟨e, e1, e2, e3, e4⟩ := least_day t n h
      exact ⟨e, e1, by omega, e3, e4⟩
    · refine ⟨c, h1, h2, h3, fun d d1 d2 => ?_⟩
      by_cases hd : d % 7 ∈ rs
      · exact hd
      · exact absurd ⟨d, d1, by omega, hd⟩ h
/-- the first working day from t on -/
theorem next_work {rs : List Int} (h : rs.length ≤ 6) (t : Int) : ∃ e, t ≤ e ∧ e < t + 7 ∧ ¬ e % 7 ∈ rs ∧ ∀ c, t ≤ c → c < e → c % 7 ∈ rs := by
  obtain ⟨k, k0, k1, hk⟩ := day_on h
  refine least_day t 7 ⟨t + (k - t) % 7, ?_, ?_, ?_⟩
  · omega
  · omega
  · have : (t + (k - t) % 7) % 7 = k := by omega
    rw [this]
    exact hk
theorem perm_ints {ys : List V} {ns : List Int} (h : ys.Perm (ns.map V.int)) : ∃ ms : List Int, ys = ms.map V.int ∧ ms.Perm ns := by
  have hall : ∀ y ∈ ys, ∃ i, y = V.int i := fun y hy => by
    obtain ⟨i, _, e⟩ := List.mem_map.mp (h.mem_iff.mp hy)
    exact ⟨i, e.symm⟩
  have hg : ∀ {zs : List V}, (∀ y ∈ zs, ∃ i, y = V.int i) → zs = (zs.map fun v => match v with | .int i => i | _ => 0).map V.int := by
    intro zs hz
    rw [List.map_map]
    conv => lhs; rw [← List.map_id zs]
    refine List.map_congr_left fun y hy => ?_
    obtain ⟨i, rfl⟩ := hz y hy
    rfl
  refine ⟨_, hg hall, ?_⟩
  have := h.map (fun v => match v with | V.int i => i | _ => (0 : Int))
  rw [List.map_map] at this
  have e : (ns.map ((fun v => match v with | V.int i => i | _ => (0 : Int)) ∘ V.int)) = ns := by
    conv => rhs; rw [← List.map_id ns]
    rfl
  rw [e] at this
  exact this
end Ts

namespace Ts
open PySem L2
theorem Went.refl {D L : Addr} {H : Hp} (d : DealAt H D L) : Went D L H H := ⟨d, Kept.refl⟩
/-- an object that is new since H1 is written -/
theorem Went.mut {D L p : Addr} {o : HO} {H1 H' : Hp} (w : Went D L H1 H') (n : H1 p = none) (h1 : p ≠ D) (h2 : p ≠ L) : Went D L H1 (upd H' p o) := by
  refine ⟨?_, fun b u b1 b2 hb => ?_⟩
  · obtain ⟨cs, m, e1, e2, r⟩ := w.d.ex
    exact ⟨cs, m, by rw [upd_ne h1.symm]; exact e1, by rw [upd_ne h2.symm]; exact e2, r⟩
  · rw [upd_ne (ne_of_none hb n)]
    exact w.k _ _ b1 b2 hb
def flatB : V → Bool
  | .non => true
  | .bl _ => true
  | .int _ => true
  | .str x => decide (x.length ≤ 1000) && PyData.strOk x
  | _ => false
theorem goodFlat {K : PySem.W.Frag} {H : Hp} {v : V} (h : flatB v = true) : GoodV K H v := by
  cases v with
  | non => exact ⟨_, tyV_non, fun x z => by cases z⟩
  | bl b => exact ⟨_, tyV_bl, fun x z => by cases z⟩
  | int i => exact ⟨_, tyV_int, fun x z => by cases z⟩
  | str x => exact ⟨_, tyV_str, fun y z => by cases z; exact ⟨of_decide_eq_true (Bool.and_eq_true_iff.mp h).1, (Bool.and_eq_true_iff.mp h).2⟩⟩
  | byt b => cases h
  | flt b => cases h
  | ref a => cases h
  | ty n => cases h
theorem goodAll {K : PySem.W.Frag} {H : Hp} {xs : List V} {v : V} (h : xs.all flatB = true) (hv : v ∈ xs) : GoodV K H v := goodFlat (List.all_eq_true.mp h v hv)
theorem goodList {K : PySem.W.Frag} {H : Hp} {a : Addr} {xs : List V} (h : SqL K H a xs) : GoodV K H (.ref a) := ⟨_, tyV_list h, fun x z => by cases z⟩
theorem goodTup {K : PySem.W.Frag} {H : Hp} {a : Addr} {xs : List V} (h : SqT K H a xs) : GoodV K H (.ref a) := ⟨_, tyV_tup h, fun x z => by cases z⟩
def spAny (K : PySem.W.Frag) (n : Nat) : Sp := fun vs H Q _ => ∃ (D L : Addr) (deep : Int), vs = [.ref D, .int deep] ∧ DealAt H D L ∧ 0 ≤ deep ∧ deep ≤ n ∧
  ∀ (v : V) (H' : Hp), GoodV K H' v → Went D L H H' → Q v H'
def nameVs : List V := [.str "talk", .str "owe", .str "plea", .str "a", .str "b", .str "zz", .str "x", .str "suit", .str "rest", .str "cap"]
def spNames : Sp := fun vs H Q _ => ∃ (D L : Addr) (m : Int), vs = [.ref D, .int m] ∧ DealAt H D L ∧ 0 ≤ m ∧ m ≤ 10 ∧
  ∀ (p : Addr) (zs : List V) (H' : Hp), zs.Perm nameVs → Went D L H H' → H p = none → H' p = some (.lst (zs.take m.toNat)) → Q (.ref p) H'
def formVs : List V := [.str "still", .str "anew", .str "lift"]
def manyVs : List V := [.int 1, .int 1, .int 2, .int 3, .non]
/-- what is drawn of a kind: (form, name, a number, another one or 0, times) -/
structure Told (most : Int) (fm : Str) (a b : Int) (mn : V) : Prop where
  f : V.str fm ∈ formVs
  a1 : 1 ≤ a
  a2 : a ≤ most
  b1 : fm = "lift" → 1 ≤ b
  b2 : fm = "lift" → b ≤ most
  b0 : fm ≠ "lift" → b = 0
  m : mn ∈ manyVs
def spKindD : Sp := fun vs H Q _ => ∃ (D L : Addr) (wd : V) (most : Int), vs = [.ref D, wd, .int most] ∧ DealAt H D L ∧ 0 < most ∧ most < 2 ^ 64 ∧
  ∀ (t : Addr) (fm : Str) (a b : Int) (mn : V) (H' : Hp), Told most fm a b mn → Went D L H H' → H t = none → H' t = some (.tup [.str fm, wd, .int a, .int b, mn]) → Q (.ref t) H'
end Ts

namespace Ts
open PySem L2
theorem cut_toV (xs : List V) (k : Nat) : cutV xs none (some (k : Int)) = xs.take k := by
  have h := cut_to (fun v => v) xs k
  rw [List.map_id', List.map_id'] at h
  exact h
theorem cut_fromV (xs : List V) (k : Nat) : cutV xs (some (k : Int)) none = xs.drop k := by
  unfold cutV
  rw [HT.sIx_nat, HT.sIx_none]
  by_cases h : k ≤ xs.length
  · rw [Nat.min_eq_left h, List.take_of_length_le (by rw [List.length_drop]; exact Nat.le_refl _)]
  · rw [Nat.min_eq_right (by omega), Nat.sub_self, List.take_zero, List.drop_eq_nil_of_le (by omega)]
theorem nameV_not {K : PySem.W.Frag} {H : Hp} {v : V} {k : Kd} (h : TyV K H v k) (e : k ≠ .str) : nameV v = false := by
  obtain ⟨⟨t, tx, t1, t2, t3, t4, t5⟩, _, _⟩ := h
  cases v with
  | str x =>
    cases tx with
    | base hb =>
      cases hb
      rw [kit_ty (a := "str") (b := "str") (r := true) (by decide +kernel)] at t3
      cases k <;> first | exact absurd rfl e | exact absurd t3 (by decide)
  | _ => rfl
theorem dp_signs {K : PySem.W.Frag} {H : Hp} : ∀ cs : List Nat, DpAll K H (cs.map fun c => V.str ⟨#[c]⟩) (cs.map fun c => PyData.str ⟨#[c]⟩)
  | [] => .nil
  | c :: cs => .cons (.str _) (dp_signs cs)
theorem filter_snoc {α : Type} {p : α → Bool} {xs : List α} {i : Nat} {c : α} (h : xs[i]? = some c) : (xs.take (i + 1)).filter p = if p c = true then (xs.take i).filter p ++ [c] else (xs.take i).filter p := by
  rw [List.take_add_one, h, List.filter_append]
  by_cases e : p c = true
  · rw [if_pos e]
    show _ ++ List.filter p [c] = _
    rw [List.filter_cons, if_pos e]
    rfl
  · rw [if_neg e]
    show _ ++ List.filter p [c] = _
    rw [List.filter_cons, if_neg e]
    exact List.append_nil _
theorem shaped_signs {cs : List Nat} (h : ∀ c ∈ cs, c < 0x110000) : SeqAt.shaped (.list (cs.map fun c => PyData.str ⟨#[c]⟩)) = true := by
  have h1 : PyData.canLayAll0 (cs.map fun c => PyData.str ⟨#[c]⟩) = true := by
    induction cs with
    | nil => rfl
    | cons c cs ih =>
      have := ih fun d hd => h d (List.mem_cons_of_mem _ hd)
      simp only [List.map_cons, PyData.canLayAll0, PyData.canLay0, this, Bool.and_true]
      have := h c (List.mem_cons_self ..)
      simp [PyData.strOk, this]
  have h2 : ∀ ds : List Nat, PyData.depthAll (ds.map fun c => PyData.str ⟨#[c]⟩) = 0 := by
    intro ds
    induction ds with
    | nil => rfl
    | cons c ds ih => simp [PyData.depthAll, PyData.depth, ih]
  simp [SeqAt.shaped, PyData.canLay0, PyData.depth, h1, h2]
theorem strOk_mem {x : Str} (h : PyData.strOk x = true) {c : Nat} (hc : c ∈ x.cps.toList) : c < 0x110000 := by
  unfold PyData.strOk at h
  rw [← Array.all_toList] at h
  exact of_decide_eq_true (List.all_eq_true.mp h c hc)
theorem all_filter (cs : List Nat) (p : Nat → Bool) : cs.all p = PyData.eqv (.list ((cs.filter fun c => !p c).map fun c => PyData.str ⟨#[c]⟩)) (.list []) := by
  induction cs with
  | nil => rfl
  | cons c cs ih =>
    rw [List.all_cons, List.filter_cons]
    cases e : p c with
    | true =>
      rw [ih]
      simp
    | false =>
      simp
      rfl
def optV : Option Str → V
  | some x => .str x
  | none => .non
def dueK (fm : Str) (ws : List V) : Option Str := if fm = "lift" then dueL ws else if fm = "still" then dueS ws else dueA ws
def Shape (fm : Str) (ws : List V) : Prop := (fm = "lift" ∧ ws.length = 4) ∨ (fm = "still" ∧ ws.length = 3) ∨ (fm = "anew" ∧ ws.length = 3)
def spHeard (K : PySem.W.Frag) : Sp := fun vs H Q _ => ∃ (fm : Str) (g : Addr) (ws : List V), vs = [.str fm, .ref g] ∧ SqL K H g ws ∧ Shape fm ws ∧ (∀ v ∈ ws, GoodV K H v) ∧ ∀ H', Same H H' → Q (optV (dueK fm ws)) H'
def spSize (K : PySem.W.Frag) : Sp := fun vs H Q _ => ∃ v, vs = [v] ∧ GoodV K H v ∧ Q (.bl (cntV v)) H
theorem nsl : ¬ (("still" : Str) = "lift") := by decide +kernel
theorem nal : ¬ (("anew" : Str) = "lift") := by decide +kernel
theorem nas : ¬ (("anew" : Str) = "still") := by decide +kernel
theorem nsa : ¬ (("still" : Str) = "anew") := by decide +kernel
theorem nls : ¬ (("lift" : Str) = "still") := by decide +kernel
theorem nla : ¬ (("lift" : Str) = "anew") := by decide +kernel
theorem due3 (a b c : V) : valV (mergeK [] [(Sum.inr "still", a), (Sum.inr "anew", b), (Sum.inr "lift", c)]) (Sum.inr ("still" : Str) : Key) = some a ∧
    valV (mergeK [] [(Sum.inr "still", a), (Sum.inr "anew", b), (Sum.inr "lift", c)]) (Sum.inr ("anew" : Str) : Key) = some b ∧
    valV (mergeK [] [(Sum.inr "still", a), (Sum.inr "anew", b), (Sum.inr "lift", c)]) (Sum.inr ("lift" : Str) : Key) = some c := by
  have i : ∀ {x y : Str}, ((Sum.inr x : Key) = Sum.inr y) = (x = y) := fun {x y} => by simp
  refine ⟨?_, ?_, ?_⟩ <;> simp [mergeK, putK, valV, i, nsl, nal, nas, nsa, nls, nla]
/-- the pairs are looked through -/
theorem find_zip {wl : List Str} {vals : List V} : ∀ {i : Nat} {x : Str} {y : V}, wl[i]? = some x → vals[i]? = some y → (wl.zip vals)[i]? = some (x, y) := by
  intro i x y h1 h2
  rw [List.getElem?_zip_eq_some]
  exact ⟨h1, h2⟩
end Ts

namespace Ts
open PySem L2
theorem TyX.mutList {K : PySem.W.Frag} {H : Hp} {b : Addr} {xs ys : List V} {v : V} {t : Value} (h : TyX K H v t) (hb : H b = some (.lst xs)) : TyX K (upd H b (.lst ys)) v t := by
  have key : ∀ {a : Addr} {o : HO}, H a = some o → (∀ xs, o ≠ .lst xs) → upd H b (.lst ys) a = some o := fun {a o} e n => by
    rw [upd_ne (fun z => by rw [z, hb] at e; exact n _ (Option.some.inj e).symm)]
    exact e
  cases h with
  | base h =>
    cases h with
    | non => exact .base .non
    | bl x => exact .base (.bl x)
    | int i => exact .base (.int i)
    | str x => exact .base (.str x)
    | flt x => exact .base (.flt x)
    | @lst a zs e =>
      by_cases hD : a = b
      · rw [hD]
        exact .base (.lst upd_same)
      · exact .base (.lst (by rw [upd_ne hD]; exact e))
    | frz e => exact .base (.frz (key e fun _ z => by cases z))
    | tup e => exact .base (.tup (key e fun _ z => by cases z))
    | dK e => exact .base (.dK (key e fun _ z => by cases z))
    | dT e => exact .base (.dT (key e fun _ z => by cases z))
    | ins e cl ha hn htk hm => exact .base (.ins (key e fun _ z => by cases z) cl ha hn htk hm)
  | byt b => exact .byt b
  | set e => exact .set (key e fun _ z => by cases z)
  | kList e c => exact .kList e c
  | kTuple e c => exact .kTuple e c
  | kDict e c => exact .kDict e c
  | fTuple e => exact .fTuple (key e fun _ z => by cases z)
  | fDict e => exact .fDict (key e fun _ z => by cases z)
theorem GoodV.mutList {K : PySem.W.Frag} {H : Hp} {b : Addr} {xs ys : List V} {v : V} (g : GoodV K H v) (hb : H b = some (.lst xs)) : GoodV K (upd H b (.lst ys)) v := by
  obtain ⟨k, ⟨⟨t, h1, h2⟩, h3, h4⟩, h⟩ := g
  exact ⟨k, ⟨⟨t, TyX.mutList h1 hb, h2⟩, h3, h4⟩, h⟩
theorem rg_mem {n : Nat} {v : V} (h : v ∈ rgV 0 (n : Int)) : ∃ j : Nat, v = .int (j : Int) ∧ j < n := by
  unfold rgV at h
  obtain ⟨j, hj, e⟩ := List.mem_map.mp h
  rw [List.mem_range] at hj
  exact ⟨j, by rw [← e]; simp, by omega⟩
theorem rg_ok (n : Nat) : (rgV 0 (n : Int)).all okV = true := List.all_eq_true.mpr fun v hv => by
  obtain ⟨j, rfl, _⟩ := rg_mem hv
  rfl
theorem ixN_of {n j : Nat} (hj : j < n) : ixN n (j : Int) = some j := by
  unfold ixN
  rw [if_pos (by omega), if_pos (by omega)]
  simp
theorem name_ok {v : V} (h : v ∈ nameVs) : nameV v = true := by
  have hall : nameVs.all nameV = true := by decide +kernel
  exact List.all_eq_true.mp hall v h
theorem many_ok {v : V} (h : v ∈ manyVs) : v = .non ∨ cntV v = true := by
  simp only [manyVs, List.mem_cons, List.not_mem_nil, or_false] at h
  rcases h with rfl | rfl | rfl | rfl | rfl
  · exact .inr rfl
  · exact .inr rfl
  · exact .inr rfl
  · exact .inr rfl
  · exact .inl rfl
theorem dueC_ok {nm tm : V} {prs : List (Str × V)} (h1 : nameV nm = true) (h2 : ∀ p ∈ prs, cntV p.2 = true) (h3 : tm = .non ∨ cntV tm = true) : dueC nm prs tm = none := by
  have hall : prs.find? (fun p => !cntV p.2) = none := List.find?_eq_none.mpr fun p hp => by
    rw [h2 p hp]
    exact Bool.false_ne_true
  rw [dueC, if_neg (by rw [h1]; exact Bool.noConfusion), hall]
  refine if_neg fun z => ?_
  rcases h3 with h | h
  · exact z.1 h
  · rw [h] at z
    exact Bool.noConfusion z.2
theorem cnt_int {i : Int} (h : 1 ≤ i) : cntV (.int i) = true := decide_eq_true h
theorem form_cases {fm : Str} (h : V.str fm ∈ formVs) : fm = "still" ∨ fm = "anew" ∨ fm = "lift" := by
  simp only [formVs, List.mem_cons, List.not_mem_nil, or_false, V.str.injEq] at h
  exact h
theorem scal_opt (o : Option Str) : scal (optV o) (optV o) = true := by cases o <;> rfl
/-- an instance of an own class, as a value -/
structure OwnT (K : PySem.W.Frag) (C : Addr) : Prop where
  cl : Cls K C
  ha : PySem.W.findIn K (.ref C) "__class__" = some (some (.builtin "object.__class__"))
  hn : PySem.W.specialIn K (.builtin "object.__class__") "__get__" = some (some (.builtin "getset_descriptor.__get__"))
  ht : PySem.W.takesIn K (.builtin "object.__class__") = some true
  hm : PySem.W.mroIn K C (.type "object") = some true
  k1 : PySem.W.kitOne K (.ref C) (.type "int") = some false
  k2 : PySem.W.kitOne K (.ref C) (.type "bool") = some false
  k3 : PySem.W.kitOne K (.ref C) (.type "str") = some false
  k4 : PySem.W.kitOne K (.ref C) (.type "list") = some false
  k5 : PySem.W.kitOne K (.ref C) (.type "tuple") = some false
theorem tyV_own {K : PySem.W.Frag} {H : Hp} {a C dx : Addr} {fs : List (Str × V)} (T : OwnT K C) (h : H a = some (.ins C dx fs)) : TyV K H (.ref a) .own :=
  ⟨⟨_, .base (.ins h T.cl T.ha T.hn T.ht T.hm), T.k1, T.k2, T.k3, T.k4, T.k5⟩, fun z => (by cases z), fun z => (by cases z)⟩
theorem goodOwn {K : PySem.W.Frag} {H : Hp} {a C dx : Addr} {fs : List (Str × V)} (T : OwnT K C) (h : H a = some (.ins C dx fs)) : GoodV K H (.ref a) := ⟨_, tyV_own T h, fun x z => by cases z⟩
theorem ite_list {H : Hp} {P : List V → Prop} {b : Bool} {te1 te2 : TE} {σ : L2.St} {Q : VK} (k : ∀ g ws, H g = none → P ws → Q (.ref g) (upd H g (.lst ws)))
    (h1 : b = true → ∃ ws, P ws ∧ ∀ Q' : VK, (∀ g, H g = none → Q' (.ref g) (upd H g (.lst ws))) → te1 σ H Q')
    (h2 : b = false → ∃ ws, P ws ∧ ∀ Q' : VK, (∀ g, H g = none → Q' (.ref g) (upd H g (.lst ws))) → te2 σ H Q') : if b = true then te1 σ H Q else te2 σ H Q := by
  cases b with
  | true =>
    obtain ⟨ws, p, h⟩ := h1 rfl
    exact iteT (h Q fun g ng => k g ws ng p)
  | false =>
    obtain ⟨ws, p, h⟩ := h2 rfl
    exact iteF (h Q fun g ng => k g ws ng p)
theorem Shape.len {fm : Str} {ws us : List V} (h : Shape fm ws) (e : us.length = ws.length) : Shape fm us := by
  rcases h with ⟨a, b⟩ | ⟨a, b⟩ | ⟨a, b⟩
  · exact .inl ⟨a, e.trans b⟩
  · exact .inr (.inl ⟨a, e.trans b⟩)
  · exact .inr (.inr ⟨a, e.trans b⟩)
theorem Shape.le {fm : Str} {ws : List V} (h : Shape fm ws) : ws.length ≤ 4 := by
  rcases h with ⟨_, b⟩ | ⟨_, b⟩ | ⟨_, b⟩ <;> omega
theorem mem_cut {xs : List V} {lo hi : Option Int} {v : V} (h : v ∈ cutV xs lo hi) : v ∈ xs := by
  unfold cutV at h
  exact List.mem_of_mem_drop (List.mem_of_mem_take h)
theorem cut_le {xs : List V} {lo hi : Option Int} : (cutV xs lo hi).length ≤ xs.length := cutV_length xs lo hi
/-- the law's: a list of at most 63 ints is handed in, True comes out -/
def spLaw (K : PySem.W.Frag) : Sp := fun vs H Q _ => ∃ (a : Addr) (ns : List Int), vs = [.ref a] ∧ SqL K H a (ns.map V.int) ∧ ns.length ≤ 63 ∧ ∀ H', Q (.bl true) H'
end Ts

/-! enumerate(tuple) -/
namespace TsE
open PySem
set_option maxHeartbeats 1000000 in
theorem meets_new (l : Addr) (items : Array Value) :
    Meets (Builtin.«enumerate.__new__» ⟨[.type "enumerate", .ref l], []⟩) (fun _ R s => s.heap.IsTuple l items ∧
      R (.ok (.ret (.ref (s.heap.push { cls := .type "tuple_iterator", data := .fields #[.ref l, .int 0 0] }).objs.size)))
        { s with heap := (s.heap.push { cls := .type "tuple_iterator", data := .fields #[.ref l, .int 0 0] }).push { cls := .type "enumerate", data := .fields #[.none, .bool false, .ref s.heap.objs.size, rawInt 0, .none, .none] } }) :=
  .of_wp fun prog w A R s h => by
    obtain ⟨hp, g, d, tk, os⟩ := s; obtain ⟨hl, h⟩ := h
    have hsub := sub_enumerate
    have q1 : ∀ {A' : Around} {E : Value → Shared → Prop} {Q : Value → Shared → Prop}, Q (.ref hp.objs.size) ⟨hp.push { cls := .type "tuple_iterator", data := .fields #[.ref l, .int 0 0] }, g, d, tk, os⟩ → wpAny (model prog w) A' (pyIter (.ref l)) Q E ⟨hp, g, d, tk, os⟩ :=
      fun q => wpAny_pyIter_tuple hl q
    wp_walk using q1
    refine wpAny_stack_any fun st => wpAny_pure ?_
    split
    · rename_i c _ _ _ _ _
      cases (c == Value.type "enumerate")
      · wp_walk using q1
        exact ⟨_, rfl, h⟩
      · wp_walk using q1
        exact ⟨_, rfl, h⟩
    · wp_walk using q1
      exact ⟨_, rfl, h⟩
section
variable {prog : Program} {w : World} {A : Around} {E : Value → Shared → Prop} {s : Shared}
theorem call_enum {l : Addr} {items : Array Value} {Q : Value → Shared → Prop} (hL : s.heap.IsTuple l items)
    (h : ∀ h', IsEnum h' (s.heap.objs.size + 1) s.heap.objs.size 0 .none → h'.IsTupleIter s.heap.objs.size l 0 → h'.objs.size = s.heap.objs.size + 2 →
      (∀ b o, s.heap.get? b = some o → h'.get? b = some o) → Q (.ref (s.heap.objs.size + 1)) { s with heap := h' }) :
    wpAny (model prog w) A (call (.type "enumerate") [.ref l]) Q E s := by
  refine callType_new F.called_enumerate (by decide) (F.typeCall_enumerate_1 _) (F.newCall_enumerate_1 _) (fun obj => F.args_object_init_2 obj _) F.entry_enumerate_new
    (meets_new l items) ⟨hL, ?_⟩
  have hz : (s.heap.push { cls := .type "tuple_iterator", data := .fields #[.ref l, .int 0 0] }).objs.size = s.heap.objs.size + 1 := Heap.size_push ..
  show _ ∧ _
  rw [hz]
  have he : IsEnum ((s.heap.push { cls := .type "tuple_iterator", data := .fields #[.ref l, .int 0 0] }).push
      { cls := .type "enumerate", data := .fields #[.none, .bool false, .ref s.heap.objs.size, rawInt 0, .none, .none] }) (s.heap.objs.size + 1) s.heap.objs.size 0 .none := by
    have := Heap.get?_push_size (s.heap.push { cls := .type "tuple_iterator", data := .fields #[.ref l, .int 0 0] })
      (o := { cls := .type "enumerate", data := .fields #[.none, .bool false, .ref s.heap.objs.size, rawInt 0, .none, .none] }) rfl
    rw [hz] at this; exact this
  refine ⟨⟨_, he, rfl⟩, h _ he ⟨_, Heap.get?_push_of_some _ (Heap.get?_push_size _ rfl), rfl, rfl⟩ (by rw [Heap.size_push, hz]) fun b o x => Heap.get?_push_of_some _ (Heap.get?_push_of_some _ x)⟩
end
end TsE
namespace Ts
open PySem PySem.Spec PyProof.Rows L2
/-- the tuple at a, each item in a new pair -/
def IteT (K : PySem.W.Frag) (a : Addr) : It :=
  ⟨fun i H => ∃ (xs : List V) (x : V), SqT K H a xs ∧ xs[i]? = some x, fun i H v H' => ∃ T x, v = .ref T ∧ H T = none ∧ H' = upd H T (.tup [.int (i : Nat), x]) ∧ ∀ xs, SqT K H a xs → xs[i]? = some x, fun i H => ∃ xs : List V, SqT K H a xs ∧ xs.length = i⟩
theorem en_ne {h : Heap} {e it a : Addr} {i : Int} {old : Value} {its : Array Value} (he : IsEnum h e it i old) (p : h.IsTuple a its) : e ≠ a := by
  intro z
  obtain ⟨o, ho, hc, n, hd⟩ := p
  subst z
  have := he.symm.trans ho
  have e2 := Option.some.inj this
  subst e2
  exact absurd hc (by intro z; injection z with z; exact absurd z (by decide))
theorem it_ne {h : Heap} {it a : Addr} {i : Nat} {its : Array Value} (hi : h.IsTupleIter it a i) (p : h.IsTuple a its) : a ≠ it := by
  intro z
  obtain ⟨o, ho, hc, n, hd⟩ := p
  obtain ⟨o', ho', hc', _⟩ := hi
  subst z
  have e2 := Option.some.inj (ho.symm.trans ho')
  subst e2
  rw [hc] at hc'
  exact absurd hc' (by intro z; injection z with z; exact absurd z (by decide))
theorem turn_enumT {P : Program} {w : World} {K : PySem.W.Frag} {elts : List Expr} {kk : Nat} {tpos : Pos} (a e it : Addr) :
    Turn P w K (.Tuple elts kk tpos) (IteT K a) [e, it] e (fun i h => (∃ old, IsEnum h e it ((i : Nat) : Int) old) ∧ h.IsTupleIter it a i ∧ e ≠ it) where
  mem := by simp
  obj := fun i h st b hb => by
    obtain ⟨⟨old, he⟩, ⟨o, ho, hc, hd⟩, _⟩ := st
    have e' : b = e ∨ b = it := by simpa using hb
    rcases e' with z | z
    · rw [z]; exact ⟨_, he, fun v q => nomatch q⟩
    · rw [z]; exact ⟨o, ho, fun v q => by rw [hd] at q; cases q⟩
  keep := fun i h h' st k => let ⟨⟨old, he⟩, hi, hne⟩ := st; ⟨⟨old, k e (by simp) _ he⟩, hi.at fun o q => k it (by simp) o q, hne⟩
  item := by
    intro X hP hw hK hc i pins s σ H E I hf st hg
    subst hP hw hK
    obtain ⟨⟨old, he⟩, hit, hne⟩ := st
    obtain ⟨xs, x, hq, hx⟩ := hg
    obtain ⟨its, rv, p, hz⟩ := I.tuple hq
    have p : s.heap.IsTuple a its.toArray := p
    obtain ⟨u, hu, ru⟩ := rv.get hx
    have hel : e < s.heap.objs.size := Heap.lt_size he
    have hil : it < s.heap.objs.size := by obtain ⟨_, q, _⟩ := hit; exact Heap.lt_size q
    have hh : X.A.in1.handled = none := by rw [show X.A.in1.handled = X.A.handled from rfl]; exact I.ok.hd hc
    have hlt : i < its.toArray.size := by
      have := (List.getElem?_eq_some_iff.mp hu).1
      simpa using this
    refine wpAny_pyNext_enum_itemD (Draws.tuple hh it a (it_ne hit p) its.toArray) he ⟨hit, p⟩ hlt hne (by simp [en_ne he p, hne]) fun u' h' tk hu' ho hst' hT hsz hk => ?_
    have eu : u' = u := by
      have h1 : its[i]? = some u' := by simpa using hu'
      rw [hu] at h1
      exact (Option.some.inj h1).symm
    subst eu
    refine ⟨_, rfl, wpAny_letOwnedTupleGo_enum (s := { s with heap := h', toks := tk + 1 }) ho fun h'' he' sb => ?_⟩
    have hT2 : h''.get? s.heap.objs.size = some { cls := .type "tuple", data := .seq #[.int i tk, u'] } := (sb.2 _ (Nat.ne_of_gt hel)).trans hT
    have new : ObjOk X.prog X.w (upd H s.heap.objs.size (.tup [.int (i : Nat), x])) h'' s.heap.objs.size (.tup [.int (i : Nat), x]) :=
      ⟨by show 2 ≤ sizeLine; decide, [.int i tk, u'], .cons ⟨_, rfl⟩ (.cons ru .nil), ⟨_, hT2, rfl, _, rfl⟩⟩
    have I1 : Inv X pins σ (upd H s.heap.objs.size (.tup [.int (i : Nat), x])) { s with heap := h'', toks := tk + 1 } :=
      I.turnedNew (ch := [e, it]) (fun b ob hb q => (sb.2 b (fun z => hb (by simp [z]))).trans (hk b ob (fun z => hb (by simp [z])) (fun z => hb (by simp [z])) q)) hf (Nat.le_refl _) new
    refine ⟨.ref s.heap.objs.size, _, I1, rfl, ⟨_, x, rfl, I.hok.fresh (Nat.le_refl _), rfl, fun ys hy => by rw [I.tuple_inj hy hq]; exact hx⟩, ⟨⟨u', ?_⟩, hst'.1.at fun o q => (sb.2 it (Ne.symm hne)).trans q, hne⟩, fun b hb => ?_⟩
    · have e1 : ((i + 1 : Nat) : Int) = (i : Int) + 1 := by omega
      rw [e1]; exact he'
    · have hb' : b < s.heap.objs.size := by
        have e' : b = e ∨ b = it := by simpa using hb
        rcases e' with z | z
        · rw [z]; exact hel
        · rw [z]; exact hil
      rw [upd_ne (Nat.ne_of_lt hb')]
      exact (hf b hb).1
  done := by
    intro X hP hw hK hc i pins s σ H E I hf st hg
    subst hP hw hK
    obtain ⟨⟨old, he⟩, hit, hne⟩ := st
    obtain ⟨xs, hq, hx⟩ := hg
    obtain ⟨its, rv, p, hz⟩ := I.tuple hq
    have p : s.heap.IsTuple a its.toArray := p
    obtain ⟨f0, f1, f2, f3, f4, f5⟩ := hf it (by simp)
    have hl := rv.length
    have hh : X.A.in1.handled = none := by rw [show X.A.in1.handled = X.A.handled from rfl]; exact I.ok.hd hc
    have ei : i = its.toArray.size := by
      rw [← hx]
      simp [hl]
    subst ei
    exact wpAny_pyNext_enum_endD (Draws.tuple hh it a (it_ne hit p) its.toArray) he ⟨hit, p⟩ fun h' eb => ⟨rfl, I.turned (t' := s.toks) (fun b o hb q => eb b o hb q) f0 f1 f3 f4 f5⟩
  self := fun A i s Q E st h => let ⟨⟨_, he⟩, _⟩ := st; wpAny_pyIter_enum he h
theorem walk_enumT {K : PySem.W.Frag} {a : Addr} {xs : List V} : Walk (IteT K a) xs.length (fun H => SqT K H a xs) (YPair (fun i => some (.int (i : Nat))) (fun i => xs[i]?)) := by
  refine ⟨fun i _ hi q => ⟨xs, xs[i], q, by simp [hi]⟩, fun _ q => ⟨xs, q, rfl⟩, fun i H v H' _ q y => ?_⟩
  obtain ⟨T, x, h1, h2, h3, h4⟩ := y
  exact ⟨T, .int (i : Nat), x, h1, h2, h3, rfl, h4 xs q⟩
/-- a list or a tuple -/
def SqQ (K : PySem.W.Frag) (H : Hp) (a : Addr) (xs : List V) : Prop := SqL K H a xs ∨ SqT K H a xs
/-- enumerate of a list or a tuple -/
def iEnumQ (K : PySem.W.Frag) (ta : TA) : TI := fun σ H R => ta σ H fun vs H1 => ∃ a xs, vs = [.ref a] ∧ SqQ K H1 a xs ∧ ∀ (J : It) (G : Hp → Prop), Walk J xs.length G (YPair (fun i => some (.int (i : Nat))) (fun i => xs[i]?)) →
  (∀ H2, (SqL K H1 a xs → SqL K H2 a xs) → (SqT K H1 a xs → SqT K H2 a xs) → G H2) → R J H1
theorem pi_enumQ {X : Cx} {e : Expr} {ta : TA} {p pos tpos : Pos} {elts : List Expr} {kk : Nat} (hg : Gl X "enumerate") (hm : X.mg "enumerate" = none) (ha : PA X [e] ta) (hs : starEach [e] X.env = [(false, eval e X.env)] := by rfl) :
    PI X (.Tuple elts kk tpos) (.Call (.Name "enumerate" p) [e] [] pos) (iEnumQ X.K ta) := by
  refine ⟨fun pins s σ H R I h => ?_⟩
  refine Call_ (ld_blt I hg hm boot_enumerate (PyProof.Rows.callWith_type1 (thn (ha.run pos pins s σ H _ I h) fun us s1 ⟨vs, H1, I1, r1, q1⟩ => ?_) hs rfl))
  obtain ⟨a, xs, ex, hq, q⟩ := q1
  subst ex
  cases r1 with
  | cons r rr =>
    cases rr
    cases r
    have fin : ∀ {h' : Heap}, (∀ b o, s1.heap.get? b = some o → h'.get? b = some o) → ∀ b ∈ [s1.heap.objs.size + 1, s1.heap.objs.size], FpOk X pins H1 b := fun {h'} hk b hb => by
      have e' : b = s1.heap.objs.size + 1 ∨ b = s1.heap.objs.size := by simpa using hb
      have hle : s1.heap.objs.size ≤ b := by
        rcases e' with z | z
        · rw [z]; exact Nat.le_add_right _ _
        · rw [z]; exact Nat.le_refl _
      exact I1.fpOk hle (I1.hok.fresh hle)
    rcases hq with hq | hq
    · obtain ⟨its, rv, p', hz⟩ := I1.list hq
      refine call_enumerate_list p'.isList fun h' he hit hsz hk => wpAny_pyIter_enum he ?_
      have I2 : Inv X pins σ H1 { s1 with heap := h' } := I1.kept (t' := s1.toks) hk
      exact ⟨s1.heap.objs.size + 1, [s1.heap.objs.size + 1, s1.heap.objs.size], _, _, H1, rfl, I2, turn_enum a (s1.heap.objs.size + 1) s1.heap.objs.size, ⟨⟨.none, he⟩, hit, Nat.succ_ne_self _⟩, fin hk, q _ _ walk_enum fun H2 h _ => h hq⟩
    · obtain ⟨its, rv, p', hz⟩ := I1.tuple hq
      refine TsE.call_enum (show s1.heap.IsTuple a its.toArray from p') fun h' he hit hsz hk => wpAny_pyIter_enum he ?_
      have I2 : Inv X pins σ H1 { s1 with heap := h' } := I1.kept (t' := s1.toks) hk
      exact ⟨s1.heap.objs.size + 1, [s1.heap.objs.size + 1, s1.heap.objs.size], _, _, H1, rfl, I2, turn_enumT a (s1.heap.objs.size + 1) s1.heap.objs.size, ⟨⟨.none, he⟩, hit, Nat.succ_ne_self _⟩, fin hk, q _ _ walk_enumT fun H2 _ h => h hq⟩
end Ts

namespace Ts
open PySem L2
/-! ### what other laws draw from: a list of two numbers at B -/
def BoxAt (H : Hp) (B : Addr) : Prop := ∃ g m : Int, H B = some (.lst [.int g, .int m]) ∧ 0 ≤ g ∧ 0 ≤ m ∧ m < 2147483648
/-- all but one place stay -/
def KeptB (B : Addr) (H H' : Hp) : Prop := ∀ b o, b ≠ B → H b = some o → H' b = some o
structure GoB (B : Addr) (H H' : Hp) : Prop where
  d : BoxAt H' B
  k : KeptB B H H'
theorem BoxAt.some {H : Hp} {B : Addr} (d : BoxAt H B) : ∃ o, H B = some o := by
  obtain ⟨g, m, h, _⟩ := d
  exact ⟨_, h⟩
theorem BoxAt.ne {H : Hp} {B p : Addr} (d : BoxAt H B) (hp : H p = none) : p ≠ B := by
  obtain ⟨o, h⟩ := d.some
  exact (ne_of_none h hp).symm
theorem BoxAt.same {H H' : Hp} {B : Addr} (d : BoxAt H B) (s : Same H H') : BoxAt H' B := by
  obtain ⟨g, m, h, r⟩ := d
  exact ⟨g, m, s _ _ h, r⟩
theorem GoB.refl {B : Addr} {H : Hp} (d : BoxAt H B) : GoB B H H := ⟨d, fun _ _ _ h => h⟩
theorem GoB.trans {B : Addr} {H H1 H2 : Hp} (a : GoB B H H1) (b : GoB B H1 H2) : GoB B H H2 := ⟨b.d, fun c o n h => b.k c o n (a.k c o n h)⟩
theorem GoB.same {B : Addr} {H H1 H2 : Hp} (a : GoB B H H1) (s : Same H1 H2) : GoB B H H2 := ⟨a.d.same s, fun c o n h => s c o (a.k c o n h)⟩
theorem GoB.new {B p : Addr} {o : HO} {H H1 : Hp} (a : GoB B H H1) (h : H1 p = none) : GoB B H (upd H1 p o) := a.same (Same.new (Same.refl _) h)
theorem GoB.mut {B p : Addr} {o : HO} {H H1 : Hp} (a : GoB B H H1) (n : H p = none) (h : p ≠ B) : GoB B H (upd H1 p o) := by
  refine ⟨?_, fun c u hc hu => ?_⟩
  · obtain ⟨g, m, e, r⟩ := a.d
    exact ⟨g, m, by rw [upd_ne h.symm]; exact e, r⟩
  · rw [upd_ne (ne_of_none hu n)]
    exact a.k c u hc hu
theorem GoB.free {B p : Addr} {H H1 : Hp} (a : GoB B H H1) (d : BoxAt H B) (h : H1 p = none) : H p = none := by
  cases e : H p with
  | none => rfl
  | some o =>
    by_cases z : p = B
    · obtain ⟨o', h'⟩ := a.d.some
      rw [z] at h
      rw [h] at h'
      cases h'
    · rw [a.k _ _ z e] at h
      cases h
theorem KeptB.sqt {K : PySem.W.Frag} {B a : Addr} {xs : List V} {H H' : Hp} (k : KeptB B H H') (d : BoxAt H B) (h : SqT K H a xs) : SqT K H' a xs := by
  obtain ⟨g, m, e, _⟩ := d
  rcases h with (h | ⟨o, h⟩) | h
  · exact .inl (.inl (k _ _ (ne_of h e (by intro z; cases z)) h))
  · exact .inl (.inr ⟨o, k _ _ (ne_of h e (by intro z; cases z)) h⟩)
  · exact .inr h
theorem KeptB.sql {K : PySem.W.Frag} {B a : Addr} {xs : List V} {H H' : Hp} (k : KeptB B H H') (n : a ≠ B) (h : SqL K H a xs) : SqL K H' a xs := by
  rcases h with (h | ⟨o, h⟩) | h
  · exact .inl (.inl (k _ _ n h))
  · exact .inl (.inr ⟨o, k _ _ n h⟩)
  · exact .inr h
theorem TyX.gob {K : PySem.W.Frag} {B : Addr} {H H' : Hp} {v : V} {t : Value} (h : TyX K H v t) (d : BoxAt H B) (w : GoB B H H') : TyX K H' v t := by
  have key : ∀ {a : Addr} {o : HO}, H a = some o → (∀ xs, o ≠ .lst xs) → H' a = some o := fun {a o} e n => by
    refine w.k _ _ (fun z => ?_) e
    obtain ⟨g, m, h1, _⟩ := d
    rw [z, h1] at e
    exact n _ (Option.some.inj e).symm
  cases h with
  | base h =>
    cases h with
    | non => exact .base .non
    | bl x => exact .base (.bl x)
    | int i => exact .base (.int i)
    | str x => exact .base (.str x)
    | flt x => exact .base (.flt x)
    | @lst a xs e =>
      by_cases hD : a = B
      · obtain ⟨g, m, h1, _⟩ := w.d
        rw [hD]
        exact .base (.lst h1)
      · exact .base (.lst (w.k _ _ hD e))
    | frz e => exact .base (.frz (key e fun _ z => by cases z))
    | tup e => exact .base (.tup (key e fun _ z => by cases z))
    | dK e => exact .base (.dK (key e fun _ z => by cases z))
    | dT e => exact .base (.dT (key e fun _ z => by cases z))
    | ins e cl ha hn htk hm => exact .base (.ins (key e fun _ z => by cases z) cl ha hn htk hm)
  | byt b => exact .byt b
  | set e => exact .set (key e fun _ z => by cases z)
  | kList e c => exact .kList e c
  | kTuple e c => exact .kTuple e c
  | kDict e c => exact .kDict e c
  | fTuple e => exact .fTuple (key e fun _ z => by cases z)
  | fDict e => exact .fDict (key e fun _ z => by cases z)
theorem TyV.gob {K : PySem.W.Frag} {B : Addr} {H H' : Hp} {v : V} {k : Kd} (h : TyV K H v k) (d : BoxAt H B) (w : GoB B H H') : TyV K H' v k := by
  obtain ⟨⟨t, h1, h2⟩, h3, h4⟩ := h
  exact ⟨⟨t, TyX.gob h1 d w, h2⟩, h3, h4⟩
theorem GoodV.gob {K : PySem.W.Frag} {B : Addr} {H H' : Hp} {v : V} (g : GoodV K H v) (d : BoxAt H B) (w : GoB B H H') : GoodV K H' v := by
  obtain ⟨k, t, h⟩ := g
  exact ⟨k, t.gob d w, h⟩
def spSeed (K : PySem.W.Frag) : Sp := fun vs H Q _ => ∃ (a : Addr) (ns : List Int) (k : Int), vs = [.ref a, .int k] ∧ SqL K H a (ns.map V.int) ∧ 0 ≤ k ∧ k < 100 ∧
  ∀ (B : Addr) (H' : Hp), BoxAt H' B → Same H H' → H B = none → Q (.ref B) H'
def spChoose : Sp := fun vs H Q _ => ∃ (B : Addr) (n : Int), vs = [.ref B, .int n] ∧ BoxAt H B ∧ 0 < n ∧ n < 2 ^ 64 ∧
  ∀ (d : Int) (H' : Hp), 0 ≤ d → d < n → GoB B H H' → Q (.int d) H'
def spOneOf (K : PySem.W.Frag) : Sp := fun vs H Q _ => ∃ (B a : Addr) (xs : List V), vs = [.ref B, .ref a] ∧ BoxAt H B ∧ SqL K H a xs ∧ a ≠ B ∧ 0 < xs.length ∧ xs.length ≤ 1000 ∧
  ∀ (v : V) (H' : Hp), v ∈ xs → GoB B H H' → Q v H'
end Ts

namespace Ts
open PySem L2
def numV : V → Bool
  | .int i => decide (0 ≤ i)
  | _ => false
def spIsNum (K : PySem.W.Frag) : Sp := fun vs H Q _ => ∃ (v : V) (k : Kd), vs = [v] ∧ TyV K H v k ∧ Q (.bl (decide (k = .int) && numV v)) H
theorem num_eq {K : PySem.W.Frag} {H : Hp} {v : V} {k : Kd} (h : TyV K H v k) : (decide (k = .int) && numV v) = numV v := by
  obtain ⟨⟨t, tx, t1, t2, t3, t4, t5⟩, i1, _⟩ := h
  by_cases e : k = .int
  · rw [decide_eq_true e]
    rfl
  · rw [decide_eq_false e]
    cases v with
    | int i =>
      cases tx with
      | base hb =>
        cases hb
        rw [kit_ty (a := "int") (b := "int") (r := true) (by decide +kernel)] at t1
        rw [kit_ty (a := "int") (b := "bool") (r := false) (by decide +kernel)] at t2
        cases k <;> first | exact absurd rfl e | exact absurd t1 (by decide) | exact absurd t2 (by decide)
    | _ => rfl
/-! ### what may be an occasion -/
/-- the three things of a triple, or none -/
abbrev Th := Option (V × V × V)
def occO : Th → Bool
  | some (d, n, l) => numV d && (nameV n && cntV l)
  | none => false
def dayO : Th → Int
  | some (.int d, _, _) => d
  | _ => 0
def AnyV (K : PySem.W.Frag) (H : Hp) (v : V) : Prop := ∃ k, TyV K H v k
theorem GoodV.any {K : PySem.W.Frag} {H : Hp} {v : V} (g : GoodV K H v) : AnyV K H v := ⟨g.choose, g.choose_spec.1⟩
theorem AnyV.same {K : PySem.W.Frag} {H H' : Hp} {v : V} (g : AnyV K H v) (s : Same H H') : AnyV K H' v := ⟨g.choose, g.choose_spec.same s⟩
theorem AnyV.gob {K : PySem.W.Frag} {B : Addr} {H H' : Hp} {v : V} (g : AnyV K H v) (d : BoxAt H B) (w : GoB B H H') : AnyV K H' v := ⟨g.choose, g.choose_spec.gob d w⟩
inductive ThV (K : PySem.W.Frag) (H : Hp) : V → Th → Prop
  | no {v : V} {k : Kd} : TyV K H v k → k ≠ .tup → ThV K H v none
  | tup {a : Addr} {xs : List V} : SqT K H a xs → xs.length ≠ 3 → ThV K H (.ref a) none
  | occ {a : Addr} {d n l : V} : SqT K H a [d, n, l] → AnyV K H d → GoodV K H n → AnyV K H l → ThV K H (.ref a) (some (d, n, l))
theorem ThV.same {K : PySem.W.Frag} {H H' : Hp} {v : V} {o : Th} (t : ThV K H v o) (s : Same H H') : ThV K H' v o := by
  cases t with
  | no h n => exact .no (h.same s) n
  | tup h n => exact .tup (Same.sqt s h) n
  | occ h a b c => exact .occ (Same.sqt s h) (a.same s) (b.same s) (c.same s)
theorem ThV.gob {K : PySem.W.Frag} {B : Addr} {H H' : Hp} {v : V} {o : Th} (t : ThV K H v o) (d : BoxAt H B) (w : GoB B H H') : ThV K H' v o := by
  cases t with
  | no h n => exact .no (h.gob d w) n
  | tup h n => exact .tup (w.k.sqt d h) n
  | occ h a b c => exact .occ (w.k.sqt d h) (a.gob d w) (b.gob d w) (c.gob d w)
def ThAll (K : PySem.W.Frag) (H : Hp) (xs : List V) (os : List Th) : Prop := xs.length = os.length ∧ ∀ (i : Nat) (v : V) (o : Th), xs[i]? = some v → os[i]? = some o → ThV K H v o
theorem ThAll.same {K : PySem.W.Frag} {H H' : Hp} {xs : List V} {os : List Th} (t : ThAll K H xs os) (s : Same H H') : ThAll K H' xs os := ⟨t.1, fun i v o h1 h2 => (t.2 i v o h1 h2).same s⟩
theorem ThAll.gob {K : PySem.W.Frag} {B : Addr} {H H' : Hp} {xs : List V} {os : List Th} (t : ThAll K H xs os) (d : BoxAt H B) (w : GoB B H H') : ThAll K H' xs os := ⟨t.1, fun i v o h1 h2 => (t.2 i v o h1 h2).gob d w⟩
theorem ThAll.nil {K : PySem.W.Frag} {H : Hp} : ThAll K H [] [] := ⟨rfl, fun i v o h => by simp at h⟩
theorem ThAll.append {K : PySem.W.Frag} {H : Hp} {xs ys : List V} {os ps : List Th} (t : ThAll K H xs os) (u : ThAll K H ys ps) : ThAll K H (xs ++ ys) (os ++ ps) := by
  refine ⟨by rw [List.length_append, List.length_append, t.1, u.1], fun i v o h1 h2 => ?_⟩
  by_cases hi : i < xs.length
  · rw [List.getElem?_append_left hi] at h1
    rw [List.getElem?_append_left (by rw [← t.1]; exact hi)] at h2
    exact t.2 i v o h1 h2
  · rw [List.getElem?_append_right (by omega)] at h1
    rw [List.getElem?_append_right (by rw [← t.1]; omega), ← t.1] at h2
    exact u.2 _ v o h1 h2
theorem ThAll.one {K : PySem.W.Frag} {H : Hp} {v : V} {o : Th} (t : ThV K H v o) : ThAll K H [v] [o] := ⟨rfl, fun i v' o' h1 h2 => by
  match i, h1, h2 with
  | 0, h1, h2 =>
    cases h1
    cases h2
    exact t
  | i + 1, h1, _ => simp at h1⟩
theorem ThAll.take {K : PySem.W.Frag} {H : Hp} {xs : List V} {os : List Th} (t : ThAll K H xs os) (k : Nat) : ThAll K H (xs.take k) (os.take k) := by
  refine ⟨by rw [List.length_take, List.length_take, t.1], fun i v o h1 h2 => ?_⟩
  rw [List.getElem?_take] at h1 h2
  split at h1
  · rename_i hi
    rw [if_pos hi] at h2
    exact t.2 i v o h1 h2
  · cases h1
theorem ThAll.drop {K : PySem.W.Frag} {H : Hp} {xs : List V} {os : List Th} (t : ThAll K H xs os) (k : Nat) : ThAll K H (xs.drop k) (os.drop k) := by
  refine ⟨by rw [List.length_drop, List.length_drop, t.1], fun i v o h1 h2 => ?_⟩
  rw [List.getElem?_drop] at h1 h2
  exact t.2 _ v o h1 h2
def spIsOcc (K : PySem.W.Frag) : Sp := fun vs H Q _ => ∃ (v : V) (o : Th), vs = [v] ∧ ThV K H v o ∧ ∀ H', Same H H' → Q (.bl (occO o)) H'
/-- whether an occasion may stand there -/
def stands (e : Int) (o : Th) : Bool := occO o && decide (e ≤ dayO o)
/-- the last day behind all of these, none if one can't stand there -/
def runT : Int → List Th → Option Int
  | e, [] => some e
  | e, o :: os => if stands e o = true then runT (dayO o) os else none
/-- the number of the first one that can't stand there -/
def dueT : Int → List Th → Option Nat
  | _, [] => none
  | e, o :: os => if stands e o = true then (dueT (dayO o) os).map (· + 1) else some 0
theorem runT_append : ∀ (os ps : List Th) (e : Int), runT e (os ++ ps) = (runT e os).bind fun f => runT f ps
  | [], ps, e => rfl
  | o :: os, ps, e => by
    rw [List.cons_append, runT, runT]
    split
    · exact runT_append os ps _
    · rfl
theorem dueT_ok : ∀ {os : List Th} {e f : Int}, runT e os = some f → dueT e os = none
  | [], e, f, _ => rfl
  | o :: os, e, f, h => by
    rw [runT] at h
    rw [dueT]
    split at h
    · rename_i hs
      rw [if_pos hs, dueT_ok h]
      rfl
    · cases h
theorem dueT_bad : ∀ {os ps : List Th} {o : Th} {e f : Int}, runT e os = some f → stands f o = false → dueT e (os ++ o :: ps) = some os.length
  | [], ps, o, e, f, h, hb => by
    cases h
    show dueT e (o :: ps) = some 0
    rw [dueT, if_neg (by rw [hb]; exact Bool.false_ne_true)]
  | p :: os, ps, o, e, f, h, hb => by
    rw [runT] at h
    split at h
    · rename_i hs
      show dueT e (p :: (os ++ o :: ps)) = _
      rw [dueT, if_pos hs, dueT_bad h hb]
      rfl
    · cases h
theorem runT_snoc {os : List Th} {e f : Int} {o : Th} (h : runT e os = some f) (hs : stands f o = true) : runT e (os ++ [o]) = some (dayO o) := by
  rw [runT_append, h]
  show runT f [o] = _
  rw [runT, if_pos hs]
  rfl
theorem take_snoc {α : Type} {xs : List α} {i : Nat} {x : α} (h : xs[i]? = some x) : xs.take (i + 1) = xs.take i ++ [x] := by
  rw [List.take_add_one, h]
  rfl
/-- an argument that should be a sequence of occasions: the things in it, none if it is no sequence -/
inductive ArgV (K : PySem.W.Frag) (H : Hp) : V → Option (List V × List Th) → Prop
  | no {v : V} {k : Kd} : TyV K H v k → k.inL = false → k.inT = false → ArgV K H v none
  | seq {a : Addr} {xs : List V} {os : List Th} : SqQ K H a xs → ThAll K H xs os → xs.length ≤ 1000 → ArgV K H (.ref a) (some (xs, os))
theorem SqQ.same {K : PySem.W.Frag} {H H' : Hp} {a : Addr} {xs : List V} (h : SqQ K H a xs) (s : Same H H') : SqQ K H' a xs := h.elim (fun h => .inl (s.seq h)) fun h => .inr (Same.sqt s h)
theorem ArgV.same {K : PySem.W.Frag} {H H' : Hp} {v : V} {r : Option (List V × List Th)} (t : ArgV K H v r) (s : Same H H') : ArgV K H' v r := by
  cases t with
  | no h a b => exact .no (h.same s) a b
  | seq h a b => exact .seq (h.same s) (a.same s) b
/-- a story's attributes -/
def occF (t : Addr) : List (Str × V) := putF "occasions" (.ref t) []
/-- a story stands at s: its things -/
def StoryAt (K : PySem.W.Frag) (H : Hp) (C s : Addr) (os : List Th) : Prop := ∃ (dx t : Addr) (xs : List V), H s = some (.ins C dx (occF t)) ∧ SqT K H t xs ∧ ThAll K H xs os ∧ xs.length ≤ 1000
theorem StoryAt.same {K : PySem.W.Frag} {H H' : Hp} {C s : Addr} {os : List Th} (t : StoryAt K H C s os) (u : Same H H') : StoryAt K H' C s os := by
  obtain ⟨dx, t, xs, h1, h2, h3, h4⟩ := t
  exact ⟨dx, t, xs, u _ _ h1, Same.sqt u h2, h3.same u, h4⟩
/-- the promise of a story's __init__ -/
def spStory (K : PySem.W.Frag) (C CI : Addr) : Sp := fun vs H Q E => ∃ (x dx : Addr) (v : V) (r : Option (List V × List Th)), vs = [.ref x, v] ∧ H x = some (.ins C dx []) ∧ ArgV K H v r ∧
  (∀ xs os, r = some (xs, os) → dueT 0 os = none → ∀ (H' : Hp) (t : Addr), H' x = some (.ins C dx (occF t)) → SqT K H' t xs → But x H H' → Q .non H') ∧
  ∀ i : Nat, (match r with | none => some 0 | some p => dueT 0 p.2) = some i → ∀ (H' : Hp) (d : Addr), Same H H' → H' d = some (.xd [("at", .int i)]) → E (.ref CI) (some d) H'
def lenR : Option (List V × List Th) → Nat
  | none => 0
  | some p => p.1.length
/-- the promise of further, what it makes left out -/
def spFurther (K : PySem.W.Frag) (C CI : Addr) : Sp := fun vs H Q E => ∃ (s : Addr) (os0 : List Th) (v : V) (r : Option (List V × List Th)), vs = [.ref s, v] ∧ StoryAt K H C s os0 ∧ ArgV K H v r ∧ os0.length + lenR r ≤ 1000 ∧
  (∀ xs os, r = some (xs, os) → dueT 0 (os0 ++ os) = none → ∀ (y : Addr) (H' : Hp), Same H H' → StoryAt K H' C y (os0 ++ os) → Q (.ref y) H') ∧
  ∀ i : Nat, (match r with | none => some os0.length | some p => dueT 0 (os0 ++ p.2)) = some i → ∀ (H' : Hp) (d : Addr), Same H H' → H' d = some (.xd [("at", .int i)]) → E (.ref CI) (some d) H'
/-- a method that may raise -/
structure MetX (P : Program) (w : World) (K : PySem.W.Frag) (mg : Str → Option Value) (base : Heap) (k : Nat) (C : Addr) (m : Str) (sp : Sp) (dvs : List V) : Prop where
  ex : ∃ (f : Addr) (fd : FuncData) (ps : List Str) (ds : List Value), Cls K C ∧ Meth K C m f ∧ FnOk P w K mg base (L2.CX P w) k f fd ps sp ∧ Binds K fd ps ds ∧ Vals dvs ds
def optI : Option Nat → V
  | some i => .int i
  | none => .non
/-- the number that is due -/
def dueG (os0 : List Th) : Option (List V × List Th) → Option Nat
  | none => some os0.length
  | some p => dueT 0 (os0 ++ p.2)
def spTried (K : PySem.W.Frag) (C : Addr) : Sp := fun vs H Q _ => ∃ (v z : V) (r : Option (List V × List Th)) (os0 : List Th), vs = [v, z] ∧ ArgV K H v r ∧ os0.length + lenR r ≤ 1000 ∧ ((z = .non ∧ os0 = []) ∨ ∃ s, z = .ref s ∧ StoryAt K H C s os0) ∧
  ∀ H', Same H H' → Q (optI (dueG os0 r)) H'
theorem But.made {x dx C : Addr} {H H' : Hp} (nx : H x = none) (ndx : H dx = none) (hb : But x (upd (upd H dx (.own x)) x (.ins C dx [])) H') : Same H H' := fun b o ho => by
  have bx := ne_of_none ho nx
  refine hb b o ?_ bx
  rw [upd_ne bx, upd_ne (ne_of_none ho ndx)]
  exact ho
theorem Same.made {x dx C : Addr} {H : Hp} (nx : H x = none) (ndx : H dx = none) : Same H (upd (upd H dx (.own x)) x (.ins C dx [])) := fun b o ho => by
  rw [upd_ne (ne_of_none ho nx), upd_ne (ne_of_none ho ndx)]
  exact ho
end Ts

namespace Ts
open PySem L2
def intB (lo hi : Int) : V → Bool
  | .int i => decide (lo ≤ i) && decide (i ≤ hi)
  | _ => false
theorem intB_of {lo hi : Int} {xs : List V} {v : V} (h : xs.all (intB lo hi) = true) (hv : v ∈ xs) : ∃ i : Int, v = .int i ∧ lo ≤ i ∧ i ≤ hi := by
  have := List.all_eq_true.mp h v hv
  cases v with
  | int i =>
    have h2 := Bool.and_eq_true_iff.mp this
    exact ⟨i, rfl, of_decide_eq_true h2.1, of_decide_eq_true h2.2⟩
  | _ => cases this
def nameG (v : V) : Bool := nameV v && flatB v
/-- a drawn row of occasions -/
structure Row (K : PySem.W.Frag) (H : Hp) (xs : List V) (os : List Th) (e : Int) : Prop where
  all : ThAll K H xs os
  run : runT 0 os = some e
  hi : ∀ o ∈ os, dayO o ≤ 10 ^ 17
  top : e ≤ 10 ^ 17
theorem Row.same {K : PySem.W.Frag} {H H' : Hp} {xs : List V} {os : List Th} {e : Int} (r : Row K H xs os e) (s : Same H H') : Row K H' xs os e := ⟨r.all.same s, r.run, r.hi, r.top⟩
theorem Row.gob {K : PySem.W.Frag} {B : Addr} {H H' : Hp} {xs : List V} {os : List Th} {e : Int} (r : Row K H xs os e) (d : BoxAt H B) (w : GoB B H H') : Row K H' xs os e := ⟨r.all.gob d w, r.run, r.hi, r.top⟩
def spDrawn (K : PySem.W.Frag) : Sp := fun vs H Q _ => ∃ (B : Addr) (m : Int), vs = [.ref B, .int m] ∧ BoxAt H B ∧ 0 ≤ m ∧ m ≤ 100 ∧
  ∀ (p : Addr) (xs : List V) (os : List Th) (e : Int) (H' : Hp), Row K H' xs os e → os.length = m.toNat → GoB B H H' → H p = none → H' p = some (.lst xs) → Q (.ref p) H'
def spAnything (K : PySem.W.Frag) (n : Nat) : Sp := fun vs H Q _ => ∃ (B : Addr) (deep : Int), vs = [.ref B, .int deep] ∧ BoxAt H B ∧ 0 ≤ deep ∧ deep ≤ n ∧
  ∀ (v : V) (H' : Hp), ThV K H' v none → GoB B H H' → Q v H'
theorem ThV.flat {K : PySem.W.Frag} {H : Hp} {v : V} (h : flatB v = true) : ThV K H v none := by
  cases v with
  | non => exact .no tyV_non (by decide)
  | bl b => exact .no tyV_bl (by decide)
  | int i => exact .no tyV_int (by decide)
  | str x => exact .no tyV_str (by decide)
  | byt b => cases h
  | flt b => cases h
  | ref a => cases h
  | ty n => cases h
theorem ThAll.mut {K : PySem.W.Frag} {H : Hp} {p : Addr} {xs ys : List V} {us : List V} {os : List Th} (t : ThAll K H xs os) (hp : H p = some (.lst us)) (hocc : ∀ o ∈ os, occO o = true) : ThAll K (upd H p (.lst ys)) xs os := by
  refine ⟨t.1, fun i v o h1 h2 => ?_⟩
  have ho := hocc o (at_mem h2)
  have th := t.2 i v o h1 h2
  have key : ∀ {a : Addr} {zs : List V}, SqT K H a zs → SqT K (upd H p (.lst ys)) a zs := fun {a zs} h => by
    rcases h with (h | ⟨o, h⟩) | h
    · exact .inl (.inl (by rw [upd_ne (ne_of h hp (by intro z; cases z))]; exact h))
    · exact .inl (.inr ⟨o, by rw [upd_ne (ne_of h hp (by intro z; cases z))]; exact h⟩)
    · exact .inr h
  cases th with
  | no => cases ho
  | tup => cases ho
  | @occ a d n l hT gd gn gl =>
    have tm : ∀ {v : V}, AnyV K H v → AnyV K (upd H p (.lst ys)) v := fun {v} g => by
      obtain ⟨k, ⟨t, h1, h2⟩, h3, h4⟩ := g
      exact ⟨k, ⟨t, TyX.mutList h1 hp, h2⟩, h3, h4⟩
    exact .occ (key hT) (tm gd) (gn.mutList hp) (tm gl)
theorem run_le : ∀ {os : List Th} {e f : Int}, runT e os = some f → e ≤ f
  | [], e, f, h => by
    cases h
    exact Int.le_refl _
  | p :: os, e, f, h => by
    rw [runT] at h
    split at h
    · rename_i hs
      have h1 := of_decide_eq_true (Bool.and_eq_true_iff.mp hs).2
      have h2 := run_le h
      omega
    · cases h
theorem run_occ : ∀ {os : List Th} {e f : Int}, runT e os = some f → ∀ o ∈ os, occO o = true
  | [], _, _, _, o, ho => by cases ho
  | p :: os, e, f, h, o, ho => by
    rw [runT] at h
    split at h
    · rename_i hs
      rcases List.mem_cons.mp ho with rfl | ho
      · exact (Bool.and_eq_true_iff.mp hs).1
      · exact run_occ h o ho
    · cases h
end Ts

namespace Ts
open PySem L2
theorem ThV.mutL {K : PySem.W.Frag} {H : Hp} {p : Addr} {us ys : List V} {v : V} {o : Th} (th : ThV K H v o) (hp : H p = some (.lst us)) : ThV K (upd H p (.lst ys)) v o := by
  have key : ∀ {a : Addr} {zs : List V}, SqT K H a zs → SqT K (upd H p (.lst ys)) a zs := fun {a zs} h => by
    rcases h with (h | ⟨o, h⟩) | h
    · exact .inl (.inl (by rw [upd_ne (ne_of h hp (by intro z; cases z))]; exact h))
    · exact .inl (.inr ⟨o, by rw [upd_ne (ne_of h hp (by intro z; cases z))]; exact h⟩)
    · exact .inr h
  have ty : ∀ {v : V} {k : Kd}, TyV K H v k → TyV K (upd H p (.lst ys)) v k := fun {v k} g => by
    obtain ⟨⟨t, h1, h2⟩, h3, h4⟩ := g
    exact ⟨⟨t, TyX.mutList h1 hp, h2⟩, h3, h4⟩
  cases th with
  | no h n => exact .no (ty h) n
  | tup h n => exact .tup (key h) n
  | occ hT gd gn gl => exact .occ (key hT) ⟨_, ty gd.choose_spec⟩ (gn.mutList hp) ⟨_, ty gl.choose_spec⟩
theorem ThAll.mutL {K : PySem.W.Frag} {H : Hp} {p : Addr} {us ys xs : List V} {os : List Th} (t : ThAll K H xs os) (hp : H p = some (.lst us)) : ThAll K (upd H p (.lst ys)) xs os := ⟨t.1, fun i v o h1 h2 => (t.2 i v o h1 h2).mutL hp⟩
/-- it is no occasion -/
def ThBad (K : PySem.W.Frag) (H : Hp) (v : V) : Prop := ∃ o, ThV K H v o ∧ occO o = false
theorem ThBad.same {K : PySem.W.Frag} {H H' : Hp} {v : V} (t : ThBad K H v) (s : Same H H') : ThBad K H' v := ⟨t.choose, t.choose_spec.1.same s, t.choose_spec.2⟩
theorem ThBad.gob {K : PySem.W.Frag} {B : Addr} {H H' : Hp} {v : V} (t : ThBad K H v) (d : BoxAt H B) (w : GoB B H H') : ThBad K H' v := ⟨t.choose, t.choose_spec.1.gob d w, t.choose_spec.2⟩
theorem ThBad.mutL {K : PySem.W.Frag} {H : Hp} {p : Addr} {us ys : List V} {v : V} (t : ThBad K H v) (hp : H p = some (.lst us)) : ThBad K (upd H p (.lst ys)) v := ⟨t.choose, t.choose_spec.1.mutL hp, t.choose_spec.2⟩
theorem ThBad.flat {K : PySem.W.Frag} {H : Hp} {v : V} (h : flatB v = true) : ThBad K H v := ⟨none, .flat h, rfl⟩
theorem ThBad.tup {K : PySem.W.Frag} {H : Hp} {t : Addr} {xs : List V} (h : H t = some (.tup xs)) (n : xs.length ≠ 3) : ThBad K H (.ref t) := ⟨none, .tup (SqT.of h) n, rfl⟩
theorem ThBad.lst {K : PySem.W.Frag} {H : Hp} {t : Addr} {xs : List V} (h : H t = some (.lst xs)) : ThBad K H (.ref t) := ⟨none, .no (tyV_list (SqL.of h)) (by decide), rfl⟩
theorem ThBad.occ {K : PySem.W.Frag} {H : Hp} {t : Addr} {d n l : V} (h : H t = some (.tup [d, n, l])) (h1 : AnyV K H d) (h2 : GoodV K H n) (h3 : AnyV K H l) (b : occO (some (d, n, l)) = false) : ThBad K H (.ref t) := ⟨_, .occ (SqT.of h) h1 h2 h3, b⟩
def AllBad (K : PySem.W.Frag) (H : Hp) (ys : List V) : Prop := ∀ v ∈ ys, ThBad K H v
theorem AllBad.same {K : PySem.W.Frag} {H H' : Hp} {ys : List V} (t : AllBad K H ys) (s : Same H H') : AllBad K H' ys := fun v hv => (t v hv).same s
theorem AllBad.gob {K : PySem.W.Frag} {B : Addr} {H H' : Hp} {ys : List V} (t : AllBad K H ys) (d : BoxAt H B) (w : GoB B H H') : AllBad K H' ys := fun v hv => (t v hv).gob d w
theorem AllBad.append {K : PySem.W.Frag} {H : Hp} {ys zs : List V} (t : AllBad K H ys) (u : AllBad K H zs) : AllBad K H (ys ++ zs) := fun v hv => (List.mem_append.mp hv).elim (t v) (u v)
theorem AllBad.nil {K : PySem.W.Frag} {H : Hp} : AllBad K H [] := fun v hv => by cases hv
theorem AllBad.cons {K : PySem.W.Frag} {H : Hp} {v : V} {ys : List V} (t : ThBad K H v) (u : AllBad K H ys) : AllBad K H (v :: ys) := fun w hw => by
  rcases List.mem_cons.mp hw with rfl | h
  · exact t
  · exact u w h
/-- the box and the row, as they stand -/
structure Hold (K : PySem.W.Frag) (H : Hp) (B p : Addr) (xs : List V) (os : List Th) (e : Int) : Prop where
  bx : BoxAt H B
  hp : H p = some (.lst xs)
  ne : p ≠ B
  row : Row K H xs os e
  len : xs.length ≤ 100
theorem Hold.same {K : PySem.W.Frag} {H H' : Hp} {B p : Addr} {xs : List V} {os : List Th} {e : Int} (h : Hold K H B p xs os e) (s : Same H H') : Hold K H' B p xs os e := ⟨h.bx.same s, s _ _ h.hp, h.ne, h.row.same s, h.len⟩
theorem Hold.gob {K : PySem.W.Frag} {H H' : Hp} {B p : Addr} {xs : List V} {os : List Th} {e : Int} (h : Hold K H B p xs os e) (w : GoB B H H') : Hold K H' B p xs os e := ⟨w.d, w.k _ _ h.ne h.hp, h.ne, h.row.gob h.bx w, h.len⟩
theorem Hold.mutL {K : PySem.W.Frag} {H : Hp} {B p q : Addr} {us ys xs : List V} {os : List Th} {e : Int} (h : Hold K H B p xs os e) (hq : H q = some (.lst us)) (n1 : q ≠ B) (n2 : q ≠ p) : Hold K (upd H q (.lst ys)) B p xs os e := by
  obtain ⟨g, m, hb, r⟩ := h.bx
  exact ⟨⟨g, m, by rw [upd_ne n1.symm]; exact hb, r⟩, by rw [upd_ne n2.symm]; exact h.hp, h.ne, ⟨h.row.all.mutL hq, h.row.run, h.row.hi, h.row.top⟩, h.len⟩
theorem grown {H : Hp} {t : Addr} (o : HO) (n : H t = none) : ∃ H', upd H t o = H' ∧ Same H H' ∧ H' t = some o := ⟨_, rfl, Same.new (Same.refl _) n, upd_same⟩
theorem story_made {K : PySem.W.Frag} {C CI x dx : Addr} {E : XK} {v : V} {xs : List V} {os : List Th} {H : Hp} {Q : Hp → Prop} (nx : H x = none) (ndx : H dx = none) (ha : ArgV K H v (some (xs, os))) (hd : dueT 0 os = none)
    (k : ∀ (H' : Hp), Same H H' → StoryAt K H' C x os → Q H') : spStory K C CI [.ref x, v] (upd (upd H dx (.own x)) x (.ins C dx [])) (fun u H' => u = .non ∧ Q H') E := by
  have sm := Same.made (C := C) nx ndx
  refine ⟨x, dx, v, some (xs, os), rfl, upd_same, ha.same sm, fun xs' os' e hd' H' t hx hS hb => ⟨rfl, ?_⟩, fun i hi => ?_⟩
  · cases e
    have sH := But.made nx ndx hb
    refine k H' sH ⟨dx, t, xs, hx, hS, ?_, ?_⟩
    · cases ha with
      | seq h1 h2 h3 => exact h2.same sH
    · cases ha with
      | seq h1 h2 h3 => exact h3
  · have hi : dueT 0 os = some i := hi
    rw [hd] at hi
    cases hi
theorem run_take {os : List Th} {e : Int} (h : runT 0 os = some e) (k : Nat) : ∃ f, runT 0 (os.take k) = some f := by
  have h2 : runT 0 (os.take k ++ os.drop k) = some e := by rw [List.take_append_drop]; exact h
  rw [runT_append] at h2
  cases hf : runT 0 (os.take k) with
  | none => rw [hf] at h2; cases h2
  | some f => exact ⟨f, rfl⟩
theorem due_take {os : List Th} {e : Int} (h : runT 0 os = some e) (k : Nat) : dueT 0 (os.take k) = none := dueT_ok (run_take h k).choose_spec
theorem due_bent {os : List Th} {e : Int} {o : Th} {k : Nat} (h : runT 0 os = some e) (hb : occO o = false) (hk : k ≤ os.length) : dueT 0 (os.take k ++ ([o] ++ os.drop k)) = some k := by
  obtain ⟨f, hf⟩ := run_take h k
  have := dueT_bad (ps := os.drop k) hf (show stands f o = false by rw [stands, hb]; rfl)
  rw [List.length_take, Nat.min_eq_left hk] at this
  exact this
theorem cut_bent {α : Type} {os us : List α} {c k : Nat} (hc : c ≤ k) (hk : k ≤ os.length) : os.take c ++ (os.take k ++ us).drop c = os.take k ++ us := by
  have e : (os.take k ++ us).take c = os.take c := by
    rw [List.take_append_of_le_length (by rw [List.length_take]; omega), List.take_take, Nat.min_eq_left hc]
  rw [← e, List.take_append_drop]
theorem run_last : ∀ {os : List Th} {e f : Int} (h : runT e os = some f) (n : os ≠ []), dayO (os.getLast n) = f
  | [], _, _, _, n => absurd rfl n
  | [o], e, f, h, _ => by
    rw [runT] at h
    split at h
    · cases h
      rfl
    · cases h
  | o :: p :: os, e, f, h, _ => by
    rw [runT] at h
    split at h
    · rw [List.getLast_cons (by simp)]
      exact run_last h (by simp)
    · cases h
theorem occ_int {d n l : V} (h : occO (some (d, n, l)) = true) : ∃ i : Int, d = .int i ∧ 0 ≤ i := by
  cases d with
  | int i => exact ⟨i, rfl, by simpa [occO, numV] using (Bool.and_eq_true_iff.mp h).1⟩
  | _ => simp [occO, numV] at h
/-- the day of an occasion of a row -/
theorem Row.day {K : PySem.W.Frag} {H : Hp} {xs : List V} {os : List Th} {e : Int} (r : Row K H xs os e) {i : Nat} {v : V} {o : Th} (hv : xs[i]? = some v) (ho : os[i]? = some o) : ∃ (t : Addr) (d : Int) (n l : V), v = .ref t ∧ SqT K H t [.int d, n, l] ∧ d = dayO o ∧ 0 ≤ d ∧ d ≤ 10 ^ 17 := by
  have th := r.all.2 i v o hv ho
  have oc := run_occ r.run o (at_mem ho)
  have hh := r.hi o (at_mem ho)
  cases th with
  | no => cases oc
  | tup => cases oc
  | occ hT gd gn gl =>
    obtain ⟨d, rfl, d0⟩ := occ_int oc
    exact ⟨_, d, _, _, rfl, hT, rfl, d0, hh⟩
theorem due_late {os : List Th} {e : Int} (h : runT 0 os = some e) (he : 0 ≤ e) : dueT 0 (os ++ [some (V.int (e + 1), V.str "a", V.int 1), some (V.int e, V.str "a", V.int 1), none]) = some (os.length + 1) := by
  have h1 : stands e (some (V.int (e + 1), V.str "a", V.int 1)) = true := by
    have a1 : numV (.int (e + 1)) = true := decide_eq_true (by omega)
    have a2 : nameV (.str "a") = true := by decide +kernel
    have a3 : cntV (.int 1) = true := by decide
    rw [stands, show dayO (some (V.int (e + 1), V.str "a", V.int 1)) = e + 1 from rfl]
    simp [occO, a1, a2, a3]
    omega
  have h2 := runT_snoc h h1
  have h3 : stands (e + 1) (some (V.int e, V.str "a", V.int 1)) = false := by
    rw [stands, show dayO (some (V.int e, V.str "a", V.int 1)) = e from rfl, decide_eq_false (show ¬ e + 1 ≤ e by omega), Bool.and_false]
  have := dueT_bad (ps := [none]) h2 h3
  rw [List.length_append, List.append_assoc] at this
  exact this
theorem bad_name {d n l : V} (h : nameV n = false) : occO (some (d, n, l)) = false := by simp [occO, h]
theorem bad_num {d n l : V} (h : numV d = false) : occO (some (d, n, l)) = false := by simp [occO, h]
theorem bad_cnt {d n l : V} (h : cntV l = false) : occO (some (d, n, l)) = false := by simp [occO, h]
theorem ThAll.sq {K : PySem.W.Frag} {H : Hp} {p : Addr} {xs : List V} {os : List Th} (t : ThAll K H xs os) (hp : H p = some (.lst xs)) (hl : xs.length ≤ 1000) : ArgV K H (.ref p) (some (xs, os)) := .seq (.inl (SqL.of hp)) t hl
theorem ThAll.sqT {K : PySem.W.Frag} {H : Hp} {p : Addr} {xs : List V} {os : List Th} (t : ThAll K H xs os) (hp : H p = some (.tup xs)) (hl : xs.length ≤ 1000) : ArgV K H (.ref p) (some (xs, os)) := .seq (.inr (SqT.of hp)) t hl
theorem ite_int {H : Hp} {Pd : Int → Prop} {b : Bool} {te1 te2 : TE} {σ : L2.St} {Q : VK} (k : ∀ d, Pd d → Q (.int d) H)
    (h1 : b = true → ∃ d, Pd d ∧ ∀ Q' : VK, Q' (.int d) H → te1 σ H Q') (h2 : b = false → ∃ d, Pd d ∧ ∀ Q' : VK, Q' (.int d) H → te2 σ H Q') : if b = true then te1 σ H Q else te2 σ H Q := by
  cases b with
  | true =>
    obtain ⟨d, p, h⟩ := h1 rfl
    exact iteT (h Q (k d p))
  | false =>
    obtain ⟨d, p, h⟩ := h2 rfl
    exact iteF (h Q (k d p))
theorem log_small {i : Int} (h0 : 0 ≤ i) (h1 : i ≤ 10 ^ 17) : i.natAbs.log2 < 1920 := by
  have h : i.natAbs < 2 ^ 60 := by
    have : (2 : Nat) ^ 60 = 1152921504606846976 := by decide
    omega
  exact Nat.lt_trans (PySem.Flt.log2_lt_of (by decide) h) (by decide)
theorem GoB.toSame {B : Addr} {H H1 H2 H' : Hp} (w : GoB B H2 H') (s : Same H H1) (s2 : Same H1 H2) (n : H1 B = none) : Same H H' := fun b o ho => w.k b o (ne_of_none (s b o ho) n) (s2 b o (s b o ho))
theorem Row.last {K : PySem.W.Frag} {H : Hp} {xs : List V} {os : List Th} {e : Int} (r : Row K H xs os e) (hn : 0 < xs.length) : ∃ (t : Addr) (n l : V), atI xs (-1) = some (.ref t) ∧ SqT K H t [.int e, n, l] := by
  have hno : os ≠ [] := fun z => by
    have := r.all.1
    rw [z] at this
    simp at this
    rw [this] at hn
    exact absurd hn (by decide)
  have hnx : xs ≠ [] := fun z => by
    rw [z] at hn
    exact absurd hn (by decide)
  have e1 : xs[xs.length - 1]? = some (xs.getLast hnx) := by rw [← List.getLast?_eq_getElem?, List.getLast?_eq_some_getLast hnx]
  have e2 : os[xs.length - 1]? = some (os.getLast hno) := by rw [r.all.1, ← List.getLast?_eq_getElem?, List.getLast?_eq_some_getLast hno]
  obtain ⟨t, d, n, l, ev, hT, hd, _⟩ := r.day e1 e2
  rw [run_last r.run hno] at hd
  subst hd
  refine ⟨t, n, l, ?_, hT⟩
  rw [← ev]
  have := atI_last xs.dropLast (xs.getLast hnx)
  rw [List.dropLast_concat_getLast hnx] at this
  exact this
/-- no sequence -/
def NoSeq (K : PySem.W.Frag) (H : Hp) (v : V) : Prop := ∃ k, TyV K H v k ∧ k.inL = false ∧ k.inT = false
theorem NoSeq.arg {K : PySem.W.Frag} {H : Hp} {v : V} (h : NoSeq K H v) : ArgV K H v none := .no h.choose_spec.1 h.choose_spec.2.1 h.choose_spec.2.2
theorem NoSeq.same {K : PySem.W.Frag} {H H' : Hp} {v : V} (h : NoSeq K H v) (s : Same H H') : NoSeq K H' v := ⟨_, h.choose_spec.1.same s, h.choose_spec.2⟩
theorem NoSeq.gob {K : PySem.W.Frag} {B : Addr} {H H' : Hp} {v : V} (h : NoSeq K H v) (d : BoxAt H B) (w : GoB B H H') : NoSeq K H' v := ⟨_, h.choose_spec.1.gob d w, h.choose_spec.2⟩
theorem NoSeq.flat {K : PySem.W.Frag} {H : Hp} {v : V} (h : flatB v = true) : NoSeq K H v := by
  cases v with
  | non => exact ⟨_, tyV_non, rfl, rfl⟩
  | bl b => exact ⟨_, tyV_bl, rfl, rfl⟩
  | int i => exact ⟨_, tyV_int, rfl, rfl⟩
  | str x => exact ⟨_, tyV_str, rfl, rfl⟩
  | byt b => cases h
  | flt b => cases h
  | ref a => cases h
  | ty n => cases h
end Ts

/-! len(set(xs)): xs a list or a tuple of keys of one kind; as many as are unlike -/
namespace TsS
open PySem PySem.Spec PyProof.Rows
section
variable {κ : Type} [DecidableEq κ]
/-- how many unlike ones stand among the first i -/
def uq (val : Nat → κ) : Nat → Nat
  | 0 => 0
  | i + 1 => if ((List.range i).map val).contains (val i) then uq val i else uq val i + 1
theorem uq_le (val : Nat → κ) : ∀ i, uq val i ≤ i
  | 0 => Nat.le_refl _
  | i + 1 => by
    have := uq_le val i
    rw [uq]
    split <;> omega
theorem uq_full (val : Nat → κ) : ∀ i, uq val i = i ↔ ((List.range i).map val).Nodup
  | 0 => by simp [uq]
  | i + 1 => by
    have h1 := uq_le val i
    rw [uq, List.range_succ, List.map_append, List.nodup_append]
    constructor
    · intro h
      split at h
      · omega
      · rename_i hc
        refine ⟨(uq_full val i).mp (by omega), by simp, fun a ha b hb e => ?_⟩
        have hb' : b = val i := by simpa using hb
        subst hb'
        subst e
        exact hc (List.contains_iff_mem.mpr ha)
    · rintro ⟨h, _, hd⟩
      rw [if_neg (fun hc => hd _ (List.contains_iff_mem.mp hc) _ (by simp) rfl), (uq_full val i).mpr h]
/-- the first i, as a set -/
def seen (val : Nat → κ) (i : Nat) : κ → Bool := fun k => ((List.range i).map val).contains k
theorem seen_succ (val : Nat → κ) (i : Nat) (k : κ) : seen val (i + 1) k = (seen val i k || decide (k = val i)) := by
  unfold seen
  rw [List.range_succ, List.map_append, List.contains_append]
  simp
end
section
variable {prog : Program} {w : World} {κ : Type} [DecidableEq κ] {kk : KeyKind prog w κ}
theorem set_as {h : Heap} {a : Addr} {S S' : κ → Bool} {n n' : Nat} (x : h.SetOf kk a S n) (e : ∀ k, S k = S' k) (en : n = n') : h.SetOf kk a S' n' := by
  have e' : S = S' := funext e
  rw [← e', ← en]
  exact x
theorem set_moves {h h' : Heap} {a : Addr} {S : κ → Bool} {n : Nat} (x : h.SetOf kk a S n) (k : ∀ o, h.get? a = some o → h'.get? a = some o) : h'.SetOf kk a S n := by
  obtain ⟨o, es, ep, t, ho, r⟩ := x
  exact ⟨o, es, ep, t, k o ho, r⟩
section
variable {A : Around} {R : Result → Shared → Prop} {I : Addr} {fp wr : List Addr} {G : Array GenState → Array GenState → Prop} {n : Nat} {P : Nat → Value → Prop} {St : Nat → Shared → Prop}
/-- what the update's loop makes of an iterator -/
theorem update_all (W : WalksS prog w A.in1 I fp wr G n P St) (S : Addr) (out : S ∉ fp) (val : Nat → κ) (hval : ∀ i v, P i v → kk.is (val i) v = true ∧ v.scannable = true) (room : n + 1 < scanBound) : ∀ (left i : Nat) (s : Shared), i + left = n → St i s → s.heap.SetOf kk S (seen val i) (uq val i) →
    (∀ s2, Moved (S :: wr) G s s2 → s2.heap.SetOf kk S (seen val n) (uq val n) → R (.ok (.ret .none)) s2) → codeAny (model prog w) A (.builtin "set.update.loop" ⟨[.ref S, .ref I], []⟩) R s := by
  have nw : S ∉ wr := fun h => out (W.sub _ h)
  have up : ∀ b ∈ wr, b ∈ S :: wr := fun b => List.mem_cons_of_mem _
  intro left
  induction left with
  | zero =>
    intro i s hi st hS done
    have e : i = n := by omega
    subst e
    refine codeAny_builtin F.entry_set_update_loop ?_
    rw [Around.under_plainId F.plain_set_update_loop _]
    refine (show wpAny _ A.in1 (pyNext (.ref I) >>= _) _ _ s from wpAny_bind (W.done s _ _ st fun s2 mv => ?_))
    exact (show wpAny _ A.in1 (ret Value.none) _ _ s2 from wpAny_pure (done s2 (mv.mono up) (set_moves hS fun o ho => mv.heap S o nw ho)))
  | succ left ih =>
    intro i s hi st hS done
    have lt : i < n := by omega
    refine codeAny_builtin F.entry_set_update_loop ?_
    rw [Around.under_plainId F.plain_set_update_loop _]
    refine (show wpAny _ A.in1 (pyNext (.ref I) >>= _) _ _ s from wpAny_bind (W.item i s _ _ lt st fun v s2 hP st2 mv => ?_))
    obtain ⟨hk, hsc⟩ := hval i v hP
    have hS2 : s2.heap.SetOf kk S (seen val i) (uq val i) := set_moves hS fun o ho => mv.heap S o nw ho
    refine (show wpAny _ A.in1 (holding [v] (setAdd S v) >>= _) _ _ s2 from wpAny_bind (wpAny_holding ?_))
    unfold setAdd
    refine wpAny_holding (wpAny_bind (kk.pyHash hk ?_))
    have few := uq_le val i
    refine wpAny_setAddHashed_of (knd := kk) (s := { s2 with toks := s2.toks + 1 }) hk hsc hS2 (by omega) fun h3 sb hS3 => ?_
    have hS4 : h3.SetOf kk S (seen val (i + 1)) (uq val (i + 1)) := set_as hS3 (fun k => (seen_succ val i k).symm) (by rw [uq]; rfl)
    have keep : ∀ b o, b ≠ S → s2.heap.get? b = some o → h3.get? b = some o := fun b o nb e => by rw [sb.2 b nb]; exact e
    refine wpAny_pure ⟨plainId_quiet F.plain_set_update_loop _, ih (i + 1) _ (by omega) (W.frame _ s2 _ _ st2 (Nat.le_succ _) fun b hb o e => keep b o (fun z => out (z ▸ hb)) e) hS4 fun s5 mv5 hS5 => ?_⟩
    exact done s5 (Moved.trans W.gtrans ((mv.mono up).then_heap (Nat.le_succ _) fun b o hb e => keep b o (fun z => hb (z ▸ List.mem_cons_self)) e) mv5) hS5
end
end
end TsS
namespace TsS
open PySem PySem.Spec PyProof.Rows
section
variable {prog : Program} {w : World} {κ : Type} [DecidableEq κ] {kk : KeyKind prog w κ} {A : Around} {E : Value → Shared → Prop} {s : Shared}
/-- an empty set, just made -/
abbrev bare (led : Bool) : Obj := { cls := .type "set", dict := none, data := .set #[] 0 (.fresh 0 0 led) }
theorem fresh_seen {h : Heap} {a : Addr} {led : Bool} (val : Nat → κ) (e : h.get? a = some (bare led)) : h.SetOf kk a (seen val 0) (uq val 0) :=
  set_as ((PyProof.Rows.setObjOf_fresh (knd := kk) led).setOf e (by unfold scanBound; omega)) (fun _ => rfl) rfl
/-- set(x): by what its __init__ does -/
theorem set_of {x : Value} {Q : Value → Shared → Prop}
    (init : ∀ led : Bool, wpAny (model prog w) A.in1.in1 (PySem.Builtin.«set.__init__» ⟨[.ref s.heap.objs.size, x], []⟩)
      (fun fin s2 => match fin with | .done f => wants (fun r s3 => r = .none ∧ Q (.ref s.heap.objs.size) s3) E (.ok f) s2 | .again c => c.quiet = true ∧ codeAny (model prog w) A.in1 c (wants (fun r s3 => r = .none ∧ Q (.ref s.heap.objs.size) s3) E) s2)
      (fun e s2 => wants (fun r s3 => r = .none ∧ Q (.ref s.heap.objs.size) s3) E (.error e) s2) { s with heap := s.heap.push (bare led) }) : wpAny (model prog w) A (call (.type "set") [x]) Q E s := by
  obtain ⟨m0, ms, hmro⟩ := PySem.F.called_set.mro
  have made := PySem.F.called_set.made
  have sub := PySem.F.called_set.sub
  have nt := PySem.F.called_set.notType
  have cc := PySem.F.called_set.canCreate
  have tc := PySem.F.typeCall_set_1 x
  refine wpAny_call (codeAny_of_tree (show wpAny _ _ (callAny (.type "set") _) _ _ _ from wpAny_pure ⟨Code.quiet_builtin _ (by decide +kernel), codeAny_builtin PySem.F.entry_type_call ?_⟩))
  rw [Around.under_plain (weight_type_call_type "set" [x] []) rfl]
  repeat (any_goals (first | assumption | wp_step))
  refine codeAny_mono (PySem.code_set_new_1 x (E := E) (Q₁ := fun o s1 => ∃ led : Bool, o = .ref s.heap.objs.size ∧ s1 = { s with heap := s.heap.push (bare led) }) fun led => ⟨led, rfl, rfl⟩) fun r1 s1 h1 => ?_
  cases r1 with
  | error e => exact h1
  | ok f1 =>
    cases f1 with
    | ret o =>
      obtain ⟨led, rfl, rfl⟩ := h1
      have at0 : (s.heap.push (bare led)).get? s.heap.objs.size = some (bare led) := Heap.get?_push_size _ rfl
      have ty : Shared.TypeIs { s with heap := s.heap.push (bare led) } (.ref s.heap.objs.size) "set" := ⟨_, at0, rfl⟩
      have look := PySem.F.called_set.init.lookup
      have bnd := PySem.F.called_set.init.bind (.ref s.heap.objs.size)
      repeat (any_goals (first | assumption | wp_step))
      refine codeAny_mono (codeAny_call_builtin PySem.F.called_set.init.plain PySem.F.entry_set_init (PySem.check_set_init_1 ty (init led))) fun r2 s2 h2 => ?_
      cases r2 with
      | error e => exact h2
      | ok f2 =>
        cases f2 with
        | ret r =>
          obtain ⟨rfl, q⟩ := h2
          repeat (any_goals (first | assumption | wp_step))
        | _ => exact h2.elim
    | _ => exact h1.elim
/-- its walk, once the iterator I stands -/
theorem set_walk {led : Bool} {it : Obj} {l : Addr} {items : Array Value} {St : Nat → Heap → Prop} (val : Nat → κ) {Q : Value → Shared → Prop} (W : Walks prog w A.in1.in1.in1 (s.heap.objs.size + 1) [s.heap.objs.size + 1, l] [s.heap.objs.size + 1] items.size (fun i v => items[i]? = some v) St)
    (nl : l < s.heap.objs.size) (hval : ∀ (i : Nat) (v : Value), items[i]? = some v → kk.is (val i) v = true ∧ v.scannable = true) (room : items.size + 1 < scanBound) (st : St 0 ((s.heap.push (bare led)).push it))
    (fin : ∀ (h' : Heap) (tk : Nat), h'.SetOf kk s.heap.objs.size (seen val items.size) (uq val items.size) → (∀ b o, s.heap.get? b = some o → h'.get? b = some o) → Q (.ref s.heap.objs.size) { s with heap := h', toks := tk }) :
    codeAny (model prog w) A.in1.in1 (.builtin "set.update.loop" ⟨[.ref s.heap.objs.size, .ref (s.heap.objs.size + 1)], []⟩) (fun r s2 => r = .ok (.ret .none) ∧ Q (.ref s.heap.objs.size) s2) { s with heap := (s.heap.push (bare led)).push it } := by
  have at0 : ((s.heap.push (bare led)).push it).get? s.heap.objs.size = some (bare led) := Heap.get?_push_of_some _ (Heap.get?_push_size _ rfl)
  refine update_all W.toS s.heap.objs.size (by
    simp only [List.mem_cons, List.not_mem_nil, or_false, not_or]
    exact ⟨Nat.ne_of_lt (Nat.lt_succ_self _), Nat.ne_of_gt nl⟩) val hval room items.size 0 _ (by omega) st (fresh_seen val at0) fun s2 mv hS => ?_
  obtain ⟨h', g', d', tk', os'⟩ := s2
  have eg : g' = s.gens := mv.gens
  have ed : d' = s.drawn := mv.drawn
  have eo : os' = s.os := mv.os
  subst eg ed eo
  refine ⟨rfl, fin h' tk' hS fun b o e => ?_⟩
  have lt := Heap.lt_size e
  exact mv.heap b o (by
    simp only [List.mem_cons, List.not_mem_nil, or_false, not_or]
    exact ⟨Nat.ne_of_lt lt, Nat.ne_of_lt (Nat.lt_succ_of_lt lt)⟩) (Heap.get?_push_of_some _ (Heap.get?_push_of_some _ e))
set_option maxHeartbeats 1000000 in
/-- set(l), l a list, or a tuple -/
theorem set_list {l : Addr} {items : Array Value} (val : Nat → κ) {Q : Value → Shared → Prop} (hh : A.handled = none) (hl : s.heap.IsList l items) (hval : ∀ (i : Nat) (v : Value), items[i]? = some v → kk.is (val i) v = true ∧ v.scannable = true) (room : items.size + 1 < scanBound)
    (fin : ∀ (h' : Heap) (tk : Nat), h'.SetOf kk s.heap.objs.size (seen val items.size) (uq val items.size) → (∀ b o, s.heap.get? b = some o → h'.get? b = some o) → Q (.ref s.heap.objs.size) { s with heap := h', toks := tk }) :
    wpAny (model prog w) A (call (.type "set") [.ref l]) Q E s := by
  refine set_of fun led => ?_
  have nl : l < s.heap.objs.size := by
    obtain ⟨o, ho, _⟩ := hl
    exact Heap.lt_size ho
  have hh3 : A.in1.in1.in1.handled = none := by simp [hh]
  have W := set_walk (kk := kk) (led := led) (it := { cls := .type "list_iterator", data := .fields #[.ref l, .int 0 0] }) val (Q := Q) (Walks.list (prog := prog) (w := w) hh3 (s.heap.objs.size + 1) l (Nat.ne_of_lt (Nat.lt_succ_of_lt nl)) items) nl hval room
    ⟨⟨_, by rw [show s.heap.objs.size + 1 = (s.heap.push (bare led)).objs.size from (Heap.size_push ..).symm]; exact Heap.get?_push_size _ rfl, rfl, rfl⟩, (hl.push _).push _⟩ fin
  obtain ⟨⟨c, dct, dt, sl⟩, ho, hc, n, hd⟩ := hl
  simp only at hc hd
  subst hc hd
  have at1 : (s.heap.push (bare led)).get? l = some { cls := .type "list", dict := dct, data := .seq items n, slots := sl } := Heap.get?_push_of_some _ ho
  have hl1 : (s.heap.push (bare led)).IsList l items := ⟨_, at1, rfl, n, rfl⟩
  have s1 := PySem.F.sub_list_set
  have s2 := PySem.F.sub_list_frozenset
  have s3 : (Value.type "list" == Value.type "dict") = false := by decide
  unfold PySem.Builtin.«set.__init__» noKeywords PySem.Builtin.Frozenset.updateFrom
  generalize hPI : pyIter = PI
  wp_walk
  subst hPI
  refine wpAny_pyIter_list hl1 (wpAny_bind (wpAny_runValue ?_))
  dsimp only
  rw [show (s.heap.push (bare led)).objs.size = s.heap.objs.size + 1 from Heap.size_push ..]
  refine codeAny_mono W fun r s2 h => ?_
  obtain ⟨rfl, q⟩ := h
  exact wpAny_pure (show wpAny _ _ (ret Value.none) _ _ _ from wpAny_pure ⟨rfl, q⟩)
set_option maxHeartbeats 1000000 in
theorem set_tuple {l : Addr} {items : Array Value} (val : Nat → κ) {Q : Value → Shared → Prop} (hh : A.handled = none) (hl : s.heap.IsTuple l items) (hval : ∀ (i : Nat) (v : Value), items[i]? = some v → kk.is (val i) v = true ∧ v.scannable = true) (room : items.size + 1 < scanBound)
    (fin : ∀ (h' : Heap) (tk : Nat), h'.SetOf kk s.heap.objs.size (seen val items.size) (uq val items.size) → (∀ b o, s.heap.get? b = some o → h'.get? b = some o) → Q (.ref s.heap.objs.size) { s with heap := h', toks := tk }) :
    wpAny (model prog w) A (call (.type "set") [.ref l]) Q E s := by
  refine set_of fun led => ?_
  have nl : l < s.heap.objs.size := by
    obtain ⟨o, ho, _⟩ := hl
    exact Heap.lt_size ho
  have hh3 : A.in1.in1.in1.handled = none := by simp [hh]
  have W := set_walk (kk := kk) (led := led) (it := { cls := .type "tuple_iterator", data := .fields #[.ref l, .int 0 0] }) val (Q := Q) (Walks.tuple (prog := prog) (w := w) hh3 (s.heap.objs.size + 1) l (Nat.ne_of_lt (Nat.lt_succ_of_lt nl)) items) nl hval room
    ⟨⟨_, by rw [show s.heap.objs.size + 1 = (s.heap.push (bare led)).objs.size from (Heap.size_push ..).symm]; exact Heap.get?_push_size _ rfl, rfl, rfl⟩, (hl.push _).push _⟩ fin
  obtain ⟨⟨c, dct, dt, sl⟩, ho, hc, n, hd⟩ := hl
  simp only at hc hd
  subst hc hd
  have at1 : (s.heap.push (bare led)).get? l = some { cls := .type "tuple", dict := dct, data := .seq items n, slots := sl } := Heap.get?_push_of_some _ ho
  have hl1 : (s.heap.push (bare led)).IsTuple l items := ⟨_, at1, rfl, n, rfl⟩
  have s1 := PySem.F.sub_tuple_set
  have s2 := PySem.F.sub_tuple_frozenset
  have s3 : (Value.type "tuple" == Value.type "dict") = false := by decide
  unfold PySem.Builtin.«set.__init__» noKeywords PySem.Builtin.Frozenset.updateFrom
  generalize hPI : pyIter = PI
  wp_walk
  subst hPI
  refine wpAny_pyIter_tuple hl1 (wpAny_bind (wpAny_runValue ?_))
  dsimp only
  rw [show (s.heap.push (bare led)).objs.size = s.heap.objs.size + 1 from Heap.size_push ..]
  refine codeAny_mono W fun r s2 h => ?_
  obtain ⟨rfl, q⟩ := h
  exact wpAny_pure (show wpAny _ _ (ret Value.none) _ _ _ from wpAny_pure ⟨rfl, q⟩)
end
end TsS
namespace Ts
open PySem PySem.Spec PyProof.Rows L2
/-- the keys of ints -/
theorem intAt {ns : List Int} {us : List Value} (r : Vals (ns.map V.int) us) (prog : Program) (w : World) : ∀ (i : Nat) (v : Value), us.toArray[i]? = some v → (intKind prog w).is (ns.getD i 0) v = true ∧ v.scannable = true := fun i v hv => by
  have hv : us[i]? = some v := by simpa using hv
  have hi := (List.getElem?_eq_some_iff.mp hv).1
  have hl := r.length
  rw [List.length_map] at hl
  have e : (ns.map V.int)[i]? = some (.int (ns.getD i 0)) := by
    rw [List.getElem?_map, List.getElem?_eq_getElem (by omega), List.getD_eq_getElem?_getD, List.getElem?_eq_getElem (by omega)]
    rfl
  obtain ⟨u, hu, t, rfl⟩ := r.get e
  rw [hv] at hu
  cases hu
  exact ⟨intKind_is _ _ _ _, rfl⟩
theorem strAt {ns : List Str} {us : List Value} (r : Vals (ns.map V.str) us) (prog : Program) (w : World) : ∀ (i : Nat) (v : Value), us.toArray[i]? = some v → (strKind prog w).is (ns.getD i Str.empty) v = true ∧ v.scannable = true := fun i v hv => by
  have hv : us[i]? = some v := by simpa using hv
  have hi := (List.getElem?_eq_some_iff.mp hv).1
  have hl := r.length
  rw [List.length_map] at hl
  have e : (ns.map V.str)[i]? = some (.str (ns.getD i Str.empty)) := by
    rw [List.getElem?_map, List.getElem?_eq_getElem (by omega), List.getD_eq_getElem?_getD, List.getElem?_eq_getElem (by omega)]
    rfl
  obtain ⟨u, hu, t, rfl⟩ := r.get e
  rw [hv] at hu
  cases hu
  exact ⟨strKind_is _ _ _ _, rfl⟩
theorem getD_range {α : Type} (ns : List α) (d : α) : (List.range ns.length).map (fun i => ns.getD i d) = ns := by
  apply List.ext_getElem
  · simp
  · intro i h1 h2
    simp [List.getD_eq_getElem?_getD, List.getElem?_eq_getElem h2]
/-- as many as are unlike -/
def uqs {α : Type} [DecidableEq α] (d : α) (ns : List α) : Nat := TsS.uq (fun i => ns.getD i d) ns.length
theorem uqs_full {α : Type} [DecidableEq α] (d : α) (ns : List α) : uqs d ns = ns.length ↔ ns.Nodup := by
  have := TsS.uq_full (fun i => ns.getD i d) ns.length
  rw [getD_range] at this
  exact this
/-- len(set(xs)), xs a list or a tuple of ints, or of texts -/
def tLenSetQ (K : PySem.W.Frag) (ta : TE) : TE := fun σ H Q => ta σ H fun x H1 => ∃ (l : Addr), x = .ref l ∧ ((∃ ns : List Int, SqQ K H1 l (ns.map V.int) ∧ ns.length ≤ 1000 ∧ Q (.int (uqs 0 ns : Nat)) H1) ∨ ∃ ns : List Str, SqQ K H1 l (ns.map V.str) ∧ ns.length ≤ 1000 ∧ Q (.int (uqs Str.empty ns : Nat)) H1)
theorem pe_lenSetQ {X : Cx} {a : Expr} {ta : TE} {p p2 q pos : Pos} (hg : Gl X "len") (hm : X.mg "len" = none) (hg2 : Gl X "set") (hm2 : X.mg "set" = none) (ha : PE X a ta) (hc : X.calm = true := by rfl)
    (na : starEach [a] X.env = (false, eval a X.env) :: starEach [] X.env := by rfl) : PE X (.Call (.Name "len" p) [.Call (.Name "set" p2) [a] [] q] [] pos) (tLenSetQ X.K ta) := by
  refine ⟨fun pins s σ H Q I h => ?_⟩
  refine Call_ (ld_blt I hg hm boot_len (PyProof.Rows.callWith_builtin1 (PyProof.Rows.args_cons ?_ rfl) rfl rfl))
  refine Call_ (ld_blt I hg2 hm2 boot_set (PyProof.Rows.callWith_type1 (PyProof.Rows.args_cons (thn (ha.run pins s σ H _ I h) fun v s1 ⟨x, H1, I1, r1, q1⟩ => PyProof.Rows.args_nil ?_) na) na rfl))
  obtain ⟨l, rfl, q1⟩ := q1
  cases r1
  have fin : ∀ {κ : Type} [DecidableEq κ] {kk : KeyKind X.prog X.w κ} {S : κ → Bool} {n : Nat}, n ≤ 1000 → Q (.int n) H1 → ∀ (h' : Heap) (tk : Nat), h'.SetOf kk s1.heap.objs.size S n → (∀ b o, s1.heap.get? b = some o → h'.get? b = some o) →
      wpAny (model X.prog X.w) X.A (spliced (backTo pos (starEach [] X.env))) (fun vs s₂ => wpAny (model X.prog X.w) X.A (call (.builtin "len") (Value.ref s1.heap.objs.size :: vs)) (EP X pins σ Q) X.xe s₂) X.xe { s1 with heap := h', toks := tk } := fun {κ} _ {kk} {S} {n} hn q h' tk hS hk => by
    refine PyProof.Rows.args_nil ?_
    obtain ⟨o, es, ep, t, ho, hex, hd, _, _, _, hf, he⟩ := hS
    have I2 : Inv X pins σ H1 { s1 with heap := h', toks := tk } := I1.kept hk
    exact call_len_set ho hex hd hf (by rw [he]; omega) ⟨.int n, H1, I2.tok _, ⟨_, by rw [he]⟩, q⟩
  rcases q1 with ⟨ns, hq, hl, q1⟩ | ⟨ns, hq, hl, q1⟩
  · have le : uqs 0 ns ≤ 1000 := Nat.le_trans (TsS.uq_le _ _) hl
    have go : ∀ {its : List Value}, Vals (ns.map V.int) its → its.toArray.size = ns.length := fun r => by rw [List.size_toArray, ← r.length, List.length_map]
    rcases hq with hq | hq
    · obtain ⟨its, r, pl, hz⟩ := I1.list hq
      refine TsS.set_list (kk := intKind X.prog X.w) (fun i => ns.getD i 0) (I1.ok.hd hc) pl.isList (intAt r _ _) (by rw [go r]; unfold scanBound; omega) fun h' tk hS hk => ?_
      rw [go r] at hS
      exact fin le q1 h' tk hS hk
    · obtain ⟨its, r, pl, hz⟩ := I1.tuple hq
      refine TsS.set_tuple (kk := intKind X.prog X.w) (fun i => ns.getD i 0) (I1.ok.hd hc) pl (intAt r _ _) (by rw [go r]; unfold scanBound; omega) fun h' tk hS hk => ?_
      rw [go r] at hS
      exact fin le q1 h' tk hS hk
  · have le : uqs Str.empty ns ≤ 1000 := Nat.le_trans (TsS.uq_le _ _) hl
    have go : ∀ {its : List Value}, Vals (ns.map V.str) its → its.toArray.size = ns.length := fun r => by rw [List.size_toArray, ← r.length, List.length_map]
    rcases hq with hq | hq
    · obtain ⟨its, r, pl, hz⟩ := I1.list hq
      refine TsS.set_list (kk := strKind X.prog X.w) (fun i => ns.getD i Str.empty) (I1.ok.hd hc) pl.isList (strAt r _ _) (by rw [go r]; unfold scanBound; omega) fun h' tk hS hk => ?_
      rw [go r] at hS
      exact fin le q1 h' tk hS hk
    · obtain ⟨its, r, pl, hz⟩ := I1.tuple hq
      refine TsS.set_tuple (kk := strKind X.prog X.w) (fun i => ns.getD i Str.empty) (I1.ok.hd hc) pl (strAt r _ _) (by rw [go r]; unfold scanBound; omega) fun h' tk hS hk => ?_
      rw [go r] at hS
      exact fin le q1 h' tk hS hk
end Ts

namespace Ts
open PySem L2
/-! ### a list or a tuple, walked -/
def iSeqQ (K : PySem.W.Frag) (tl : TE) : TI := fun σ H R => tl σ H fun x H1 => ∃ a xs, x = .ref a ∧ SqQ K H1 a xs ∧ ∀ (J : It) (G : Hp → Prop), Walk J xs.length G (YAt xs) →
  (∀ H2, (SqL K H1 a xs → SqL K H2 a xs) → (SqT K H1 a xs → SqT K H2 a xs) → G H2) → R J H1
theorem pi_seqQ {X : Cx} {tg l : Expr} {tl : TE} (hl : PE X l tl) : PI X tg l (iSeqQ X.K tl) := by
  refine ⟨fun pins s σ H R I h => ?_⟩
  refine thn (hl.run pins s σ H _ I h) fun v s1 ⟨x, H1, I1, r1, q1⟩ => ?_
  obtain ⟨a, xs, e, hq, q⟩ := q1
  subst e
  cases r1
  have fp : ∀ b ∈ [s1.heap.objs.size], FpOk X pins H1 b := fun b hb => by
    rw [List.mem_singleton.mp hb]
    exact I1.fpOk (Nat.le_refl _) (I1.hok.fresh (Nat.le_refl _))
  rcases hq with hq | hq
  · obtain ⟨its, rv, p, hz⟩ := I1.list hq
    exact wpAny_pyIter_list p.isList ⟨s1.heap.objs.size, [s1.heap.objs.size], _, _, H1, rfl, I1.kept (t' := s1.toks) fun b o e => Heap.get?_push_of_some _ e, turn_list a _, ⟨_, Heap.get?_push_size _ rfl, rfl, rfl⟩, fp, q _ _ walk_list fun H2 h _ => h hq⟩
  · obtain ⟨its, rv, p, hz⟩ := I1.tuple hq
    exact wpAny_pyIter_tuple (show s1.heap.IsTuple a its.toArray from p) ⟨s1.heap.objs.size, [s1.heap.objs.size], _, _, H1, rfl, I1.kept (t' := s1.toks) fun b o e => Heap.get?_push_of_some _ e, turn_tuple a _, ⟨_, Heap.get?_push_size _ rfl, rfl, rfl⟩, fp, q _ _ walk_tup fun H2 _ h => h hq⟩
theorem SqQ.eqs {K : PySem.W.Frag} {H H' : Hp} {a : Addr} {xs : List V} (h : SqQ K H a xs) (s : Same H H') : SqQ K H' a xs := h.same s
/-! ### arguments of rules -/
/-- a value, and what stands in it if it is a list or a tuple -/
inductive SeqV (K : PySem.W.Frag) (H : Hp) : V → Option (List V) → Prop
  | no {v : V} {k : Kd} : TyV K H v k → k.inL = false → k.inT = false → SeqV K H v none
  | seq {a : Addr} {xs : List V} : SqQ K H a xs → xs.length ≤ 1000 → (∀ x ∈ xs, AnyV K H x) → SeqV K H (.ref a) (some xs)
theorem SeqV.same {K : PySem.W.Frag} {H H' : Hp} {v : V} {r : Option (List V)} (t : SeqV K H v r) (s : Same H H') : SeqV K H' v r := by
  cases t with
  | no h a b => exact .no (h.same s) a b
  | seq h a b => exact .seq (h.same s) a fun x hx => (b x hx).same s
theorem SeqV.any {K : PySem.W.Frag} {H : Hp} {v : V} {r : Option (List V)} (t : SeqV K H v r) : AnyV K H v := by
  cases t with
  | no h a b => exact ⟨_, h⟩
  | seq h a b =>
    rcases h with h | h
    · exact ⟨_, tyV_list h⟩
    · exact ⟨_, tyV_tup h⟩
theorem SeqV.flat {K : PySem.W.Frag} {H : Hp} {v : V} (h : flatB v = true) : SeqV K H v none := by
  obtain ⟨k, t, h1, h2⟩ := NoSeq.flat (K := K) (H := H) h
  exact .no t h1 h2
def restI : V → Bool
  | .int i => decide (0 ≤ i) && decide (i < 7)
  | _ => false
def valI : V → Int
  | .int i => i
  | _ => 0
def restsL (xs : List V) : Bool := xs.all restI && (decide ((xs.map valI).Nodup) && decide (xs.length < 7))
def restsO : Option (List V) → Bool
  | none => false
  | some xs => restsL xs
def spAreRests (K : PySem.W.Frag) : Sp := fun vs H Q _ => ∃ (v : V) (r : Option (List V)), vs = [v] ∧ SeqV K H v r ∧ ∀ H', Same H H' → Q (.bl (restsO r)) H'
theorem rest_ints {xs : List V} (h : xs.all restI = true) : xs = (xs.map valI).map V.int := by
  induction xs with
  | nil => rfl
  | cons x xs ih =>
    rw [List.all_cons, Bool.and_eq_true] at h
    rw [List.map_cons, List.map_cons, ← ih h.2]
    cases x <;> first | rfl | exact absurd h.1 (by simp [restI])
theorem in_ints (i : Int) (rs : List Int) : inV (.int i) (rs.map V.int) = decide (i ∈ rs) := by
  unfold inV
  rw [List.any_map]
  by_cases h : i ∈ rs
  · rw [decide_eq_true h]
    exact List.any_eq_true.mpr ⟨i, h, by simp [eqV]⟩
  · rw [decide_eq_false h]
    rw [List.any_eq_false]
    intro y hy e
    have : y = i := by simpa [eqV] using e
    exact h (this ▸ hy)
theorem flat_int (rs : List Int) : (rs.map V.int).all flatV = true := by
  rw [List.all_map]
  exact List.all_eq_true.mpr fun _ _ => rfl
/-- one that spoils the rests -/
theorem rests_bad {xs : List V} {i : Nat} {y : V} (h : xs[i]? = some y) (b : restI y = false ∨ (restI y = true ∧ valI y ∈ (xs.take i).map valI)) : restsL xs = false := by
  cases e : restsL xs with
  | false => rfl
  | true =>
    obtain ⟨e1, e2⟩ := Bool.and_eq_true_iff.mp e
    obtain ⟨e2, e3⟩ := Bool.and_eq_true_iff.mp e2
    have nd := of_decide_eq_true e2
    rcases b with b | ⟨_, b⟩
    · rw [List.all_eq_true.mp e1 y (at_mem h)] at b
      cases b
    · have hs : (xs.map valI).take (i + 1) = (xs.take i).map valI ++ [valI y] := by
        rw [← List.map_take, List.take_add_one, h, List.map_append]
        rfl
      have nd2 : ((xs.take i).map valI ++ [valI y]).Nodup := by
        rw [← hs]
        exact nd.sublist (List.take_sublist _ _)
      rw [List.nodup_append] at nd2
      exact absurd rfl (nd2.2.2 _ b _ (by simp))
/-- a class of kinds -/
structure KCls (K : PySem.W.Frag) (CK C : Addr) : Prop where
  own : OwnT K C
  nm : NoAttr K C "name"
  kd : PySem.W.kitOne K (.ref C) (.ref CK) = some true
/-- the base types are no kinds -/
structure NoKd (K : PySem.W.Frag) (CK : Addr) : Prop where
  k1 : PySem.W.kitOne K (.type "int") (.ref CK) = some false
  k2 : PySem.W.kitOne K (.type "bool") (.ref CK) = some false
  k3 : PySem.W.kitOne K (.type "str") (.ref CK) = some false
  k4 : PySem.W.kitOne K (.type "list") (.ref CK) = some false
  k5 : PySem.W.kitOne K (.type "tuple") (.ref CK) = some false
  k6 : PySem.W.kitOne K (.type "NoneType") (.ref CK) = some false
/-- a thing among kinds: its name, none if it is no kind -/
inductive KnV (K : PySem.W.Frag) (CK : Addr) (H : Hp) : V → Option Str → Prop
  | kind {a C dx : Addr} {fs : List (Str × V)} {nm : Str} : KCls K CK C → H a = some (.ins C dx fs) → fs.lookup ("name" : Str) = some (V.str nm) → KnV K CK H (.ref a) (some nm)
  | no {v : V} {t : Value} : TyX K H v t → PySem.W.kitOne K t (.ref CK) = some false → KnV K CK H v none
theorem KnV.same {K : PySem.W.Frag} {CK : Addr} {H H' : Hp} {v : V} {o : Option Str} (t : KnV K CK H v o) (s : Same H H') : KnV K CK H' v o := by
  cases t with
  | kind c h l => exact .kind c (s _ _ h) l
  | no h b => exact .no (TyX.same h s) b
theorem KnV.flat {K : PySem.W.Frag} {CK : Addr} {H : Hp} {v : V} (N : NoKd K CK) (h : flatB v = true) : KnV K CK H v none := by
  cases v with
  | non => exact .no (.base .non) N.k6
  | bl b => exact .no (.base (.bl b)) N.k2
  | int i => exact .no (.base (.int i)) N.k1
  | str x => exact .no (.base (.str x)) N.k3
  | byt b => cases h
  | flt b => cases h
  | ref a => cases h
  | ty n => cases h
theorem KnV.lst {K : PySem.W.Frag} {CK : Addr} {H : Hp} {a : Addr} {xs : List V} (N : NoKd K CK) (h : H a = some (.lst xs)) : KnV K CK H (.ref a) none := .no (.base (.lst h)) N.k4
theorem KnV.tup {K : PySem.W.Frag} {CK : Addr} {H : Hp} {a : Addr} {xs : List V} (N : NoKd K CK) (h : H a = some (.tup xs)) : KnV K CK H (.ref a) none := .no (.base (.tup h)) N.k5
theorem KnV.typ {K : PySem.W.Frag} {CK : Addr} {H : Hp} {v : V} {o : Option Str} (t : KnV K CK H v o) : ∃ u, TyX K H v u ∧ PySem.W.kitOne K u (.ref CK) = some o.isSome := by
  cases t with
  | kind c h l => exact ⟨_, .base (.ins h c.own.cl c.own.ha c.own.hn c.own.ht c.own.hm), c.kd⟩
  | no h b => exact ⟨_, h, b⟩
def KnAll (K : PySem.W.Frag) (CK : Addr) (H : Hp) (xs : List V) (os : List (Option Str)) : Prop := xs.length = os.length ∧ ∀ (i : Nat) (v : V) (o : Option Str), xs[i]? = some v → os[i]? = some o → KnV K CK H v o
theorem KnAll.same {K : PySem.W.Frag} {CK : Addr} {H H' : Hp} {xs : List V} {os : List (Option Str)} (t : KnAll K CK H xs os) (s : Same H H') : KnAll K CK H' xs os := ⟨t.1, fun i v o h1 h2 => (t.2 i v o h1 h2).same s⟩
theorem KnAll.nil {K : PySem.W.Frag} {CK : Addr} {H : Hp} : KnAll K CK H [] [] := ⟨rfl, fun i v o h => by simp at h⟩
theorem KnAll.cons {K : PySem.W.Frag} {CK : Addr} {H : Hp} {v : V} {o : Option Str} {xs : List V} {os : List (Option Str)} (t : KnV K CK H v o) (u : KnAll K CK H xs os) : KnAll K CK H (v :: xs) (o :: os) := by
  refine ⟨by rw [List.length_cons, List.length_cons, u.1], fun i v' o' h1 h2 => ?_⟩
  cases i with
  | zero =>
    cases h1
    cases h2
    exact t
  | succ i => exact u.2 i v' o' (by simpa using h1) (by simpa using h2)
theorem KnAll.snoc {K : PySem.W.Frag} {CK : Addr} {H : Hp} {v : V} {o : Option Str} {xs : List V} {os : List (Option Str)} (u : KnAll K CK H xs os) (t : KnV K CK H v o) : KnAll K CK H (xs ++ [v]) (os ++ [o]) := by
  refine ⟨by simp [u.1], fun i v' o' h1 h2 => ?_⟩
  by_cases hi : i < xs.length
  · rw [List.getElem?_append_left hi] at h1
    rw [List.getElem?_append_left (by rw [← u.1]; exact hi)] at h2
    exact u.2 i v' o' h1 h2
  · rw [List.getElem?_append_right (by omega)] at h1
    rw [List.getElem?_append_right (by rw [← u.1]; omega), ← u.1] at h2
    have hz : i - xs.length = 0 := by
      have := (List.getElem?_eq_some_iff.mp h1).1
      simp at this
      omega
    rw [hz] at h1 h2
    cases h1
    cases h2
    exact t
inductive KsV (K : PySem.W.Frag) (CK : Addr) (H : Hp) : V → Option (List V × List (Option Str)) → Prop
  | no {v : V} {k : Kd} : TyV K H v k → k.inL = false → k.inT = false → KsV K CK H v none
  | seq {a : Addr} {xs : List V} {os : List (Option Str)} : SqQ K H a xs → xs.length ≤ 1000 → KnAll K CK H xs os → KsV K CK H (.ref a) (some (xs, os))
theorem KsV.same {K : PySem.W.Frag} {CK : Addr} {H H' : Hp} {v : V} {r : Option (List V × List (Option Str))} (t : KsV K CK H v r) (s : Same H H') : KsV K CK H' v r := by
  cases t with
  | no h a b => exact .no (h.same s) a b
  | seq h a b => exact .seq (h.same s) a (b.same s)
theorem KsV.flat {K : PySem.W.Frag} {CK : Addr} {H : Hp} {v : V} (h : flatB v = true) : KsV K CK H v none := by
  obtain ⟨k, t, h1, h2⟩ := NoSeq.flat (K := K) (H := H) h
  exact .no t h1 h2
def namesOf (os : List (Option Str)) : List Str := os.filterMap id
def kindsO : Option (List V × List (Option Str)) → Bool
  | none => false
  | some p => p.2.all Option.isSome && decide ((namesOf p.2).Nodup)
def spAreKinds (K : PySem.W.Frag) (CK : Addr) : Sp := fun vs H Q _ => ∃ (v : V) (r : Option (List V × List (Option Str))), vs = [v] ∧ KsV K CK H v r ∧ ∀ H', Same H H' → Q (.bl (kindsO r)) H'
theorem names_all : ∀ {os : List (Option Str)}, os.all Option.isSome = true → os = (namesOf os).map some
  | [], _ => rfl
  | o :: os, h => by
    rw [List.all_cons, Bool.and_eq_true] at h
    cases o with
    | none => cases h.1
    | some x =>
      show some x :: os = some x :: (namesOf os).map some
      rw [← names_all h.2]
theorem names_len {os : List (Option Str)} (h : os.all Option.isSome = true) : (namesOf os).length = os.length := by
  conv => rhs; rw [names_all h]
  rw [List.length_map]
theorem names_at {os : List (Option Str)} (h : os.all Option.isSome = true) {i : Nat} {n : Str} (hn : (namesOf os)[i]? = some n) : os[i]? = some (some n) := by
  have t : ((namesOf os).map some)[i]? = some (some n) := by
    rw [List.getElem?_map, hn]
    rfl
  rw [← names_all h] at t
  exact t
/-- what the arguments of a rule owe -/
def dueR3 (l : V) (r : Option (List V)) (c : V) : Option Str :=
  if cntV l = false then some "length" else if restsO r = false then some "rests" else if c ≠ .non ∧ cntV c = false then some "cap" else none
def dueR (l : V) (r : Option (List V)) (c : V) (ks : Option (List V × List (Option Str))) : Option Str :=
  match dueR3 l r c with
  | some w => some w
  | none => if kindsO ks = false then some "kinds" else none
/-- the attributes of a rule -/
def ruleF (l : V) (r : Addr) (c : V) (k n : Addr) : List (Str × V) := putF "names" (.ref n) (putF "kinds" (.ref k) (putF "cap" c (putF "rests" (.ref r) (putF "length" l []))))
/-- the promise of a rule's __init__ -/
def spRule (K : PySem.W.Frag) (C CI CK : Addr) : Sp := fun vs H Q E => ∃ (x dx : Addr) (l rv c kv : V) (r : Option (List V)) (ks : Option (List V × List (Option Str))), vs = [.ref x, l, rv, c, kv] ∧ H x = some (.ins C dx []) ∧ AnyV K H l ∧ SeqV K H rv r ∧ AnyV K H c ∧ KsV K CK H kv ks ∧
  (dueR l r c ks = none → ∀ xs ys os, r = some xs → ks = some (ys, os) → ∀ (H' : Hp) (ra ka na : Addr) (rs : List Int), rs.Perm (xs.map valI) → rs.Pairwise (· ≤ ·) → H' x = some (.ins C dx (ruleF l ra c ka na)) → SqT K H' ra (rs.map V.int) → SqT K H' ka ys → SqT K H' na ((namesOf os).map V.str) → But x H H' → Q .non H') ∧
  ∀ wd, dueR l r c ks = some wd → ∀ (H' : Hp) (d : Addr), Same H H' → H' d = some (.xd [("word", .str wd)]) → E (.ref CI) (some d) H'
theorem SeqV.but {K : PySem.W.Frag} {x a C dx : Addr} {fs : List (Str × V)} {xs : List V} {H H' : Hp} (b : But x H H') (hx : H x = some (.ins C dx fs)) (h : SqQ K H a xs) : SqQ K H' a xs := h.elim (fun h => .inl (b.seq hx h)) fun h => .inr (b.sqt hx h)
theorem KnV.but {K : PySem.W.Frag} {CK x C dx : Addr} {H H' : Hp} {v : V} {o : Option Str} (t : KnV K CK H v o) (b : But x H H') (hx : H x = some (.ins C dx [])) (so : o.isSome = true) : KnV K CK H' v o := by
  cases t with
  | kind c h l =>
    refine .kind c (b _ _ h fun z => ?_) l
    rw [z, hx] at h
    cases h
    cases l
  | no => cases so
structure RuleC (K : PySem.W.Frag) (C : Addr) : Prop where
  cl : Cls K C
  n1 : NoAttr K C "length"
  n2 : NoAttr K C "rests"
  n3 : NoAttr K C "cap"
  n4 : NoAttr K C "kinds"
  n5 : NoAttr K C "names"
end Ts

namespace Ts
open PySem L2
/-! ### a drawn rule: its length, rests, cap and kinds, told -/
structure KD where
  fm : Str
  nm : Str
  a : Int
  b : Int
  mn : V
def KD.row (d : KD) : List V := [.str d.fm, .str d.nm, .int d.a, .int d.b, d.mn]
/-- at t stands what was drawn of a kind -/
def KAt (H : Hp) (most : Int) (v : V) (d : KD) : Prop := ∃ t, v = .ref t ∧ H t = some (.tup d.row) ∧ Told most d.fm d.a d.b d.mn
theorem KAt.same {H H' : Hp} {most : Int} {v : V} {d : KD} (h : KAt H most v d) (s : Same H H') : KAt H' most v d := by
  obtain ⟨t, e, h1, h2⟩ := h
  exact ⟨t, e, s _ _ h1, h2⟩
theorem KAt.went {D L : Addr} {H H' : Hp} {most : Int} {v : V} {d : KD} (h : KAt H most v d) (dl : DealAt H D L) (w : Went D L H H') : KAt H' most v d := by
  obtain ⟨t, e, h1, h2⟩ := h
  obtain ⟨cs, m, hD, hL, _⟩ := dl.ex
  exact ⟨t, e, w.k _ _ (ne_of h1 hD (by intro z; cases z)) (ne_of h1 hL (by intro z; cases z)) h1, h2⟩
theorem KAt.mut {H : Hp} {most : Int} {v : V} {d : KD} {p : Addr} {us ys : List V} (h : KAt H most v d) (hp : H p = some (.lst us)) : KAt (upd H p (.lst ys)) most v d := by
  obtain ⟨t, e, h1, h2⟩ := h
  exact ⟨t, e, by rw [upd_ne (ne_of h1 hp (by intro z; cases z))]; exact h1, h2⟩
/-- at each place stands what was drawn -/
def KAll (H : Hp) (most : Int) (tts : List V) (ds : List KD) : Prop := tts.length = ds.length ∧ ∀ (i : Nat) (v : V) (d : KD), tts[i]? = some v → ds[i]? = some d → KAt H most v d
theorem KAll.same {H H' : Hp} {most : Int} {tts : List V} {ds : List KD} (h : KAll H most tts ds) (s : Same H H') : KAll H' most tts ds := ⟨h.1, fun i v d h1 h2 => (h.2 i v d h1 h2).same s⟩
theorem KAll.went {D L : Addr} {H H' : Hp} {most : Int} {tts : List V} {ds : List KD} (h : KAll H most tts ds) (dl : DealAt H D L) (w : Went D L H H') : KAll H' most tts ds := ⟨h.1, fun i v d h1 h2 => (h.2 i v d h1 h2).went dl w⟩
theorem KAll.mut {H : Hp} {most : Int} {tts : List V} {ds : List KD} {p : Addr} {us ys : List V} (h : KAll H most tts ds) (hp : H p = some (.lst us)) : KAll (upd H p (.lst ys)) most tts ds := ⟨h.1, fun i v d h1 h2 => (h.2 i v d h1 h2).mut hp⟩
theorem KAll.nil {H : Hp} {most : Int} : KAll H most [] [] := ⟨rfl, fun i v d h => by simp at h⟩
theorem KAll.snoc {H : Hp} {most : Int} {tts : List V} {ds : List KD} {v : V} {d : KD} (u : KAll H most tts ds) (t : KAt H most v d) : KAll H most (tts ++ [v]) (ds ++ [d]) := by
  refine ⟨by simp [u.1], fun i v' o' h1 h2 => ?_⟩
  by_cases hi : i < tts.length
  · rw [List.getElem?_append_left hi] at h1
    rw [List.getElem?_append_left (by rw [← u.1]; exact hi)] at h2
    exact u.2 i v' o' h1 h2
  · rw [List.getElem?_append_right (by omega)] at h1
    rw [List.getElem?_append_right (by rw [← u.1]; omega), ← u.1] at h2
    have hz : i - tts.length = 0 := by
      have := (List.getElem?_eq_some_iff.mp h1).1
      simp at this
      omega
    rw [hz] at h1 h2
    cases h1
    cases h2
    exact t
def valS : V → Str
  | .str x => x
  | _ => Str.empty
def nameSs : List Str := nameVs.map valS
theorem nameSs_nodup : nameSs.Nodup := by decide +kernel
theorem names_strs {zs : List V} (h : zs.Perm nameVs) : ∃ ns : List Str, zs = ns.map V.str ∧ ns.Nodup ∧ ∀ n ∈ ns, nameV (.str n) = true ∧ flatB (.str n) = true := by
  have hall : nameVs.all (fun v => match v with | .str _ => true | _ => false) = true := by decide +kernel
  have hz : ∀ {us : List V}, (∀ y ∈ us, y ∈ nameVs) → us = (us.map valS).map V.str := by
    intro us hu
    rw [List.map_map]
    conv => lhs; rw [← List.map_id us]
    refine List.map_congr_left fun y hy => ?_
    have := List.all_eq_true.mp hall y (hu y hy)
    cases y with
    | str x => rfl
    | _ => cases this
  refine ⟨zs.map valS, hz fun y hy => h.mem_iff.mp hy, (h.map valS).nodup_iff.mpr nameSs_nodup, fun n hn => ?_⟩
  obtain ⟨y, hy, rfl⟩ := List.mem_map.mp hn
  have hm := h.mem_iff.mp hy
  have h1 := List.all_eq_true.mp hall y hm
  cases y with
  | str x => exact ⟨name_ok hm, List.all_eq_true.mp (show nameVs.all flatB = true by decide +kernel) _ hm⟩
  | _ => cases h1
/-- what a rule was drawn of -/
structure RuleAt (H : Hp) (most : Int) (rl kl : Addr) (rs : List Int) (hi : V) (tts : List V) (ds : List KD) : Prop where
  r : H rl = some (.lst (rs.map V.int))
  rn : rs.Nodup
  r7 : ∀ n ∈ rs, 0 ≤ n ∧ n < 7
  rl6 : rs.length ≤ 6
  k : H kl = some (.lst tts)
  al : KAll H most tts ds
  nd : (ds.map KD.nm).Nodup
  ok : ∀ d ∈ ds, nameV (.str d.nm) = true ∧ flatB (.str d.nm) = true
  few : ds.length ≤ 10
  cap : hi = .non ∨ cntV hi = true
def spRuleD (K : PySem.W.Frag) : Sp := fun vs H Q _ => ∃ (D L : Addr) (many most : Int), vs = [.ref D, .int many, .int most] ∧ DealAt H D L ∧ 0 ≤ many ∧ many ≤ 9 ∧ 0 < most ∧ most < 2 ^ 62 ∧
  ∀ (t rl kl : Addr) (sz : Int) (rs : List Int) (hi : V) (tts : List V) (ds : List KD) (H' : Hp), 1 ≤ sz → sz ≤ most → RuleAt H' most rl kl rs hi tts ds → ds.length ≤ many → Went D L H H' → H' t = some (.tup [.int sz, .ref rl, hi, .ref kl]) → H t = none → H rl = none → H kl = none → Q (.ref t) H'
theorem Went.free {D L p : Addr} {H H1 : Hp} (a : Went D L H H1) (h : H1 p = none) : H p = none := by
  cases e : H p with
  | none => rfl
  | some o =>
    by_cases z : p = D
    · obtain ⟨o', h'⟩ := a.d.someD
      rw [z] at h
      rw [h] at h'
      cases h'
    · by_cases z2 : p = L
      · obtain ⟨o', h'⟩ := a.d.someL
        rw [z2] at h
        rw [h] at h'
        cases h'
      · rw [a.k _ _ z z2 e] at h
        cases h
/-! data: a list of such tuples -/
def KD.data (d : KD) : PyData := .tuple [.str d.fm, .str d.nm, .int d.a, .int d.b, toD d.mn]
theorem kd_eqv (ds : List KD) : PyData.eqv (.list (ds.map KD.data)) (.list []) = ds.isEmpty := by
  cases ds with
  | nil => rfl
  | cons c cs => rfl
/-- it may be compared -/
def KD.fit (d : KD) : Prop := PyData.strOk d.fm = true ∧ PyData.strOk d.nm = true ∧ okV d.mn = true
theorem kd_dp {K : PySem.W.Frag} {H : Hp} {t : Addr} {d : KD} (h : H t = some (.tup d.row)) (f : d.fit) : Dp K H (.ref t) d.data :=
  .tup (SqT.of h) (.cons (.str _) (.cons (.str _) (.cons (.int _) (.cons (.int _) (.cons (dp_ok f.2.2) .nil)))))
theorem kd_lay {d : KD} (f : d.fit) : d.data.canLay0 = true := by
  have h := lay_ok f.2.2
  simp [KD.data, PyData.canLay0, PyData.canLayAll0, f.1, f.2.1, h]
theorem kd_depth (d : KD) : d.data.depth ≤ 1 := by
  have h := depth_ok d.mn
  simp [KD.data, PyData.depth, PyData.depthAll, h]
theorem kds_shaped {ds : List KD} (h : ∀ d ∈ ds, d.fit) : SeqAt.shaped (.list (ds.map KD.data)) = true := by
  have h1 : PyData.canLayAll0 (ds.map KD.data) = true := by
    induction ds with
    | nil => rfl
    | cons c cs ih =>
      have := ih fun d hd => h d (List.mem_cons_of_mem _ hd)
      simp [PyData.canLayAll0, this, kd_lay (h c (List.mem_cons_self ..))]
  have h2 : ∀ ds : List KD, PyData.depthAll (ds.map KD.data) ≤ 1 := by
    intro ds
    induction ds with
    | nil => simp [PyData.depthAll]
    | cons c cs ih =>
      have := kd_depth c
      simp only [List.map_cons, PyData.depthAll]
      omega
  have := h2 ds
  simp [SeqAt.shaped, PyData.canLay0, PyData.depth, h1]
  omega
theorem ne_nilK {K : PySem.W.Frag} {H : Hp} {L p : Addr} {most : Int} {vs : List V} {ds : List KD} (hL : SqL K H L vs) (ha : KAll H most vs ds) (hf : ∀ d ∈ ds, d.fit) (hp : H p = some (.lst [])) {Q : VK} (q : Q (.bl (!ds.isEmpty)) H) : rNeD K (.ref L) (.ref p) H Q := by
  obtain ⟨hn, hv⟩ := ha
  have all : DpAll K H vs (ds.map KD.data) := by
    clear q hL
    induction vs generalizing ds with
    | nil =>
      cases ds with
      | nil => exact .nil
      | cons c cs => cases hn
    | cons v vs ih =>
      cases ds with
      | nil => cases hn
      | cons c cs =>
        obtain ⟨t, rfl, h1, h2⟩ := hv 0 v c rfl rfl
        exact .cons (kd_dp h1 (hf c (List.mem_cons_self ..))) (ih (fun d hd => hf d (List.mem_cons_of_mem _ hd)) (by simpa using hn) fun i v d h1 h2 => hv (i + 1) v d (by simpa using h1) (by simpa using h2))
  refine ⟨.list (ds.map KD.data), .list [], .lst hL all, .lst (SqL.of hp) .nil, kds_shaped hf, PySem.W.ke_shaped_ints [], ?_⟩
  rw [kd_eqv]
  exact q
theorem many_flat {v : V} (h : v ∈ manyVs) : okV v = true := by
  have hall : manyVs.all okV = true := by decide
  exact List.all_eq_true.mp hall v h
theorem form_ok {fm : Str} (h : V.str fm ∈ formVs) : PyData.strOk fm = true := by
  rcases form_cases h with rfl | rfl | rfl <;> decide +kernel
theorem KD.fit_of {most : Int} {d : KD} (t : Told most d.fm d.a d.b d.mn) (h : flatB (.str d.nm) = true) : d.fit := ⟨form_ok t.f, (Bool.and_eq_true_iff.mp h).2, many_flat t.m⟩
end Ts
namespace Ts
open PySem L2
theorem AnyV.went {K : PySem.W.Frag} {D L : Addr} {H H' : Hp} {v : V} (g : AnyV K H v) (d : DealAt H D L) (w : Went D L H H') : AnyV K H' v := ⟨_, g.choose_spec.went d w⟩
theorem AnyV.mutList {K : PySem.W.Frag} {H : Hp} {b : Addr} {xs ys : List V} {v : V} (g : AnyV K H v) (hb : H b = some (.lst xs)) : AnyV K (upd H b (.lst ys)) v := by
  obtain ⟨k, ⟨t, h1, h2⟩, h3, h4⟩ := g
  exact ⟨k, ⟨t, TyX.mutList h1 hb, h2⟩, h3, h4⟩
theorem SqQ.went {K : PySem.W.Frag} {D L a : Addr} {H H' : Hp} {xs : List V} (h : SqQ K H a xs) (d : DealAt H D L) (w : Went D L H H') (n1 : a ≠ D) (n2 : a ≠ L) : SqQ K H' a xs := by
  rcases h with h | h
  · exact .inl (w.k.seq n1 n2 h)
  · obtain ⟨cs, m, hD, hL, _⟩ := d.ex
    rcases h with (h | ⟨o, h⟩) | h
    · exact .inr (.inl (.inl (w.k _ _ n1 n2 h)))
    · exact .inr (.inl (.inr ⟨o, w.k _ _ n1 n2 h⟩))
    · exact .inr (.inr h)
/-- a value is not one of these two lists -/
def OffV (D L : Addr) (v : V) : Prop := v ≠ .ref D ∧ v ≠ .ref L
theorem SeqV.went {K : PySem.W.Frag} {D L : Addr} {H H' : Hp} {v : V} {r : Option (List V)} (t : SeqV K H v r) (d : DealAt H D L) (w : Went D L H H') (n : OffV D L v) : SeqV K H' v r := by
  cases t with
  | no h a b => exact .no (h.went d w) a b
  | seq h a b => exact .seq (h.went d w (fun z => n.1 (by rw [z])) (fun z => n.2 (by rw [z]))) a fun x hx => (b x hx).went d w
theorem SeqV.mutList {K : PySem.W.Frag} {H : Hp} {p : Addr} {us ys : List V} {v : V} {r : Option (List V)} (t : SeqV K H v r) (hp : H p = some (.lst us)) (n : v ≠ .ref p) : SeqV K (upd H p (.lst ys)) v r := by
  cases t with
  | @no _ k h a b =>
    obtain ⟨⟨t, h1, h2⟩, h3, h4⟩ := h
    exact .no ⟨⟨t, TyX.mutList h1 hp, h2⟩, h3, h4⟩ a b
  | @seq a xs h c d =>
    have na : a ≠ p := fun z => n (by rw [z])
    refine .seq ?_ c fun x hx => (d x hx).mutList hp
    rcases h with ((h | ⟨o, h⟩) | h) | ((h | ⟨o, h⟩) | h)
    · exact .inl (.inl (.inl (by rw [upd_ne na]; exact h)))
    · exact .inl (.inl (.inr ⟨o, by rw [upd_ne na]; exact h⟩))
    · exact .inl (.inr h)
    · exact .inr (.inl (.inl (by rw [upd_ne na]; exact h)))
    · exact .inr (.inl (.inr ⟨o, by rw [upd_ne na]; exact h⟩))
    · exact .inr (.inr h)
def spAnyD (K : PySem.W.Frag) (n : Nat) : Sp := fun vs H Q _ => ∃ (D L : Addr) (deep : Int), vs = [.ref D, .int deep] ∧ DealAt H D L ∧ 0 ≤ deep ∧ deep ≤ n ∧
  ∀ (v : V) (r : Option (List V)) (H' : Hp), SeqV K H' v r → (∀ a, v = .ref a → H a = none) → Went D L H H' → Q v H'
theorem flat_noref {v : V} (h : flatB v = true) (a : Addr) : v ≠ .ref a := fun z => by
  rw [z] at h
  cases h
end Ts

namespace Ts
open PySem L2
/-! ### the deal goes on and one list b is written, all else stays -/
structure Mv (D L b : Addr) (H H' : Hp) : Prop where
  d : DealAt H' D L
  l : ∃ ys, H' b = some (.lst ys)
  k : ∀ p o, p ≠ D → p ≠ L → p ≠ b → H p = some o → H' p = some o
theorem Mv.refl {D L b : Addr} {H : Hp} {ys : List V} (d : DealAt H D L) (h : H b = some (.lst ys)) : Mv D L b H H := ⟨d, ⟨_, h⟩, fun _ _ _ _ _ h => h⟩
theorem Mv.went {D L b : Addr} {H H1 H2 : Hp} (a : Mv D L b H H1) (w : Went D L H1 H2) (n1 : b ≠ D) (n2 : b ≠ L) : Mv D L b H H2 := by
  obtain ⟨ys, h⟩ := a.l
  exact ⟨w.d, ⟨ys, w.k _ _ n1 n2 h⟩, fun p o h1 h2 h3 hp => w.k _ _ h1 h2 (a.k p o h1 h2 h3 hp)⟩
theorem Mv.same {D L b : Addr} {H H1 H2 : Hp} (a : Mv D L b H H1) (s : Same H1 H2) : Mv D L b H H2 := by
  obtain ⟨ys, h⟩ := a.l
  exact ⟨a.d.same s, ⟨ys, s _ _ h⟩, fun p o h1 h2 h3 hp => s _ _ (a.k p o h1 h2 h3 hp)⟩
theorem Mv.put {D L b : Addr} {H H1 : Hp} {ys : List V} (a : Mv D L b H H1) (n1 : b ≠ D) (n2 : b ≠ L) : Mv D L b H (upd H1 b (.lst ys)) := by
  obtain ⟨cs, m, hD, hL, r⟩ := a.d.ex
  exact ⟨⟨cs, m, by rw [upd_ne n1.symm]; exact hD, by rw [upd_ne n2.symm]; exact hL, r⟩, ⟨ys, upd_same⟩, fun p o h1 h2 h3 hp => by rw [upd_ne h3]; exact a.k p o h1 h2 h3 hp⟩
/-- what has been before is not new -/
theorem Mv.old {D L b p : Addr} {H H1 : Hp} {o : HO} (a : Mv D L b H H1) (hp : H p = some o) : ∃ o', H1 p = some o' := by
  by_cases h1 : p = D
  · rw [h1]
    exact a.d.someD
  · by_cases h2 : p = L
    · rw [h2]
      exact a.d.someL
    · by_cases h3 : p = b
      · rw [h3]
        exact ⟨_, a.l.choose_spec⟩
      · exact ⟨o, a.k p o h1 h2 h3 hp⟩
theorem TyX.mv {K : PySem.W.Frag} {D L b : Addr} {H H' : Hp} {v : V} {t : Value} {ys : List V} (h : TyX K H v t) (d : DealAt H D L) (hb : H b = some (.lst ys)) (w : Mv D L b H H') : TyX K H' v t := by
  have key : ∀ {a : Addr} {o : HO}, H a = some o → (∀ xs, o ≠ .lst xs) → H' a = some o := fun {a o} e n => by
    obtain ⟨cs, m, hD, hL, _⟩ := d.ex
    refine w.k _ _ (fun z => ?_) (fun z => ?_) (fun z => ?_) e
    · rw [z, hD] at e
      exact n _ (Option.some.inj e).symm
    · rw [z, hL] at e
      exact n _ (Option.some.inj e).symm
    · rw [z, hb] at e
      exact n _ (Option.some.inj e).symm
  cases h with
  | base h =>
    cases h with
    | non => exact .base .non
    | bl x => exact .base (.bl x)
    | int i => exact .base (.int i)
    | str x => exact .base (.str x)
    | flt x => exact .base (.flt x)
    | @lst a xs e =>
      obtain ⟨cs, m, hD, hL, _⟩ := w.d.ex
      by_cases h1 : a = D
      · rw [h1]
        exact .base (.lst hD)
      · by_cases h2 : a = L
        · rw [h2]
          exact .base (.lst hL)
        · by_cases h3 : a = b
          · rw [h3]
            exact .base (.lst w.l.choose_spec)
          · exact .base (.lst (w.k _ _ h1 h2 h3 e))
    | frz e => exact .base (.frz (key e fun _ z => by cases z))
    | tup e => exact .base (.tup (key e fun _ z => by cases z))
    | dK e => exact .base (.dK (key e fun _ z => by cases z))
    | dT e => exact .base (.dT (key e fun _ z => by cases z))
    | ins e cl ha hn htk hm => exact .base (.ins (key e fun _ z => by cases z) cl ha hn htk hm)
  | byt b => exact .byt b
  | set e => exact .set (key e fun _ z => by cases z)
  | kList e c => exact .kList e c
  | kTuple e c => exact .kTuple e c
  | kDict e c => exact .kDict e c
  | fTuple e => exact .fTuple (key e fun _ z => by cases z)
  | fDict e => exact .fDict (key e fun _ z => by cases z)
theorem TyV.mv {K : PySem.W.Frag} {D L b : Addr} {H H' : Hp} {v : V} {k : Kd} {ys : List V} (h : TyV K H v k) (d : DealAt H D L) (hb : H b = some (.lst ys)) (w : Mv D L b H H') : TyV K H' v k := by
  obtain ⟨⟨t, h1, h2⟩, h3, h4⟩ := h
  exact ⟨⟨t, TyX.mv h1 d hb w, h2⟩, h3, h4⟩
theorem AnyV.mv {K : PySem.W.Frag} {D L b : Addr} {H H' : Hp} {v : V} {ys : List V} (h : AnyV K H v) (d : DealAt H D L) (hb : H b = some (.lst ys)) (w : Mv D L b H H') : AnyV K H' v := ⟨_, h.choose_spec.mv d hb w⟩
/-- none of the three lists -/
def Off3 (D L b : Addr) (v : V) : Prop := v ≠ .ref D ∧ v ≠ .ref L ∧ v ≠ .ref b
theorem off3_flat {D L b : Addr} {v : V} (h : flatB v = true) : Off3 D L b v := ⟨flat_noref h D, flat_noref h L, flat_noref h b⟩
theorem SqQ.mv {K : PySem.W.Frag} {D L b a : Addr} {H H' : Hp} {xs : List V} (h : SqQ K H a xs) (w : Mv D L b H H') (n : Off3 D L b (.ref a)) : SqQ K H' a xs := by
  have key : ∀ {o : HO}, H a = some o → H' a = some o := fun e => w.k _ _ (fun z => n.1 (by rw [z])) (fun z => n.2.1 (by rw [z])) (fun z => n.2.2 (by rw [z])) e
  rcases h with ((h | ⟨o, h⟩) | h) | ((h | ⟨o, h⟩) | h)
  · exact .inl (.inl (.inl (key h)))
  · exact .inl (.inl (.inr ⟨o, key h⟩))
  · exact .inl (.inr h)
  · exact .inr (.inl (.inl (key h)))
  · exact .inr (.inl (.inr ⟨o, key h⟩))
  · exact .inr (.inr h)
theorem SeqV.mv {K : PySem.W.Frag} {D L b : Addr} {H H' : Hp} {v : V} {r : Option (List V)} {ys : List V} (t : SeqV K H v r) (d : DealAt H D L) (hb : H b = some (.lst ys)) (w : Mv D L b H H') (n : Off3 D L b v) : SeqV K H' v r := by
  cases t with
  | no h a c => exact .no (h.mv d hb w) a c
  | seq h a c => exact .seq (h.mv w n) a fun x hx => (c x hx).mv d hb w
theorem KnV.mv {K : PySem.W.Frag} {CK D L b : Addr} {H H' : Hp} {v : V} {o : Option Str} {ys : List V} (t : KnV K CK H v o) (d : DealAt H D L) (hb : H b = some (.lst ys)) (w : Mv D L b H H') : KnV K CK H' v o := by
  cases t with
  | @kind a C dx fs nm c h l =>
    obtain ⟨cs, m, hD, hL, _⟩ := d.ex
    exact .kind c (w.k _ _ (ne_of h hD (by intro z; cases z)) (ne_of h hL (by intro z; cases z)) (ne_of h hb (by intro z; cases z)) h) l
  | no h q => exact .no (TyX.mv h d hb w) q
theorem KsV.mv {K : PySem.W.Frag} {CK D L b : Addr} {H H' : Hp} {v : V} {r : Option (List V × List (Option Str))} {ys : List V} (t : KsV K CK H v r) (d : DealAt H D L) (hb : H b = some (.lst ys)) (w : Mv D L b H H') (n : Off3 D L b v) : KsV K CK H' v r := by
  cases t with
  | no h a c => exact .no (h.mv d hb w) a c
  | seq h a c => exact .seq (h.mv w n) a ⟨c.1, fun i v o h1 h2 => (c.2 i v o h1 h2).mv d hb w⟩
theorem KnV.went {K : PySem.W.Frag} {CK D L : Addr} {H H' : Hp} {v : V} {o : Option Str} (t : KnV K CK H v o) (d : DealAt H D L) (w : Went D L H H') : KnV K CK H' v o := by
  cases t with
  | @kind a C dx fs nm c h l =>
    obtain ⟨cs, m, hD, hL, _⟩ := d.ex
    exact .kind c (w.k _ _ (ne_of h hD (by intro z; cases z)) (ne_of h hL (by intro z; cases z)) h) l
  | no h q => exact .no (TyX.went h d w) q
theorem KnV.mutL {K : PySem.W.Frag} {CK p : Addr} {H : Hp} {v : V} {o : Option Str} {us ys : List V} (t : KnV K CK H v o) (hp : H p = some (.lst us)) : KnV K CK (upd H p (.lst ys)) v o := by
  cases t with
  | @kind a C dx fs nm c h l => exact .kind c (by rw [upd_ne (ne_of h hp (by intro z; cases z))]; exact h) l
  | no h q => exact .no (TyX.mutList h hp) q
theorem KnAll.mutL {K : PySem.W.Frag} {CK p : Addr} {H : Hp} {xs : List V} {os : List (Option Str)} {us ys : List V} (t : KnAll K CK H xs os) (hp : H p = some (.lst us)) : KnAll K CK (upd H p (.lst ys)) xs os := ⟨t.1, fun i v o h1 h2 => (t.2 i v o h1 h2).mutL hp⟩
/-- a value of the odd ones, or any: what stands in it is known -/
def Seq? (K : PySem.W.Frag) (H : Hp) (v : V) : Prop := ∃ r, SeqV K H v r
theorem dueR_good {l : V} {r : Option (List V)} {c : V} {ks : Option (List V × List (Option Str))} (h : kindsO ks = true) : dueR l r c ks = dueR3 l r c := by
  unfold dueR
  cases dueR3 l r c with
  | some w => rfl
  | none => simp [h]
theorem due3_none {l : V} {r : Option (List V)} {c : V} (h : dueR3 l r c = none) : cntV l = true ∧ (c = .non ∨ cntV c = true) := by
  unfold dueR3 at h
  split at h
  · cases h
  · rename_i h1
    split at h
    · cases h
    · split at h
      · cases h
      · rename_i h3
        refine ⟨by simpa using h1, ?_⟩
        by_cases z : c = .non
        · exact .inl z
        · refine .inr ?_
          cases q : cntV c with
          | true => rfl
          | false => exact absurd ⟨z, q⟩ h3
theorem cnt_isInt {v : V} (h : cntV v = true) : ∃ i : Int, v = .int i ∧ 1 ≤ i := by
  cases v with
  | int i => exact ⟨i, rfl, of_decide_eq_true h⟩
  | _ => cases h
end Ts
namespace Ts
open PySem L2
/-- what stands while a turn goes on -/
structure Wd (K : PySem.W.Frag) (CK : Addr) (H : Hp) (D L g rl kd o xa xb : Addr) (sz : Int) (rs : List Int) (hi : V) (kns : List V) (os : List (Option Str)) (odd : List V) : Prop where
  dl : DealAt H D L
  hg : H g = some (.lst [.int sz, .ref rl, hi, .ref kd])
  hr : H rl = some (.lst (rs.map V.int))
  hk : H kd = some (.lst kns)
  kn : KnAll K CK H kns os
  ka : KnV K CK H (.ref xa) (some "a")
  kb : KnV K CK H (.ref xb) (some "b")
  ho : H o = some (.lst odd)
  ov : ∀ v ∈ odd, Seq? K H v
  oo : ∀ v ∈ odd, ∀ p, v = .ref p → ∃ u, H p = some u
  od : ∀ v ∈ odd, OffV D L v
  og : g ≠ D ∧ g ≠ L
  or : rl ≠ D ∧ rl ≠ L
  ok : kd ≠ D ∧ kd ≠ L
  oO : o ≠ D ∧ o ≠ L
section
variable {K : PySem.W.Frag} {CK : Addr} {H H' : Hp} {D L g rl kd o xa xb : Addr} {sz : Int} {rs : List Int} {hi : V} {kns : List V} {os : List (Option Str)} {odd : List V}
theorem Wd.went (w : Wd K CK H D L g rl kd o xa xb sz rs hi kns os odd) (W : Went D L H H') : Wd K CK H' D L g rl kd o xa xb sz rs hi kns os odd where
  dl := W.d
  hg := W.k _ _ w.og.1 w.og.2 w.hg
  hr := W.k _ _ w.or.1 w.or.2 w.hr
  hk := W.k _ _ w.ok.1 w.ok.2 w.hk
  kn := ⟨w.kn.1, fun i v o h1 h2 => (w.kn.2 i v o h1 h2).went w.dl W⟩
  ka := w.ka.went w.dl W
  kb := w.kb.went w.dl W
  ho := W.k _ _ w.oO.1 w.oO.2 w.ho
  ov := fun v hv => ⟨_, (w.ov v hv).choose_spec.went w.dl W (w.od v hv)⟩
  oo := fun v hv p e => by
    obtain ⟨u, hu⟩ := w.oo v hv p e
    have n := w.od v hv
    exact ⟨u, W.k _ _ (fun z => n.1 (by rw [e, z])) (fun z => n.2 (by rw [e, z])) hu⟩
  od := w.od
  og := w.og
  or := w.or
  ok := w.ok
  oO := w.oO
theorem Wd.same (w : Wd K CK H D L g rl kd o xa xb sz rs hi kns os odd) (s : Same H H') : Wd K CK H' D L g rl kd o xa xb sz rs hi kns os odd := w.went ((Went.refl w.dl).same s)
end
theorem rests_seq {rs : List Int} (h1 : rs.Nodup) (h2 : ∀ n ∈ rs, 0 ≤ n ∧ n < 7) (h3 : rs.length ≤ 6) : restsO (some (rs.map V.int)) = true := by
  have e1 : (rs.map V.int).all restI = true := by
    rw [List.all_map]
    refine List.all_eq_true.mpr fun n hn => ?_
    have := h2 n hn
    simp [restI, this.1, this.2]
  have e2 : ((rs.map V.int).map valI) = rs := by
    rw [List.map_map]
    conv => rhs; rw [← List.map_id rs]
    rfl
  show ((rs.map V.int).all restI && (decide ((((rs.map V.int).map valI)).Nodup) && decide ((rs.map V.int).length < 7))) = true
  rw [e1, e2, decide_eq_true h1, List.length_map, decide_eq_true (show rs.length < 7 by omega)]
  rfl
theorem kinds_ok {ds : List KD} (h : (ds.map KD.nm).Nodup) (kns : List V) : kindsO (some (kns, ds.map fun d => some d.nm)) = true := by
  have e1 : (ds.map fun d => some d.nm).all Option.isSome = true := by
    rw [List.all_map]
    exact List.all_eq_true.mpr fun _ _ => rfl
  have e2 : namesOf (ds.map fun d => some d.nm) = ds.map KD.nm := by
    unfold namesOf
    rw [List.filterMap_map]
    induction ds with
    | nil => rfl
    | cons d ds ih =>
      have := ih (by simpa using (List.nodup_cons.mp h).2)
      simp only [List.map_cons]
      rw [← this (by
        rw [List.all_map]
        exact List.all_eq_true.mpr fun _ _ => rfl)]
      rfl
  show ((ds.map fun d => some d.nm).all Option.isSome && decide ((namesOf (ds.map fun d => some d.nm)).Nodup)) = true
  rw [e1, e2, decide_eq_true h]
  rfl
theorem due_ok7 {sz : Int} {r : Option (List V)} {hi : V} {ks : Option (List V × List (Option Str))} (h1 : 1 ≤ sz) (h2 : restsO r = true) (h3 : hi = .non ∨ cntV hi = true) (h4 : kindsO ks = true) : dueR (.int sz) r hi ks = none := by
  rw [dueR_good h4]
  have e1 := cnt_int h1
  unfold dueR3
  rw [if_neg (by rw [e1]; exact Bool.noConfusion), if_neg (by rw [h2]; exact Bool.noConfusion), if_neg]
  rintro ⟨a, b⟩
  rcases h3 with h | h
  · exact a h
  · rw [h] at b
    cases b
theorem due3_ok7 {sz : Int} {r : Option (List V)} {hi : V} (h1 : 1 ≤ sz) (h2 : restsO r = true) (h3 : hi = .non ∨ cntV hi = true) : dueR3 (.int sz) r hi = none := by
  have := due_ok7 (ks := some ([], [])) h1 h2 h3 (by rfl)
  rw [dueR_good (by rfl)] at this
  exact this
theorem due_kinds {l : V} {r : Option (List V)} {c : V} {ks : Option (List V × List (Option Str))} (h : dueR3 l r c = none) (b : kindsO ks = false) : dueR l r c ks = some "kinds" := by
  unfold dueR
  rw [h]
  exact if_pos b
theorem due_length {r : Option (List V)} {c : V} {ks : Option (List V × List (Option Str))} : dueR (.int 0) r c ks = some "length" := rfl
theorem Seq?.of {K : PySem.W.Frag} {H : Hp} {a : Addr} {xs : List V} (h : SqQ K H a xs) (hl : xs.length ≤ 1000) (hf : xs.all flatB = true) : Seq? K H (.ref a) := ⟨_, .seq h hl fun _ hx => (goodAll hf hx).any⟩
end Ts

namespace Ts
open PySem L2
def top (i : Nat) : Stmt := PySem.Challenge.pw_termstill_k07_rules_refused.main.body.getD i (.Pass ⟨0, 0, 0, 0⟩)
section
variable {P : Program} {w : World} {K : PySem.W.Frag} {mg : Str → Option Value} {base : Heap}
abbrev sDraw : Stmt := (top 37)
theorem sc_draw : FnScope ["_law_deal_here", "_law_many", "_law_rest"] ["_law_deal_here", "_law_many"] (C8.fnScope sDraw) := C8.fnScope_by (by decide +kernel)
theorem cal_draw {f : Addr} {fd : FuncData} (F : C8.Def K mg "_law_draw" sDraw f fd) (df : fd.defaults = .none) (mInt : mg "int" = none) : C8.Cal P w K mg base 1 "_law_draw" spDraw [] := by
  refine C8.cal0 F (C8.Fun.binds F.fn df (ps := ["_law_deal_here", "_law_many"]) fun _ _ _ _ _ _ us hl => match us, hl with | [_, _], _ => rfl) .nil sc_draw (fun vs H Q E h => ?_) (fun cdv A outer s H vs Q E hr h => ?_)
  · obtain ⟨D, L, n, rfl, _⟩ := h
    rfl
  · obtain ⟨D, L, n, rfl, dl, n0, n1, k⟩ := h
    have hu := hr.units
    refine ⟨_, pss_cons (ps_while PassesOwn.never (PW.pt (pw_and (pt_cmpR (op_neD hu) (pe_ix ix_list (pv 0) pe_int (fun _ _ => rfl)) (pe_lst pa_nil) (nomark _)) (pw_and1 (pt_cmpR op_eq (pe_ix ix_list (pe_ix ix_list (pv 0) pe_int (fun _ _ => rfl)) (pe_un un_neg pe_int) (fun _ _ => rfl)) pe_int (nomark _)))))
        (pss_one (ps_expr (pe_bm0 PySem.F.plainAttrs_list PySem.F.slot_list_pop PySem.F.type_list_pop mt_pop (pe_ix ix_list (pv 0) pe_int (fun _ _ => rfl))))))
      (pss_cons (ps_if (pt_cmpR (op_neD hu) (pe_ix ix_list (pv 0) pe_int (fun _ _ => rfl)) (pe_lst pa_nil) (nomark _))
        (pss_cons (ps_set (i := 2) sc_draw.nd rfl (Or.inl rfl) (pe_bm0 PySem.F.plainAttrs_list PySem.F.slot_list_pop PySem.F.type_list_pop mt_pop (pe_ix ix_list (pv 0) pe_int (fun _ _ => rfl))))
        (pss_cons (ps_expr (pe_bm PySem.F.plainAttrs_list PySem.F.slot_list_append PySem.F.type_list_append mt_append (pe_ix ix_list (pv 0) pe_int (fun _ _ => rfl)) (pa_cons (pe_op op_fdivW (pv 2) (pv 1)) pa_nil)))
        (pss_one (ps_ret (pe_op op_mod (pe_callTy call_int1 (by rfl) mInt PyProof.Rows.boot_int (pa_cons (pv 2) pa_nil)) (pv 1)))))) pss_nil)
      (pss_cons (ps_asg (pe_op op_mod (pe_callTy call_int1 (by rfl) mInt PyProof.Rows.boot_int (pa_cons (pe_op op_add (pe_op op_mul (pe_ix ix_list (pv 0) pe_int (fun _ _ => rfl)) pe_int) pe_int) pa_nil)) pe_int) (pg_sub (pv 0) pe_int set_list))
      (pss_one (ps_ret (pe_op op_mod (pe_callTy call_int1 (by rfl) mInt PyProof.Rows.boot_int (pa_cons (pe_op op_fdivW (pe_ix ix_list (pv 0) pe_int (fun _ _ => rfl)) pe_int) pa_nil)) (pv 1)))))), ?_⟩
    obtain ⟨cs0, m0, g1, g2, g3, g4, g5, g6⟩ := dl.ex
    -- while
    refine ⟨fun m σ H' => ∃ cs : List Int, σ = [some (.ref D), some (.int n), none] ∧ m = cs.length ∧ H' D = some (.lst [.ref L, .int m0]) ∧ H' L = some (.lst (cs.map V.int)) ∧ cs.length ≤ 60 ∧ (∀ c ∈ cs, 0 ≤ c) ∧ Kept D L H H',
      ⟨_, cs0, rfl, rfl, g1, g2, g3, g4, Kept.refl⟩, ?_⟩
    rintro m σ H1 ⟨cs, rfl, rfl, h1, h2, h3, h4, hk⟩
    have hDL : D ≠ L := deal_ne h1 h2
    refine ⟨_, rfl, D, _, 0, _, rfl, rfl, SqL.of h1, rfl, Nat.zero_le _, fun p hp => ?_⟩
    have pD : D ≠ p := ne_of_none h1 hp
    have pL : L ≠ p := ne_of_none h2 hp
    have h1' : upd H1 p (.lst []) D = some (.lst [.ref L, .int m0]) := by rw [upd_ne pD]; exact h1
    have h2' : upd H1 p (.lst []) L = some (.lst (cs.map V.int)) := by rw [upd_ne pL]; exact h2
    refine ne_nil (SqL.of h2') upd_same ⟨_, rfl, ?_⟩
    have ix0 : ∀ (R : V → Hp → Prop), R (.ref L) (upd H1 p (.lst [])) → (∃ v, ([some (V.ref D), some (V.int n), none] : L2.St)[0]? = some (some v) ∧ rIxL K v (.int 0) (upd H1 p (.lst [])) R) := fun R r => ⟨_, rfl, D, _, 0, _, rfl, rfl, SqL.of h1', rfl, r⟩
    cases e : cs.isEmpty with
    | true =>
      refine iteF (iteF ?_)
      have ec : cs = [] := List.isEmpty_iff.mp e
      subst ec
      -- if
      refine ⟨_, rfl, D, _, 0, _, rfl, rfl, SqL.of h1', rfl, Nat.zero_le _, fun q hq => ?_⟩
      have qD : D ≠ q := ne_of_none h1' hq
      have qL : L ≠ q := ne_of_none h2' hq
      have h1'' : upd (upd H1 p (.lst [])) q (.lst []) D = some (.lst [.ref L, .int m0]) := by rw [upd_ne qD]; exact h1'
      have h2'' : upd (upd H1 p (.lst [])) q (.lst []) L = some (.lst (([] : List Int).map V.int)) := by rw [upd_ne qL]; exact h2'
      refine ne_nil (SqL.of h2'') upd_same ⟨_, rfl, iteF ?_⟩
      have hk2 := (hk.new hp (o := .lst [])).new hq (o := .lst [])
      refine ⟨_, rfl, D, _, 1, _, rfl, rfl, SqL.of h1'', rfl, _, _, rfl, rfl, Or.inr ⟨by decide, by decide⟩, _, _, rfl, rfl, Or.inl ⟨_, rfl, _, _, rfl, rfl, (by show (0 : Int) < 2147483647; decide), ?_⟩⟩
      refine ⟨_, rfl, D, _, 1, 1, rfl, rfl, h1'', rfl, ?_⟩
      have r1 : 0 ≤ (m0 * 48271 + 31) % 2147483647 := Int.emod_nonneg _ (by decide)
      have r2 : (m0 * 48271 + 31) % 2147483647 < 2147483647 := Int.emod_lt_of_pos _ (by decide)
      refine ⟨_, rfl, D, _, 1, _, rfl, rfl, SqL.of upd_same, rfl, _, _, rfl, rfl, wide_div (b := 60) (by decide) (by decide) (by decide) (by decide), Or.inl ⟨_, rfl, _, rfl, _, _, rfl, rfl, n0, ?_⟩⟩
      refine k _ _ (Int.emod_nonneg _ (by omega)) (Int.emod_lt_of_pos _ n0) ⟨⟨[], _, upd_same, (by rw [upd_ne hDL.symm]; exact h2''), by decide, (fun c hc => by cases hc), r1, r2⟩, hk2.atD⟩
    | false =>
      refine iteT ?_
      obtain ⟨ds, d, rfl⟩ := cs_last e
      have em : (ds ++ [d]).map V.int = ds.map V.int ++ [V.int d] := List.map_append
      rw [em] at h2 h2'
      have hds : ds.length ≤ 60 := by rw [List.length_append] at h3; omega
      have hdn : ∀ c ∈ ds, 0 ≤ c := fun c hc => h4 c (List.mem_append_left _ hc)
      have hd0 : 0 ≤ d := h4 d (List.mem_append_right _ (List.mem_singleton.mpr rfl))
      refine ⟨_, rfl, D, _, 0, _, rfl, rfl, SqL.of h1', rfl, _, rfl, L, _, -1, _, rfl, rfl, SqL.of h2', atI_last _ _, rfl, _, rfl, ?_⟩
      have tyL : tyV K "list" (.ref L) (upd H1 p (.lst [])) := .inl ⟨rfl, _, SqL.of h2'⟩
      have hg : (ds.map V.int ++ [V.int d])[(ds.map V.int ++ [V.int d]).length - 1]? = some (V.int d) := by
        rw [List.length_append, List.length_singleton, Nat.add_sub_cancel, List.getElem?_append_right (Nat.le_refl _), Nat.sub_self]
        rfl
      have hdl : (ds.map V.int ++ [V.int d]).dropLast = ds.map V.int := List.dropLast_concat
      refine ite2 (fun _ => ?_) (fun _ => ?_)
      · -- pop
        refine ⟨fun σ' H' => ∃ cs : List Int, σ' = [some (.ref D), some (.int n), none] ∧ cs.length = ds.length ∧ H' D = some (.lst [.ref L, .int m0]) ∧ H' L = some (.lst (cs.map V.int)) ∧ cs.length ≤ 60 ∧ (∀ c ∈ cs, 0 ≤ c) ∧ Kept D L H H', ?_, ?_⟩
        · rintro σ' H' ⟨cs, rfl, el, r⟩
          exact ⟨_, by rw [List.length_append, List.length_singleton, ← el]; exact Nat.lt_succ_self _, cs, rfl, rfl, r⟩
        · refine ⟨_, rfl, D, _, 0, _, rfl, rfl, SqL.of h1', rfl, tyL, L, _, _, rfl, rfl, h2', hg, ?_⟩
          exact ⟨ds, rfl, rfl, by rw [upd_ne hDL]; exact h1', by rw [upd_same, hdl], hds, hdn, (hk.new hp).atL⟩
      · -- if
        refine ⟨_, rfl, D, _, 0, _, rfl, rfl, SqL.of h1', rfl, Nat.zero_le _, fun q hq => ?_⟩
        have qD : D ≠ q := ne_of_none h1' hq
        have qL : L ≠ q := ne_of_none h2' hq
        have h1'' : upd (upd H1 p (.lst [])) q (.lst []) D = some (.lst [.ref L, .int m0]) := by rw [upd_ne qD]; exact h1'
        have h2'' : upd (upd H1 p (.lst [])) q (.lst []) L = some (.lst (ds.map V.int ++ [V.int d])) := by rw [upd_ne qL]; exact h2'
        have hk2 := (hk.new hp (o := .lst [])).new hq (o := .lst [])
        refine ne_nil (cs := ds ++ [d]) (SqL.of (by rw [em]; exact h2'')) upd_same ⟨_, rfl, ?_⟩
        rw [e]
        refine iteT ?_
        have tyL2 : tyV K "list" (.ref L) (upd (upd H1 p (.lst [])) q (.lst [])) := .inl ⟨rfl, _, SqL.of h2''⟩
        refine ⟨_, rfl, D, _, 0, _, rfl, rfl, SqL.of h1'', rfl, tyL2, L, _, _, rfl, rfl, h2'', hg, ?_⟩
        rw [hdl]
        have h1m : upd (upd (upd H1 p (.lst [])) q (.lst [])) L (.lst (ds.map V.int)) D = some (.lst [.ref L, .int m0]) := by rw [upd_ne hDL]; exact h1''
        have tyL3 : tyV K "list" (.ref L) (upd (upd (upd H1 p (.lst [])) q (.lst [])) L (.lst (ds.map V.int))) := .inl ⟨rfl, _, SqL.of upd_same⟩
        refine ⟨_, rfl, D, _, 0, _, rfl, rfl, SqL.of h1m, rfl, tyL3, _, rfl, _, rfl, _, _, rfl, rfl, ⟨n0, ?_⟩, L, _, _, rfl, rfl, upd_same, (small1000 (by rw [List.length_map]; omega)), ?_⟩
        · exact (wide_div (i := 0) (b := 64) n0 (by omega) (by decide) (by decide)).2
        refine ⟨_, rfl, Or.inl ⟨_, rfl, _, rfl, _, _, rfl, rfl, n0, ?_⟩⟩
        refine k _ _ (Int.emod_nonneg _ (by omega)) (Int.emod_lt_of_pos _ n0) ⟨⟨ds ++ [d / n], m0, (by rw [upd_ne hDL]; exact h1m), (by rw [upd_same, List.map_append]; rfl), (by rw [List.length_append, List.length_singleton]; rw [List.length_append, List.length_singleton] at h3; exact h3), ?_, g5, g6⟩, hk2.atL.atL⟩
        intro c hc
        rcases List.mem_append.mp hc with hc | hc
        · exact hdn c hc
        · rw [List.mem_singleton.mp hc]
          exact fdiv_nonneg hd0 n0

abbrev sDeal : Stmt := (top 36)
theorem sc_deal : FnScope ["_law_script", "_law_cell", "_law_cells", "_law_mixed_here"] ["_law_script"] (C8.fnScope sDeal) := C8.fnScope_by (by decide +kernel)
theorem cal_deal {f : Addr} {fd : FuncData} (F : C8.Def K mg "_law_deal" sDeal f fd) (df : fd.defaults = .none) (mInt : mg "int" = none) (mAbs : mg "abs" = none) : C8.Cal P w K mg base 1 "_law_deal" (spDeal K) [] := by
  refine C8.cal0 F (C8.Fun.binds F.fn df (ps := ["_law_script"]) fun _ _ _ _ _ _ us hl => match us, hl with | [_], _ => rfl) .nil sc_deal (fun vs H Q E h => ?_) (fun cdv A outer s H vs Q E hr h => ?_)
  · obtain ⟨a, ns, rfl, _⟩ := h
    rfl
  · obtain ⟨a, ns, rfl, hS, hl, k⟩ := h
    refine ⟨_, pss_cons (ps_par (i := 2) (j := 3) (by rfl) sc_deal.nd rfl rfl (by decide) rfl rfl (pa_cons
          (pe_lc (own := [("_law_cell", 1)]) (g := gName 1) (by rfl) sc_deal.nd (pi_list (pe_slice sl_list (pv 0) po_none (po_some pe_int))) (blkOk_by (own := [("_law_cell", 1)]) (N := ["_law_script", "_law_cell", "_law_cells", "_law_mixed_here"]) (sc := C8.fnScope sDeal) (by decide +kernel)) (fun _ _ _ _ _ => pg_name (i := 1) sc_deal.nd rfl (Or.inl rfl)) (fun _ _ _ _ _ => pts_nil)
            (fun _ _ _ _ _ => pe_callB call_abs (by rfl) mAbs PyProof.Rows.boot_abs (pa_cons (pv 1) pa_nil)))
          (pa_cons pe_int pa_nil)) (by rfl))
      (pss_cons (ps_for PassesOwn.never rfl (pi_list (pv 2)) (pg_name (i := 1) sc_deal.nd rfl (Or.inl rfl))
        (pss_one (ps_set (i := 3) sc_deal.nd rfl (Or.inl rfl) (pe_op op_mod (pe_callTy call_int1 (by rfl) mInt PyProof.Rows.boot_int (pa_cons (pe_op op_add (pe_op op_mul (pv 3) pe_int) (pe_op op_mod (pe_callTy call_int1 (by rfl) mInt PyProof.Rows.boot_int (pa_cons (pv 1) pa_nil)) pe_int)) pa_nil)) pe_int))))
      (pss_one (ps_ret (pe_lst (pa_cons (pe_revL (pe_lc (own := [("_law_cell", 1)]) (g := gName 1) (by rfl) sc_deal.nd (pi_list (pv 2)) (blkOk_by (own := [("_law_cell", 1)]) (N := ["_law_script", "_law_cell", "_law_cells", "_law_mixed_here"]) (sc := C8.fnScope sDeal) (by decide +kernel)) (fun _ _ _ _ _ => pg_name (i := 1) sc_deal.nd rfl (Or.inl rfl)) (fun _ _ _ _ _ => pts_one (pt_cmpR op_ge (pv 1) (pe_op op_pow pe_int pe_int) (nomark _)))
            (fun _ _ _ _ _ => (pv 1)))) (pa_cons (pv 3) pa_nil)))))), ?_⟩
    have hd0 : ∀ {p d : Addr} {o : HO}, H p = none → upd H p o d = none → H d = none := fun {p d o} hp hd => by
      by_cases e : d = p
      · rw [e]; exact hp
      · rw [upd_ne e] at hd; exact hd
    refine ⟨_, rfl, _, rfl, a, _, rfl, hS, fun p hp => ⟨p, rfl, ⟨_, SqL.of upd_same⟩, fun d hd => lc_list (K := K) (a := p) (xs := (ns.take 60).map V.int)
      (fun i H' => ∃ cs : List Int, H' d = some (.lst (cs.map V.int)) ∧ cs.length ≤ i ∧ (∀ c ∈ cs, 0 ≤ c) ∧ H' p = some (.lst ((ns.take 60).map V.int)) ∧ Same H H') ?_ (fun i H' _ h => SqL.of h.choose_spec.2.2.2.1) ?_ ?_⟩⟩
    · rw [show cutV (ns.map V.int) none (some 60) = (ns.take 60).map V.int from cut_to V.int ns 60] at hd ⊢
      have hpd : p ≠ d := fun e => by
        rw [← e, upd_same] at hd
        cases hd
      exact ⟨[], upd_same, Nat.le_refl _, (fun c hc => by cases hc), by rw [upd_ne hpd, upd_same], same_upd_new (same_upd_new (Same.refl _) hp) (hd0 hp hd)⟩
    · rintro i y H1 hi ⟨cs, h1, h2, h3, h4, h5⟩
      obtain ⟨u, rfl, hu⟩ := map_at hi
      have hi60 : i < 60 := by
        have := at_lt hu
        rw [List.length_take] at this
        omega
      refine ⟨rfl, yes_ ?_⟩
      refine ⟨_, rfl, _, rfl, _, h1, small1000 (by rw [List.length_map]; omega), cs ++ [if u < 0 then -u else u], ?_, ?_, ?_, ?_, ?_⟩
      · rw [upd_same, List.map_append]
        rfl
      · rw [List.length_append, List.length_singleton]
        omega
      · intro c hc
        rcases List.mem_append.mp hc with hc | hc
        · exact h3 c hc
        · rw [List.mem_singleton.mp hc]
          exact abs_nn u
      · rw [upd_ne (ne_of h4 h1 (by
          intro e
          have e := HO.lst.inj e
          have : (List.map V.int (ns.take 60)).length = (List.map V.int cs).length := by rw [e]
          rw [List.length_map, List.length_map] at this
          have := at_lt hu
          omega))]
        exact h4
      · exact same_upd_new h5 (hd0 hp hd)
    · rintro H1 ⟨cs, h1, h2, h3, h4, h5⟩
      have hc60 : cs.length ≤ 60 := by
        rw [List.length_map, List.length_take] at h2
        omega
      have nd : H d = none := hd0 hp hd
      -- the small number
      refine ⟨_, _, rfl, ?_⟩
      refine ⟨_, rfl, d, rfl, ⟨_, SqL.of h1⟩, for_list (K := K) (a := d) (xs := cs.map V.int)
        (fun i σ H' => ∃ (v : Option V) (m : Int), σ = [some (.ref a), v, some (.ref d), some (.int m)] ∧ 0 ≤ m ∧ m < 2147483647 ∧ H' = H1) ⟨_, _, rfl, by decide, by decide, rfl⟩ (fun i σ H' _ h => by obtain ⟨_, _, _, _, _, rfl⟩ := h; exact SqL.of h1) ?_ ?_⟩
      · rintro i y σ H' hi ⟨v, m, rfl, m0, m1, rfl⟩
        obtain ⟨u, rfl, hu⟩ := map_at hi
        refine ⟨_, rfl, _, _, rfl, rfl, Or.inl ⟨by omega, by omega⟩, _, rfl, Or.inl ⟨_, rfl, _, _, rfl, rfl, (by show (0 : Int) < 2147483629; decide), _, _, rfl, rfl, Or.inl ⟨_, rfl, _, _, rfl, rfl, (by show (0 : Int) < 2147483647; decide), ?_⟩⟩⟩
        exact ⟨_, _, rfl, Int.emod_nonneg _ (by decide), Int.emod_lt_of_pos _ (by decide), rfl⟩
      · rintro σ H' ⟨v, m, rfl, m0, m1, rfl⟩
        refine ⟨_, rfl, d, rfl, ⟨_, SqL.of h1⟩, fun e he => lc_list (K := K) (a := d) (xs := cs.map V.int)
          (fun i H2 => ∃ es : List Int, H2 e = some (.lst (es.map V.int)) ∧ es.length ≤ i ∧ (∀ c ∈ es, 0 ≤ c) ∧ H2 d = some (.lst (cs.map V.int)) ∧ Same H H2) ?_ (fun i H2 _ h => SqL.of h.choose_spec.2.2.2.1) ?_ ?_⟩
        · exact ⟨[], upd_same, Nat.le_refl _, (fun c hc => by cases hc), by rw [upd_ne (ne_of_none h1 he)]; exact h1, Same.new h5 he⟩
        · rintro i y H2 hi ⟨es, j1, j2, j3, j4, j5⟩
          obtain ⟨u, rfl, hu⟩ := map_at hi
          have hne : d ≠ e := fun q => by
            rw [← q, h1] at he
            cases he
          have he0 : H e = none := h5.free he
          refine ⟨rfl, ?_⟩
          refine ⟨_, rfl, _, _, rfl, rfl, ⟨by decide, by decide, by decide⟩, _, _, rfl, rfl, _, rfl, ?_⟩
          refine ite2 (fun _ => ?_) (fun _ => ⟨es, j1, by omega, j3, j4, j5⟩)
          have := at_lt hu
          refine ⟨_, rfl, _, j1, small1000 (by rw [List.length_map]; omega), es ++ [u], by rw [upd_same, List.map_append]; rfl, by rw [List.length_append, List.length_singleton]; omega, ?_, by rw [upd_ne hne]; exact j4, same_upd_new j5 he0⟩
          intro c hc
          rcases List.mem_append.mp hc with hc | hc
          · exact j3 c hc
          · rw [List.mem_singleton.mp hc]
            exact h3 u (at_mem hu)
        · rintro H2 ⟨es, j1, j2, j3, j4, j5⟩
          rw [List.length_map] at j2
          refine ⟨e, _, rfl, SqL.of j1, fun q hq => ⟨_, rfl, (by show 2 ≤ sizeLine; decide), fun r hr => ?_⟩⟩
          have hq0 : H q = none := j5.free hq
          have hqr : q ≠ r := fun z => by
            rw [← z, upd_same] at hr
            cases hr
          have hr0 : H2 r = none := by
            rw [upd_ne hqr.symm] at hr
            exact hr
          refine k r q _ ⟨es.reverse, m, upd_same, ?_, by rw [List.length_reverse]; omega, fun c hc => j3 c (List.mem_reverse.mp hc), m0, m1⟩ (Same.new (Same.new j5 hq) hr) (j5.free hr0) hq0
          rw [upd_ne hqr, upd_same, List.map_reverse]
end
end Ts

namespace Ts
open PySem L2
section
variable {P : Program} {w : World} {K : PySem.W.Frag} {mg : Str → Option Value} {base : Heap}
abbrev sPick : Stmt := (top 38)
theorem sc_pick : FnScope ["_law_deal_here", "_law_some"] ["_law_deal_here", "_law_some"] (C8.fnScope sPick) := C8.fnScope_by (by decide +kernel)
theorem cal_pick {f : Addr} {fd : FuncData} (F : C8.Def K mg "_law_pick" sPick f fd) (df : fd.defaults = .none) (mLen : mg "len" = none) (cD : C8.Cal P w K mg base 1 "_law_draw" spDraw []) : C8.Cal P w K mg base 2 "_law_pick" (spPick K) [] := by
  refine C8.cal0 F (C8.Fun.binds F.fn df (ps := ["_law_deal_here", "_law_some"]) fun _ _ _ _ _ _ us hl => match us, hl with | [_, _], _ => rfl) .nil sc_pick (fun vs H Q E h => ?_) (fun cdv A outer s H vs Q E hr h => ?_)
  · obtain ⟨D, L, a, xs, rfl, _⟩ := h
    rfl
  · obtain ⟨D, L, a, xs, rfl, dl, hS, a1, a2, l1, l2, k⟩ := h
    refine ⟨_, pss_one (ps_ret (pe_ix ix_list (pv 1) (C8.pe_c cD hr (by decide) (by rfl) (pa_cons (pv 0) (pa_cons (pe_callB call_len_seq (by rfl) mLen PySem.boot_len (pa_cons (pv 1) pa_nil)) pa_nil))) (fun _ _ => rfl))), ?_⟩
    refine ⟨_, rfl, _, rfl, _, rfl, a, _, rfl, .inl hS, D, L, _, rfl, dl, by omega, by omega, fun d H' d0 d1 W => ?_⟩
    obtain ⟨j, rfl⟩ := Int.eq_ofNat_of_zero_le d0
    have hj : j < xs.length := by omega
    exact ⟨a, xs, _, xs[j], rfl, rfl, W.k.seq a1 a2 hS, atI_nat (List.getElem?_eq_getElem hj), k _ _ (List.getElem_mem hj) W⟩
abbrev sMixed : Stmt := (top 39)
theorem sc_mixed : FnScope ["_law_deal_here", "_law_some", "_law_others", "_law_found"] ["_law_deal_here", "_law_some"] (C8.fnScope sMixed) := C8.fnScope_by (by decide +kernel)
theorem cal_mixed {f : Addr} {fd : FuncData} (F : C8.Def K mg "_law_mixed" sMixed f fd) (df : fd.defaults = .none) (mLen : mg "len" = none) (mList : mg "list" = none) (cD : C8.Cal P w K mg base 1 "_law_draw" spDraw []) : C8.Cal P w K mg base 2 "_law_mixed" (spMixed K) [] := by
  refine C8.cal0 F (C8.Fun.binds F.fn df (ps := ["_law_deal_here", "_law_some"]) fun _ _ _ _ _ _ us hl => match us, hl with | [_, _], _ => rfl) .nil sc_mixed (fun vs H Q E h => ?_) (fun cdv A outer s H vs Q E hr h => ?_)
  · obtain ⟨D, L, a, xs, rfl, _⟩ := h
    rfl
  · obtain ⟨D, L, a, xs, rfl, dl, hS, a1, a2, l1, l2, k⟩ := h
    have hu := hr.units
    refine ⟨_, pss_cons (ps_par (i := 2) (j := 3) (by rfl) sc_mixed.nd rfl rfl (by decide) rfl rfl (pa_cons (pe_callTy call_list_of (by rfl) mList PyProof.Rows.boot_list (pa_cons (pv 1) pa_nil)) (pa_cons (pe_lst pa_nil) pa_nil)) (by rfl))
      (pss_cons (ps_while PassesOwn.never (pt_cmpR (op_neD hu) (pv 2) (pe_lst pa_nil) (nomark _))
        (pss_one (ps_expr (pe_bm PySem.F.plainAttrs_list PySem.F.slot_list_append PySem.F.type_list_append mt_append (pv 3) (pa_cons (pe_bm PySem.F.plainAttrs_list PySem.F.slot_list_pop PySem.F.type_list_pop mt_popAt (pv 2)
          (pa_cons (C8.pe_c cD hr (by decide) (by rfl) (pa_cons (pv 0) (pa_cons (pe_callB call_len_seq (by rfl) mLen PySem.boot_len (pa_cons (pv 2) pa_nil)) pa_nil))) pa_nil)) pa_nil)))))
      (pss_one (ps_ret (pv 3)))), ?_⟩
    refine ⟨_, rfl, a, _, rfl, .inl hS, fun o ho => ⟨Nat.zero_le _, fun q hq => ⟨_, _, rfl, ?_⟩⟩⟩
    have oq : o ≠ q := fun z => by
      rw [← z, upd_same] at hq
      cases hq
    have hq0 : H q = none := by
      rw [upd_ne oq.symm] at hq
      exact hq
    have oD := off_new dl ho
    have qD := off_new dl hq0
    refine ⟨fun m σ H' => ∃ (us ys : List V), σ = [some (.ref D), some (.ref a), some (.ref o), some (.ref q)] ∧ m = us.length ∧ H' o = some (.lst us) ∧ H' q = some (.lst ys) ∧ (ys ++ us).Perm xs ∧ Went D L H H',
      ⟨_, xs, [], rfl, rfl, by rw [upd_ne oq, upd_same], upd_same, List.Perm.refl _, ⟨dl.same (Same.new (Same.new (Same.refl _) ho) hq), (Kept.refl.new ho).new hq⟩⟩, ?_⟩
    rintro m σ H1 ⟨us, ys, rfl, rfl, h1, h2, hp, W⟩
    have hall : ∀ v ∈ ys ++ us, okV v = true := fun v hv => List.all_eq_true.mp l1 v (hp.mem_iff.mp hv)
    have hok : us.all okV = true := List.all_eq_true.mpr fun v hv => hall v (List.mem_append_right _ hv)
    have hlen : ys.length + us.length = xs.length := by
      have := hp.length_eq
      rw [List.length_append] at this
      exact this
    refine ⟨_, rfl, Nat.zero_le _, fun r hr' => ?_⟩
    have ro := ne_of_none h1 hr'
    have rq := ne_of_none h2 hr'
    have h1' : upd H1 r (.lst []) o = some (.lst us) := by rw [upd_ne ro]; exact h1
    have h2' : upd H1 r (.lst []) q = some (.lst ys) := by rw [upd_ne rq]; exact h2
    have W' : Went D L H (upd H1 r (.lst [])) := W.new hr'
    refine ne_nilF (SqL.of h1') hok upd_same ⟨_, rfl, ?_⟩
    cases e : us.isEmpty with
    | true =>
      refine iteF ?_
      rw [List.isEmpty_iff.mp e, List.append_nil] at hp
      exact ⟨_, rfl, k q ys _ hp W' hq0 h2'⟩
    | false =>
      refine iteT ?_
      refine ⟨fun σ' H' => ∃ (us' ys : List V), σ' = [some (.ref D), some (.ref a), some (.ref o), some (.ref q)] ∧ us'.length < us.length ∧ H' o = some (.lst us') ∧ H' q = some (.lst ys) ∧ (ys ++ us').Perm xs ∧ Went D L H H',
        fun σ' H' ⟨us', ys, e1, e2, r⟩ => ⟨_, e2, us', ys, e1, rfl, r⟩, ?_⟩
      have hu0 : 0 < us.length := by
        cases us with
        | nil => cases e
        | cons u us => exact Nat.succ_pos _
      refine ⟨_, rfl, .inl ⟨rfl, _, SqL.of h2'⟩, _, rfl, .inl ⟨rfl, _, SqL.of h1'⟩, _, rfl, _, rfl, o, _, rfl, .inl (SqL.of h1'), D, L, _, rfl, W'.d, by omega, by omega, fun d H2 d0 d1 W2 => ?_⟩
      obtain ⟨j, rfl⟩ := Int.eq_ofNat_of_zero_le d0
      have hj : j < us.length := by omega
      have hj' : us[j]? = some us[j] := List.getElem?_eq_getElem hj
      have g1 := W2.k _ _ oD.1 oD.2 h1'
      have g2 := W2.k _ _ qD.1 qD.2 h2'
      refine ⟨o, us, _, j, us[j], rfl, rfl, g1, by omega, by omega, seqIndex_nat hj, hj', q, ys, _, rfl, rfl, by rw [upd_ne oq.symm]; exact g2, small1000 (by omega), ?_⟩
      refine ⟨us.eraseIdx j, ys ++ [us[j]], rfl, by rw [List.length_eraseIdx_of_lt hj]; omega, by rw [upd_ne oq, upd_same], upd_same, ?_, ?_⟩
      · rw [List.append_assoc]
        exact ((erase_perm hj').append_left ys).trans hp
      · have W3 := W'.trans W2
        refine ⟨?_, fun b u b1 b2 hb => ?_⟩
        · obtain ⟨cs, m, e1, e2, rr⟩ := W3.d.ex
          exact ⟨cs, m, by rw [upd_ne qD.1.symm, upd_ne oD.1.symm]; exact e1, by rw [upd_ne qD.2.symm, upd_ne oD.2.symm]; exact e2, rr⟩
        · rw [upd_ne (ne_of_none hb hq0), upd_ne (ne_of_none hb ho)]
          exact W3.k _ _ b1 b2 hb
end
end Ts

namespace Ts
open PySem L2
section
variable {P : Program} {w : World} {K : PySem.W.Frag} {mg : Str → Option Value} {base : Heap}
abbrev sIsInt : Stmt := (top 7)
theorem sc_isInt : FnScope ["value"] ["value"] (C8.fnScope sIsInt) := C8.fnScope_by (by decide +kernel)
theorem cal_isInt {f : Addr} {fd : FuncData} (F : C8.Def K mg "is_integer" sIsInt f fd) (df : fd.defaults = .none) (mIsi : mg "isinstance" = none) (mInt : mg "int" = none) (mBool : mg "bool" = none) : C8.Cal P w K mg base 1 "is_integer" (spIsInt K) [] := by
  refine C8.cal0 F (C8.Fun.binds F.fn df (ps := ["value"]) fun _ _ _ _ _ _ us hl => match us, hl with | [_], _ => rfl) .nil sc_isInt (fun vs H Q E h => ?_) (fun cdv A outer s H vs Q E hr h => ?_)
  · obtain ⟨v, k, rfl, _⟩ := h
    rfl
  · obtain ⟨v, k, rfl, ⟨⟨t, tx, t1, t2, t3, t4, t5⟩, _, _⟩, q⟩ := h
    refine ⟨_, pss_one (ps_ret (pe_and (pe_callB call_isi (by rfl) mIsi PyProof.Rows.boot_isinstance (pa_cons (pv 0) (pa_cons (pe_bltn (v := .ty "int") (by rfl) mInt PyProof.Rows.boot_int rfl) pa_nil)))
      (pe_one (pe_not (pe_callB call_isi (by rfl) mIsi PyProof.Rows.boot_isinstance (pa_cons (pv 0) (pa_cons (pe_bltn (v := .ty "bool") (by rfl) mBool PyProof.Rows.boot_bool rfl) pa_nil))))))), ?_⟩
    refine ⟨_, rfl, _, _, t, _, _, rfl, .ty _, tx, t1, _, rfl, ?_⟩
    cases k <;> first | exact iteF q | (refine iteT ⟨_, rfl, _, _, t, _, _, rfl, .ty _, tx, t2, _, rfl, ?_⟩; exact q)
abbrev sIsCount : Stmt := (top 8)
theorem sc_isCount : FnScope ["value"] ["value"] (C8.fnScope sIsCount) := C8.fnScope_by (by decide +kernel)
theorem cal_isCount {f : Addr} {fd : FuncData} (F : C8.Def K mg "is_count" sIsCount f fd) (df : fd.defaults = .none) (cI : C8.Cal P w K mg base 1 "is_integer" (spIsInt K) []) : C8.Cal P w K mg base 2 "is_count" (spIsCount K) [] := by
  refine C8.cal0 F (C8.Fun.binds F.fn df (ps := ["value"]) fun _ _ _ _ _ _ us hl => match us, hl with | [_], _ => rfl) .nil sc_isCount (fun vs H Q E h => ?_) (fun cdv A outer s H vs Q E hr h => ?_)
  · obtain ⟨v, k, rfl, _⟩ := h
    rfl
  · obtain ⟨v, k, rfl, ty, q⟩ := h
    refine ⟨_, pss_one (ps_ret (pe_and (C8.pe_c cI hr (by decide) (by rfl) (pa_cons (pv 0) pa_nil)) (pe_one (pe_cmpR op_ge (pv 0) pe_int (nomark _))))), ?_⟩
    refine ⟨_, rfl, v, k, rfl, ty, _, rfl, ?_⟩
    by_cases e : k = .int
    · obtain ⟨i, rfl⟩ := ty.i1 e
      rw [decide_eq_true e] at q ⊢
      refine iteT ⟨_, rfl, _, _, rfl, rfl, ?_⟩
      exact q
    · rw [decide_eq_false e] at q ⊢
      exact iteF q
end
end Ts

namespace Ts
open PySem L2
section
variable {P : Program} {w : World} {K : PySem.W.Frag} {mg : Str → Option Value} {base : Heap}
abbrev sIsName : Stmt := (top 9)
theorem sc_isName : FnScope ["value", "sign"] ["value"] (C8.fnScope sIsName) := C8.fnScope_by (by decide +kernel)
theorem cal_isName {f TN : Addr} {fd : FuncData} (F : C8.Def K mg "is_name" sIsName f fd) (df : fd.defaults = .none) (mIsi : mg "isinstance" = none) (mStr : mg "str" = none) (mLen : mg "len" = none) (mAll : mg "all" = none)
    (mNo : mg "NO_NAMES" = some (.ref TN)) (hNo : ∀ H, SqT K H TN noNames) (mMost : ∃ u, mg "MOST_LETTERS" = some u ∧ RelV (.int 4) u) (mLet : ∃ u, mg "LETTERS" = some u ∧ RelV (.str letters) u) : C8.Cal P w K mg base 1 "is_name" (spIsName K) [] := by
  refine C8.cal0 F (C8.Fun.binds F.fn df (ps := ["value"]) fun _ _ _ _ _ _ us hl => match us, hl with | [_], _ => rfl) .nil sc_isName (fun vs H Q E h => ?_) (fun cdv A outer s H vs Q E hr h => ?_)
  · obtain ⟨v, rfl, _⟩ := h
    rfl
  · obtain ⟨v, rfl, ⟨k, ⟨⟨t, tx, t1, t2, t3, t4, t5⟩, _, hs⟩, hlen⟩, q⟩ := h
    refine ⟨_, pss_cons (ps_if (PW.pt (pw_or (pt_not (pt_val (pe_callB call_isi (by rfl) mIsi PyProof.Rows.boot_isinstance (pa_cons (pv 0) (pa_cons (pe_bltn (v := .ty "str") (by rfl) mStr PyProof.Rows.boot_str rfl) pa_nil)))))
        (pw_or1 (pt_cmpR op_in_seq (pv 0) (pe_glob (v := .ref TN) (by rfl) mNo rfl) (by rfl))))) (pss_one (ps_ret pe_bl)) pss_nil)
      (pss_one (ps_ret (pe_and (pe_chain op_le op_le pe_int (pe_callB call_len_str (by rfl) mLen PySem.boot_len (pa_cons (pv 0) pa_nil)) (C8.pe_gc (v := .int 4) (by rfl) mMost))
        (pe_one (pe_callB (cr_all (by rfl)) (by rfl) mAll PyProof.Rows.boot_all (pa_cons
            (pe_lc (own := [("sign", 1)]) (g := gName 1) (by rfl) sc_isName.nd (pi_str (pv 0)) (blkOk_by (own := [("sign", 1)]) (N := ["value", "sign"]) (sc := C8.fnScope sIsName) (by decide +kernel)) (fun _ _ _ _ _ => pg_name (i := 1) sc_isName.nd rfl (Or.inl rfl)) (fun _ _ _ _ _ => pts_nil)
              (fun _ _ _ _ _ => pe_cmpR op_in_sign (pv 1) (C8.pe_gc (v := .str letters) (by rfl) mLet) (by rfl))) pa_nil)))))), ?_⟩
    refine ⟨_, rfl, _, _, t, _, _, rfl, .ty _, tx, t3, _, rfl, ?_⟩
    by_cases e : k = .str
    · obtain ⟨x, rfl⟩ := hs e
      subst e
      have hx := (hlen x rfl).1
      refine iteF ⟨_, rfl, TN, _, rfl, .inr (hNo H), rfl, (by decide), _, rfl, ?_⟩
      have fin := q
      show (if inV (.str x) noNames = true then _ else _)
      cases e1 : inV (.str x) noNames with
      | true =>
        have : nameV (.str x) = false := by simp [nameV, nameB, e1]
        rw [this] at q
        exact iteT (q H (Same.refl _))
      | false =>
        refine iteF ⟨_, rfl, x, rfl, Nat.le_trans hx (by decide), _, _, rfl, rfl, _, rfl, ?_⟩
        by_cases e2 : 1 ≤ (x.length : Int)
        · rw [decide_eq_true e2]
          refine iteT ⟨_, _, rfl, rfl, _, rfl, ?_⟩
          by_cases e3 : (x.length : Int) ≤ 4
          · rw [decide_eq_true e3]
            refine iteT ⟨_, rfl, x, rfl, fun d hd => lc_it (walk_str (z := x)) (fun i H' => H' d = some (.lst (((x.cps.toList.take i).map fun c => decide (c ∈ letters.cps.toList)).map V.bl)) ∧ Same H H') ⟨upd_same, Same.new (Same.refl _) hd⟩ (fun _ _ _ _ => trivial) ?_ ?_⟩
            · rintro i y H1 H2 hi ⟨g1, g2⟩ ⟨rfl, c, hc, rfl⟩
              have hc' : x.cps.toList[i]? = some c := by simpa using hc
              refine ⟨rfl, yes_ ⟨_, rfl, c, letters, rfl, rfl, _, g1, small1000 (by rw [List.length_map, List.length_map, List.length_take]; have : x.cps.toList.length = x.length := rfl; omega), ?_, same_upd_new g2 hd⟩⟩
              rw [upd_same, List.take_add_one, hc', List.map_append, List.map_append]
              rfl
            · rintro H' ⟨g1, g2⟩
              rw [show x.cps.size = x.cps.toList.length from rfl, List.take_length] at g1
              refine ⟨d, _, rfl, SqL.of g1, ?_⟩
              have := q H' g2
              rw [show nameV (.str x) = ((x.cps.toList.map fun c => decide (c ∈ letters.cps.toList)).all id) by
                simp [nameV, nameB, e1, e2, e3, List.all_map]] at this
              exact this
          · rw [decide_eq_false e3]
            have : nameV (.str x) = false := by simp [nameV, nameB, e3]
            rw [this] at q
            exact iteF (q H (Same.refl _))
        · rw [decide_eq_false e2]
          have : nameV (.str x) = false := by simp [nameV, nameB, e2]
          rw [this] at q
          exact iteF ⟨_, rfl, iteF (q H (Same.refl _))⟩
    · have hk : k.inS = false := by cases k <;> first | rfl | exact absurd rfl e
      rw [hk]
      refine iteT (iteT ?_)
      have : nameV v = false := by
        cases v with
        | str x =>
          obtain ⟨t', tx', u1, u2, u3, u4, u5⟩ : ∃ t', TyX K H (.str x) t' ∧ PySem.W.kitOne K t' (.type "int") = some false ∧ PySem.W.kitOne K t' (.type "bool") = some false ∧ PySem.W.kitOne K t' (.type "str") = some true ∧ True ∧ True :=
            ⟨_, .base (.str x), kit_ty (by decide +kernel), kit_ty (by decide +kernel), kit_ty (by decide +kernel), trivial, trivial⟩
          cases tx with
          | base hb =>
            cases hb
            rw [kit_ty (a := "str") (b := "str") (r := true) (by decide +kernel)] at t3
            rw [hk] at t3
            cases t3
        | _ => rfl
      rw [this] at q
      exact q H (Same.refl _)
end
end Ts

namespace Ts
open PySem L2
section
variable {P : Program} {w : World} {K : PySem.W.Frag} {mg : Str → Option Value} {base : Heap}
abbrev sIsSeq : Stmt := (top 10)
theorem sc_isSeq : FnScope ["value"] ["value"] (C8.fnScope sIsSeq) := C8.fnScope_by (by decide +kernel)
theorem cal_isSeq {f : Addr} {fd : FuncData} (F : C8.Def K mg "is_sequence" sIsSeq f fd) (df : fd.defaults = .none) (mIsi : mg "isinstance" = none) (mList : mg "list" = none) (mTup : mg "tuple" = none) : C8.Cal P w K mg base 1 "is_sequence" (spIsSeq K) [] := by
  refine C8.cal0 F (C8.Fun.binds F.fn df (ps := ["value"]) fun _ _ _ _ _ _ us hl => match us, hl with | [_], _ => rfl) .nil sc_isSeq (fun vs H Q E h => ?_) (fun cdv A outer s H vs Q E hr h => ?_)
  · obtain ⟨v, k, rfl, _⟩ := h
    rfl
  · obtain ⟨v, k, rfl, ty, q⟩ := h
    refine ⟨_, pss_one (ps_ret (pe_callB call_isiT (by rfl) mIsi PyProof.Rows.boot_isinstance (pa_cons (pv 0) (pa_cons (pe_tup (pa_cons (pe_bltn (v := .ty "list") (by rfl) mList PyProof.Rows.boot_list rfl) (pa_cons (pe_bltn (v := .ty "tuple") (by rfl) mTup PyProof.Rows.boot_tuple rfl) pa_nil))) pa_nil)))), ?_⟩
    refine ⟨_, rfl, (by show 2 ≤ sizeLine; decide), fun p hp => ?_⟩
    have S : Same H (upd H p (.tup [.ty "list", .ty "tuple"])) := Same.new (Same.refl _) hp
    obtain ⟨⟨t, tx, t1, t2, t3, t4, t5⟩, _, _⟩ := ty.same S
    have ka : PySem.W.kitAny K t [.type "list", .type "tuple"] = some (k.inL || k.inT) := by
      simp only [PySem.W.kitAny, t4, t5]
      cases k <;> rfl
    exact ⟨v, p, _, t, [.type "list", .type "tuple"], _, rfl, upd_same, .cons (.ty _) (.cons (.ty _) .nil), tx, ka, q _ S⟩
end
end Ts

namespace Ts
open PySem L2
section
variable {P : Program} {w : World} {K : PySem.W.Frag} {mg : Str → Option Value} {base : Heap}
abbrev sXKind : Stmt := (inClass (top 14) 0)
theorem sc_xKind : FnScope ["self", "word"] ["self", "word"] (C8.fnScope sXKind) := C8.fnScope_by (by decide +kernel)
theorem err_kind {fI C : Addr} {fd : FuncData} (F : C8.Fun K "__init__" "InvalidKind.__init__" sXKind fI fd) (df : fd.defaults = .none) (T : OexC K C) (iC : PySem.W.findIn K (.ref C) "__init__" = some (some (.ref fI))) (tI : PySem.W.typeIn K (.ref fI) = some (.type "function"))
    (no : PySem.W.findIn K (.ref C) "word" = some none) (hm : mg "InvalidKind" = some (.ref C)) : Err P w K mg base "InvalidKind" C "word" := by
  refine ⟨fI, fd, ["self", "word"], T, iC, tI, ?_, C8.Fun.binds F df (ps := ["self", "word"]) fun _ _ _ _ _ _ us hl => match us, hl with | [_, _], _ => rfl, hm⟩
  refine C8.fn0 F sc_xKind (fun vs H Q E h => ?_) (fun cdv A outer s H vs Q E hr h => ?_)
  · obtain ⟨a, v, rfl, _⟩ := h
    rfl
  · obtain ⟨a, v, rfl, ha, k⟩ := h
    exact ⟨_, pss_one (ps_ost (pv 0) (pv 1) rfl), _, rfl, _, rfl, a, C, rfl, T, no, .inl ⟨ha, fun dx n ne => k dx n ne⟩⟩
abbrev sCheck : Stmt := (top 24)
theorem sc_check : FnScope ["name", "counts", "times", "word", "value"] ["name", "counts", "times"] (C8.fnScope sCheck) := C8.fnScope_by (by decide +kernel)
theorem cal_check {f CI : Addr} {fd : FuncData} (F : C8.Def K mg "check_arguments" sCheck f fd) (df : fd.defaults = .none) (eK : Err P w K mg base "InvalidKind" CI "word") (cN : C8.Cal P w K mg base 1 "is_name" (spIsName K) []) (cC : C8.Cal P w K mg base 2 "is_count" (spIsCount K) []) :
    CalX P w K mg base 3 "check_arguments" (spCheck K CI) [] := by
  refine ⟨f, fd, ["name", "counts", "times"], [], ?_, F.mgf, F.kp, C8.Fun.binds F.fn df (ps := ["name", "counts", "times"]) fun _ _ _ _ _ _ us hl => match us, hl with | [_, _, _], _ => rfl, .nil⟩
  refine fnX F.fn sc_check (fun vs H Q E h => ?_) (fun cdv A outer s H vs Q E hr h => ?_)
  · obtain ⟨nm, a, prs, tm, rfl, _⟩ := h
    rfl
  · obtain ⟨nm, a, prs, tm, rfl, hP, g1, g2, g3, k0, k1⟩ := h
    refine ⟨_, pss_cons (ps_if (pt_not (pt_val (C8.pe_c cN hr (by decide) (by rfl) (pa_cons (pv 0) pa_nil)))) (pss_one (ps_raise rfl (takes_of rfl rfl rfl rfl) (pmk_err eK hr (by decide) (by rfl) (pa_cons pe_str pa_nil)))) pss_nil)
      (pss_cons (ps_for (passes_of rfl) rfl (pi_list (pv 1)) (pg_tup rfl (pgs_cons (pg_name (i := 3) sc_check.nd rfl (Or.inl rfl)) (pgs_cons (pg_name (i := 4) sc_check.nd rfl (Or.inl rfl)) pgs_nil)))
        (pss_one (ps_if (pt_not (pt_val (C8.pe_c cC hr (by decide) (by rfl) (pa_cons (pv 4) pa_nil)))) (pss_one (ps_raise rfl (takes_of rfl rfl rfl rfl) (pmk_err eK hr (by decide) (by rfl) (pa_cons (pv 3) pa_nil)))) pss_nil)))
      (pss_one (ps_if (PW.pt (pw_and (pt_cmpR op_notN (pv 2) pe_non (nomark _)) (pw_and1 (pt_not (pt_val (C8.pe_c cC hr (by decide) (by rfl) (pa_cons (pv 2) pa_nil))))))) (pss_one (ps_raise rfl (takes_of rfl rfl rfl rfl) (pmk_err eK hr (by decide) (by rfl) (pa_cons pe_str pa_nil)))) pss_nil))), ?_⟩
    refine ⟨_, rfl, nm, rfl, g1, fun H1 s1 => ⟨_, rfl, ?_⟩⟩
    cases en : nameV nm with
    | false =>
      refine iteT (mk_ex fun d hd => ?_)
      exact k1 "name" (by simp [dueC, en]) _ d (Same.new s1 hd) upd_same
    | true =>
      refine iteF ?_
      obtain ⟨ts, hts, tl, tat⟩ := hP.same s1
      refine ⟨_, rfl, a, rfl, ⟨_, SqL.of hts⟩, for_list (K := K) (a := a) (xs := ts.map V.ref) (fun i σ H' => ∃ (v3 v4 : Option V), σ = [some nm, some (.ref a), some tm, v3, v4] ∧ Same H1 H' ∧ ∀ p ∈ prs.take i, cntV p.2 = true)
        ⟨_, _, rfl, Same.refl _, fun p hp => by simp at hp⟩ (fun i σ H' _ ⟨_, _, _, s2, _⟩ => SqL.of (s2 _ _ hts)) ?_ ?_⟩
      · rintro i y σ H' hi ⟨v3, v4, rfl, s2, hp⟩
        obtain ⟨t, rfl, ht⟩ := map_at hi
        have hi2 : i < prs.length := by
          have := at_lt ht
          omega
        have hpr : prs[i]? = some prs[i] := List.getElem?_eq_getElem hi2
        have htu := s2 _ _ (tat i t _ ht hpr)
        obtain ⟨kk, ty, _⟩ := (g3 _ (at_mem hpr)).same (s1.trans s2)
        refine ⟨t, _, rfl, SqT.of htu, rfl, _, _, rfl, _, _, rfl, rfl, ?_⟩
        refine ⟨_, rfl, _, kk, rfl, ty, _, rfl, ?_⟩
        rw [cnt_eq ty]
        cases ec : cntV prs[i].2 with
        | true =>
          refine iteF ⟨_, _, rfl, s2, fun p hp' => ?_⟩
          rw [List.take_add_one, hpr] at hp'
          rcases List.mem_append.mp hp' with h | h
          · exact hp p h
          · rw [List.mem_singleton.mp h]
            exact ec
        | false =>
          refine iteT ⟨_, rfl, mk_ex fun d hd => ?_⟩
          refine k1 prs[i].1 ?_ _ d (Same.new (s1.trans s2) hd) upd_same
          simp only [dueC, en]
          rw [find_pre hpr (fun y hy => by rw [hp y hy]; rfl) (by rw [ec]; rfl)]
          rfl
      · rintro σ H' ⟨v3, v4, rfl, s2, hp⟩
        have hall : prs.find? (fun p => !cntV p.2) = none := List.find?_eq_none.mpr fun p hp' => by
          rw [hp p (by rw [List.length_map, tl, List.take_length]; exact hp')]
          exact Bool.false_ne_true
        obtain ⟨kk, ty, _⟩ := g2.same (s1.trans s2)
        refine ⟨_, rfl, rfl, _, rfl, ?_⟩
        by_cases et : tm = .non
        · rw [decide_eq_true et]
          refine iteF (iteF (k0 ?_ _ (s1.trans s2)))
          simp [dueC, en, hall, et]
        · rw [decide_eq_false et]
          refine iteT ⟨_, rfl, _, kk, rfl, ty, _, rfl, ?_⟩
          rw [cnt_eq ty]
          cases ec : cntV tm with
          | true =>
            refine iteF (k0 ?_ _ (s1.trans s2))
            simp [dueC, en, hall, ec]
          | false =>
            refine iteT (mk_ex fun d hd => ?_)
            exact k1 "times" (by simp [dueC, en, hall, ec, et]) _ d (Same.new (s1.trans s2) hd) upd_same
end
end Ts

namespace Ts
open PySem L2
section
variable {P : Program} {w : World} {K : PySem.W.Frag} {mg : Str → Option Value} {base : Heap}
abbrev sStill : Stmt := (inClass (top 21) 0)
theorem sc_Still : FnScope ["self", "name", "days", "times"] ["self", "name", "days", "times"] (C8.fnScope sStill) := C8.fnScope_by (by decide +kernel)
theorem fn_Still {f C CI : Addr} {fd : FuncData} (F : C8.Fun K "__init__" "Still.__init__" sStill f fd) (T : ClsN K C ["name", "days", "times"]) (cX : CalX P w K mg base 3 "check_arguments" (spCheck K CI) []) :
    FnOk P w K mg base (L2.CX P w) 4 f fd ["self", "name", "days", "times"] (spKind K C CI 3 dueS fsS) := by
  refine fnX F sc_Still (fun vs H Q E h => ?_) (fun cdv A outer s H vs Q E hr h => ?_)
  · obtain ⟨x, dx, ws, rfl, hl, _⟩ := h
    rw [List.length_cons, hl]
    rfl
  · obtain ⟨x, dx, ws, rfl, hl, hx, hg, k0, k1⟩ := h
    obtain ⟨nm, d, tm, rfl⟩ := len3 hl
    refine ⟨_, pss_cons (ps_expr (pe_cX cX hr (by decide) (passesUp (takes_of rfl rfl rfl rfl)) (by rfl) (pa_cons (pv 1) (pa_cons (pe_lst (pa_cons (pe_tup (pa_cons pe_str (pa_cons (pv 2) pa_nil))) pa_nil)) (pa_cons (pv 3) pa_nil)))))
      (pss_cons (ps_fld (pv 0) (pv 1) rfl) (pss_cons (ps_fld (pv 0) (pv 2) rfl) (pss_one (ps_fld (pv 0) (pv 3) rfl)))), ?_⟩
    refine ⟨_, rfl, _, rfl, (by show 2 ≤ sizeLine; decide), fun t nt => ⟨(by show 1 ≤ sizeLine; decide), fun a na => ⟨_, rfl, ?_⟩⟩⟩
    have s0 : Same H (upd (upd H t (.tup [.str "days", d])) a (.lst [.ref t])) := Same.new (Same.new (Same.refl _) nt) na
    have ta : t ≠ a := fun z => by
      rw [← z, upd_same] at na
      cases na
    refine ⟨nm, a, [("days", d)], tm, rfl, ⟨[t], upd_same, rfl, fun i t' p h1 h2 => ?_⟩, (hg nm (by simp)).same s0, (hg tm (by simp)).same s0, fun p hp => ?_, fun hd H1 s1 => ?_, fun wd hw H1 d1 s1 e1 => k1 wd hw H1 d1 (s0.trans s1) e1⟩
    · match i, h1, h2 with
      | 0, h1, h2 =>
        cases h1
        cases h2
        rw [upd_ne ta, upd_same]
    · rw [List.mem_singleton.mp hp]
      exact (hg d (by simp)).same s0
    · have hx1 := (s0.trans s1) _ _ hx
      refine ⟨_, rfl, _, rfl, x, C, dx, [], rfl, hx1, T.cl, T.no _ (by simp), by decide, ?_⟩
      refine ⟨_, rfl, _, rfl, x, C, dx, _, rfl, upd_same, T.cl, T.no _ (by simp), few_lt (few few0) (by decide), ?_⟩
      refine ⟨_, rfl, _, rfl, x, C, dx, _, rfl, upd_same, T.cl, T.no _ (by simp), few_lt (few (few few0)) (by decide), ?_⟩
      exact k0 hd _ upd_same (((Same.but (s0.trans s1)).at.at).at)
abbrev sAnew : Stmt := (inClass (top 22) 0)
theorem sc_Anew : FnScope ["self", "name", "left", "times"] ["self", "name", "left", "times"] (C8.fnScope sAnew) := C8.fnScope_by (by decide +kernel)
theorem fn_Anew {f C CI : Addr} {fd : FuncData} (F : C8.Fun K "__init__" "Anew.__init__" sAnew f fd) (T : ClsN K C ["name", "left", "times"]) (cX : CalX P w K mg base 3 "check_arguments" (spCheck K CI) []) :
    FnOk P w K mg base (L2.CX P w) 4 f fd ["self", "name", "left", "times"] (spKind K C CI 3 dueA fsA) := by
  refine fnX F sc_Anew (fun vs H Q E h => ?_) (fun cdv A outer s H vs Q E hr h => ?_)
  · obtain ⟨x, dx, ws, rfl, hl, _⟩ := h
    rw [List.length_cons, hl]
    rfl
  · obtain ⟨x, dx, ws, rfl, hl, hx, hg, k0, k1⟩ := h
    obtain ⟨nm, d, tm, rfl⟩ := len3 hl
    refine ⟨_, pss_cons (ps_expr (pe_cX cX hr (by decide) (passesUp (takes_of rfl rfl rfl rfl)) (by rfl) (pa_cons (pv 1) (pa_cons (pe_lst (pa_cons (pe_tup (pa_cons pe_str (pa_cons (pv 2) pa_nil))) pa_nil)) (pa_cons (pv 3) pa_nil)))))
      (pss_cons (ps_fld (pv 0) (pv 1) rfl) (pss_cons (ps_fld (pv 0) (pv 2) rfl) (pss_one (ps_fld (pv 0) (pv 3) rfl)))), ?_⟩
    refine ⟨_, rfl, _, rfl, (by show 2 ≤ sizeLine; decide), fun t nt => ⟨(by show 1 ≤ sizeLine; decide), fun a na => ⟨_, rfl, ?_⟩⟩⟩
    have s0 : Same H (upd (upd H t (.tup [.str "left", d])) a (.lst [.ref t])) := Same.new (Same.new (Same.refl _) nt) na
    have ta : t ≠ a := fun z => by
      rw [← z, upd_same] at na
      cases na
    refine ⟨nm, a, [("left", d)], tm, rfl, ⟨[t], upd_same, rfl, fun i t' p h1 h2 => ?_⟩, (hg nm (by simp)).same s0, (hg tm (by simp)).same s0, fun p hp => ?_, fun hd H1 s1 => ?_, fun wd hw H1 d1 s1 e1 => k1 wd hw H1 d1 (s0.trans s1) e1⟩
    · match i, h1, h2 with
      | 0, h1, h2 =>
        cases h1
        cases h2
        rw [upd_ne ta, upd_same]
    · rw [List.mem_singleton.mp hp]
      exact (hg d (by simp)).same s0
    · have hx1 := (s0.trans s1) _ _ hx
      refine ⟨_, rfl, _, rfl, x, C, dx, [], rfl, hx1, T.cl, T.no _ (by simp), by decide, ?_⟩
      refine ⟨_, rfl, _, rfl, x, C, dx, _, rfl, upd_same, T.cl, T.no _ (by simp), few_lt (few few0) (by decide), ?_⟩
      refine ⟨_, rfl, _, rfl, x, C, dx, _, rfl, upd_same, T.cl, T.no _ (by simp), few_lt (few (few few0)) (by decide), ?_⟩
      exact k0 hd _ upd_same (((Same.but (s0.trans s1)).at.at).at)
abbrev sLift : Stmt := (inClass (top 23) 0)
theorem sc_Lift : FnScope ["self", "name", "by", "top", "times"] ["self", "name", "by", "top", "times"] (C8.fnScope sLift) := C8.fnScope_by (by decide +kernel)
theorem fn_Lift {f C CI : Addr} {fd : FuncData} (F : C8.Fun K "__init__" "Lift.__init__" sLift f fd) (T : ClsN K C ["name", "by", "top", "times"]) (cX : CalX P w K mg base 3 "check_arguments" (spCheck K CI) []) :
    FnOk P w K mg base (L2.CX P w) 4 f fd ["self", "name", "by", "top", "times"] (spKind K C CI 4 dueL fsL) := by
  refine fnX F sc_Lift (fun vs H Q E h => ?_) (fun cdv A outer s H vs Q E hr h => ?_)
  · obtain ⟨x, dx, ws, rfl, hl, _⟩ := h
    rw [List.length_cons, hl]
    rfl
  · obtain ⟨x, dx, ws, rfl, hl, hx, hg, k0, k1⟩ := h
    obtain ⟨nm, b, c, tm, rfl⟩ := len4 hl
    refine ⟨_, pss_cons (ps_expr (pe_cX cX hr (by decide) (passesUp (takes_of rfl rfl rfl rfl)) (by rfl) (pa_cons (pv 1) (pa_cons (pe_lst (pa_cons (pe_tup (pa_cons pe_str (pa_cons (pv 2) pa_nil))) (pa_cons (pe_tup (pa_cons pe_str (pa_cons (pv 3) pa_nil))) pa_nil))) (pa_cons (pv 4) pa_nil)))))
      (pss_cons (ps_fld (pv 0) (pv 1) rfl) (pss_cons (ps_fld (pv 0) (pv 2) rfl) (pss_cons (ps_fld (pv 0) (pv 3) rfl) (pss_one (ps_fld (pv 0) (pv 4) rfl))))), ?_⟩
    refine ⟨_, rfl, _, rfl, (by show 2 ≤ sizeLine; decide), fun t nt => ⟨_, rfl, (by show 2 ≤ sizeLine; decide), fun u nu => ⟨(by show 2 ≤ sizeLine; decide), fun a na => ⟨_, rfl, ?_⟩⟩⟩⟩
    have s1 : Same (upd H t (.tup [.str "by", b])) (upd (upd (upd H t (.tup [.str "by", b])) u (.tup [.str "top", c])) a (.lst [.ref t, .ref u])) := Same.new (Same.new (Same.refl _) nu) na
    have s0 : Same H (upd (upd (upd H t (.tup [.str "by", b])) u (.tup [.str "top", c])) a (.lst [.ref t, .ref u])) := (Same.new (Same.refl _) nt).trans s1
    have ua : u ≠ a := fun z => by
      rw [← z, upd_same] at na
      cases na
    refine ⟨nm, a, [("by", b), ("top", c)], tm, rfl, ⟨[t, u], upd_same, rfl, fun i t' p h1 h2 => ?_⟩, (hg nm (by simp)).same s0, (hg tm (by simp)).same s0, fun p hp => ?_, fun hd H1 s1 => ?_, fun wd hw H1 d1 s1 e1 => k1 wd hw H1 d1 (s0.trans s1) e1⟩
    · match i, h1, h2 with
      | 0, h1, h2 =>
        cases h1
        cases h2
        exact s1 _ _ upd_same
      | 1, h1, h2 =>
        cases h1
        cases h2
        rw [upd_ne ua, upd_same]
    · rcases List.mem_cons.mp hp with rfl | hp
      · exact (hg b (by simp)).same s0
      · rw [List.mem_singleton.mp hp]
        exact (hg c (by simp)).same s0
    · have hx1 := (s0.trans s1) _ _ hx
      refine ⟨_, rfl, _, rfl, x, C, dx, [], rfl, hx1, T.cl, T.no _ (by simp), by decide, ?_⟩
      refine ⟨_, rfl, _, rfl, x, C, dx, _, rfl, upd_same, T.cl, T.no _ (by simp), few_lt (few few0) (by decide), ?_⟩
      refine ⟨_, rfl, _, rfl, x, C, dx, _, rfl, upd_same, T.cl, T.no _ (by simp), few_lt (few (few few0)) (by decide), ?_⟩
      refine ⟨_, rfl, _, rfl, x, C, dx, _, rfl, upd_same, T.cl, T.no _ (by simp), few_lt (few (few (few few0))) (by decide), ?_⟩
      exact k0 hd _ upd_same ((((Same.but (s0.trans s1)).at.at).at).at)
end
end Ts

namespace Ts
open PySem L2
section
variable {P : Program} {w : World} {K : PySem.W.Frag} {mg : Str → Option Value} {base : Heap}
abbrev sXRule : Stmt := (inClass (top 15) 0)
theorem sc_xRule : FnScope ["self", "word"] ["self", "word"] (C8.fnScope sXRule) := C8.fnScope_by (by decide +kernel)
theorem err_rule {fI C : Addr} {fd : FuncData} (F : C8.Fun K "__init__" "InvalidRule.__init__" sXRule fI fd) (df : fd.defaults = .none) (T : OexC K C) (iC : PySem.W.findIn K (.ref C) "__init__" = some (some (.ref fI))) (tI : PySem.W.typeIn K (.ref fI) = some (.type "function"))
    (no : PySem.W.findIn K (.ref C) "word" = some none) (hm : mg "InvalidRule" = some (.ref C)) : Err P w K mg base "InvalidRule" C "word" := by
  refine ⟨fI, fd, ["self", "word"], T, iC, tI, ?_, C8.Fun.binds F df (ps := ["self", "word"]) fun _ _ _ _ _ _ us hl => match us, hl with | [_, _], _ => rfl, hm⟩
  refine C8.fn0 F sc_xRule (fun vs H Q E h => ?_) (fun cdv A outer s H vs Q E hr h => ?_)
  · obtain ⟨a, v, rfl, _⟩ := h
    rfl
  · obtain ⟨a, v, rfl, ha, k⟩ := h
    exact ⟨_, pss_one (ps_ost (pv 0) (pv 1) rfl), _, rfl, _, rfl, a, C, rfl, T, no, .inl ⟨ha, fun dx n ne => k dx n ne⟩⟩
abbrev sAreRests : Stmt := (top 31)
theorem sc_areRests : FnScope ["value", "rest"] ["value"] (C8.fnScope sAreRests) := C8.fnScope_by (by decide +kernel)
theorem cal_areRests {f : Addr} {fd : FuncData} (F : C8.Def K mg "are_rests" sAreRests f fd) (df : fd.defaults = .none) (cI : C8.Cal P w K mg base 1 "is_integer" (spIsInt K) []) (cS : C8.Cal P w K mg base 1 "is_sequence" (spIsSeq K) [])
    (mAll : mg "all" = none) (mLen : mg "len" = none) (mSet : mg "set" = none) (mWeek : ∃ u, mg "WEEK" = some u ∧ RelV (.int 7) u) : C8.Cal P w K mg base 2 "are_rests" (spAreRests K) [] := by
  refine C8.cal0 F (C8.Fun.binds F.fn df (ps := ["value"]) fun _ _ _ _ _ _ us hl => match us, hl with | [_], _ => rfl) .nil sc_areRests (fun vs H Q E h => ?_) (fun cdv A outer s H vs Q E hr h => ?_)
  · obtain ⟨v, r, rfl, _⟩ := h
    rfl
  · obtain ⟨v, r, rfl, hv, k⟩ := h
    refine ⟨_, pss_cons (ps_if (PW.pt (pw_or (pt_not (pt_val (C8.pe_c cS hr (by decide) (by rfl) (pa_cons (pv 0) pa_nil))))
          (pw_or1 (pt_not (pt_val (pe_callB (cr_all (by rfl)) (by rfl) mAll PyProof.Rows.boot_all (pa_cons
            (pe_lc (own := [("rest", 1)]) (g := gName 1) (by rfl) sc_areRests.nd (pi_seqQ (pv 0)) (blkOk_by (own := [("rest", 1)]) (N := ["value", "rest"]) (sc := C8.fnScope sAreRests) (by decide +kernel)) (fun _ _ _ _ _ => pg_name (i := 1) sc_areRests.nd rfl (Or.inl rfl)) (fun _ _ _ _ _ => pts_nil)
              (fun _ _ _ _ _ => pe_and (C8.pe_c cI hr (by decide) (by rfl) (pa_cons (pv 1) pa_nil)) (pe_one (pe_chain op_le op_lt pe_int (pv 1) (C8.pe_gc (v := .int 7) (by rfl) mWeek))))) pa_nil)))))))
            (pss_one (ps_ret pe_bl)) pss_nil)
        (pss_one (ps_ret (pe_chain op_eq op_lt (pe_lenSetQ (by rfl) mLen (by rfl) mSet (pv 0)) (pe_callB call_len_seq (by rfl) mLen PySem.boot_len (pa_cons (pv 0) pa_nil)) (C8.pe_gc (v := .int 7) (by rfl) mWeek)))), ?_⟩
    cases hv with
    | @no _ kk ty nl nt =>
      refine ⟨_, rfl, v, kk, rfl, ty, fun H1 s1 => ⟨_, rfl, ?_⟩⟩
      rw [nl, nt]
      exact iteT (iteT (k H1 s1))
    | @seq a xs hS hl hA =>
      obtain ⟨kk, ty, hk⟩ : ∃ k, TyV K H (.ref a) k ∧ (k.inL || k.inT) = true := by
        rcases hS with h | h
        · exact ⟨_, tyV_list h, rfl⟩
        · exact ⟨_, tyV_tup h, rfl⟩
      refine ⟨_, rfl, _, kk, rfl, ty, fun H1 s1 => ⟨_, rfl, ?_⟩⟩
      rw [hk]
      refine iteF ?_
      have hS1 := hS.same s1
      refine ⟨_, rfl, a, xs, rfl, hS1, fun J G wk hG d hd => lc_it wk (fun i H' => H' d = some (.lst (((xs.take i).map restI).map V.bl)) ∧ Same H1 H') ⟨upd_same, Same.new (Same.refl _) hd⟩ (fun i H' _ h => hG _ (fun q => h.2.seq q) (fun q => Same.sqt h.2 q)) ?_ ?_⟩
      · rintro i y H2 H3 hi ⟨g1, g2⟩ ⟨rfl, hy⟩
        obtain ⟨ky, ty⟩ := (hA y (at_mem hy)).same (s1.trans g2)
        have next : ∀ b : Bool, b = restI y → ∃ acc, H3 d = some (.lst acc) ∧ acc.length < sizeLine ∧ (upd H3 d (.lst (acc ++ [V.bl b])) d = some (.lst (((xs.take (i + 1)).map restI).map V.bl)) ∧ Same H1 (upd H3 d (.lst (acc ++ [V.bl b])))) := fun b hb => by
          refine ⟨_, g1, small1000 (by rw [List.length_map, List.length_map, List.length_take]; omega), ?_, same_upd_new g2 hd⟩
          rw [upd_same, take_snoc hy, List.map_append, List.map_append, hb]
          rfl
        refine ⟨rfl, yes_ ⟨_, rfl, y, ky, rfl, ty, _, rfl, ?_⟩⟩
        by_cases e : ky = .int
        · obtain ⟨u, rfl⟩ := ty.i1 e
          rw [decide_eq_true e]
          refine iteT ⟨_, rfl, _, _, rfl, rfl, _, rfl, ?_⟩
          by_cases e0 : 0 ≤ u
          · rw [decide_eq_true e0]
            refine iteT ⟨_, _, rfl, rfl, ?_⟩
            exact next _ (by simp [restI, e0])
          · rw [decide_eq_false e0]
            exact iteF (next _ (by simp [restI, e0]))
        · rw [decide_eq_false e]
          refine iteF (next _ ?_)
          cases y with
          | int u =>
            obtain ⟨⟨t, tx, t1, t2, t3, t4, t5⟩, _, _⟩ := ty
            cases tx with
            | base hb =>
              cases hb
              rw [kit_ty (a := "int") (b := "int") (r := true) (by decide +kernel)] at t1
              rw [kit_ty (a := "int") (b := "bool") (r := false) (by decide +kernel)] at t2
              cases ky <;> first | exact absurd rfl e | exact absurd t1 (by decide) | exact absurd t2 (by decide)
          | _ => rfl
      · rintro H' ⟨g1, g2⟩
        rw [List.take_length] at g1
        have s2 := s1.trans g2
        refine ⟨d, _, rfl, SqL.of g1, _, rfl, ?_⟩
        rw [show (List.map restI xs).all id = xs.all restI by rw [List.all_map]; rfl]
        have fin := k H' s2
        cases eA : xs.all restI with
        | false =>
          rw [show restsO (some xs) = false by simp [restsO, restsL, eA]] at fin
          exact iteT fin
        | true =>
          refine iteF ?_
          have ex := rest_ints eA
          have hS2 := hS.same s2
          rw [show restsO (some xs) = (decide ((xs.map valI).Nodup) && decide (xs.length < 7)) by simp [restsO, restsL, eA]] at fin
          refine ⟨_, rfl, a, rfl, .inl ⟨xs.map valI, by rw [← ex]; exact hS2, by rw [List.length_map]; exact hl, _, rfl, a, xs, rfl, hS2.symm.symm, rfl, _, rfl, ?_⟩⟩
          have hu := uqs_full (0 : Int) (xs.map valI)
          rw [List.length_map] at hu
          by_cases en : (xs.map valI).Nodup
          · rw [hu.mpr en, decide_eq_true rfl]
            rw [decide_eq_true en, Bool.true_and] at fin
            refine iteT ⟨_, _, rfl, rfl, ?_⟩
            dsimp only
            rw [show (decide ((xs.length : Int) < 7)) = decide (xs.length < 7) by
              by_cases z : xs.length < 7
              · rw [decide_eq_true z, decide_eq_true (by omega)]
              · rw [decide_eq_false z, decide_eq_false (by omega)]]
            exact fin
          · rw [decide_eq_false en, Bool.false_and] at fin
            rw [decide_eq_false (fun z => en (hu.mp (by
              have := V.int.inj z
              omega)))]
            exact iteF fin
abbrev sAreKinds : Stmt := (top 32)
theorem sc_areKinds : FnScope ["value", "kind"] ["value"] (C8.fnScope sAreKinds) := C8.fnScope_by (by decide +kernel)
theorem cal_areKinds {f CK : Addr} {fd : FuncData} (F : C8.Def K mg "are_kinds" sAreKinds f fd) (df : fd.defaults = .none) (cS : C8.Cal P w K mg base 1 "is_sequence" (spIsSeq K) [])
    (mAll : mg "all" = none) (mLen : mg "len" = none) (mSet : mg "set" = none) (mIsi : mg "isinstance" = none) (mKind : mg "Kind" = some (.ref CK)) : C8.Cal P w K mg base 2 "are_kinds" (spAreKinds K CK) [] := by
  refine C8.cal0 F (C8.Fun.binds F.fn df (ps := ["value"]) fun _ _ _ _ _ _ us hl => match us, hl with | [_], _ => rfl) .nil sc_areKinds (fun vs H Q E h => ?_) (fun cdv A outer s H vs Q E hr h => ?_)
  · obtain ⟨v, r, rfl, _⟩ := h
    rfl
  · obtain ⟨v, r, rfl, hv, k⟩ := h
    refine ⟨_, pss_cons (ps_if (PW.pt (pw_or (pt_not (pt_val (C8.pe_c cS hr (by decide) (by rfl) (pa_cons (pv 0) pa_nil))))
          (pw_or1 (pt_not (pt_val (pe_callB (cr_all (by rfl)) (by rfl) mAll PyProof.Rows.boot_all (pa_cons
            (pe_lc (own := [("kind", 1)]) (g := gName 1) (by rfl) sc_areKinds.nd (pi_seqQ (pv 0)) (blkOk_by (own := [("kind", 1)]) (N := ["value", "kind"]) (sc := C8.fnScope sAreKinds) (by decide +kernel)) (fun _ _ _ _ _ => pg_name (i := 1) sc_areKinds.nd rfl (Or.inl rfl)) (fun _ _ _ _ _ => pts_nil)
              (fun _ _ _ _ _ => pe_callB (r := rIsi K) call_isi (by rfl) mIsi PyProof.Rows.boot_isinstance (pa_cons (pv 1) (pa_cons (pe_glob (v := .ref CK) (by rfl) mKind rfl) pa_nil)))) pa_nil)))))))
            (pss_one (ps_ret pe_bl)) pss_nil)
        (pss_one (ps_ret (pe_cmpR op_eq (pe_lenSetQ (by rfl) mLen (by rfl) mSet
            (pe_lc (own := [("kind", 1)]) (g := gName 1) (by rfl) sc_areKinds.nd (pi_seqQ (pv 0)) (blkOk_by (own := [("kind", 1)]) (N := ["value", "kind"]) (sc := C8.fnScope sAreKinds) (by decide +kernel)) (fun _ _ _ _ _ => pg_name (i := 1) sc_areKinds.nd rfl (Or.inl rfl)) (fun _ _ _ _ _ => pts_nil)
              (fun _ _ _ _ _ => show PE _ _ (tFld K (tVar 1) "name") from pe_fld (pv 1) rfl)))
           (pe_callB call_len_seq (by rfl) mLen PySem.boot_len (pa_cons (pv 0) pa_nil)) (nomark _)))), ?_⟩
    cases hv with
    | @no _ kk ty nl nt =>
      refine ⟨_, rfl, v, kk, rfl, ty, fun H1 s1 => ⟨_, rfl, ?_⟩⟩
      rw [nl, nt]
      exact iteT (iteT (k H1 s1))
    | @seq a xs os hS hl hA =>
      obtain ⟨kk, ty, hk⟩ : ∃ k, TyV K H (.ref a) k ∧ (k.inL || k.inT) = true := by
        rcases hS with h | h
        · exact ⟨_, tyV_list h, rfl⟩
        · exact ⟨_, tyV_tup h, rfl⟩
      refine ⟨_, rfl, _, kk, rfl, ty, fun H1 s1 => ⟨_, rfl, ?_⟩⟩
      rw [hk]
      refine iteF ?_
      have hS1 := hS.same s1
      have hlo := hA.1
      refine ⟨_, rfl, a, xs, rfl, hS1, fun J G wk hG d hd => lc_it wk (fun i H' => H' d = some (.lst (((os.take i).map Option.isSome).map V.bl)) ∧ Same H1 H') ⟨upd_same, Same.new (Same.refl _) hd⟩ (fun i H' _ h => hG _ (fun q => h.2.seq q) (fun q => Same.sqt h.2 q)) ?_ ?_⟩
      · rintro i y H2 H3 hi ⟨g1, g2⟩ ⟨rfl, hy⟩
        have hio : i < os.length := by omega
        have ho : os[i]? = some os[i] := List.getElem?_eq_getElem hio
        obtain ⟨t, tx, ht⟩ := ((hA.2 i y os[i] hy ho).same (s1.trans g2)).typ
        refine ⟨rfl, yes_ ⟨_, rfl, _, _, t, _, _, rfl, .own _, tx, ht, ?_⟩⟩
        refine ⟨_, g1, small1000 (by rw [List.length_map, List.length_map, List.length_take]; omega), ?_, same_upd_new g2 hd⟩
        rw [upd_same, take_snoc ho, List.map_append, List.map_append]
        rfl
      · rintro H' ⟨g1, g2⟩
        rw [hlo, List.take_length] at g1
        have s2 := s1.trans g2
        refine ⟨d, _, rfl, SqL.of g1, _, rfl, ?_⟩
        rw [show (List.map Option.isSome os).all id = os.all Option.isSome by rw [List.all_map]; rfl]
        cases eA : os.all Option.isSome with
        | false =>
          have fin := k H' s2
          rw [show kindsO (some (xs, os)) = false by simp [kindsO, eA]] at fin
          exact iteT fin
        | true =>
          refine iteF ?_
          have en := names_all eA
          have nl := names_len eA
          have hS2 := hS.same s2
          refine ⟨_, rfl, a, xs, rfl, hS2, fun J2 G2 wk2 hG2 e he => lc_it wk2 (fun i H2 => H2 e = some (.lst (((namesOf os).take i).map V.str)) ∧ Same H' H2) ⟨upd_same, Same.new (Same.refl _) he⟩ (fun i H2 _ h => hG2 _ (fun q => h.2.seq q) (fun q => Same.sqt h.2 q)) ?_ ?_⟩
          · rintro i y H2 H3 hi ⟨q1, q2⟩ ⟨rfl, hy⟩
            have hin : i < (namesOf os).length := by omega
            have hn : (namesOf os)[i]? = some (namesOf os)[i] := List.getElem?_eq_getElem hin
            have ho : os[i]? = some (some (namesOf os)[i]) := names_at eA hn
            have th := (hA.2 i y _ hy ho).same (s2.trans q2)
            generalize (namesOf os)[i] = nmi at hn ho th
            cases th with
            | @kind b C dx fs nm c hb hf =>
              refine ⟨rfl, yes_ ⟨_, rfl, b, C, dx, fs, .str nmi, rfl, hb, c.own.cl, c.nm, hf, ?_⟩⟩
              refine ⟨_, q1, small1000 (by rw [List.length_map, List.length_take]; omega), ?_, same_upd_new q2 he⟩
              rw [upd_same, take_snoc hn, List.map_append]
              rfl
          · rintro H2 ⟨q1, q2⟩
            rw [show xs.length = (namesOf os).length by omega, List.take_length] at q1
            have s3 := s2.trans q2
            have fin := k H2 s3
            rw [show kindsO (some (xs, os)) = decide ((namesOf os).Nodup) by simp [kindsO, eA]] at fin
            refine ⟨e, rfl, .inr ⟨namesOf os, .inl (SqL.of q1), by omega, _, rfl, a, xs, rfl, hS.same s3, rfl, ?_⟩⟩
            have hu := uqs_full Str.empty (namesOf os)
            rw [show decide (V.int (uqs Str.empty (namesOf os) : Nat) = V.int (xs.length : Nat)) = decide ((namesOf os).Nodup) by
              by_cases z : (namesOf os).Nodup
              · rw [decide_eq_true z, decide_eq_true (by rw [hu.mpr z]; congr 2; omega)]
              · rw [decide_eq_false z, decide_eq_false (fun q => z (hu.mp (by
                  have := V.int.inj q
                  omega)))]]
            exact fin
abbrev sInit : Stmt := (inClass (top 30) 0)
abbrev nInit : List Str := ["self", "length", "rests", "cap", "kinds", "kind"]
theorem sc_init : FnScope nInit ["self", "length", "rests", "cap", "kinds"] (C8.fnScope sInit) := C8.fnScope_by (by decide +kernel)
set_option maxHeartbeats 1000000 in
theorem fn_rule {f C CI CK : Addr} {fd : FuncData} (F : C8.Fun K "__init__" "Rule.__init__" sInit f fd) (T : RuleC K C) (eR : Err P w K mg base "InvalidRule" CI "word") (cC : C8.Cal P w K mg base 2 "is_count" (spIsCount K) []) (cR : C8.Cal P w K mg base 2 "are_rests" (spAreRests K) []) (cK : C8.Cal P w K mg base 2 "are_kinds" (spAreKinds K CK) [])
    (mTup : mg "tuple" = none) (mSorted : mg "sorted" = none) : FnOk P w K mg base (L2.CX P w) 3 f fd ["self", "length", "rests", "cap", "kinds"] (spRule K C CI CK) := by
  refine fnX F sc_init (fun vs H Q E h => ?_) (fun cdv A outer s H vs Q E hr h => ?_)
  · obtain ⟨x, dx, l, rv, c, kv, r, ks, rfl, _⟩ := h
    rfl
  · obtain ⟨x, dx, l, rv, c, kv, r, ks, rfl, hx, hl, hR, hc, hK, k0, k1⟩ := h
    refine ⟨_, (pss_cons (ps_if (pt_not (pt_val (C8.pe_c cC hr (by decide) (by rfl) (pa_cons (pv 1) pa_nil)))) (pss_one (ps_raise rfl (takes_of rfl rfl rfl rfl) (pmk_err eR hr (by decide) (by rfl) (pa_cons pe_str pa_nil)))) pss_nil)
        (pss_cons (ps_if (pt_not (pt_val (C8.pe_c cR hr (by decide) (by rfl) (pa_cons (pv 2) pa_nil)))) (pss_one (ps_raise rfl (takes_of rfl rfl rfl rfl) (pmk_err eR hr (by decide) (by rfl) (pa_cons pe_str pa_nil)))) pss_nil)
        (pss_cons (ps_if (PW.pt (pw_and (pt_cmpR op_notN (pv 3) pe_non (nomark _)) (pw_and1 (pt_not (pt_val (C8.pe_c cC hr (by decide) (by rfl) (pa_cons (pv 3) pa_nil))))))) (pss_one (ps_raise rfl (takes_of rfl rfl rfl rfl) (pmk_err eR hr (by decide) (by rfl) (pa_cons pe_str pa_nil)))) pss_nil)
        (pss_cons (ps_if (pt_not (pt_val (C8.pe_c cK hr (by decide) (by rfl) (pa_cons (pv 4) pa_nil)))) (pss_one (ps_raise rfl (takes_of rfl rfl rfl rfl) (pmk_err eR hr (by decide) (by rfl) (pa_cons pe_str pa_nil)))) pss_nil)
        (pss_cons (ps_fld (pv 0) (pv 1) rfl)
        (pss_cons (ps_fld (pv 0) (pe_callTy call_tuple_of (by rfl) mTup PyProof.Rows.boot_tuple (pa_cons (pe_callB cr_sortedQ (by rfl) mSorted PyProof.Rows.boot_sorted (pa_cons (pv 2) pa_nil)) pa_nil)) rfl)
        (pss_cons (ps_fld (pv 0) (pv 3) rfl)
        (pss_cons (ps_fld (pv 0) (pe_callTy call_tuple_of (by rfl) mTup PyProof.Rows.boot_tuple (pa_cons (pv 4) pa_nil)) rfl)
        (pss_one (ps_fld (pv 0) (pe_callTy call_tuple_of (by rfl) mTup PyProof.Rows.boot_tuple (pa_cons (pe_lc (own := [("kind", 5)]) (g := gName 5) (by rfl) sc_init.nd (pi_seqQ (pv 4)) (blkOk_by (own := [("kind", 5)]) (N := nInit) (sc := C8.fnScope sInit) (by decide +kernel)) (fun _ _ _ _ _ => pg_name (i := 5) sc_init.nd rfl (Or.inl rfl)) (fun _ _ _ _ _ => pts_nil)
              (fun _ _ _ _ _ => show PE _ _ (tFld K (tVar 5) "name") from pe_fld (pv 5) rfl)) pa_nil)) rfl)))))))))), ?_⟩
    have bad : ∀ {wd : Str}, dueR l r c ks = some wd → ∀ {H' : Hp}, Same H H' → ∀ d, H' d = none → E (.ref CI) (some d) (upd H' d (.xd [("word", .str wd)])) := fun {wd} hd {H'} sd d nd => k1 _ hd _ d (Same.new sd nd) upd_same
    obtain ⟨kl, tl⟩ := hl
    refine ⟨_, rfl, l, kl, rfl, tl, _, rfl, ?_⟩
    rw [cnt_eq tl]
    cases e1 : cntV l with
    | false => exact iteT (mk_ex fun d hd => bad (by simp [dueR, dueR3, e1]) (Same.refl _) d hd)
    | true =>
      refine iteF ⟨_, rfl, rv, r, rfl, hR, fun H1 s1 => ⟨_, rfl, ?_⟩⟩
      cases e2 : restsO r with
      | false => exact iteT (mk_ex fun d hd => bad (by simp [dueR, dueR3, e1, e2]) s1 d hd)
      | true =>
        refine iteF ?_
        obtain ⟨kc, tc⟩ := hc.same s1
        refine ⟨_, rfl, rfl, _, rfl, ?_⟩
        by_cases bc : c ≠ .non ∧ cntV c = false
        · rw [decide_eq_false bc.1]
          refine iteT ⟨_, rfl, c, kc, rfl, tc, _, rfl, ?_⟩
          rw [cnt_eq tc, bc.2]
          exact iteT (mk_ex fun d hd => bad (by simp [dueR, dueR3, e1, e2, bc]) s1 d hd)
        have e3 : dueR3 l r c = none := by
          rw [dueR3, if_neg (by rw [e1]; exact Bool.noConfusion), if_neg (by rw [e2]; exact Bool.noConfusion), if_neg bc]
        have two : c = .non ∨ (c ≠ .non ∧ cntV c = true) := by
          by_cases z : c = .non
          · exact .inl z
          · refine .inr ⟨z, ?_⟩
            cases q : cntV c with
            | true => rfl
            | false => exact absurd ⟨z, q⟩ bc
        rcases two with h | h
        case' inl =>
          rw [decide_eq_true h]
          refine iteF (iteF ?_)
        case' inr =>
          rw [decide_eq_false h.1]
          refine iteT ⟨_, rfl, c, kc, rfl, tc, _, rfl, ?_⟩
          rw [cnt_eq tc, h.2]
          refine iteF ?_
        all_goals
          refine ⟨_, rfl, kv, ks, rfl, hK.same s1, fun H2 s2 => ⟨_, rfl, ?_⟩⟩
          have s12 := s1.trans s2
          cases e4 : kindsO ks with
          | false => exact iteT (mk_ex fun d hd => bad (by simp [dueR, e3, e4]) s12 d hd)
          | true =>
            have e5 : dueR l r c ks = none := by simp [dueR, e3, e4]
            refine iteF ?_
            have hx2 := s12 _ _ hx
            -- what they are
            cases hR with
            | no => cases e2
            | @seq a xs hS hSl hSA =>
              cases hK with
              | no => cases e4
              | @seq b ys os hT hTl hTA =>
                have eA : xs.all restI = true := (Bool.and_eq_true_iff.mp e2).1
                have ex := rest_ints eA
                have eB : os.all Option.isSome = true := (Bool.and_eq_true_iff.mp e4).1
                have hlo := hTA.1
                have nl := names_len eB
                -- self.length
                refine ⟨_, rfl, _, rfl, x, C, dx, [], rfl, hx2, T.cl, T.n1, by decide, ?_⟩
                have b3 : But x H2 (upd H2 x (.ins C dx (putF "length" l []))) := But.refl.at
                -- self.rests
                refine ⟨_, rfl, a, xs.map valI, rfl, by rw [← ex]; exact SeqV.but b3 hx2 (hS.same s12), fun rs p hp hsort np => ⟨p, _, rfl, .inl ⟨SqL.of upd_same, fun ra nr => ?_⟩⟩⟩
                have b4 := (b3.same (Same.new (Same.refl _) np (o := .lst (rs.map V.int)))).same (Same.new (Same.refl _) nr (o := .tup (rs.map V.int)))
                have xr : x ≠ ra := fun e => by
                  rw [← e, upd_ne (fun e => by rw [← e, upd_same] at np; cases np), upd_same] at nr
                  cases nr
                have xp : x ≠ p := fun e => by
                  rw [← e, upd_same] at np
                  cases np
                refine ⟨_, rfl, x, C, dx, _, rfl, by rw [upd_ne xr, upd_ne xp, upd_same], T.cl, T.n2, few_lt (few few0) (by decide), ?_⟩
                -- self.cap
                refine ⟨_, rfl, _, rfl, x, C, dx, _, rfl, upd_same, T.cl, T.n3, few_lt (few (few few0)) (by decide), ?_⟩
                have b5 := (b4.at (o := .ins C dx (putF "rests" (.ref ra) (putF "length" l [])))).at (o := .ins C dx (putF "cap" c (putF "rests" (.ref ra) (putF "length" l []))))
                have ra5 : upd (upd (upd (upd (upd H2 x (.ins C dx (putF "length" l []))) p (.lst (rs.map V.int))) ra (.tup (rs.map V.int))) x (.ins C dx (putF "rests" (.ref ra) (putF "length" l [])))) x (.ins C dx (putF "cap" c (putF "rests" (.ref ra) (putF "length" l [])))) ra = some (.tup (rs.map V.int)) := by
                  rw [upd_ne xr.symm, upd_ne xr.symm, upd_same]
                have x5 : upd (upd (upd (upd (upd H2 x (.ins C dx (putF "length" l []))) p (.lst (rs.map V.int))) ra (.tup (rs.map V.int))) x (.ins C dx (putF "rests" (.ref ra) (putF "length" l [])))) x (.ins C dx (putF "cap" c (putF "rests" (.ref ra) (putF "length" l [])))) x = some (.ins C dx (putF "cap" c (putF "rests" (.ref ra) (putF "length" l [])))) := upd_same
                generalize upd (upd (upd (upd (upd H2 x (.ins C dx (putF "length" l []))) p (.lst (rs.map V.int))) ra (.tup (rs.map V.int))) x (.ins C dx (putF "rests" (.ref ra) (putF "length" l [])))) x (.ins C dx (putF "cap" c (putF "rests" (.ref ra) (putF "length" l [])))) = H5 at b5 ra5 x5 ⊢
                have hT5 : SqQ K H5 b ys := SeqV.but b5 hx2 (hT.same s12)
                -- self.kinds
                refine ⟨_, rfl, b, ys, rfl, ?_⟩
                rcases hT5 with hq | hq
                case' inl =>
                  refine .inl ⟨hq, fun ka nka => ?_⟩
                  obtain ⟨H6, eH6, s6, a6⟩ := grown (.tup ys) nka
                  rw [eH6]
                  have k6 : SqT K H6 ka ys := SqT.of a6
                  have q6 : SqQ K H6 b ys := .inl (s6.seq hq)
                case' inr =>
                  refine .inr ⟨hq, ?_⟩
                  obtain ⟨ka, hka⟩ : ∃ ka, ka = b := ⟨_, rfl⟩
                  subst hka
                  obtain ⟨H6, hH6⟩ : ∃ H6, H6 = H5 := ⟨_, rfl⟩
                  subst hH6
                  have s6 : Same H6 H6 := Same.refl _
                  have k6 : SqT K H6 ka ys := hq
                  have q6 : SqQ K H6 ka ys := .inr hq
                all_goals
                  have x6 := s6 _ _ x5
                  refine ⟨_, rfl, x, C, dx, _, rfl, x6, T.cl, T.n4, few_lt (few (few (few few0))) (by decide), ?_⟩
                  have b7 : But x H6 (upd H6 x (.ins C dx (putF "kinds" (.ref ka) (putF "cap" c (putF "rests" (.ref ra) (putF "length" l [])))))) := But.refl.at
                  have x7 : upd H6 x (.ins C dx (putF "kinds" (.ref ka) (putF "cap" c (putF "rests" (.ref ra) (putF "length" l []))))) x = some (.ins C dx (putF "kinds" (.ref ka) (putF "cap" c (putF "rests" (.ref ra) (putF "length" l []))))) := upd_same
                  generalize upd H6 x (.ins C dx (putF "kinds" (.ref ka) (putF "cap" c (putF "rests" (.ref ra) (putF "length" l []))))) = H7 at b7 x7 ⊢
                  have ra7 : H7 ra = some (.tup (rs.map V.int)) := b7 _ _ (s6 _ _ ra5) xr.symm
                  have k7 : SqT K H7 ka ys := b7.sqt x6 k6
                  have q7 := SeqV.but b7 x6 q6
                  have b27 : But x H H7 := (((Same.but s12).trans b5).same s6).trans b7
                  have kn7 : KnAll K CK H7 ys os := ⟨hlo, fun i v o h1 h2 => (hTA.2 i v o h1 h2).but b27 hx (List.all_eq_true.mp eB o (at_mem h2))⟩
                  -- self.names
                  refine ⟨_, rfl, _, ys, rfl, q7, fun J G wk hG d hd => lc_it wk (fun i H' => H' d = some (.lst (((namesOf os).take i).map V.str)) ∧ Same H7 H') ⟨upd_same, Same.new (Same.refl _) hd⟩ (fun i H' _ h => hG _ (fun q => h.2.seq q) (fun q => Same.sqt h.2 q)) ?_ ?_⟩
                  · rintro i y H8 H9 hi ⟨g1, g2⟩ ⟨rfl, hy⟩
                    have hin : i < (namesOf os).length := by omega
                    have hn : (namesOf os)[i]? = some (namesOf os)[i] := List.getElem?_eq_getElem hin
                    have th := (kn7.2 i y _ hy (names_at eB hn)).same g2
                    generalize (namesOf os)[i] = nmi at hn th
                    cases th with
                    | @kind e C' dx' fs' nm cc hb hf =>
                      refine ⟨rfl, yes_ ⟨_, rfl, e, C', dx', fs', .str nmi, rfl, hb, cc.own.cl, cc.nm, hf, ?_⟩⟩
                      refine ⟨_, g1, small1000 (by rw [List.length_map, List.length_take]; omega), ?_, same_upd_new g2 hd⟩
                      rw [upd_same, take_snoc hn, List.map_append]
                      rfl
                  · rintro H8 ⟨g1, g2⟩
                    rw [show ys.length = (namesOf os).length by omega, List.take_length] at g1
                    refine ⟨d, _, rfl, .inl ⟨SqL.of g1, fun na nn => ?_⟩⟩
                    obtain ⟨H9, eH9, s9, a9⟩ := grown (.tup ((namesOf os).map V.str)) nn
                    rw [eH9]
                    have s79 := g2.trans s9
                    have x9 := s79 _ _ x7
                    have nx : na ≠ x := fun z => by
                      rw [z, g2 _ _ x7] at nn
                      cases nn
                    refine ⟨_, rfl, x, C, dx, _, rfl, x9, T.cl, T.n5, few_lt (few (few (few (few few0)))) (by decide), ?_⟩
                    refine k0 e5 xs ys os rfl rfl _ ra ka na rs hp hsort upd_same ?_ ?_ ?_ ?_
                    · exact SqT.of (by rw [upd_ne xr.symm]; exact s79 _ _ ra7)
                    · exact (But.refl.at (x := x)).sqt x9 (Same.sqt s79 k7)
                    · exact SqT.of (by rw [upd_ne nx]; exact a9)
                    · exact (b27.same s79).at
end
end Ts

namespace Ts
open PySem L2
section
variable {P : Program} {w : World} {K : PySem.W.Frag} {mg : Str → Option Value} {base : Heap}
abbrev sNames : Stmt := (top 41)
theorem sc_names : FnScope ["_law_deal_here", "_law_many"] ["_law_deal_here", "_law_many"] (C8.fnScope sNames) := C8.fnScope_by (by decide +kernel)
theorem cal_names {f : Addr} {fd : FuncData} (F : C8.Def K mg "_law_names" sNames f fd) (df : fd.defaults = .none) (cM : C8.Cal P w K mg base 2 "_law_mixed" (spMixed K) []) : C8.Cal P w K mg base 3 "_law_names" spNames [] := by
  refine C8.cal0 F (C8.Fun.binds F.fn df (ps := ["_law_deal_here", "_law_many"]) fun _ _ _ _ _ _ us hl => match us, hl with | [_, _], _ => rfl) .nil sc_names (fun vs H Q E h => ?_) (fun cdv A outer s H vs Q E hr h => ?_)
  · obtain ⟨D, L, m, rfl, _⟩ := h
    rfl
  · obtain ⟨D, L, m, rfl, dl, m0, m1, k⟩ := h
    refine ⟨_, pss_one (ps_ret (pe_slice sl_list (C8.pe_c cM hr (by decide) (by rfl) (pa_cons (pv 0) (pa_cons (pe_lst (pa_cons pe_str (pa_cons pe_str (pa_cons pe_str (pa_cons pe_str (pa_cons pe_str (pa_cons pe_str (pa_cons pe_str (pa_cons pe_str (pa_cons pe_str (pa_cons pe_str pa_nil))))))))))) pa_nil))) po_none (po_some (pv 1)))), ?_⟩
    refine ⟨_, rfl, (by show 10 ≤ sizeLine; decide), fun l nl => ?_⟩
    have ol := off_new dl nl
    refine ⟨D, L, l, nameVs, rfl, dl.same (Same.new (Same.refl _) nl), SqL.of upd_same, ol.1, ol.2, by decide +kernel, by decide, fun p zs H1 hz W np hp => ⟨_, rfl, _, rfl, p, _, rfl, SqL.of hp, fun q nq => ?_⟩⟩
    obtain ⟨j, rfl⟩ := Int.eq_ofNat_of_zero_le m0
    rw [cut_toV]
    have W' := ((Went.refl dl).new nl).trans W
    refine k q zs _ hz (W'.new nq) ?_ upd_same
    by_cases e : q = l
    · rw [e]
      exact nl
    · cases z : H q with
      | none => rfl
      | some o =>
        by_cases hD : q = D
        · obtain ⟨o2, h2⟩ := W'.d.someD
          rw [hD, h2] at nq
          cases nq
        · by_cases hL : q = L
          · obtain ⟨o2, h2⟩ := W'.d.someL
            rw [hL, h2] at nq
            cases nq
          · rw [W'.k _ _ hD hL z] at nq
            cases nq
abbrev sKindD : Stmt := (top 42)
theorem sc_kindD : FnScope ["_law_deal_here", "_law_word", "_law_most", "_law_form", "_law_many"] ["_law_deal_here", "_law_word", "_law_most"] (C8.fnScope sKindD) := C8.fnScope_by (by decide +kernel)
theorem cal_kindD {f : Addr} {fd : FuncData} (F : C8.Def K mg "_law_kind" sKindD f fd) (df : fd.defaults = .none) (cD : C8.Cal P w K mg base 1 "_law_draw" spDraw []) (cP : C8.Cal P w K mg base 2 "_law_pick" (spPick K) []) : C8.Cal P w K mg base 3 "_law_kind" spKindD [] := by
  refine C8.cal0 F (C8.Fun.binds F.fn df (ps := ["_law_deal_here", "_law_word", "_law_most"]) fun _ _ _ _ _ _ us hl => match us, hl with | [_, _, _], _ => rfl) .nil sc_kindD (fun vs H Q E h => ?_) (fun cdv A outer s H vs Q E hr h => ?_)
  · obtain ⟨D, L, wd, most, rfl, _⟩ := h
    rfl
  · obtain ⟨D, L, wd, most, rfl, dl, m0, m1, k⟩ := h
    have back : ∀ {H' : Hp} {q : Addr}, Went D L H H' → H' q = none → H q = none := fun {H' q} W nq => by
      cases z : H q with
      | none => rfl
      | some o =>
        by_cases hD : q = D
        · obtain ⟨o2, h2⟩ := W.d.someD
          rw [hD, h2] at nq
          cases nq
        · by_cases hL : q = L
          · obtain ⟨o2, h2⟩ := W.d.someL
            rw [hL, h2] at nq
            cases nq
          · rw [W.k _ _ hD hL z] at nq
            cases nq
    refine ⟨_, pss_cons (ps_par (i := 3) (j := 4) (by rfl) sc_kindD.nd rfl rfl (by decide) rfl rfl
        (pa_cons (C8.pe_c cP hr (by decide) (by rfl) (pa_cons (pv 0) (pa_cons (pe_lst (pa_cons pe_str (pa_cons pe_str (pa_cons pe_str pa_nil)))) pa_nil)))
        (pa_cons (C8.pe_c cP hr (by decide) (by rfl) (pa_cons (pv 0) (pa_cons (pe_lst (pa_cons pe_int (pa_cons pe_int (pa_cons pe_int (pa_cons pe_int (pa_cons pe_non pa_nil)))))) pa_nil))) pa_nil)) (by rfl))
      (pss_one (ps_ret (pe_tup (pa_cons (pv 3) (pa_cons (pv 1) (pa_cons (pe_op op_add pe_int (C8.pe_c cD hr (by decide) (by rfl) (pa_cons (pv 0) (pa_cons (pv 2) pa_nil))))
        (pa_cons (pe_ifExp (pt_cmpR op_eq (pv 3) pe_str (nomark _)) (pe_op op_add pe_int (C8.pe_c cD hr (by decide) (by rfl) (pa_cons (pv 0) (pa_cons (pv 2) pa_nil)))) pe_int) (pa_cons (pv 4) pa_nil)))))))), ?_⟩
    refine ⟨_, rfl, (by show 3 ≤ sizeLine; decide), fun l nl => ?_⟩
    have ol := off_new dl nl
    refine ⟨D, L, l, formVs, rfl, dl.same (Same.new (Same.refl _) nl), SqL.of upd_same, ol.1, ol.2, by decide, by decide, fun fv H1 hf W1 => ?_⟩
    have W1' := ((Went.refl dl).new nl).trans W1
    refine ⟨_, rfl, (by show 5 ≤ sizeLine; decide), fun l2 nl2 => ?_⟩
    have ol2 := off_new W1.d nl2
    refine ⟨D, L, l2, manyVs, rfl, W1.d.same (Same.new (Same.refl _) nl2), SqL.of upd_same, ol2.1, ol2.2, by decide, by decide, fun mn H2 hm W2 => ?_⟩
    have W2' := (W1'.new nl2).trans W2
    obtain ⟨fm, rfl⟩ : ∃ fm, fv = .str fm := by
      simp only [formVs, List.mem_cons, List.not_mem_nil, or_false] at hf
      rcases hf with rfl | rfl | rfl <;> exact ⟨_, rfl⟩
    refine ⟨_, _, rfl, ?_⟩
    refine ⟨_, rfl, _, rfl, _, rfl, _, rfl, D, L, most, rfl, W2'.d, m0, m1, fun a H3 a0 a1 W3 => ?_⟩
    refine ⟨_, _, rfl, rfl, _, rfl, rfl, _, rfl, ?_⟩
    by_cases e : fm = "lift"
    · rw [decide_eq_true (show V.str fm = V.str "lift" by rw [e])]
      refine iteT ⟨_, rfl, _, rfl, D, L, most, rfl, W3.d, m0, m1, fun b H4 b0 b1 W4 => ?_⟩
      refine ⟨_, _, rfl, rfl, _, rfl, (by show 5 ≤ sizeLine; decide), fun t nt => ?_⟩
      have W := (W2'.trans W3).trans W4
      exact k t fm (1 + a) (1 + b) mn _ ⟨hf, by omega, by omega, fun _ => by omega, fun _ => by omega, fun z => absurd e z, hm⟩ (W.new nt) (back W nt) upd_same
    · rw [decide_eq_false (fun z => e (V.str.inj z))]
      refine iteF ⟨_, rfl, (by show 5 ≤ sizeLine; decide), fun t nt => ?_⟩
      have W := W2'.trans W3
      exact k t fm (1 + a) 0 mn _ ⟨hf, by omega, by omega, fun z => absurd z e, fun z => absurd z e, fun _ => rfl, hm⟩ (W.new nt) (back W nt) upd_same
end
end Ts

namespace Ts
open PySem L2
section
variable {P : Program} {w : World} {K : PySem.W.Frag} {mg : Str → Option Value} {base : Heap}
abbrev sRuleD : Stmt := (top 43)
abbrev nRuleD : List Str := ["_law_deal_here", "_law_many", "_law_most", "_law_rests_here", "_law_high", "_law_words", "_law_size", "_law_some", "_law_one", "_law_word"]
theorem sc_ruleD : FnScope nRuleD ["_law_deal_here", "_law_many", "_law_most"] (C8.fnScope sRuleD) := C8.fnScope_by (by decide +kernel)
structure NoR (mg : Str → Option Value) : Prop where
  list : mg "list" = none
  range : mg "range" = none
  int : mg "int" = none
  min : mg "min" = none
  sorted : mg "sorted" = none
set_option maxHeartbeats 1000000 in
theorem cal_ruleD {f : Addr} {fd : FuncData} (F : C8.Def K mg "_law_rule" sRuleD f fd) (df : fd.defaults = .none) (G : NoR mg) (cD : C8.Cal P w K mg base 1 "_law_draw" spDraw []) (cP : C8.Cal P w K mg base 2 "_law_pick" (spPick K) []) (cM : C8.Cal P w K mg base 2 "_law_mixed" (spMixed K) []) (cN : C8.Cal P w K mg base 3 "_law_names" spNames []) (cK : C8.Cal P w K mg base 3 "_law_kind" spKindD []) : C8.Cal P w K mg base 4 "_law_rule" (spRuleD K) [] := by
  refine C8.cal0 F (C8.Fun.binds F.fn df (ps := ["_law_deal_here", "_law_many", "_law_most"]) fun _ _ _ _ _ _ us hl => match us, hl with | [_, _, _], _ => rfl) .nil sc_ruleD (fun vs H Q E h => ?_) (fun cdv A outer s H vs Q E hr h => ?_)
  · obtain ⟨D, L, many, most, rfl, _⟩ := h
    rfl
  · obtain ⟨D, L, many, most, rfl, dl, m0, m1, t0, t1, k⟩ := h
    have hu := hr.units
    refine ⟨_, (pss_cons (ps_set (i := 3) sc_ruleD.nd rfl (Or.inl rfl) (pe_callB cr_sortedQ (by rfl) G.sorted PyProof.Rows.boot_sorted (pa_cons (pe_lc (own := [("_law_one", 8)]) (g := gName 8) (by rfl) sc_ruleD.nd (pi_list (pe_slice sl_list (C8.pe_c cM hr (by decide) (by rfl) (pa_cons (pv 0) (pa_cons (pe_listRg (by rfl) (by rfl) G.list (prg_1 (by rfl) G.range pe_int)) pa_nil)))
                po_none (po_some (C8.pe_c cP hr (by decide) (by rfl) (pa_cons (pv 0) (pa_cons (pe_lst (pa_cons pe_int (pa_cons pe_int (pa_cons pe_int (pa_cons pe_int (pa_cons pe_int (pa_cons pe_int pa_nil))))))) pa_nil))))))
              (blkOk_by (own := [("_law_one", 8)]) (N := nRuleD) (sc := C8.fnScope sRuleD) (by decide +kernel)) (fun _ _ _ _ _ => pg_name (i := 8) sc_ruleD.nd rfl (Or.inl rfl)) (fun _ _ _ _ _ => pts_nil)
              (fun _ _ _ _ _ => pe_callTy call_int1 (by rfl) G.int PyProof.Rows.boot_int (pa_cons (pv 8) pa_nil))) pa_nil)))
        (pss_cons (ps_set (i := 4) sc_ruleD.nd rfl (Or.inl rfl) (C8.pe_c cP hr (by decide) (by rfl) (pa_cons (pv 0) (pa_cons (pe_lst (pa_cons pe_non (pa_cons pe_non (pa_cons pe_non (pa_cons (pe_op op_add pe_int (C8.pe_c cD hr (by decide) (by rfl) (pa_cons (pv 0) (pa_cons (pe_op op_mul pe_int (pv 2)) pa_nil)))) pa_nil))))) pa_nil))))
        (pss_cons (ps_par (i := 5) (j := 6) (by rfl) sc_ruleD.nd rfl rfl (by decide) rfl rfl (pa_cons (C8.pe_c cN hr (by decide) (by rfl) (pa_cons (pv 0) (pa_cons (C8.pe_c cD hr (by decide) (by rfl) (pa_cons (pv 0) (pa_cons (pe_op op_add (pv 1) pe_int) pa_nil))) pa_nil))) (pa_cons (pe_op op_add pe_int (C8.pe_c cD hr (by decide) (by rfl) (pa_cons (pv 0) (pa_cons (pv 2) pa_nil)))) pa_nil)) (by rfl))
        (pss_cons (ps_setLc (i := 7) (own := [("_law_word", 9)]) (g := gName 9) (by rfl) sc_ruleD.nd rfl rfl (sw_true rfl rfl rfl (by decide +kernel)) (pi_list (pv 5))
              (blkOk_by (own := [("_law_word", 9)]) (N := nRuleD) (sc := C8.fnScope sRuleD) (by decide +kernel)) (fun _ _ _ _ _ => pg_name (i := 9) sc_ruleD.nd rfl (Or.inl rfl)) (fun _ _ _ _ _ => pts_nil)
              (fun _ _ _ _ _ => C8.pe_c cK hr (by decide) (by rfl) (pa_cons (pv 0) (pa_cons (pv 9) (pa_cons (pv 2) pa_nil)))))
        (pss_cons (ps_if (PW.pt (pw_and (pt_cmpR op_notN (pv 4) pe_non (nomark _)) (pw_and1 (pt_cmpR (op_neD hu) (pe_lc (own := [("_law_one", 8)]) (g := gName 8) (by rfl) sc_ruleD.nd (pi_list (pv 7))
              (blkOk_by (own := [("_law_one", 8)]) (N := nRuleD) (sc := C8.fnScope sRuleD) (by decide +kernel)) (fun _ _ _ _ _ => pg_name (i := 8) sc_ruleD.nd rfl (Or.inl rfl))
              (fun _ _ _ _ _ => pts_one (pt_cmpR op_isN (pe_ix (show IxR _ (rIxT K) from ix_tup) (pv 8) pe_int (fun _ _ => rfl)) pe_non (nomark _)))
              (fun _ _ _ _ _ => pv 8)) (pe_lst pa_nil) (nomark _)))))
          (pss_one (ps_set (i := 4) sc_ruleD.nd rfl (Or.inl rfl) (pe_callB (call_min2 rfl) (by rfl) G.min PyProof.Rows.boot_min (pa_cons (pe_callTy call_int1 (by rfl) G.int PyProof.Rows.boot_int (pa_cons (pv 4) pa_nil)) (pa_cons (pe_op op_add (pv 6) pe_int) pa_nil))))) pss_nil)
        (pss_one (ps_ret (pe_tup (pa_cons (pv 6) (pa_cons (pv 3) (pa_cons (pv 4) (pa_cons (pv 7) pa_nil)))))))))))), ?_⟩
    -- rests
    refine ⟨_, rfl, 7, rfl, RgOk.of_le (by decide) (by decide) (by decide) (by decide), fun q hq => ?_⟩
    have Wa : Went D L H (upd H q (.lst (rgV 0 7))) := (Went.refl dl).new hq
    have oq := off_new dl hq
    refine ⟨D, L, q, rgV 0 7, rfl, Wa.d, SqL.of upd_same, oq.1, oq.2, rfl, by decide, fun p ys H3 hys W3 np hp => ?_⟩
    obtain ⟨ms, rfl, hms⟩ := perm_ints (ns := [0, 1, 2, 3, 4, 5, 6]) hys
    have op := off_new Wa.d np
    refine ⟨_, rfl, (by show 6 ≤ sizeLine; decide), fun l1 nl1 => ?_⟩
    have ol1 := off_new W3.d nl1
    refine ⟨D, L, l1, _, rfl, W3.d.same (Same.new (Same.refl _) nl1), SqL.of upd_same, ol1.1, ol1.2, by decide, by decide, fun dv H4 hdv W4 => ?_⟩
    obtain ⟨d, rfl, d0, d1⟩ := intB_of (lo := 0) (hi := 4) (by decide) hdv
    have W4' : Went D L H3 H4 := ((Went.refl W3.d).new nl1).trans W4
    refine ⟨_, rfl, p, _, rfl, SqL.of (W4'.k _ _ op.1 op.2 hp), fun p2 np2 => ?_⟩
    obtain ⟨dn, rfl⟩ := Int.eq_ofNat_of_zero_le d0
    rw [cut_to V.int ms dn]
    have hmn : ms.Nodup := hms.nodup_iff.mpr (by decide)
    have hm7 : ∀ n ∈ ms, 0 ≤ n ∧ n < 7 := fun n hn => by
      have := hms.mem_iff.mp hn
      simp only [List.mem_cons, List.not_mem_nil, or_false] at this
      omega
    have zn : (ms.take dn).Nodup := hmn.sublist (List.take_sublist _ _)
    have z7 : ∀ n ∈ ms.take dn, 0 ≤ n ∧ n < 7 := fun n hn => hm7 n (List.mem_of_mem_take hn)
    have zl : (ms.take dn).length ≤ 4 := by
      rw [List.length_take]
      omega
    generalize ms.take dn = zs at zn z7 zl ⊢
    have W5 : Went D L H (upd H4 p2 (.lst (zs.map V.int))) := ((Wa.trans W3).trans W4').new np2
    obtain ⟨H5, hH5, s5, hz5⟩ := grown (.lst (zs.map V.int)) np2
    rw [hH5] at W5 ⊢
    refine ⟨p2, rfl, ⟨_, SqL.of hz5⟩, fun e ne => lc_list (K := K) (a := p2) (xs := zs.map V.int)
      (fun i H' => H' e = some (.lst ((zs.take i).map V.int)) ∧ Same H5 H') ⟨upd_same, Same.new (Same.refl _) ne⟩ (fun i H' _ h => SqL.of (h.2 _ _ hz5)) ?_ ?_⟩
    · rintro j y H' hj ⟨g1, g2⟩
      obtain ⟨u, rfl, hu'⟩ := map_at hj
      refine ⟨rfl, yes_ ⟨_, rfl, .inl ⟨_, rfl, _, g1, small1000 (by rw [List.length_map, List.length_take]; omega), ?_, same_upd_new g2 ne⟩⟩⟩
      rw [upd_same, List.take_add_one, hu', List.map_append]
      rfl
    rintro H6 ⟨g1, g2⟩
    rw [List.length_map, List.take_length] at g1
    refine ⟨e, zs, rfl, .inl (SqL.of g1), fun rs off prs _ noff => ?_⟩
    have W6 : Went D L H H6 := W5.same g2
    have oo := off_new W6.d noff
    have noffH := W6.free noff
    obtain ⟨H7, hH7, s7, ho7⟩ := grown (.lst (rs.map V.int)) noff
    rw [hH7]
    have W7 : Went D L H H7 := W6.same s7
    have rn : rs.Nodup := prs.nodup_iff.mpr zn
    have r7 : ∀ n ∈ rs, 0 ≤ n ∧ n < 7 := fun n hn => z7 n (prs.mem_iff.mp hn)
    have rl : rs.length ≤ 6 := by rw [prs.length_eq]; omega
    -- cap
    refine ⟨_, rfl, _, rfl, _, rfl, _, _, rfl, rfl, .inl ⟨by decide, by decide⟩, D, L, _, rfl, W7.d, by omega, by omega, fun hv H8 h0 h1 W8 => ⟨_, _, rfl, rfl, (by show 4 ≤ sizeLine; decide), fun l2 nl2 => ?_⟩⟩
    have ol2 := off_new W8.d nl2
    refine ⟨D, L, l2, _, rfl, W8.d.same (Same.new (Same.refl _) nl2), SqL.of upd_same, ol2.1, ol2.2, (by show 0 < 4; decide), (by show 4 ≤ 1000; decide), fun hi H9 hhi W9 => ?_⟩
    have cap : hi = .non ∨ ∃ i : Int, hi = .int i ∧ 1 ≤ i := by
      simp only [List.mem_cons, List.not_mem_nil, or_false] at hhi
      rcases hhi with h | h | h | h
      · exact .inl h
      · exact .inl h
      · exact .inl h
      · exact .inr ⟨_, h, by omega⟩
    have W9' : Went D L H H9 := (W7.trans W8).trans (((Went.refl W8.d).new nl2).trans W9)
    have W79 : Went D L H7 H9 := W8.trans (((Went.refl W8.d).new nl2).trans W9)
    -- words and size
    refine ⟨_, rfl, _, rfl, _, rfl, _, _, rfl, rfl, D, L, _, rfl, W9'.d, by omega, by omega, fun mm H10 mm0 mm1 W10 => ?_⟩
    refine ⟨D, L, mm, rfl, W10.d, mm0, by omega, fun pw zw H11 hz W11 npw hpw => ?_⟩
    obtain ⟨nms, rfl, nnd, nok⟩ := names_strs hz
    have opw := off_new W10.d npw
    refine ⟨_, rfl, _, rfl, D, L, most, rfl, W11.d, t0, by omega, fun sv H12 sv0 sv1 W12 => ⟨_, _, rfl, rfl, _, _, rfl, ?_⟩⟩
    have hpw2 := W12.k _ _ opw.1 opw.2 hpw
    rw [← List.map_take] at hpw2
    have wnd : (nms.take mm.toNat).Nodup := nnd.sublist (List.take_sublist _ _)
    have wok : ∀ n ∈ nms.take mm.toNat, nameV (.str n) = true ∧ flatB (.str n) = true := fun n hn => nok n (List.mem_of_mem_take hn)
    have wle : ((nms.take mm.toNat).length : Int) ≤ many := by
      rw [List.length_take]
      omega
    generalize nms.take mm.toNat = ws at hpw2 wnd wok wle
    have W712 : Went D L H7 H12 := ((W79.trans W10).trans W11).trans W12
    have W12' : Went D L H H12 := W7.trans W712
    -- kinds
    refine ⟨_, rfl, pw, rfl, ⟨_, SqL.of hpw2⟩, fun dk hdk => lc_list (K := K) (a := pw) (xs := ws.map V.str)
      (fun i H' => ∃ tts ds, H' dk = some (.lst tts) ∧ KAll H' most tts ds ∧ ds.map KD.nm = ws.take i ∧ tts.length = i ∧ Went D L H12 H')
      ⟨[], [], upd_same, .nil, rfl, rfl, (Went.refl W12.d).new hdk⟩ (fun i H' _ h => by
        obtain ⟨_, _, _, _, _, _, W⟩ := h
        exact SqL.of (W.k _ _ opw.1 opw.2 hpw2)) ?_ ?_⟩
    · rintro i y H13 hyi ⟨tts, ds, g1, g2, g3, g4, W13⟩
      obtain ⟨u, rfl, hu'⟩ := map_at hyi
      have ok := off_new W12.d hdk
      refine ⟨rfl, yes_ ⟨_, rfl, _, rfl, _, rfl, D, L, .str u, most, rfl, W13.d, t0, by omega, fun tk fm a b mn H14 told W14 ntk htk => ?_⟩⟩
      have g14 := W14.k _ _ ok.1 ok.2 g1
      refine ⟨tts, g14, small1000 (by
        have := at_lt hu'
        omega), tts ++ [.ref tk], ds ++ [⟨fm, u, a, b, mn⟩], upd_same, ?_, ?_, by rw [List.length_append, g4]; rfl, (W13.trans W14).mut hdk ok.1 ok.2⟩
      · exact (KAll.snoc (d := ⟨fm, u, a, b, mn⟩) (g2.went W13.d W14) ⟨tk, rfl, htk, told⟩).mut g14
      · rw [List.map_append, g3, List.take_add_one, hu']
        rfl
    rintro H13 ⟨tts, ds, g1, g2, g3, g4, W13⟩
    rw [List.length_map, List.take_length] at g3
    have dnd : (ds.map KD.nm).Nodup := by rw [g3]; exact wnd
    have dok : ∀ d ∈ ds, nameV (.str d.nm) = true ∧ flatB (.str d.nm) = true := fun d hd => wok d.nm (by rw [← g3]; exact List.mem_map_of_mem hd)
    have dle : (ds.length : Int) ≤ many := by
      have : (ds.map KD.nm).length = ws.length := by rw [g3]
      rw [List.length_map] at this
      omega
    have W713 : Went D L H7 H13 := W712.trans W13
    have W13' : Went D L H H13 := W12'.trans W13
    have ok := off_new W12.d hdk
    have ho13 := W713.k _ _ oo.1 oo.2 ho7
    have fin : ∀ (hi' : V) (H' : Hp) (t : Addr), Same H13 H' → (hi' = .non ∨ cntV hi' = true) → H' t = none → Q (.ref t) (upd H' t (.tup [.int (1 + sv), .ref off, hi', .ref dk])) := fun hi' H' t s13 hc nt => by
      have sn : Same H' (upd H' t (.tup [.int (1 + sv), .ref off, hi', .ref dk])) := Same.new (Same.refl _) nt
      have sf := s13.trans sn
      have Wf := W13'.same sf
      refine k t off dk _ rs hi' tts ds _ (by omega) (by omega) ⟨sf _ _ ho13, rn, r7, rl, sf _ _ g1, g2.same sf, dnd, dok, by omega, hc⟩ dle Wf upd_same ((W13'.same s13).free nt) noffH (W12'.free hdk)
    refine ⟨_, rfl, rfl, _, rfl, ?_⟩
    rcases cap with rfl | ⟨ic, rfl, ic1⟩
    · exact iteF (iteF ⟨_, rfl, _, rfl, _, rfl, _, rfl, (by show 4 ≤ sizeLine; decide), fun t nt => fin _ _ _ (Same.refl _) (.inl rfl) nt⟩)
    · have capped : (V.int ic = .non ∨ cntV (.int ic) = true) := .inr (cnt_int ic1)
      refine iteT ⟨_, rfl, dk, rfl, ⟨_, SqL.of g1⟩, fun e2 ne2 => lc_list (K := K) (a := dk) (xs := tts)
        (fun i H' => ∃ vs es, H' e2 = some (.lst vs) ∧ KAll H' most vs es ∧ (∀ d ∈ es, d ∈ ds) ∧ vs.length ≤ i ∧ Same H13 H')
        ⟨[], [], upd_same, .nil, (fun d hd => by cases hd), Nat.le_refl _, Same.new (Same.refl _) ne2⟩ (fun i H' _ h => by
          obtain ⟨_, _, _, _, _, _, s⟩ := h
          exact SqL.of (s _ _ g1)) ?_ ?_⟩
      · rintro i y H14 hyi ⟨vs, es, q1, q2, q3, q4, s14⟩
        have hil := at_lt hyi
        have hid : i < ds.length := by rw [← g2.1]; exact hil
        have hdi : ds[i]? = some ds[i] := List.getElem?_eq_getElem hid
        have ka := (g2.2 i y _ hyi hdi).same s14
        obtain ⟨t, rfl, ht, told⟩ := id ka
        refine ⟨rfl, ?_⟩
        refine ⟨_, rfl, t, _, 4, _, rfl, rfl, SqT.of ht, rfl, rfl, _, rfl, ?_⟩
        refine ite2 (fun _ => ?_) (fun _ => ⟨vs, es, q1, q2, q3, by omega, s14⟩)
        refine ⟨_, rfl, vs, q1, small1000 (by omega), vs ++ [.ref t], es ++ [ds[i]], upd_same, (q2.snoc ka).mut q1, fun d hd => ?_, by rw [List.length_append]; simp; omega, same_upd_new s14 ne2⟩
        rcases List.mem_append.mp hd with h | h
        · exact q3 d h
        · rw [List.mem_singleton.mp h]
          exact at_mem hdi
      · rintro H14 ⟨vs, es, q1, q2, q3, q4, s14⟩
        refine ⟨Nat.zero_le _, fun r nr => ?_⟩
        have sr : Same H14 (upd H14 r (.lst [])) := Same.new (Same.refl _) nr
        have fits : ∀ d ∈ es, d.fit := fun d hd => by
          have hd' := q3 d hd
          obtain ⟨j, hj, ej⟩ := List.getElem_of_mem hd'
          have hjt : j < tts.length := by rw [g2.1]; exact hj
          obtain ⟨_, _, _, told⟩ := g2.2 j _ d (List.getElem?_eq_getElem hjt) (by rw [List.getElem?_eq_getElem hj, ej])
          exact KD.fit_of told (dok d hd').2
        refine ne_nilK (SqL.of (sr _ _ q1)) (q2.same sr) fits upd_same ⟨_, rfl, ?_⟩
        have s15 := s14.trans sr
        refine ite2 (fun _ => ?_) (fun _ => ?_)
        · refine ⟨_, rfl, .inl ⟨_, rfl, _, rfl, _, _, rfl, rfl, _, _, rfl, ?_⟩⟩
          refine ⟨_, rfl, _, rfl, _, rfl, _, rfl, (by show 4 ≤ sizeLine; decide), fun t nt => fin _ _ _ s15 (.inr (cnt_int ?_)) nt⟩
          split <;> omega
        · exact ⟨_, rfl, _, rfl, _, rfl, _, rfl, (by show 4 ≤ sizeLine; decide), fun t nt => fin _ _ _ s15 capped nt⟩
end
end Ts

namespace Ts
open PySem L2
section
variable {P : Program} {w : World} {K : PySem.W.Frag} {mg : Str → Option Value} {base : Heap}
abbrev sAny : Stmt := (top 40)
abbrev nAny : List Str := ["_law_deal_here", "_law_deep", "_law_form", "_law_some", "_law_k"]
theorem sc_any : FnScope nAny ["_law_deal_here", "_law_deep"] (C8.fnScope sAny) := C8.fnScope_by (by decide +kernel)
theorem cal_any {f : Addr} {fd : FuncData} (F : C8.Def K mg "_law_any" sAny f fd) (df : fd.defaults = .none) (mRange : mg "range" = none) (mTup : mg "tuple" = none) (cD : C8.Cal P w K mg base 1 "_law_draw" spDraw []) (cP : C8.Cal P w K mg base 2 "_law_pick" (spPick K) []) :
    ∀ n : Nat, C8.Cal P w K mg base (n + 3) "_law_any" (spAnyD K n) [] := by
  intro n
  have fin : ∀ (D L : Addr) (H1 H2 : Hp) (xs : List V) (Q : VK), xs.all flatB = true → DealAt H1 D L → Same H1 H2 → 0 < xs.length → xs.length ≤ 1000 → ∀ l, H2 l = none → (∀ (v : V) (r : Option (List V)) (H' : Hp), SeqV K H' v r → (∀ a, v = .ref a → H1 a = none) → Went D L H1 H' → Q v H') → spPick K [.ref D, .ref l] (upd H2 l (.lst xs)) Q C8.E0 := by
    intro D L H1 H2 xs Q hf dl s12 l0 l1 l nl k
    have d2 := dl.same s12
    have ol := off_new d2 nl
    refine ⟨D, L, l, xs, rfl, d2.same (Same.new (Same.refl _) nl), SqL.of upd_same, ol.1, ol.2, l0, l1, fun v H' hv W => k v none H' (.flat (List.all_eq_true.mp hf v hv)) (fun a z => absurd z (flat_noref (List.all_eq_true.mp hf v hv) a)) (((Went.refl dl).same s12).new nl |>.trans W)⟩
  induction n with
  | zero =>
    refine C8.cal0 F (C8.Fun.binds F.fn df (ps := ["_law_deal_here", "_law_deep"]) fun _ _ _ _ _ _ us hl => match us, hl with | [_, _], _ => rfl) .nil sc_any (fun vs H Q E h => ?_) (fun cdv A outer s H vs Q E hr h => ?_)
    · obtain ⟨D, L, n, rfl, _⟩ := h
      rfl
    · obtain ⟨D, L, deep, rfl, dl, d0, d1, k⟩ := h
      have hd : deep = 0 := by omega
      subst hd
      refine ⟨_, pss_cons (ps_set (i := 2) sc_any.nd rfl (Or.inl rfl) (C8.pe_c cD hr (by decide) (by rfl) (pa_cons (pv 0) (pa_cons pe_int pa_nil))))
        (pss_cons (ps_if (PW.pt (pw_and (pt_cmpR op_gt (pv 1) pe_int (nomark _)) (pw_and1 (pt_cmpR op_lt (pv 2) pe_int (nomark _))))) pss_never pss_nil)
        (pss_cons (ps_if (pt_cmpR op_lt (pv 2) pe_int (nomark _)) (pss_one (ps_ret (C8.pe_c cP hr (by decide) (by rfl) (pa_cons (pv 0) (pa_cons
            (pe_lst (pa_cons pe_int (pa_cons pe_int (pa_cons (pe_un un_neg pe_int) (pa_cons pe_int (pa_cons (pe_op op_pow pe_int pe_int) (pa_cons pe_bl (pa_cons pe_bl (pa_cons pe_non pa_nil))))))))) pa_nil))))) pss_nil)
        (pss_one (ps_ret (C8.pe_c cP hr (by decide) (by rfl) (pa_cons (pv 0) (pa_cons
            (pe_lst (pa_cons pe_str (pa_cons pe_str (pa_cons pe_str (pa_cons pe_str (pa_cons pe_str (pa_cons pe_str (pa_cons pe_str (pa_cons pe_str (pa_cons pe_str (pa_cons pe_str pa_nil))))))))))) pa_nil))))))), ?_⟩
      refine ⟨_, rfl, D, L, 11, rfl, dl, by decide, by decide, fun fm H1 f0 f1 W1 => ?_⟩
      refine ⟨_, rfl, _, _, rfl, rfl, _, rfl, iteF (iteF ?_)⟩
      refine ⟨_, rfl, _, _, rfl, rfl, _, rfl, ?_⟩
      refine ite2 (fun _ => ?_) (fun _ => ?_)
      · refine ⟨_, rfl, _, rfl, _, _, rfl, rfl, ⟨by decide, by decide, by decide⟩, (by show 8 ≤ sizeLine; decide), fun l nl => ?_⟩
        exact fin D L H1 H1 _ _ (by decide) W1.d (Same.refl _) (by decide) (by decide) l nl fun v r H' g nn W => k v r H' g (fun a z => W1.free (nn a z)) (W1.trans W)
      · refine ⟨_, rfl, (by show 10 ≤ sizeLine; decide), fun l nl => ?_⟩
        exact fin D L H1 H1 _ _ (by decide +kernel) W1.d (Same.refl _) (by decide) (by decide) l nl fun v r H' g nn W => k v r H' g (fun a z => W1.free (nn a z)) (W1.trans W)
  | succ n ih =>
    refine C8.cal0 F (C8.Fun.binds F.fn df (ps := ["_law_deal_here", "_law_deep"]) fun _ _ _ _ _ _ us hl => match us, hl with | [_, _], _ => rfl) .nil sc_any (fun vs H Q E h => ?_) (fun cdv A outer s H vs Q E hr h => ?_)
    · obtain ⟨D, L, n, rfl, _⟩ := h
      rfl
    · obtain ⟨D, L, deep, rfl, dl, d0, d1, k⟩ := h
      refine ⟨_, pss_cons (ps_set (i := 2) sc_any.nd rfl (Or.inl rfl) (C8.pe_c cD hr (by omega) (by rfl) (pa_cons (pv 0) (pa_cons pe_int pa_nil))))
        (pss_cons (ps_if (PW.pt (pw_and (pt_cmpR op_gt (pv 1) pe_int (nomark _)) (pw_and1 (pt_cmpR op_lt (pv 2) pe_int (nomark _)))))
            (pss_cons (ps_setLc (i := 3) (own := [("_law_k", 4)]) (g := gName 4) (by rfl) sc_any.nd rfl rfl (sw_true rfl rfl rfl (by decide +kernel)) (pi_range1 (by rfl) mRange (pa_cons (C8.pe_c cD hr (by omega) (by rfl) (pa_cons (pv 0) (pa_cons pe_int pa_nil))) pa_nil))
                (blkOk_by (own := [("_law_k", 4)]) (N := nAny) (sc := C8.fnScope sAny) (by decide +kernel)) (fun _ _ _ _ _ => pg_name (i := 4) sc_any.nd rfl (Or.inl rfl)) (fun _ _ _ _ _ => pts_nil)
                (fun _ _ _ _ _ => C8.pe_c ih hr (by omega) (by rfl) (pa_cons (pv 0) (pa_cons (pe_op op_sub (pv 1) pe_int) pa_nil))))
            (pss_one (ps_ret (pe_ifExp (pt_cmpR op_lt (pv 2) pe_int (nomark _)) (pe_callTy call_tuple_of (by rfl) mTup PyProof.Rows.boot_tuple (pa_cons (pv 3) pa_nil)) (pv 3))))) pss_nil)
        (pss_cons (ps_if (pt_cmpR op_lt (pv 2) pe_int (nomark _)) (pss_one (ps_ret (C8.pe_c cP hr (by omega) (by rfl) (pa_cons (pv 0) (pa_cons
            (pe_lst (pa_cons pe_int (pa_cons pe_int (pa_cons (pe_un un_neg pe_int) (pa_cons pe_int (pa_cons (pe_op op_pow pe_int pe_int) (pa_cons pe_bl (pa_cons pe_bl (pa_cons pe_non pa_nil))))))))) pa_nil))))) pss_nil)
        (pss_one (ps_ret (C8.pe_c cP hr (by omega) (by rfl) (pa_cons (pv 0) (pa_cons
            (pe_lst (pa_cons pe_str (pa_cons pe_str (pa_cons pe_str (pa_cons pe_str (pa_cons pe_str (pa_cons pe_str (pa_cons pe_str (pa_cons pe_str (pa_cons pe_str (pa_cons pe_str pa_nil))))))))))) pa_nil))))))), ?_⟩
      refine ⟨_, rfl, D, L, 11, rfl, dl, by decide, by decide, fun fm H1 f0 f1 W1 => ?_⟩
      have tail : (tTest (tOp (rI0 fun i j => V.bl (decide (i < j))) (tVar 2) (tC (V.int 7)))) [some (V.ref D), some (V.int deep), some (V.int fm), none, none] H1 fun b H2 => if b = true then tRet (tCall (spPick K) [] C8.E0 (tCons (tVar 0) (tCons (tLst (tCons (tC (V.int 0)) (tCons (tC (V.int 1)) (tCons (tUn (rU fun i => .int (-i)) (tC (V.int 1))) (tCons (tC (V.int 7)) (tCons (tOp (rI CPow fun i j => V.int (i ^ j.toNat)) (tC (V.int 10)) (tC (V.int 18))) (tCons (tC (V.bl true)) (tCons (tC (V.bl false)) (tCons (tC V.non) tNil))))))))) tNil)))
          { nx := fun _ H' => Q .non H', rt := Q } [some (V.ref D), some (V.int deep), some (V.int fm), none, none] H2
        else tRet (tCall (spPick K) [] C8.E0 (tCons (tVar 0) (tCons (tLst (tCons (tC (V.str "")) (tCons (tC (V.str "any")) (tCons (tC (V.str "none")) (tCons (tC (V.str "anew")) (tCons (tC (V.str "lift")) (tCons (tC (V.str "term")) (tCons (tC (V.str "still")) (tCons (tC (V.str "Talk")) (tCons (tC (V.str " ")) (tCons (tC (V.str "still talk 0 1")) tNil))))))))))) tNil)))
          { nx := fun _ H' => Q .non H', rt := Q } [some (V.ref D), some (V.int deep), some (V.int fm), none, none] H2 := by
        refine ⟨_, rfl, _, _, rfl, rfl, _, rfl, ?_⟩
        refine ite2 (fun _ => ?_) (fun _ => ?_)
        · refine ⟨_, rfl, _, rfl, _, _, rfl, rfl, ⟨by decide, by decide, by decide⟩, (by show 8 ≤ sizeLine; decide), fun l nl => ?_⟩
          exact fin D L H1 H1 _ _ (by decide) W1.d (Same.refl _) (by decide) (by decide) l nl fun v r H' g nn W => k v r H' g (fun a z => W1.free (nn a z)) (W1.trans W)
        · refine ⟨_, rfl, (by show 10 ≤ sizeLine; decide), fun l nl => ?_⟩
          exact fin D L H1 H1 _ _ (by decide +kernel) W1.d (Same.refl _) (by decide) (by decide) l nl fun v r H' g nn W => k v r H' g (fun a z => W1.free (nn a z)) (W1.trans W)
      refine ⟨_, rfl, _, _, rfl, rfl, _, rfl, ?_⟩
      by_cases e1 : 0 < deep
      · rw [decide_eq_true e1]
        refine iteT ⟨_, rfl, _, _, rfl, rfl, _, rfl, ?_⟩
        by_cases e2 : fm < 4
        · rw [decide_eq_true e2]
          refine iteT ?_
          refine ⟨_, rfl, D, L, 4, rfl, W1.d, by decide, by decide, fun m H2 m0 m1 W2 => ⟨m, rfl, by omega, by omega, fun d hd => lc_range (lo := 0) (n := m.toNat)
            (fun i H' => ∃ xs, H' d = some (.lst xs) ∧ xs.length ≤ i ∧ Went D L H2 H' ∧ ∀ x ∈ xs, AnyV K H' x) ⟨[], upd_same, Nat.le_refl _, (Went.refl W2.d).new hd, fun x hx => by cases hx⟩ ?_ ?_⟩⟩
          · rintro i H3 hi ⟨xs, h1, h2, W3, h3⟩
            have od := off_new W2.d hd
            refine ⟨rfl, yes_ ⟨_, rfl, _, rfl, _, _, rfl, rfl, D, L, deep - 1, rfl, W3.d, by omega, by omega, fun v r H4 g _ W4 => ?_⟩⟩
            have h14 := W4.k _ _ od.1 od.2 h1
            refine ⟨xs, h14, small1000 (by omega), xs ++ [v], upd_same, by rw [List.length_append, List.length_singleton]; omega, (W3.trans W4).mut hd od.1 od.2, fun x hx => ?_⟩
            rcases List.mem_append.mp hx with hx | hx
            · exact ((h3 x hx).went W3.d W4).mutList h14
            · rw [List.mem_singleton.mp hx]
              exact g.any.mutList h14
          · rintro H3 ⟨xs, h1, h2, W3, h3⟩
            have W := (W1.trans W2).trans W3
            refine ⟨_, rfl, _, _, rfl, rfl, _, rfl, ?_⟩
            refine ite2 (fun _ => ?_) (fun _ => ?_)
            · exact ⟨_, rfl, d, _, rfl, .inl ⟨SqL.of h1, fun t nt => k _ (some xs) _ (.seq (.inr (SqT.of upd_same)) (by omega) fun x hx => (h3 x hx).same (Same.new (Same.refl _) nt)) (fun a z => by cases z; exact W.free nt) (W.new nt)⟩⟩
            · exact ⟨_, rfl, k _ (some xs) _ (.seq (.inl (SqL.of h1)) (by omega) h3) (fun a z => by cases z; exact (W1.trans W2).free hd) W⟩
        · rw [decide_eq_false e2]
          exact iteF tail
      · rw [decide_eq_false e1]
        exact iteF (iteF tail)
end
end Ts

namespace Ts
open PySem L2
/-- what the text says of the errors of rules -/
structure ErrR (K : PySem.W.Frag) (mg : Str → Option Value) (CI CT CR : Addr) : Prop where
  ec : ExcC K CI
  xf : XfC K CI
  no : PySem.W.findIn K (.ref CI) "word" = some none
  te : PySem.W.exmOne K (.ref CI) (.ref CI) = some true
  k1 : PySem.W.kitOne K (.ref CI) (.ref CT) = some true
  k2 : PySem.W.kitOne K (.ref CI) (.ref CR) = some false
  gI : mg "InvalidRule" = some (.ref CI)
  gT : mg "TermError" = some (.ref CT)
  gR : mg "InvalidText" = some (.ref CR)
def spKMade (K : PySem.W.Frag) (CK : Addr) : Sp := fun vs H Q _ => ∃ (v : V) (most : Int) (d : KD), vs = [v] ∧ KAt H most v d ∧ nameV (.str d.nm) = true ∧ flatB (.str d.nm) = true ∧
  ∀ (x : Addr) (H' : Hp), Same H H' → H x = none → KnV K CK H' (.ref x) (some d.nm) → Q (.ref x) H'
def spSizeT (K : PySem.W.Frag) : Sp := fun vs H Q _ => ∃ v, vs = [v] ∧ AnyV K H v ∧ Q (.bl (cntV v)) H
def spHeardR (K : PySem.W.Frag) (CK : Addr) : Sp := fun vs H Q _ => ∃ (g : Addr) (l rv c kv : V) (r : Option (List V)) (ks : Option (List V × List (Option Str))), vs = [.ref g] ∧ SqL K H g [l, rv, c, kv] ∧ AnyV K H l ∧ SeqV K H rv r ∧ AnyV K H c ∧ KsV K CK H kv ks ∧
  ∀ H', Same H H' → Q (optV (dueR l r c ks)) H'
def spDueR (K : PySem.W.Frag) : Sp := fun vs H Q _ => ∃ (g : Addr) (l rv c kv : V) (r : Option (List V)), vs = [.ref g] ∧ SqL K H g [l, rv, c, kv] ∧ AnyV K H l ∧ SeqV K H rv r ∧ AnyV K H c ∧
  ∀ H', Same H H' → Q (optV (dueR3 l r c)) H'
theorem nameS (a b c : V) : (fsS [a, b, c]).lookup ("name" : Str) = some a := by
  show (stillF a b c).lookup _ = _
  unfold stillF
  rw [lookup_putF, if_neg (by decide +kernel), lookup_putF, if_neg (by decide +kernel), lookup_putF, if_pos rfl]
theorem nameA (a b c : V) : (fsA [a, b, c]).lookup ("name" : Str) = some a := by
  show (anewF a b c).lookup _ = _
  unfold anewF
  rw [lookup_putF, if_neg (by decide +kernel), lookup_putF, if_neg (by decide +kernel), lookup_putF, if_pos rfl]
theorem nameL (a b c d : V) : (fsL [a, b, c, d]).lookup ("name" : Str) = some a := by
  show (liftF a b c d).lookup _ = _
  unfold liftF
  rw [lookup_putF, if_neg (by decide +kernel), lookup_putF, if_neg (by decide +kernel), lookup_putF, if_neg (by decide +kernel), lookup_putF, if_pos rfl]
section
variable {P : Program} {w : World} {K : PySem.W.Frag} {mg : Str → Option Value} {base : Heap}
abbrev sKMade : Stmt := (top 44)
theorem sc_kMade : FnScope ["_law_one"] ["_law_one"] (C8.fnScope sKMade) := C8.fnScope_by (by decide +kernel)
theorem cal_kMade {f CS CA CL CI CK : Addr} {fd : FuncData} (F : C8.Def K mg "_law_kind_made" sKMade f fd) (df : fd.defaults = .none) (kS : KCls K CK CS) (kA : KCls K CK CA) (kL : KCls K CK CL)
    (mS : MakX P w K mg base 4 "Still" CS (spKind K CS CI 3 dueS fsS) []) (mA : MakX P w K mg base 4 "Anew" CA (spKind K CA CI 3 dueA fsA) []) (mL : MakX P w K mg base 4 "Lift" CL (spKind K CL CI 4 dueL fsL) []) : C8.Cal P w K mg base 6 "_law_kind_made" (spKMade K CK) [] := by
  refine C8.cal0 F (C8.Fun.binds F.fn df (ps := ["_law_one"]) fun _ _ _ _ _ _ us hl => match us, hl with | [_], _ => rfl) .nil sc_kMade (fun vs H Q E h => ?_) (fun cdv A outer s H vs Q E hr h => ?_)
  · obtain ⟨v, most, d, rfl, _⟩ := h
    rfl
  · obtain ⟨v, most, d, rfl, ⟨t, rfl, ht, told⟩, hn, hf, k⟩ := h
    refine ⟨_, (pss_cons (ps_if (pt_cmpR op_eq (pe_ix ix_tup (pv 0) pe_int (fun _ _ => rfl)) pe_str (nomark _)) (pss_one (ps_ret (pe_mkX mS hr (by decide) passL (by rfl) (pa_cons (pe_ix ix_tup (pv 0) pe_int (fun _ _ => rfl)) (pa_cons (pe_ix ix_tup (pv 0) pe_int (fun _ _ => rfl)) (pa_cons (pe_ix ix_tup (pv 0) pe_int (fun _ _ => rfl)) pa_nil)))))) pss_nil)
        (pss_cons (ps_if (pt_cmpR op_eq (pe_ix ix_tup (pv 0) pe_int (fun _ _ => rfl)) pe_str (nomark _)) (pss_one (ps_ret (pe_mkX mA hr (by decide) passL (by rfl) (pa_cons (pe_ix ix_tup (pv 0) pe_int (fun _ _ => rfl)) (pa_cons (pe_ix ix_tup (pv 0) pe_int (fun _ _ => rfl)) (pa_cons (pe_ix ix_tup (pv 0) pe_int (fun _ _ => rfl)) pa_nil)))))) pss_nil)
        (pss_one (ps_ret (pe_mkX mL hr (by decide) passL (by rfl) (pa_cons (pe_ix ix_tup (pv 0) pe_int (fun _ _ => rfl)) (pa_cons (pe_ix ix_tup (pv 0) pe_int (fun _ _ => rfl)) (pa_cons (pe_ix ix_tup (pv 0) pe_int (fun _ _ => rfl)) (pa_cons (pe_ix ix_tup (pv 0) pe_int (fun _ _ => rfl)) pa_nil))))))))), ?_⟩
    have hT : SqT K H t d.row := SqT.of ht
    have gm : flatB d.mn = true := by
      have hall : manyVs.all flatB = true := by decide
      exact List.all_eq_true.mp hall _ told.m
    have good : ∀ (H' : Hp) (u : V), u = .str d.nm ∨ u = .int d.a ∨ u = .int d.b ∨ u = d.mn → GoodV K H' u := fun H' u hu => by
      rcases hu with rfl | rfl | rfl | rfl
      · exact goodFlat hf
      · exact goodFlat rfl
      · exact goodFlat rfl
      · exact goodFlat gm
    refine ⟨_, rfl, t, _, 0, _, rfl, rfl, hT, rfl, rfl, _, rfl, ?_⟩
    rcases form_cases told.f with e | e | e
    · rw [decide_eq_true (show V.str d.fm = V.str "still" by rw [e])]
      refine iteT ⟨_, rfl, t, _, 1, _, rfl, rfl, hT, rfl, _, rfl, t, _, 2, _, rfl, rfl, hT, rfl, _, rfl, t, _, 4, _, rfl, rfl, hT, rfl, fun x dx nx ndx ne => ?_⟩
      have dn : dueS [.str d.nm, .int d.a, d.mn] = none := dueC_ok hn (fun p hp => by rw [List.mem_singleton.mp hp]; exact cnt_int told.a1) (many_ok told.m)
      refine ⟨x, dx, [.str d.nm, .int d.a, d.mn], rfl, rfl, upd_same, fun v hv => good _ _ (by simp at hv; rcases hv with h | h | h <;> simp [h]), fun _ H' hx hb => ⟨rfl, ?_⟩, fun wd hd => by rw [dn] at hd; cases hd⟩
      exact k x H' (But.made nx ndx hb) nx (.kind kS hx (nameS _ _ _))
    · rw [decide_eq_false (fun z => nas (by rw [← e]; exact V.str.inj z))]
      refine iteF ⟨_, rfl, t, _, 0, _, rfl, rfl, hT, rfl, rfl, _, rfl, ?_⟩
      rw [decide_eq_true (show V.str d.fm = V.str "anew" by rw [e])]
      refine iteT ⟨_, rfl, t, _, 1, _, rfl, rfl, hT, rfl, _, rfl, t, _, 2, _, rfl, rfl, hT, rfl, _, rfl, t, _, 4, _, rfl, rfl, hT, rfl, fun x dx nx ndx ne => ?_⟩
      have dn : dueA [.str d.nm, .int d.a, d.mn] = none := dueC_ok hn (fun p hp => by rw [List.mem_singleton.mp hp]; exact cnt_int told.a1) (many_ok told.m)
      refine ⟨x, dx, [.str d.nm, .int d.a, d.mn], rfl, rfl, upd_same, fun v hv => good _ _ (by simp at hv; rcases hv with h | h | h <;> simp [h]), fun _ H' hx hb => ⟨rfl, ?_⟩, fun wd hd => by rw [dn] at hd; cases hd⟩
      exact k x H' (But.made nx ndx hb) nx (.kind kA hx (nameA _ _ _))
    · rw [decide_eq_false (fun z => nls (by rw [← e]; exact V.str.inj z))]
      refine iteF ⟨_, rfl, t, _, 0, _, rfl, rfl, hT, rfl, rfl, _, rfl, ?_⟩
      rw [decide_eq_false (fun z => nla (by rw [← e]; exact V.str.inj z))]
      refine iteF ⟨_, rfl, t, _, 1, _, rfl, rfl, hT, rfl, _, rfl, t, _, 2, _, rfl, rfl, hT, rfl, _, rfl, t, _, 3, _, rfl, rfl, hT, rfl, _, rfl, t, _, 4, _, rfl, rfl, hT, rfl, fun x dx nx ndx ne => ?_⟩
      have dn : dueL [.str d.nm, .int d.a, .int d.b, d.mn] = none := dueC_ok hn (fun p hp => by
        rcases List.mem_cons.mp hp with rfl | hp
        · exact cnt_int told.a1
        · rw [List.mem_singleton.mp hp]
          exact cnt_int (told.b1 e)) (many_ok told.m)
      refine ⟨x, dx, [.str d.nm, .int d.a, .int d.b, d.mn], rfl, rfl, upd_same, fun v hv => good _ _ (by simp at hv; rcases hv with h | h | h | h <;> simp [h]), fun _ H' hx hb => ⟨rfl, ?_⟩, fun wd hd => by rw [dn] at hd; cases hd⟩
      exact k x H' (But.made nx ndx hb) nx (.kind kL hx (nameL _ _ _ _))
abbrev sSize : Stmt := (top 45)
theorem sc_size : FnScope ["_law_value"] ["_law_value"] (C8.fnScope sSize) := C8.fnScope_by (by decide +kernel)
theorem cal_size {f : Addr} {fd : FuncData} (F : C8.Def K mg "_law_is_size" sSize f fd) (df : fd.defaults = .none) (mIsi : mg "isinstance" = none) (mInt : mg "int" = none) (mBool : mg "bool" = none) : C8.Cal P w K mg base 1 "_law_is_size" (spSizeT K) [] := by
  refine C8.cal0 F (C8.Fun.binds F.fn df (ps := ["_law_value"]) fun _ _ _ _ _ _ us hl => match us, hl with | [_], _ => rfl) .nil sc_size (fun vs H Q E h => ?_) (fun cdv A outer s H vs Q E hr h => ?_)
  · obtain ⟨v, rfl, _⟩ := h
    rfl
  · obtain ⟨v, rfl, ⟨k, ty⟩, q⟩ := h
    have ce := cnt_eq ty
    obtain ⟨⟨t, tx, t1, t2, t3, t4, t5⟩, i1, _⟩ := id ty
    refine ⟨_, (pss_one (ps_ret (pe_and (pe_callB call_isi (by rfl) mIsi PyProof.Rows.boot_isinstance (pa_cons (pv 0) (pa_cons (pe_bltn (v := .ty "int") (by rfl) mInt PyProof.Rows.boot_int rfl) pa_nil)))
      (pe_and (pe_not (pe_callB call_isi (by rfl) mIsi PyProof.Rows.boot_isinstance (pa_cons (pv 0) (pa_cons (pe_bltn (v := .ty "bool") (by rfl) mBool PyProof.Rows.boot_bool rfl) pa_nil)))) (pe_one (pe_cmpR op_ge (pv 0) pe_int (nomark _))))))), ?_⟩
    refine ⟨_, rfl, _, _, t, _, _, rfl, .ty _, tx, t1, _, rfl, ?_⟩
    rw [← ce] at q
    by_cases e : k = .int
    · obtain ⟨i, rfl⟩ := i1 e
      subst e
      refine iteT ⟨_, rfl, _, _, t, _, _, rfl, .ty _, tx, t2, _, rfl, _, rfl, iteT ⟨_, rfl, _, _, rfl, rfl, ?_⟩⟩
      exact q
    · rw [decide_eq_false e] at q
      cases k <;> first | exact absurd rfl e | exact iteF q | exact iteT ⟨_, rfl, _, _, t, _, _, rfl, .ty _, tx, t2, _, rfl, _, rfl, iteF q⟩
end
end Ts

namespace Ts
open PySem L2
theorem scal_optv (o p : Option Str) : scal (optV o) (optV p) = true := by cases o <;> cases p <;> rfl
section
variable {P : Program} {w : World} {K : PySem.W.Frag} {mg : Str → Option Value} {base : Heap}
abbrev sLRests : Stmt := (top 46)
abbrev nLRests : List Str := ["_law_value", "_law_spot", "_law_one"]
theorem sc_lRests : FnScope nLRests ["_law_value"] (C8.fnScope sLRests) := C8.fnScope_by (by decide +kernel)
set_option maxHeartbeats 1000000 in
theorem cal_lRests {f : Addr} {fd : FuncData} (F : C8.Def K mg "_law_are_rests" sLRests f fd) (df : fd.defaults = .none) (mIsi : mg "isinstance" = none) (mInt : mg "int" = none) (mBool : mg "bool" = none) (mList : mg "list" = none) (mTup : mg "tuple" = none) (mLen : mg "len" = none) (mEnum : mg "enumerate" = none) : C8.Cal P w K mg base 1 "_law_are_rests" (spAreRests K) [] := by
  refine C8.cal0 F (C8.Fun.binds F.fn df (ps := ["_law_value"]) fun _ _ _ _ _ _ us hl => match us, hl with | [_], _ => rfl) .nil sc_lRests (fun vs H Q E h => ?_) (fun cdv A outer s H vs Q E hr h => ?_)
  · obtain ⟨v, r, rfl, _⟩ := h
    rfl
  · obtain ⟨v, r, rfl, hv, k⟩ := h
    refine ⟨_, (pss_cons (ps_if (PW.pt (pw_or (pt_not (pt_val (pe_callB call_isiT (by rfl) mIsi PyProof.Rows.boot_isinstance (pa_cons (pv 0) (pa_cons (pe_tup (pa_cons (pe_bltn (v := .ty "list") (by rfl) mList PyProof.Rows.boot_list rfl) (pa_cons (pe_bltn (v := .ty "tuple") (by rfl) mTup PyProof.Rows.boot_tuple rfl) pa_nil))) pa_nil)))))
          (pw_or1 (pt_cmpR op_gt (pe_callB call_len_seq (by rfl) mLen PySem.boot_len (pa_cons (pv 0) pa_nil)) pe_int (nomark _))))) (pss_one (ps_ret pe_bl)) pss_nil)
        (pss_cons (ps_for PassesOwn.never rfl (pi_enumQ (by rfl) mEnum (pa_cons (pv 0) pa_nil)) (pg_tup rfl (pgs_cons (pg_name (i := 1) sc_lRests.nd rfl (Or.inl rfl)) (pgs_cons (pg_name (i := 2) sc_lRests.nd rfl (Or.inl rfl)) pgs_nil)))
          (pss_one (ps_if (PW.pt (pw_or (pt_val (pe_callB call_isi (by rfl) mIsi PyProof.Rows.boot_isinstance (pa_cons (pv 2) (pa_cons (pe_bltn (v := .ty "bool") (by rfl) mBool PyProof.Rows.boot_bool rfl) pa_nil))))
              (pw_or (pt_not (pt_val (pe_callB call_isi (by rfl) mIsi PyProof.Rows.boot_isinstance (pa_cons (pv 2) (pa_cons (pe_bltn (v := .ty "int") (by rfl) mInt PyProof.Rows.boot_int rfl) pa_nil)))))
              (pw_or (pt_not (pt_chain op_le op_lt pe_int (pv 2) pe_int))
              (pw_or1 (pt_cmpR op_in_seq (pv 2) (pe_slice (SlR.or sl_list sl_tup) (pv 0) po_none (po_some (pv 1))) (by rfl))))))) (pss_one (ps_ret pe_bl)) pss_nil)))
        (pss_one (ps_ret pe_bl)))), ?_⟩
    refine ⟨_, rfl, (by show 2 ≤ sizeLine; decide), fun p0 hp0 => ?_⟩
    obtain ⟨H1, e1, s1, a1⟩ := grown (.tup [.ty "list", .ty "tuple"]) hp0
    rw [e1]
    cases hv with
    | @no _ kk ty nl nt =>
      obtain ⟨⟨t, tx, t1, t2, t3, t4, t5⟩, _, _⟩ := ty.same s1
      have ka : PySem.W.kitAny K t [.type "list", .type "tuple"] = some false := by
        simp only [PySem.W.kitAny, t4, t5, nl, nt]
      exact ⟨v, p0, _, t, [.type "list", .type "tuple"], _, rfl, a1, .cons (.ty _) (.cons (.ty _) .nil), tx, ka, _, rfl, iteT (iteT (k H1 s1))⟩
    | @seq a xs hS hl hA =>
      obtain ⟨kk, ty, hk⟩ : ∃ k, TyV K H (.ref a) k ∧ (k.inL || k.inT) = true := by
        rcases hS with h | h
        · exact ⟨_, tyV_list h, rfl⟩
        · exact ⟨_, tyV_tup h, rfl⟩
      obtain ⟨⟨t, tx, t1, t2, t3, t4, t5⟩, _, _⟩ := ty.same s1
      have ka : PySem.W.kitAny K t [.type "list", .type "tuple"] = some true := by
        simp only [PySem.W.kitAny, t4, t5]
        cases kk <;> first | rfl | exact absurd hk (by decide)
      have hS1 := hS.same s1
      refine ⟨_, p0, _, t, [.type "list", .type "tuple"], _, rfl, a1, .cons (.ty _) (.cons (.ty _) .nil), tx, ka, _, rfl, iteF ?_⟩
      refine ⟨_, rfl, a, xs, rfl, hS1.symm.symm, _, _, rfl, rfl, _, rfl, ?_⟩
      by_cases e6 : (6 : Int) < (xs.length : Int)
      · rw [decide_eq_true e6]
        have := k H1 s1
        rw [show restsO (some xs) = false by
          show (xs.all restI && (_ && decide (xs.length < 7))) = false
          rw [decide_eq_false (show ¬ xs.length < 7 by omega), Bool.and_false, Bool.and_false]] at this
        exact iteT this
      · rw [decide_eq_false e6]
        refine iteF ⟨_, rfl, a, xs, rfl, hS1, fun J G wk hG => ?_⟩
        refine for_it wk (fun i σ H' => ∃ (v1 v2 : Option V), σ = [some (.ref a), v1, v2] ∧ Same H1 H' ∧ (xs.take i).all restI = true ∧ ((xs.take i).map valI).Nodup) ⟨_, _, rfl, Same.refl _, rfl, List.nodup_nil⟩
          (fun i σ H' _ ⟨_, _, _, s2, _⟩ => hG _ (fun h => s2.seq h) (fun h => Same.sqt s2 h)) ?_ ?_
        · rintro i y σ H2 H3 hi ⟨v1, v2, rfl, s2, pa, pn⟩ ⟨T1, x1, y1, rfl, nT, rfl, ex, hy⟩
          cases ex
          obtain ⟨H4, eH4, s4, a4⟩ := grown (.tup [.int (i : Int), y1]) nT
          rw [eH4]
          have s14 := s2.trans s4
          have s04 := s1.trans s14
          obtain ⟨ky, ty1⟩ := (hA y1 (at_mem hy)).same s04
          obtain ⟨⟨u, ux, u1, u2, u3, u4, u5⟩, ui, _⟩ := id ty1
          have no : ∀ H', Same H4 H' → restsL xs = false → Q (.bl false) H' := fun H' s' hb => by
            have := k H' (s04.trans s')
            rw [show restsO (some xs) = restsL xs from rfl, hb] at this
            exact this
          refine ⟨T1, _, rfl, SqT.of a4, rfl, _, _, rfl, _, _, rfl, rfl, ?_⟩
          refine ⟨_, rfl, _, _, u, _, _, rfl, .ty _, ux, u2, _, rfl, ?_⟩
          have notint : ky ≠ .int → restI y1 = false := fun ne => by
            cases y1 with
            | int q =>
              cases ux with
              | base hb =>
                cases hb
                rw [kit_ty (a := "int") (b := "int") (r := true) (by decide +kernel)] at u1
                rw [kit_ty (a := "int") (b := "bool") (r := false) (by decide +kernel)] at u2
                cases ky <;> first | exact absurd rfl ne | exact absurd u1 (by decide) | exact absurd u2 (by decide)
            | _ => rfl
          by_cases eI : ky = .int
          · obtain ⟨q, rfl⟩ := ui eI
            subst eI
            refine iteF ⟨_, rfl, _, _, u, _, _, rfl, .ty _, ux, u1, _, rfl, iteF ?_⟩
            refine ⟨_, rfl, _, _, rfl, rfl, _, rfl, ?_⟩
            have out : restI (.int q) = false → restsL xs = false := fun h => rests_bad hy (.inl h)
            by_cases q0 : 0 ≤ q
            · rw [decide_eq_true q0]
              refine iteT ⟨_, _, rfl, rfl, _, rfl, ?_⟩
              by_cases q7 : q < 7
              · rw [decide_eq_true q7]
                refine iteF ?_
                have okq : restI (.int q) = true := by simp [restI, q0, q7]
                have ep := rest_ints pa
                have inn : inV (.int q) (xs.take i) = decide (q ∈ (xs.take i).map valI) := by
                  conv => lhs; rw [ep]
                  exact in_ints _ _
                have fl : (xs.take i).all flatV = true := by
                  rw [ep]
                  exact flat_int _
                have bad : inV (.int q) (xs.take i) = true → restsL xs = false := fun hb => by
                  rw [inn] at hb
                  exact rests_bad hy (.inr ⟨okq, of_decide_eq_true hb⟩)
                have go : ∀ H5, Same H4 H5 → inV (.int q) (xs.take i) = false → ∃ (w1 w2 : Option V), [some (V.ref a), some (V.int (i : Int)), some (V.int q)] = [some (V.ref a), w1, w2] ∧ Same H1 H5 ∧ (xs.take (i + 1)).all restI = true ∧ ((xs.take (i + 1)).map valI).Nodup := fun H5 s5 hb => by
                  rw [inn] at hb
                  have nin := of_decide_eq_false hb
                  refine ⟨_, _, rfl, s14.trans s5, ?_, ?_⟩
                  · rw [take_snoc hy, List.all_append, pa]
                    simp [okq]
                  · rw [take_snoc hy, List.map_append, List.nodup_append]
                    refine ⟨pn, by simp, fun z hz z2 hz2 e => nin ?_⟩
                    have : z2 = q := by simpa [valI] using hz2
                    rw [← this, ← e]
                    exact hz
                have hil := at_lt hy
                refine ⟨_, rfl, _, rfl, _, rfl, _, rfl, ?_⟩
                rcases hS with hS' | hS'
                · refine .inl ⟨a, xs, rfl, s04.seq hS', fun p np => ?_⟩
                  rw [cut_toV]
                  obtain ⟨H5, eH5, s5, a5⟩ := grown (.lst (xs.take i)) np
                  rw [eH5]
                  refine ⟨p, _, rfl, .inl (SqL.of a5), rfl, fl, _, rfl, ?_⟩
                  show (if inV (.int q) (xs.take i) = true then _ else _)
                  cases eb : inV (.int q) (xs.take i) with
                  | true => exact iteT (no H5 s5 (bad eb))
                  | false => exact iteF (go H5 s5 eb)
                · refine .inr ⟨a, xs, rfl, Same.sqt s04 hS', ?_, fun p np => ?_⟩
                  · rintro ⟨_, h⟩
                    rw [HT.sIx_nat] at h
                    omega
                  rw [cut_toV]
                  obtain ⟨H5, eH5, s5, a5⟩ := grown (.tup (xs.take i)) np
                  rw [eH5]
                  refine ⟨p, _, rfl, .inr (SqT.of a5), rfl, fl, _, rfl, ?_⟩
                  show (if inV (.int q) (xs.take i) = true then _ else _)
                  cases eb : inV (.int q) (xs.take i) with
                  | true => exact iteT (no H5 s5 (bad eb))
                  | false => exact iteF (go H5 s5 eb)
              · rw [decide_eq_false q7]
                exact iteT (no H4 (Same.refl _) (out (by simp [restI, q7])))
            · rw [decide_eq_false q0]
              exact iteF ⟨_, rfl, iteT (no H4 (Same.refl _) (out (by simp [restI, q0])))⟩
          · have hb := rests_bad hy (.inl (notint eI))
            cases ky <;> first | exact absurd rfl eI | exact iteT (no H4 (Same.refl _) hb) | exact iteF ⟨_, rfl, _, _, u, _, _, rfl, .ty _, ux, u1, _, rfl, iteT (no H4 (Same.refl _) hb)⟩
        · rintro σ H2 ⟨v1, v2, rfl, s2, pa, pn⟩
          rw [List.take_length] at pa pn
          have := k H2 (s1.trans s2)
          rw [show restsO (some xs) = true by
            show (xs.all restI && (decide _ && decide (xs.length < 7))) = true
            rw [pa, decide_eq_true pn, decide_eq_true (show xs.length < 7 by omega)]
            rfl] at this
          exact this
abbrev sHeard : Stmt := (top 47)
abbrev nHeard : List Str := ["_law_given", "_law_found", "e"]
theorem sc_heard : FnScope nHeard ["_law_given"] (C8.fnScope sHeard) := C8.fnScope_by (by decide +kernel)
theorem cal_heard {f CI CT CR C CK : Addr} {fd : FuncData} (F : C8.Def K mg "_law_heard" sHeard f fd) (df : fd.defaults = .none) (T : ErrR K mg CI CT CR) (mIsi : mg "isinstance" = none)
    (mR : MakX P w K mg base 3 "Rule" C (spRule K C CI CK) []) : C8.Cal P w K mg base 5 "_law_heard" (spHeardR K CK) [] := by
  refine C8.cal0 F (C8.Fun.binds F.fn df (ps := ["_law_given"]) fun _ _ _ _ _ _ us hl => match us, hl with | [_], _ => rfl) .nil sc_heard (fun vs H Q E h => ?_) (fun cdv A outer s H vs Q E hr h => ?_)
  · obtain ⟨g, l, rv, c, kv, r, ks, rfl, _⟩ := h
    rfl
  · obtain ⟨g, l, rv, c, kv, r, ks, rfl, hS, hl, hR, hc, hK, k⟩ := h
    refine ⟨_, (pss_cons (ps_set (i := 1) sc_heard.nd rfl (Or.inl rfl) pe_non)
        (pss_cons (ps_try_as (i := 2) rfl rfl sc_heard.nd rfl rfl ⟨rfl, by decide, .inl T.gI⟩ takes0
        (fun W pn xe tk _ => (pss_one (ps_expr (pe_mkX mR hr (by decide) (passesN 3 tk rfl) (by rfl) (pa_cons (pe_ix (show IxR _ (rIxL K) from ix_list) (pv 0) pe_int (fun _ _ => rfl)) (pa_cons (pe_ix (show IxR _ (rIxL K) from ix_list) (pv 0) pe_int (fun _ _ => rfl)) (pa_cons (pe_ix (show IxR _ (rIxL K) from ix_list) (pv 0) pe_int (fun _ _ => rfl)) (pa_cons (pe_ix (show IxR _ (rIxL K) from ix_list) (pv 0) pe_int (fun _ _ => rfl)) pa_nil))))))))
        (fun a oe cls d pn hz hf => (pss_one (ps_set (i := 1) sc_heard.nd rfl (Or.inl rfl) (pe_ifExp
            (PW.pt (pw_and (pt_val (pe_callB (r := rIsD K CI a cls d) (call_isD T.ec hz hf) (by rfl) mIsi PyProof.Rows.boot_isinstance (pa_cons (pv 2) (pa_cons (pe_glob (v := .ref CT) (by rfl) T.gT rfl) pa_nil))))
              (pw_and1 (pt_not (pt_val (pe_callB (r := rIsD K CI a cls d) (call_isD T.ec hz hf) (by rfl) mIsi PyProof.Rows.boot_isinstance (pa_cons (pv 2) (pa_cons (pe_glob (v := .ref CR) (by rfl) T.gR rfl) pa_nil))))))))
            (pe_xf T.xf T.no hz hf (pv 2)) pe_str)))))
        (pss_one (ps_ret (pv 1))))), ?_⟩
    have suite : ∀ (σ : L2.St) (wd : Str) (H' : Hp) (d : Addr), σ.length = 3 → dueR l r c ks = some wd → Same H H' → H' d = some (.xd [("word", .str wd)]) →
        wAs K (.ref CI) 2 (fun a cls d => tAsg (tIf (tAnd (tB (tCB (rIsD K CI a cls d) (tCons (tVar 2) (tCons (tC (.ref CT)) tNil)))) (tNot (tB (tCB (rIsD K CI a cls d) (tCons (tVar 2) (tCons (tC (.ref CR)) tNil)))))) (tXf a cls d CI "word" (tVar 2)) (tC (.str "other"))) (gName 1)) (fun _ _ _ _ => False)
          { nx := fun σ' H' => ∃ v, σ'[1]? = some (some v) ∧ Q v H', rt := Q } (.ref CI) (some d) σ H' := by
      intro σ wd H' d hσ hd s1 hx
      match σ, hσ with
      | [x0, x1, x2], _ =>
        refine ⟨true, T.te, fun _ a na => ?_, fun z => nomatch z⟩
        refine ⟨_, rfl, _, _, true, d, _, rfl, (fun u r => r), rfl, rfl, hx, T.k1, _, rfl, iteT ?_⟩
        refine ⟨_, rfl, _, _, false, d, _, rfl, (fun u r => r), rfl, rfl, hx, T.k2, _, rfl, iteT ?_⟩
        refine ⟨_, rfl, rfl, rfl, d, _, .str wd, rfl, hx, ?_, ?_⟩
        · simp [List.lookup]
        · refine ⟨_, rfl, ?_⟩
          have := k H' s1
          rw [hd] at this
          exact this
    refine ⟨_, rfl, g, _, 0, l, rfl, rfl, hS, rfl, _, rfl, g, _, 1, rv, rfl, rfl, hS, rfl, _, rfl, g, _, 2, c, rfl, rfl, hS, rfl, _, rfl, g, _, 3, kv, rfl, rfl, hS, rfl, fun x dx nx ndx ne => ?_⟩
    have sm := Same.made (C := C) nx ndx
    refine ⟨x, dx, l, rv, c, kv, r, ks, rfl, upd_same, hl.same sm, hR.same sm, hc.same sm, hK.same sm, fun hd xs ys os er ek H' ra ka na rs _ _ hx _ _ _ hb => ⟨rfl, ?_⟩, fun wd hd H' dd s1 hx σ hσ => ?_⟩
    · refine ⟨_, rfl, ?_⟩
      have := k H' (But.made nx ndx hb)
      rw [hd] at this
      exact this
    · exact suite σ wd H' dd hσ hd (sm.trans s1) hx
abbrev sDue : Stmt := (top 48)
theorem sc_due : FnScope ["_law_given"] ["_law_given"] (C8.fnScope sDue) := C8.fnScope_by (by decide +kernel)
theorem cal_due {f : Addr} {fd : FuncData} (F : C8.Def K mg "_law_due" sDue f fd) (df : fd.defaults = .none) (cZ : C8.Cal P w K mg base 1 "_law_is_size" (spSizeT K) []) (cR : C8.Cal P w K mg base 1 "_law_are_rests" (spAreRests K) []) : C8.Cal P w K mg base 2 "_law_due" (spDueR K) [] := by
  refine C8.cal0 F (C8.Fun.binds F.fn df (ps := ["_law_given"]) fun _ _ _ _ _ _ us hl => match us, hl with | [_], _ => rfl) .nil sc_due (fun vs H Q E h => ?_) (fun cdv A outer s H vs Q E hr h => ?_)
  · obtain ⟨g, l, rv, c, kv, r, rfl, _⟩ := h
    rfl
  · obtain ⟨g, l, rv, c, kv, r, rfl, hS, hl, hR, hc, k⟩ := h
    have IX := fun (i : Nat) => i
    refine ⟨_, (pss_cons (ps_if (pt_not (pt_val (C8.pe_c cZ hr (by decide) (by rfl) (pa_cons (pe_ix ix_list (pv 0) pe_int (fun _ _ => rfl)) pa_nil)))) (pss_one (ps_ret pe_str)) pss_nil)
        (pss_cons (ps_if (pt_not (pt_val (C8.pe_c cR hr (by decide) (by rfl) (pa_cons (pe_ix ix_list (pv 0) pe_int (fun _ _ => rfl)) pa_nil)))) (pss_one (ps_ret pe_str)) pss_nil)
        (pss_one (ps_ret (pe_ifExp (PW.pt (pw_and (pt_cmpR op_notN (pe_ix ix_list (pv 0) pe_int (fun _ _ => rfl)) pe_non (nomark _)) (pw_and1 (pt_not (pt_val (C8.pe_c cZ hr (by decide) (by rfl) (pa_cons (pe_ix ix_list (pv 0) pe_int (fun _ _ => rfl)) pa_nil))))))) pe_str pe_non))))), ?_⟩
    refine ⟨_, rfl, g, _, 0, l, rfl, rfl, hS, rfl, l, rfl, hl, _, rfl, ?_⟩
    cases e1 : cntV l with
    | false =>
      have := k H (Same.refl _)
      rw [show dueR3 l r c = some "length" by simp [dueR3, e1]] at this
      exact iteT this
    | true =>
      refine iteF ⟨_, rfl, g, _, 1, rv, rfl, rfl, hS, rfl, rv, r, rfl, hR, fun H1 s1 => ⟨_, rfl, ?_⟩⟩
      cases e2 : restsO r with
      | false =>
        have := k H1 s1
        rw [show dueR3 l r c = some "rests" by simp [dueR3, e1, e2]] at this
        exact iteT this
      | true =>
        refine iteF ⟨_, rfl, g, _, 2, c, rfl, rfl, s1.seq hS, rfl, rfl, _, rfl, ?_⟩
        have fin := k H1 s1
        by_cases z : c = .non
        · rw [decide_eq_true z]
          rw [show dueR3 l r c = none by simp [dueR3, e1, e2, z]] at fin
          exact iteF (iteF fin)
        · rw [decide_eq_false z]
          refine iteT ⟨_, rfl, g, _, 2, c, rfl, rfl, s1.seq hS, rfl, c, rfl, hc.same s1, _, rfl, ?_⟩
          cases e3 : cntV c with
          | false =>
            rw [show dueR3 l r c = some "cap" by simp [dueR3, e1, e2, z, e3]] at fin
            exact iteT fin
          | true =>
            rw [show dueR3 l r c = none by simp [dueR3, e1, e2, e3]] at fin
            exact iteF fin
end
end Ts

namespace Ts
open PySem L2
section
variable {P : Program} {w : World} {K : PySem.W.Frag} {mg : Str → Option Value} {base : Heap}
abbrev sLaw : Stmt := (top 49)
abbrev nLaw : List Str := ["_law_script", "_law_deal_here", "_law_a", "_law_b", "_law_turn", "_law_told", "_law_given", "_law_odd", "_law_more", "_law_bent", "_law_spot", "_law_wrong", "_law_some", "_law_one"]
theorem sc_law : FnScope nLaw ["_law_script"] (C8.fnScope sLaw) := C8.fnScope_by (by decide +kernel)
structure NoG (mg : Str → Option Value) : Prop where
  range : mg "range" = none
  list : mg "list" = none
set_option maxHeartbeats 4000000 in
theorem fn_law {f CS CA CL CI CK : Addr} {fd : FuncData} (F : C8.Fun K "law" "law" sLaw f fd) (G : NoG mg) (NK : NoKd K CK) (kS : KCls K CK CS) (kA : KCls K CK CA) (kL : KCls K CK CL) (cDeal : C8.Cal P w K mg base 1 "_law_deal" (spDeal K) []) (cDraw : C8.Cal P w K mg base 1 "_law_draw" spDraw []) (cPick : C8.Cal P w K mg base 2 "_law_pick" (spPick K) []) (cMix : C8.Cal P w K mg base 2 "_law_mixed" (spMixed K) [])
    (cRuleD : C8.Cal P w K mg base 4 "_law_rule" (spRuleD K) []) (cKM : C8.Cal P w K mg base 6 "_law_kind_made" (spKMade K CK) []) (cA : C8.Cal P w K mg base 9 "_law_any" (spAnyD K 6) []) (cH : C8.Cal P w K mg base 5 "_law_heard" (spHeardR K CK) []) (cU : C8.Cal P w K mg base 2 "_law_due" (spDueR K) [])
    (mS1 : MakX P w K mg base 4 "Still" CS (spKind K CS CI 3 dueS fsS) [.non]) (mA1 : MakX P w K mg base 4 "Anew" CA (spKind K CA CI 3 dueA fsA) [.non]) (mL : MakX P w K mg base 4 "Lift" CL (spKind K CL CI 4 dueL fsL) []) : FnOk P w K mg base C8.CX0 10 f fd ["_law_script"] (spLaw K) := by
  refine C8.fn0 F sc_law (fun vs H Q E h => ?_) (fun cdv A outer s H vs Q E hr h => ?_)
  · obtain ⟨a, ns, rfl, _⟩ := h
    rfl
  · obtain ⟨a, ns, rfl, hS, hl, k⟩ := h
    refine ⟨_, (pss_cons (ps_set (i := 1) sc_law.nd rfl (Or.inl rfl) (C8.pe_c cDeal hr (by decide) (by rfl) (pa_cons (pv 0) pa_nil)))
        (pss_cons (ps_par (i := 2) (j := 3) (by rfl) sc_law.nd rfl rfl (by decide) rfl rfl (pa_cons (pe_mkX mS1 hr (by decide) passL (by rfl) (pa_cons pe_str (pa_cons pe_int pa_nil))) (pa_cons (pe_mkX mL hr (by decide) passL (by rfl) (pa_cons pe_str (pa_cons pe_int (pa_cons pe_int (pa_cons pe_int pa_nil))))) pa_nil)) (by rfl))
        (pss_cons (ps_for PassesOwn.never rfl (pi_range1 (by rfl) G.range (pa_cons pe_int pa_nil)) (pg_name (i := 4) sc_law.nd rfl (Or.inl rfl)) (pss_cons (ps_set (i := 5) sc_law.nd rfl (Or.inl rfl) (C8.pe_c cRuleD hr (by decide) (by rfl) (pa_cons (pv 1) (pa_cons pe_int (pa_cons pe_int pa_nil)))))
        (pss_cons (ps_set (i := 6) sc_law.nd rfl (Or.inl rfl) (pe_lst (pa_cons (pe_ix ix_tup (pv 5) pe_int (fun _ _ => rfl)) (pa_cons (pe_ix ix_tup (pv 5) pe_int (fun _ _ => rfl)) (pa_cons (pe_ix ix_tup (pv 5) pe_int (fun _ _ => rfl)) (pa_cons (pe_lc (own := [("_law_one", 13)]) (g := gName 13) (by rfl) sc_law.nd (pi_list (pe_ix ix_tup (pv 5) pe_int (fun _ _ => rfl))) (blkOk_by (own := [("_law_one", 13)]) (N := nLaw) (sc := C8.fnScope sLaw) (by decide +kernel)) (fun _ _ _ _ _ => pg_name (i := 13) sc_law.nd rfl (Or.inl rfl)) (fun _ _ _ _ _ => pts_nil) (fun _ _ _ _ _ => (C8.pe_c cKM hr (by decide) (by rfl) (pa_cons (pv 13) pa_nil)))) pa_nil))))))
        (pss_cons (ps_if (pt_cmpR op_notN (C8.pe_c cH hr (by decide) (by rfl) (pa_cons (pv 6) pa_nil)) pe_non (nomark _)) (pss_one (ps_ret pe_bl)) pss_nil)
        (pss_cons (ps_set (i := 7) sc_law.nd rfl (Or.inl rfl) (pe_lst (pa_cons pe_int (pa_cons (pe_un un_neg pe_int) (pa_cons pe_bl (pa_cons pe_str (pa_cons (pe_tup (pa_cons pe_int (pa_cons pe_int pa_nil))) (pa_cons (pe_lst (pa_cons pe_int pa_nil)) (pa_cons (pe_lst (pa_cons pe_int (pa_cons (pe_un un_neg pe_int) pa_nil))) (pa_cons (pe_lst (pa_cons pe_int (pa_cons pe_str pa_nil))) (pa_cons (pe_lst (pa_cons pe_bl pa_nil)) (pa_cons (pe_listRg (by rfl) (by rfl) G.list (prg_1 (by rfl) G.range pe_int)) (pa_cons pe_non (pa_cons pe_str pa_nil))))))))))))))
        (pss_cons (ps_for PassesOwn.never rfl (pi_range1 (by rfl) G.range (pa_cons pe_int pa_nil)) (pg_name (i := 8) sc_law.nd rfl (Or.inl rfl)) (pss_cons (ps_set (i := 9) sc_law.nd rfl (Or.inl rfl) (pe_callTy call_list_of (by rfl) G.list PyProof.Rows.boot_list (pa_cons (pv 6) pa_nil)))
        (pss_cons (ps_for PassesOwn.never rfl (pi_list (pe_slice sl_list (C8.pe_c cMix hr (by decide) (by rfl) (pa_cons (pv 1) (pa_cons (pe_lst (pa_cons pe_int (pa_cons pe_int (pa_cons pe_int pa_nil)))) pa_nil))) po_none (po_some (pe_op op_add pe_int (C8.pe_c cDraw hr (by decide) (by rfl) (pa_cons (pv 1) (pa_cons pe_int pa_nil))))))) (pg_name (i := 10) sc_law.nd rfl (Or.inl rfl)) (pss_one (ps_asg (pe_ifExp (pt_cmpR op_gt (C8.pe_c cDraw hr (by decide) (by rfl) (pa_cons (pv 1) (pa_cons pe_int pa_nil))) pe_int (nomark _)) (C8.pe_c cPick hr (by decide) (by rfl) (pa_cons (pv 1) (pa_cons (pv 7) pa_nil))) (C8.pe_c cA hr (by decide) (by rfl) (pa_cons (pv 1) (pa_cons pe_int pa_nil)))) (pg_sub (pv 9) (pv 10) set_list))))
        (pss_cons (ps_if (PW.pt (pw_and (pt_cmpR op_isN (C8.pe_c cU hr (by decide) (by rfl) (pa_cons (pv 9) pa_nil)) pe_non (nomark _)) (pw_and (pt_cmpR op_notN (pe_ix ix_list (pv 9) pe_int (fun _ _ => rfl)) pe_non (nomark _)) (pw_and1 (pt_cmpR op_gt (pe_ix ix_list (pv 9) pe_int (fun _ _ => rfl)) (pe_op op_add (pe_ix ix_list (pv 9) pe_int (fun _ _ => rfl)) pe_int) (nomark _)))))) (pss_one ps_continue) pss_nil)
        (pss_one (ps_if (pt_cmpR op_ne (C8.pe_c cH hr (by decide) (by rfl) (pa_cons (pv 9) pa_nil)) (C8.pe_c cU hr (by decide) (by rfl) (pa_cons (pv 9) pa_nil)) (nomark _)) (pss_one (ps_ret pe_bl)) pss_nil))))))
        (pss_cons (ps_set (i := 11) sc_law.nd rfl (Or.inl rfl) (pe_lst (pa_cons (pe_lst (pa_cons (pv 2) (pa_cons (pv 2) pa_nil))) (pa_cons (pe_lst (pa_cons (pv 2) (pa_cons (pe_mkX mA1 hr (by decide) passL (by rfl) (pa_cons pe_str (pa_cons pe_int pa_nil))) pa_nil))) (pa_cons (pe_tup (pa_cons (pv 2) (pa_cons pe_str pa_nil))) (pa_cons pe_non (pa_cons (pv 2) (pa_cons pe_str (pa_cons (pe_lst (pa_cons pe_non pa_nil)) (pa_cons (pe_lst (pa_cons (pe_lst (pa_cons (pv 2) pa_nil)) pa_nil)) (pa_cons (pe_tup (pa_cons (pe_tup (pa_cons (pv 2) pa_nil)) pa_nil)) (pa_cons pe_int (pa_cons (pe_lst (pa_cons (pv 3) (pa_cons (pv 2) (pa_cons (pv 3) pa_nil)))) pa_nil)))))))))))))
        (pss_cons (ps_for PassesOwn.never rfl (pi_list (pv 11)) (pg_name (i := 12) sc_law.nd rfl (Or.inl rfl)) (pss_one (ps_if (PW.pt (pw_or (pt_cmpR op_ne (C8.pe_c cH hr (by decide) (by rfl) (pa_cons (pe_op op_cat (pe_slice sl_list (pv 6) po_none (po_some pe_int)) (pe_lst (pa_cons (pv 12) pa_nil))) pa_nil)) pe_str (nomark _)) (pw_or1 (pt_cmpR op_ne (C8.pe_c cH hr (by decide) (by rfl) (pa_cons (pe_op op_cat (pe_op op_cat (pe_lst (pa_cons pe_int pa_nil)) (pe_slice sl_list (pv 6) (po_some pe_int) (po_some pe_int))) (pe_lst (pa_cons (pv 12) pa_nil))) pa_nil)) pe_str (nomark _))))) (pss_one (ps_ret pe_bl)) pss_nil)))
        (pss_one (ps_if (pt_cmpR op_notN (C8.pe_c cH hr (by decide) (by rfl) (pa_cons (pe_op op_cat (pe_slice sl_list (pv 6) po_none (po_some pe_int)) (pe_lst (pa_cons (pe_tup (pa_cons (pv 3) (pa_cons (pv 2) pa_nil))) pa_nil))) pa_nil)) pe_non (nomark _)) (pss_one (ps_ret pe_bl)) pss_nil))))))))))
        (pss_one (ps_ret (pe_and (pe_cmpR op_isN (C8.pe_c cH hr (by decide) (by rfl) (pa_cons (pe_lst (pa_cons pe_int (pa_cons (pe_lst (pa_cons pe_int (pa_cons pe_int (pa_cons pe_int (pa_cons pe_int (pa_cons pe_int (pa_cons pe_int pa_nil))))))) (pa_cons pe_int (pa_cons (pe_tup pa_nil) pa_nil))))) pa_nil)) pe_non (nomark _)) (pe_one (pe_cmpR op_eq (C8.pe_c cH hr (by decide) (by rfl) (pa_cons (pe_lst (pa_cons pe_int (pa_cons (pe_tup (pa_cons pe_int (pa_cons pe_int pa_nil))) (pa_cons pe_int (pa_cons (pe_tup pa_nil) pa_nil))))) pa_nil)) pe_str (nomark _))))))))), ?_⟩
    refine ⟨_, rfl, a, ns, rfl, hS, hl, fun D L H1 dl1 s1 D0 L0 => ?_⟩
    -- a and b
    intro xa dxa nxa ndxa _
    have dA : dueS [.str "a", .int 1, .non] = none := by decide +kernel
    refine ⟨xa, dxa, [.str "a", .int 1, .non], rfl, rfl, upd_same, fun v hv => goodAll (xs := [.str "a", .int 1, .non]) (by decide +kernel) hv, fun _ H2 hxa hba => ⟨rfl, ?_⟩, fun wd hd => by rw [dA] at hd; cases hd⟩
    have sA := But.made nxa ndxa hba
    have kna2 : KnV K CK H2 (.ref xa) (some "a") := .kind kS hxa (nameS _ _ _)
    intro xb dxb nxb ndxb _
    have dB : dueL [.str "b", .int 2, .int 3, .int 1] = none := by decide +kernel
    refine ⟨xb, dxb, [.str "b", .int 2, .int 3, .int 1], rfl, rfl, upd_same, fun v hv => goodAll (xs := [.str "b", .int 2, .int 3, .int 1]) (by decide +kernel) hv, fun _ H3 hxb hbb => ⟨rfl, ?_⟩, fun wd hd => by rw [dB] at hd; cases hd⟩
    have sB := But.made nxb ndxb hbb
    have knb3 : KnV K CK H3 (.ref xb) (some "b") := .kind kL hxb (nameL _ _ _ _)
    have kna3 := kna2.same sB
    have dl3 := (dl1.same sA).same sB
    refine ⟨_, _, rfl, ?_⟩
    refine ⟨8, rfl, by decide, by decide, for_range (lo := 0) (n := 8) (fun i σ H' => ∃ (v4 v5 v6 v7 v8 v9 v10 v11 v12 v13 : Option V), σ = [some (.ref a), some (.ref D), some (.ref xa), some (.ref xb), v4, v5, v6, v7, v8, v9, v10, v11, v12, v13] ∧ Went D L H3 H')
      ⟨_, _, _, _, _, _, _, _, _, _, rfl, Went.refl dl3⟩ ?_ ?_⟩
    · rintro i σ H4 hi ⟨v4, v5, v6, v7, v8, v9, v10, v11, v12, v13, rfl, W4⟩
      -- told
      refine ⟨_, rfl, D, L, 3, 9, rfl, W4.d, by decide, by decide, by decide, by decide, fun t rl kl sz rs hic tts ds H5 sz1 sz9 ra dsle W5 ht nt nrl nkl => ?_⟩
      have ort := off_new W4.d nrl
      have oht := off_new W4.d nt
      have hT := SqT.of (K := K) ht
      -- given
      refine ⟨_, rfl, t, _, 0, _, rfl, rfl, hT, rfl, _, rfl, t, _, 1, _, rfl, rfl, hT, rfl, _, rfl, t, _, 2, _, rfl, rfl, hT, rfl, _, rfl, t, _, 3, _, rfl, rfl, hT, rfl, kl, rfl, ⟨_, SqL.of ra.k⟩, fun kd nkd => lc_list (K := K) (a := kl) (xs := tts)
        (fun j H' => ∃ kns, H' kd = some (.lst kns) ∧ KnAll K CK H' kns ((ds.take j).map fun d => some d.nm) ∧ kns.length = j ∧ Same H5 H') ⟨[], upd_same, .nil, rfl, Same.new (Same.refl _) nkd⟩ (fun j H' _ h => by
          obtain ⟨_, _, _, _, s⟩ := h
          exact SqL.of (s _ _ ra.k)) ?_ ?_⟩
      · rintro j y H6 hy ⟨kns, g1, g2, g3, s6⟩
        have hjd : j < ds.length := by
          have := at_lt hy
          have := ra.al.1
          omega
        have hdj : ds[j]? = some ds[j] := List.getElem?_eq_getElem hjd
        have ka := (ra.al.2 j y _ hy hdj).same s6
        have okd := ra.ok _ (at_mem hdj)
        refine ⟨rfl, yes_ ⟨_, rfl, y, 9, ds[j], rfl, ka, okd.1, okd.2, fun x H7 s7 nx kn => ?_⟩⟩
        have g17 := s7 _ _ g1
        refine ⟨kns, g17, small1000 (by
          have := ra.few
          omega), kns ++ [.ref x], upd_same, ?_, by rw [List.length_append, g3]; rfl, same_upd_new (s6.trans s7) nkd⟩
        rw [List.take_add_one, hdj, List.map_append]
        exact ((g2.same s7).snoc kn).mutL g17
      · rintro H6 ⟨kns, g1, g2, g3, s6⟩
        have okd := off_new W5.d nkd
        rw [ra.al.1, List.take_length] at g2
        refine ⟨(by show 4 ≤ sizeLine; decide), fun g ng => ?_⟩
        have og := off_new (W5.d.same s6) ng
        obtain ⟨H7, eH7, s7, a7⟩ := grown (.lst [.int sz, .ref rl, hic, .ref kd]) ng
        rw [eH7]
        have s57 := s6.trans s7
        have W7 : Went D L H3 H7 := (W4.trans W5).same s57
        have rok : restsO (some (rs.map V.int)) = true := rests_seq ra.rn ra.r7 ra.rl6
        have kok := kinds_ok ra.nd kns
        have knl : kns.length ≤ 10 := by
          have := g2.1
          rw [List.length_map] at this
          rw [this]
          exact ra.few
        have kn7 := g2.same s7
        generalize (ds.map fun d => some d.nm) = os at kn7 kok
        have hr7 := s57 _ _ ra.r
        have hk7 := s7 _ _ g1
        have seqR : ∀ H', H' rl = some (.lst (rs.map V.int)) → SeqV K H' (.ref rl) (some (rs.map V.int)) := fun H' h => .seq (.inl (SqL.of h)) (by
          rw [List.length_map]
          have := ra.rl6
          omega) fun x hx => by
            obtain ⟨q, _, rfl⟩ := List.mem_map.mp hx
            exact ⟨_, tyV_int⟩
        have capF : flatB hic = true := by
          rcases ra.cap with h | h
          · rw [h]
            rfl
          · obtain ⟨q, rfl, _⟩ := cnt_isInt h
            rfl
        have capA : ∀ H', AnyV K H' hic := fun H' => (goodFlat capF).any
        have due0 := due_ok7 (hi := hic) (ks := some (kns, os)) sz1 rok ra.cap kok
        have due3 := due3_ok7 (hi := hic) sz1 rok ra.cap
        have rcap := ra.cap
        -- heard
        refine ⟨_, rfl, g, .int sz, .ref rl, hic, .ref kd, _, _, rfl, SqL.of a7, ⟨_, tyV_int⟩, seqR _ hr7, capA _, .seq (.inl (SqL.of hk7)) (by omega) kn7, fun H8 s8 => ?_⟩
        rw [due0]
        refine ⟨rfl, _, rfl, iteF ?_⟩
        have dl8 : DealAt H8 D L := W7.d.same s8
        -- odd
        refine ⟨_, rfl, (by show 2 ≤ sizeLine; decide), fun t1 nt1 => ?_⟩
        obtain ⟨G1, eG1, sG1, aG1⟩ := grown (.tup [.int 1, .int 1]) nt1
        rw [eG1]
        refine ⟨(by show 1 ≤ sizeLine; decide), fun t2 nt2 => ?_⟩
        obtain ⟨G2, eG2, sG2, aG2⟩ := grown (.lst [.int 7]) nt2
        rw [eG2]
        refine ⟨_, rfl, (by show 2 ≤ sizeLine; decide), fun t3 nt3 => ?_⟩
        obtain ⟨G3, eG3, sG3, aG3⟩ := grown (.lst [.int 0, .int (-1)]) nt3
        rw [eG3]
        refine ⟨(by show 2 ≤ sizeLine; decide), fun t4 nt4 => ?_⟩
        obtain ⟨G4, eG4, sG4, aG4⟩ := grown (.lst [.int 1, .str "2"]) nt4
        rw [eG4]
        refine ⟨(by show 1 ≤ sizeLine; decide), fun t5 nt5 => ?_⟩
        obtain ⟨G5, eG5, sG5, aG5⟩ := grown (.lst [.bl true]) nt5
        rw [eG5]
        refine ⟨7, rfl, RgOk.of_le (by decide) (by decide) (by decide) (by decide), fun t6 nt6 => ?_⟩
        obtain ⟨G6, eG6, sG6, aG6⟩ := grown (.lst (rgV 0 7)) nt6
        rw [eG6]
        refine ⟨(by show 12 ≤ sizeLine; decide), fun o no => ?_⟩
        obtain ⟨G7, eG7, sG7, aG7⟩ := grown (.lst [.int 0, .int (-1), .bl true, .str "3", .ref t1, .ref t2, .ref t3, .ref t4, .ref t5, .ref t6, .non, .str "none"]) no
        rw [eG7]
        have u5 := sG6.trans sG7
        have u4 := sG5.trans u5
        have u3 := sG4.trans u4
        have u2 := sG3.trans u3
        have u1 := sG2.trans u2
        have u0 := sG1.trans u1
        have b1 := u1 _ _ aG1
        have b2 := u2 _ _ aG2
        have b3 := u3 _ _ aG3
        have b4 := u4 _ _ aG4
        have b5 := u5 _ _ aG5
        have b6 := sG7 _ _ aG6
        have d1 := dl8.same sG1
        have d2 := d1.same sG2
        have d3 := d2.same sG3
        have d4 := d3.same sG4
        have d5 := d4.same sG5
        have d6 := d5.same sG6
        have d7 := d6.same sG7
        have offR : ∀ {p : Addr}, p ≠ D ∧ p ≠ L → OffV D L (.ref p) := fun {p} h => ⟨fun z => h.1 (V.ref.inj z), fun z => h.2 (V.ref.inj z)⟩
        have offF : ∀ {v : V}, flatB v = true → OffV D L v := fun {v} h => ⟨flat_noref h D, flat_noref h L⟩
        have oddAll : ∀ v ∈ ([.int 0, .int (-1), .bl true, .str "3", .ref t1, .ref t2, .ref t3, .ref t4, .ref t5, .ref t6, .non, .str "none"] : List V), Seq? K G7 v ∧ (∀ p, v = .ref p → ∃ u, G7 p = some u) ∧ OffV D L v := by
          have fl : ∀ v, flatB v = true → Seq? K G7 v ∧ (∀ p, v = .ref p → ∃ u, G7 p = some u) ∧ OffV D L v := fun v h => ⟨⟨_, .flat h⟩, fun p z => absurd z (flat_noref h p), offF h⟩
          intro v hv
          simp only [List.mem_cons, List.not_mem_nil, or_false] at hv
          rcases hv with rfl | rfl | rfl | rfl | rfl | rfl | rfl | rfl | rfl | rfl | rfl | rfl
          · exact fl _ rfl
          · exact fl _ rfl
          · exact fl _ rfl
          · exact fl _ (by decide +kernel)
          · exact ⟨Seq?.of (.inr (SqT.of b1)) (by decide) (by decide), fun p z => by cases z; exact ⟨_, b1⟩, offR (off_new dl8 nt1)⟩
          · exact ⟨Seq?.of (.inl (SqL.of b2)) (by decide) (by decide), fun p z => by cases z; exact ⟨_, b2⟩, offR (off_new d1 nt2)⟩
          · exact ⟨Seq?.of (.inl (SqL.of b3)) (by decide) (by decide), fun p z => by cases z; exact ⟨_, b3⟩, offR (off_new d2 nt3)⟩
          · exact ⟨Seq?.of (.inl (SqL.of b4)) (by decide) (by decide +kernel), fun p z => by cases z; exact ⟨_, b4⟩, offR (off_new d3 nt4)⟩
          · exact ⟨Seq?.of (.inl (SqL.of b5)) (by decide) (by decide), fun p z => by cases z; exact ⟨_, b5⟩, offR (off_new d4 nt5)⟩
          · exact ⟨Seq?.of (.inl (SqL.of b6)) (by decide) (by decide), fun p z => by cases z; exact ⟨_, b6⟩, offR (off_new d5 nt6)⟩
          · exact fl _ rfl
          · exact fl _ (by decide +kernel)
        have oo := off_new d6 no
        have lo : ([.int 0, .int (-1), .bl true, .str "3", .ref t1, .ref t2, .ref t3, .ref t4, .ref t5, .ref t6, .non, .str "none"] : List V).length = 12 := rfl
        generalize ([.int 0, .int (-1), .bl true, .str "3", .ref t1, .ref t2, .ref t3, .ref t4, .ref t5, .ref t6, .non, .str "none"] : List V) = odd at aG7 oddAll lo
        have su := s8.trans u0
        have wd : Wd K CK G7 D L g rl kd o xa xb sz rs hic kns os odd := {
          dl := d7, hg := su _ _ a7, hr := su _ _ hr7, hk := su _ _ hk7, kn := kn7.same su, ka := (kna3.went dl3 W7).same su, kb := (knb3.went dl3 W7).same su, ho := aG7
          ov := fun v hv => (oddAll v hv).1, oo := fun v hv => (oddAll v hv).2.1, od := fun v hv => (oddAll v hv).2.2, og := og, or := ort, ok := okd, oO := oo }
        have W8 : Went D L H3 G7 := W7.same su
        clear b1 b2 b3 b4 b5 b6 oddAll
        refine ⟨4, rfl, by decide, by decide, for_range (lo := 0) (n := 4) (fun j σ H' => ∃ (v8 v9 v10 : Option V), σ = [some (.ref a), some (.ref D), some (.ref xa), some (.ref xb), some (.int (0 + (i : Int))), some (.ref t), some (.ref g), some (.ref o), v8, v9, v10, v11, v12, v13] ∧ Went D L G7 H')
          ⟨_, _, _, rfl, Went.refl wd.dl⟩ ?_ ?_⟩
        · rintro j σ H9 hj ⟨v8', v9', v10', rfl, W9⟩
          have w9 := wd.went W9
          -- bent
          refine ⟨_, rfl, g, _, rfl, .inl (SqL.of w9.hg), fun b nb => ?_⟩
          have ob := off_new w9.dl nb
          obtain ⟨H10, eH10, s10, hb10⟩ := grown (.lst [.int sz, .ref rl, hic, .ref kd]) nb
          rw [eH10]
          have w10 := w9.same s10
          refine ⟨_, rfl, (by show 3 ≤ sizeLine; decide), fun q nq => ?_⟩
          obtain ⟨H11, eH11, s11, hq11⟩ := grown (.lst [.int 0, .int 1, .int 2]) nq
          rw [eH11]
          have w11 := w10.same s11
          have oq := off_new w10.dl nq
          refine ⟨D, L, q, [.int 0, .int 1, .int 2], rfl, w11.dl, SqL.of hq11, oq.1, oq.2, by decide, by decide, fun p2 ys H12 hys W12 np2 hp2 => ?_⟩
          have op2 := off_new w11.dl np2
          refine ⟨_, rfl, D, L, 2, rfl, W12.d, by decide, by decide, fun d H13 d0 d1 W13 => ⟨_, _, rfl, rfl, _, rfl, p2, ys, rfl, SqL.of (W13.k _ _ op2.1 op2.2 hp2), fun q2 nq2 => ?_⟩⟩
          obtain ⟨cut, hcut⟩ : ∃ cut, cut = cutV ys none (some (1 + d)) := ⟨_, rfl⟩
          have hc : ∀ v ∈ cut, v = .int 0 ∨ v = .int 1 ∨ v = .int 2 := fun v hv => by
            have := hys.mem_iff.mp (mem_cut (hcut ▸ hv))
            simpa using this
          have b13 := W13.k _ _ ob.1 ob.2 (W12.k _ _ ob.1 ob.2 (s11 _ _ hb10))
          have bq2 := ne_of_none b13 nq2
          have oq2 := off_new W13.d nq2
          show ∃ a_1, V.ref q2 = V.ref a_1 ∧ _
          rw [← hcut]
          obtain ⟨H14, eH14, s14, hq14⟩ := grown (.lst cut) nq2
          rw [eH14]
          refine ⟨q2, rfl, ⟨_, SqL.of hq14⟩, ?_⟩
          have W14 : Went D L H9 H14 := ((((Went.refl w9.dl).same s10).same s11).trans (W12.trans W13)).same s14
          have w14 := w9.went W14
          have ov0 : ∀ v : V, (∀ p, v = .ref p → ∃ u, H9 p = some u) → v ≠ .ref b := fun v h z => by
            obtain ⟨u, hu⟩ := h b z
            rw [nb] at hu
            cases hu
          obtain ⟨PV, hPV⟩ : ∃ PV : Nat → L2.St → Hp → Prop, PV = fun _ σ H' => ∃ (us : List V) (v10 : Option V), σ = [some (.ref a), some (.ref D), some (.ref xa), some (.ref xb), some (.int (0 + (i : Int))), some (.ref t), some (.ref g), some (.ref o), some (.int (0 + (j : Int))), some (.ref b), v10, v11, v12, v13] ∧ us.length = 3 ∧
              H' b = some (.lst (us ++ [.ref kd])) ∧ (∀ u ∈ us, Seq? K H' u ∧ Off3 D L b u) ∧ H' q2 = some (.lst cut) ∧ Went D L H9 H' := ⟨_, rfl⟩
          refine for_list (K := K) (a := q2) (xs := cut) PV ?_ ?_ ?_ ?_
          · rw [hPV]
            refine ⟨[.int sz, .ref rl, hic], _, rfl, rfl, s14 _ _ b13, fun u hu => ?_, hq14, W14⟩
            simp only [List.mem_cons, List.not_mem_nil, or_false] at hu
            rcases hu with rfl | rfl | rfl
            · exact ⟨⟨_, .flat rfl⟩, off3_flat rfl⟩
            · refine ⟨⟨_, seqR _ w14.hr⟩, fun z => w9.or.1 (V.ref.inj z), fun z => w9.or.2 (V.ref.inj z), fun z => ?_⟩
              exact ne_of_none w9.hr nb (V.ref.inj z)
            · exact ⟨⟨_, .flat capF⟩, off3_flat capF⟩
          · rw [hPV]
            rintro _ _ H' _ ⟨_, _, _, _, _, _, hq2, _⟩
            exact SqL.of hq2
          · rw [hPV]
            rintro m y σ H15 hm ⟨us, v10'', rfl, hus, hb15, hgu, hq15, W15⟩
            have hsp : ∃ sp : Nat, y = .int (sp : Int) ∧ sp < 3 := by
              rcases hc y (at_mem hm) with rfl | rfl | rfl
              · exact ⟨0, rfl, by omega⟩
              · exact ⟨1, rfl, by omega⟩
              · exact ⟨2, rfl, by omega⟩
            obtain ⟨sp, rfl, hsp⟩ := hsp
            have put : ∀ (v : V) (H16 : Hp), Seq? K H16 v → Off3 D L b v → Went D L H15 H16 → gSub (tVar 9) (tVar 10) rSetL v [some (.ref a), some (.ref D), some (.ref xa), some (.ref xb), some (.int (0 + (i : Int))), some (.ref t), some (.ref g), some (.ref o), some (.int (0 + (j : Int))), some (.ref b), some (.int (sp : Int)), v11, v12, v13] H16 (PV (m + 1)) := by
              intro v H16 gv ov W16
              have hb16 := W16.k _ _ ob.1 ob.2 hb15
              refine ⟨_, rfl, _, rfl, b, _, sp, sp, rfl, rfl, hb16, ixN_of (by rw [List.length_append, hus]; simp; omega), ?_⟩
              rw [hPV]
              refine ⟨us.set sp v, _, rfl, by rw [List.length_set]; exact hus, ?_, fun u hu => ?_, ?_, (W15.trans W16).mut nb ob.1 ob.2⟩
              · rw [upd_same, List.set_append_left _ _ (by omega)]
              · rcases List.mem_or_eq_of_mem_set hu with h | h
                · obtain ⟨⟨r, hr⟩, of⟩ := hgu u h
                  exact ⟨⟨r, (hr.went W15.d W16 ⟨of.1, of.2.1⟩).mutList hb16 of.2.2⟩, of⟩
                · rw [h]
                  obtain ⟨r, hr⟩ := gv
                  exact ⟨⟨r, hr.mutList hb16 ov.2.2⟩, ov⟩
              · rw [upd_ne bq2.symm]
                exact W16.k _ _ oq2.1 oq2.2 hq15
            rw [← hPV]
            refine ⟨_, rfl, D, L, 3, rfl, W15.d, by decide, by decide, fun d3 H16 e0 e1 W16 => ⟨_, _, rfl, rfl, _, rfl, ?_⟩⟩
            have w16 := w9.went (W15.trans W16)
            refine ite2 (fun _ => ?_) (fun _ => ?_)
            · refine ⟨_, rfl, _, rfl, D, L, o, odd, rfl, W16.d, SqL.of w16.ho, w16.oO.1, w16.oO.2, by omega, by omega, fun v H17 hv W17 => ?_⟩
              have w17 := w16.went W17
              exact put v H17 (w17.ov v hv) ⟨(w17.od v hv).1, (w17.od v hv).2, ov0 v (w9.oo v hv)⟩ (W16.trans W17)
            · refine ⟨_, rfl, D, L, 6, rfl, W16.d, by decide, by decide, fun v r H17 hv hnew W17 => ?_⟩
              have no' : ∀ {p : Addr} {u : HO}, H16 p = some u → v ≠ .ref p := fun hp z => by
                rw [hnew _ z] at hp
                cases hp
              exact put v H17 ⟨r, hv⟩ ⟨no' W16.d.someD.choose_spec, no' W16.d.someL.choose_spec, no' (W16.k _ _ ob.1 ob.2 hb15)⟩ (W16.trans W17)
          · rw [hPV]
            rintro σ H15 ⟨us, v10'', rfl, hus, hb15, hgu, hq15, W15⟩
            have w15 := w9.went W15
            match us, hus with
            | [w0, w1, w2], _ =>
              obtain ⟨⟨r0, t0⟩, f0⟩ := hgu w0 (by simp)
              obtain ⟨⟨r1, u1⟩, f1⟩ := hgu w1 (by simp)
              obtain ⟨⟨r2, u2⟩, f2⟩ := hgu w2 (by simp)
              refine ⟨_, rfl, b, w0, w1, w2, .ref kd, r1, rfl, SqL.of hb15, t0.any, u1, u2.any, fun H16 s16 => ?_⟩
              have ks16 : KsV K CK H16 (.ref kd) (some (kns, os)) := .seq (.inl (SqL.of (s16 _ _ w15.hk))) (by omega) (w15.kn.same s16)
              cases e : dueR3 w0 r1 w2 with
              | some wd' =>
                refine ⟨rfl, _, rfl, iteF ?_⟩
                refine ⟨_, rfl, b, w0, w1, w2, .ref kd, r1, some (kns, os), rfl, SqL.of (s16 _ _ hb15), t0.any.same s16, u1.same s16, u2.any.same s16, ks16, fun H17 s17 => ?_⟩
                have s17' := s16.trans s17
                refine ⟨_, rfl, b, w0, w1, w2, .ref kd, r1, rfl, SqL.of (s17' _ _ hb15), t0.any.same s17', u1.same s17', u2.any.same s17', fun H18 s18 => ⟨scal_optv _ _, _, rfl, ?_⟩⟩
                rw [dueR_good kok]
                exact iteNS rfl ⟨_, _, _, rfl, (W9.trans W15).same (s17'.trans s18)⟩
              | none =>
                refine ⟨rfl, _, rfl, iteT ?_⟩
                obtain ⟨c0, c2⟩ := due3_none e
                rcases c2 with rfl | c2
                · refine ⟨_, rfl, b, _, 2, _, rfl, rfl, SqL.of (s16 _ _ hb15), rfl, rfl, _, rfl, iteF ?_⟩
                  refine ⟨_, rfl, b, w0, w1, .non, .ref kd, r1, some (kns, os), rfl, SqL.of (s16 _ _ hb15), t0.any.same s16, u1.same s16, u2.any.same s16, ks16, fun H17 s17 => ?_⟩
                  have s17' := s16.trans s17
                  refine ⟨_, rfl, b, w0, w1, .non, .ref kd, r1, rfl, SqL.of (s17' _ _ hb15), t0.any.same s17', u1.same s17', u2.any.same s17', fun H18 s18 => ⟨scal_optv _ _, _, rfl, ?_⟩⟩
                  rw [dueR_good kok]
                  exact iteNS rfl ⟨_, _, _, rfl, (W9.trans W15).same (s17'.trans s18)⟩
                · obtain ⟨i2, rfl, _⟩ := cnt_isInt c2
                  obtain ⟨i0, rfl, _⟩ := cnt_isInt c0
                  refine ⟨_, rfl, b, _, 2, _, rfl, rfl, SqL.of (s16 _ _ hb15), rfl, rfl, _, rfl, iteT ?_⟩
                  refine ⟨_, rfl, b, _, 2, _, rfl, rfl, SqL.of (s16 _ _ hb15), rfl, _, rfl, b, _, 0, _, rfl, rfl, SqL.of (s16 _ _ hb15), rfl, _, _, rfl, rfl, _, _, rfl, rfl, _, rfl, ?_⟩
                  refine ite2 (fun _ => ?_) (fun _ => ?_)
                  · exact ⟨_, _, _, rfl, (W9.trans W15).same s16⟩
                  ·
                    refine ⟨_, rfl, b, (.int i0), w1, (.int i2), .ref kd, r1, some (kns, os), rfl, SqL.of (s16 _ _ hb15), t0.any.same s16, u1.same s16, u2.any.same s16, ks16, fun H17 s17 => ?_⟩
                    have s17' := s16.trans s17
                    refine ⟨_, rfl, b, (.int i0), w1, (.int i2), .ref kd, r1, rfl, SqL.of (s17' _ _ hb15), t0.any.same s17', u1.same s17', u2.any.same s17', fun H18 s18 => ⟨scal_optv _ _, _, rfl, ?_⟩⟩
                    rw [dueR_good kok]
                    exact iteNS rfl ⟨_, _, _, rfl, (W9.trans W15).same (s17'.trans s18)⟩
        · rintro σ H9 ⟨v8', v9', v10', rfl, W9⟩
          have w9 := wd.went W9
          have sz2 : ∀ n : Nat, n ≤ 20 → n ≤ sizeLine := fun n h => Nat.le_trans h (by show 20 ≤ sizeLine; decide)
          -- wrong
          refine ⟨_, rfl, _, rfl, (by show 2 ≤ sizeLine; decide), fun l1 nl1 => ?_⟩
          obtain ⟨K1, eK1, q1, b1⟩ := grown (.lst [.ref xa, .ref xa]) nl1
          rw [eK1]
          refine ⟨_, rfl, ?_⟩
          intro xc dxc nxc ndxc _
          have dC : dueA [.str "a", .int 3, .non] = none := by decide +kernel
          refine ⟨xc, dxc, [.str "a", .int 3, .non], rfl, rfl, upd_same, fun v hv => goodAll (xs := [.str "a", .int 3, .non]) (by decide +kernel) hv, fun _ K2 hxc hbc => ⟨rfl, ?_⟩, fun wd hd => by rw [dC] at hd; cases hd⟩
          have q2 := But.made nxc ndxc hbc
          have knc2 : KnV K CK K2 (.ref xc) (some "a") := .kind kA hxc (nameA _ _ _)
          refine ⟨(by show 2 ≤ sizeLine; decide), fun l2 nl2 => ?_⟩
          obtain ⟨K3, eK3, q3, b3⟩ := grown (.lst [.ref xa, .ref xc]) nl2
          rw [eK3]
          refine ⟨_, rfl, (by show 2 ≤ sizeLine; decide), fun l3 nl3 => ?_⟩
          obtain ⟨K4, eK4, q4, b4⟩ := grown (.tup [.ref xa, .str "still a 1 any"]) nl3
          rw [eK4]
          refine ⟨_, rfl, (by show 1 ≤ sizeLine; decide), fun l4 nl4 => ?_⟩
          obtain ⟨K5, eK5, q5, b5⟩ := grown (.lst [.non]) nl4
          rw [eK5]
          refine ⟨_, rfl, (by show 1 ≤ sizeLine; decide), fun l5 nl5 => ?_⟩
          obtain ⟨K6, eK6, q6, b6⟩ := grown (.lst [.ref xa]) nl5
          rw [eK6]
          refine ⟨(by show 1 ≤ sizeLine; decide), fun l6 nl6 => ?_⟩
          obtain ⟨K7, eK7, q7, b7⟩ := grown (.lst [.ref l5]) nl6
          rw [eK7]
          refine ⟨_, rfl, (by show 1 ≤ sizeLine; decide), fun l7 nl7 => ?_⟩
          obtain ⟨K8, eK8, q8, b8⟩ := grown (.tup [.ref xa]) nl7
          rw [eK8]
          refine ⟨(by show 1 ≤ sizeLine; decide), fun l8 nl8 => ?_⟩
          obtain ⟨K9, eK9, q9, b9⟩ := grown (.tup [.ref l7]) nl8
          rw [eK9]
          refine ⟨_, rfl, _, rfl, _, rfl, (by show 3 ≤ sizeLine; decide), fun l9 nl9 => ?_⟩
          obtain ⟨K10, eK10, q10, b10⟩ := grown (.lst [.ref xb, .ref xa, .ref xb]) nl9
          rw [eK10]
          refine ⟨(by show 11 ≤ sizeLine; decide), fun wr nwr => ?_⟩
          obtain ⟨K11, eK11, q11, b11⟩ := grown (.lst [.ref l1, .ref l2, .ref l3, .non, .ref xa, .str "ab", .ref l4, .ref l6, .ref l8, .int 3, .ref l9]) nwr
          rw [eK11]
          have p10 := q11
          have p9 := q10.trans p10
          have p8 := q9.trans p9
          have p7 := q8.trans p8
          have p6 := q7.trans p7
          have p5 := q6.trans p6
          have p4 := q5.trans p5
          have p3 := q4.trans p4
          have p2 := q3.trans p3
          have p1 := q2.trans p2
          have p0 := q1.trans p1
          have ka := w9.ka.same p0
          have kb := w9.kb.same p0
          have kc := knc2.same p2
          have seqBad : ∀ {a : Addr} {xs : List V} {os : List (Option Str)}, SqQ K K11 a xs → KnAll K CK K11 xs os → xs.length ≤ 1000 → (os.all Option.isSome && decide ((namesOf os).Nodup)) = false → ∃ r, KsV K CK K11 (.ref a) r ∧ kindsO r = false := fun h1 h2 h3 h4 => ⟨_, .seq h1 h3 h2, h4⟩
          have wrongAll : ∀ v ∈ ([.ref l1, .ref l2, .ref l3, .non, .ref xa, .str "ab", .ref l4, .ref l6, .ref l8, .int 3, .ref l9] : List V), ∃ r, KsV K CK K11 v r ∧ kindsO r = false := by
            intro v hv
            simp only [List.mem_cons, List.not_mem_nil, or_false] at hv
            rcases hv with rfl | rfl | rfl | rfl | rfl | rfl | rfl | rfl | rfl | rfl | rfl
            · exact seqBad (.inl (SqL.of (p1 _ _ b1))) (.cons ka (.cons ka .nil)) (by simp) (by decide +kernel)
            · exact seqBad (.inl (SqL.of (p3 _ _ b3))) (.cons ka (.cons kc .nil)) (by simp) (by decide +kernel)
            · exact seqBad (.inr (SqT.of (p4 _ _ b4))) (.cons ka (.cons (.flat NK (by decide +kernel)) .nil)) (by simp) (by decide +kernel)
            · exact ⟨_, .flat rfl, rfl⟩
            · cases ka with
              | kind c h l => exact ⟨_, .no (tyV_own c.own h) rfl rfl, rfl⟩
            · exact ⟨_, .flat (by decide +kernel), rfl⟩
            · exact seqBad (.inl (SqL.of (p5 _ _ b5))) (.cons (.flat NK rfl) .nil) (by simp) (by decide +kernel)
            · exact seqBad (.inl (SqL.of (p7 _ _ b7))) (.cons (.lst NK (p6 _ _ b6)) .nil) (by simp) (by decide +kernel)
            · exact seqBad (.inr (SqT.of (p9 _ _ b9))) (.cons (.tup NK (p8 _ _ b8)) .nil) (by simp) (by decide +kernel)
            · exact ⟨_, .flat rfl, rfl⟩
            · exact seqBad (.inl (SqL.of (p10 _ _ b10))) (.cons kb (.cons ka (.cons kb .nil))) (by simp) (by decide +kernel)
          generalize ([.ref l1, .ref l2, .ref l3, .non, .ref xa, .str "ab", .ref l4, .ref l6, .ref l8, .int 3, .ref l9] : List V) = wrong at b11 wrongAll
          have w11 := w9.same p0
          have W11 : Went D L G7 K11 := W9.same p0
          have seqs := seqR K11 w11.hr
          clear b1 b3 b4 b5 b6 b7 b8 b9 b10
          refine ⟨_, rfl, wr, rfl, ⟨_, SqL.of b11⟩, for_list (K := K) (a := wr) (xs := wrong) (fun _ σ H' => ∃ (v12 : Option V), σ = [some (.ref a), some (.ref D), some (.ref xa), some (.ref xb), some (.int (0 + (i : Int))), some (.ref t), some (.ref g), some (.ref o), v8', v9', v10', some (.ref wr), v12, v13] ∧ Same K11 H') ⟨_, rfl, Same.refl _⟩ (fun _ _ H' _ ⟨_, _, s⟩ => SqL.of (s _ _ b11)) ?_ ?_⟩
          · rintro m y σ H12 hm ⟨v12', rfl, s12⟩
            obtain ⟨r, ky, kbad⟩ := wrongAll y (at_mem hm)
            have hg12 := s12 _ _ w11.hg
            refine ⟨_, rfl, _, rfl, g, _, rfl, SqL.of hg12, fun r1 nr1 => ?_⟩
            obtain ⟨H13, eH13, s13, c13⟩ := grown (.lst [.int sz, .ref rl, hic]) nr1
            rw [show cutV [.int sz, .ref rl, hic, .ref kd] none (some 3) = [.int sz, .ref rl, hic] from rfl, eH13]
            refine ⟨_, rfl, (by show 1 ≤ sizeLine; decide), fun r2 nr2 => ?_⟩
            obtain ⟨H14, eH14, s14, c14⟩ := grown (.lst [y]) nr2
            rw [eH14]
            refine ⟨r1, r2, _, _, rfl, rfl, s14 _ _ c13, c14, (by show 4 ≤ sizeLine; decide), fun r3 nr3 => ?_⟩
            obtain ⟨H15, eH15, s15, c15⟩ := grown (.lst [.int sz, .ref rl, hic, y]) nr3
            rw [show ([.int sz, .ref rl, hic] ++ [y] : List V) = [.int sz, .ref rl, hic, y] from rfl, eH15]
            have t15 := s12.trans (s13.trans (s14.trans s15))
            refine ⟨r3, .int sz, .ref rl, hic, y, _, r, rfl, SqL.of c15, ⟨_, tyV_int⟩, seqs.same t15, capA _, ky.same t15, fun H16 s16 => ?_⟩
            rw [due_kinds due3 kbad]
            refine ⟨rfl, _, rfl, iteNS rfl ?_⟩
            have t16 := t15.trans s16
            refine ⟨(by show 1 ≤ sizeLine; decide), fun r4 nr4 => ?_⟩
            obtain ⟨H17, eH17, s17, c17⟩ := grown (.lst [.int 0]) nr4
            rw [eH17]
            have hg17 := (t16.trans s17) _ _ w11.hg
            refine ⟨_, rfl, _, rfl, _, rfl, g, _, rfl, SqL.of hg17, fun r5 nr5 => ?_⟩
            obtain ⟨H18, eH18, s18, c18⟩ := grown (.lst [.ref rl, hic]) nr5
            rw [show cutV [.int sz, .ref rl, hic, .ref kd] (some 1) (some 3) = [.ref rl, hic] from rfl, eH18]
            refine ⟨r4, r5, _, _, rfl, rfl, s18 _ _ c17, c18, (by show 3 ≤ sizeLine; decide), fun r6 nr6 => ?_⟩
            obtain ⟨H19, eH19, s19, c19⟩ := grown (.lst [.int 0, .ref rl, hic]) nr6
            rw [show ([.int 0] ++ [.ref rl, hic] : List V) = [.int 0, .ref rl, hic] from rfl, eH19]
            refine ⟨_, rfl, (by show 1 ≤ sizeLine; decide), fun r7 nr7 => ?_⟩
            obtain ⟨H20, eH20, s20, c20⟩ := grown (.lst [y]) nr7
            rw [eH20]
            refine ⟨r6, r7, _, _, rfl, rfl, s20 _ _ c19, c20, (by show 4 ≤ sizeLine; decide), fun r8 nr8 => ?_⟩
            obtain ⟨H21, eH21, s21, c21⟩ := grown (.lst [.int 0, .ref rl, hic, y]) nr8
            rw [show ([.int 0, .ref rl, hic] ++ [y] : List V) = [.int 0, .ref rl, hic, y] from rfl, eH21]
            have t21 := t16.trans (s17.trans (s18.trans (s19.trans (s20.trans s21))))
            refine ⟨r8, .int 0, .ref rl, hic, y, _, r, rfl, SqL.of c21, ⟨_, tyV_int⟩, seqs.same t21, capA _, ky.same t21, fun H22 s22 => ?_⟩
            rw [due_length]
            exact ⟨rfl, _, rfl, iteNS rfl ⟨_, rfl, t21.trans s22⟩⟩
          · rintro σ H12 ⟨v12', rfl, s12⟩
            have hg12 := s12 _ _ w11.hg
            refine ⟨_, rfl, _, rfl, g, _, rfl, SqL.of hg12, fun r1 nr1 => ?_⟩
            obtain ⟨H13, eH13, s13, c13⟩ := grown (.lst [.int sz, .ref rl, hic]) nr1
            rw [show cutV [.int sz, .ref rl, hic, .ref kd] none (some 3) = [.int sz, .ref rl, hic] from rfl, eH13]
            refine ⟨_, rfl, _, rfl, (by show 2 ≤ sizeLine; decide), fun r2 nr2 => ?_⟩
            obtain ⟨H14, eH14, s14, c14⟩ := grown (.tup [.ref xb, .ref xa]) nr2
            rw [eH14]
            refine ⟨(by show 1 ≤ sizeLine; decide), fun r3 nr3 => ?_⟩
            obtain ⟨H15, eH15, s15, c15⟩ := grown (.lst [.ref r2]) nr3
            rw [eH15]
            refine ⟨r1, r3, _, _, rfl, rfl, s15 _ _ (s14 _ _ c13), c15, (by show 4 ≤ sizeLine; decide), fun r4 nr4 => ?_⟩
            obtain ⟨H16, eH16, s16, c16⟩ := grown (.lst [.int sz, .ref rl, hic, .ref r2]) nr4
            rw [show ([.int sz, .ref rl, hic] ++ [.ref r2] : List V) = [.int sz, .ref rl, hic, .ref r2] from rfl, eH16]
            have t16 := s12.trans (s13.trans (s14.trans (s15.trans s16)))
            refine ⟨r4, .int sz, .ref rl, hic, .ref r2, _, some ([.ref xb, .ref xa], [some "b", some "a"]), rfl, SqL.of c16, ⟨_, tyV_int⟩, seqs.same t16, capA _, .seq (.inr (SqT.of (s16 _ _ (s15 _ _ c14)))) (by simp) (.cons (kb.same t16) (.cons (ka.same t16) .nil)), fun H17 s17 => ?_⟩
            rw [due_ok7 (hi := hic) sz1 rok rcap (by show (([some "b", some "a"] : List (Option Str)).all Option.isSome && decide ((namesOf [some "b", some "a"]).Nodup)) = true; decide +kernel)]
            refine ⟨rfl, _, rfl, iteF ?_⟩
            exact ⟨_, _, _, _, _, _, _, _, _, _, rfl, (W8.trans W11).same (t16.trans s17)⟩
    · rintro σ H4 ⟨v4, v5, v6, v7, v8, v9, v10, v11, v12, v13, rfl, W4⟩
      refine ⟨(by show 6 ≤ sizeLine; decide), fun r1 nr1 => ?_⟩
      obtain ⟨H5, eH5, s5, c5⟩ := grown (.lst [.int 0, .int 1, .int 2, .int 3, .int 4, .int 5]) nr1
      rw [eH5]
      refine ⟨(by show 0 ≤ sizeLine; decide), fun r2 nr2 => ?_⟩
      obtain ⟨H6, eH6, s6, c6⟩ := grown (.tup []) nr2
      rw [eH6]
      refine ⟨(by show 4 ≤ sizeLine; decide), fun r3 nr3 => ?_⟩
      obtain ⟨H7, eH7, s7, c7⟩ := grown (.lst [.int 1, .ref r1, .int 1, .ref r2]) nr3
      rw [eH7]
      refine ⟨r3, .int 1, .ref r1, .int 1, .ref r2, some [.int 0, .int 1, .int 2, .int 3, .int 4, .int 5], some ([], []), rfl, SqL.of c7, ⟨_, tyV_int⟩, .seq (.inl (SqL.of (s7 _ _ (s6 _ _ c5)))) (by simp) (fun x hx => (goodAll (xs := [.int 0, .int 1, .int 2, .int 3, .int 4, .int 5]) (by decide) hx).any), ⟨_, tyV_int⟩, .seq (.inr (SqT.of (s7 _ _ c6))) (by simp) .nil, fun H8 s8 => ?_⟩
      rw [show dueR (.int 1) (some [.int 0, .int 1, .int 2, .int 3, .int 4, .int 5]) (.int 1) (some ([], [])) = none by decide +kernel]
      refine ⟨rfl, _, rfl, iteT ?_⟩
      refine ⟨(by show 2 ≤ sizeLine; decide), fun r4 nr4 => ?_⟩
      obtain ⟨H9, eH9, s9, c9⟩ := grown (.tup [.int 6, .int 6]) nr4
      rw [eH9]
      refine ⟨(by show 0 ≤ sizeLine; decide), fun r5 nr5 => ?_⟩
      obtain ⟨H10, eH10, s10, c10⟩ := grown (.tup []) nr5
      rw [eH10]
      refine ⟨(by show 4 ≤ sizeLine; decide), fun r6 nr6 => ?_⟩
      obtain ⟨H11, eH11, s11, c11⟩ := grown (.lst [.int 1, .ref r4, .int 1, .ref r5]) nr6
      rw [eH11]
      refine ⟨r6, .int 1, .ref r4, .int 1, .ref r5, some [.int 6, .int 6], some ([], []), rfl, SqL.of c11, ⟨_, tyV_int⟩, .seq (.inr (SqT.of (s11 _ _ (s10 _ _ c9)))) (by simp) (fun x hx => (goodAll (xs := [.int 6, .int 6]) (by decide) hx).any), ⟨_, tyV_int⟩, .seq (.inr (SqT.of (s11 _ _ c10))) (by simp) .nil, fun H12 s12 => ?_⟩
      rw [show dueR (.int 1) (some [.int 6, .int 6]) (.int 1) (some ([], [])) = some "rests" by decide +kernel]
      exact ⟨rfl, k H12⟩
end
end Ts

namespace Ts
open PySem L2
theorem all_mk {l : PySem.W.OpenLaw} {w : World} {K : PySem.W.Frag} {h : Heap} {mg : Str → Option Value} {fa f_draw f_deal f_pick f_mixed f_any f_names f_kindD f_ruleD f_kMade f_size f_lRests f_heard f_due f_isInt f_isCount f_isName f_isSeq f_check f_areRests f_areKinds f_law CK CS f_Still TdCS CA f_Anew TdCA CL f_Lift TdCL CU f_rule TeR TeK TdCU CT CR CI f_xkind CJ f_xrule TN : Addr} (X : K.In h) (G : h.Ns mainGlobals mg) (hfa : mg "law" = some (.ref fa))
    {od_draw an_draw od_deal an_deal od_pick an_pick od_mixed an_mixed od_any an_any od_names an_names od_kindD an_kindD od_ruleD an_ruleD od_kMade an_kMade od_size an_size od_lRests an_lRests od_heard an_heard od_due an_due od_isInt an_isInt od_isCount an_isCount od_isName an_isName od_isSeq an_isSeq od_check an_check od_areRests an_areRests od_areKinds an_areKinds od_law an_law od_Still an_Still od_TdCS od_Anew an_Anew od_TdCA od_Lift an_Lift od_TdCL od_rule an_rule od_TdCU od_xkind an_xkind od_xrule an_xrule od_TN : Option Addr} {sl_draw sl_deal sl_pick sl_mixed sl_any sl_names sl_kindD sl_ruleD sl_kMade sl_size sl_lRests sl_heard sl_due sl_isInt sl_isCount sl_isName sl_isSeq sl_check sl_areRests sl_areKinds sl_law sl_Still sl_TdCS sl_Anew sl_TdCA sl_Lift sl_TdCL sl_rule sl_TdCU sl_xkind sl_xrule sl_TN : Array (Option Value)} {oc_draw kV_draw dc_draw pm_draw cd_draw ct_draw oc_deal kV_deal dc_deal pm_deal cd_deal ct_deal oc_pick kV_pick dc_pick pm_pick cd_pick ct_pick oc_mixed kV_mixed dc_mixed pm_mixed cd_mixed ct_mixed oc_any kV_any dc_any pm_any cd_any ct_any oc_names kV_names dc_names pm_names cd_names ct_names oc_kindD kV_kindD dc_kindD pm_kindD cd_kindD ct_kindD oc_ruleD kV_ruleD dc_ruleD pm_ruleD cd_ruleD ct_ruleD oc_kMade kV_kMade dc_kMade pm_kMade cd_kMade ct_kMade oc_size kV_size dc_size pm_size cd_size ct_size oc_lRests kV_lRests dc_lRests pm_lRests cd_lRests ct_lRests oc_heard kV_heard dc_heard pm_heard cd_heard ct_heard oc_due kV_due dc_due pm_due cd_due ct_due oc_isInt kV_isInt dc_isInt pm_isInt cd_isInt ct_isInt oc_isCount kV_isCount dc_isCount pm_isCount cd_isCount ct_isCount oc_isName kV_isName dc_isName pm_isName cd_isName ct_isName oc_isSeq kV_isSeq dc_isSeq pm_isSeq cd_isSeq ct_isSeq oc_check kV_check dc_check pm_check cd_check ct_check oc_areRests kV_areRests dc_areRests pm_areRests cd_areRests ct_areRests oc_areKinds kV_areKinds dc_areKinds pm_areKinds cd_areKinds ct_areKinds oc_law kV_law dc_law pm_law cd_law ct_law oc_Still kV_Still dc_Still pm_Still cd_Still ct_Still oc_TdCS oc_Anew kV_Anew dc_Anew pm_Anew cd_Anew ct_Anew oc_TdCA oc_Lift kV_Lift dc_Lift pm_Lift cd_Lift ct_Lift oc_TdCL oc_rule kV_rule dc_rule pm_rule cd_rule ct_rule oc_TdCU oc_xkind kV_xkind dc_xkind pm_xkind cd_xkind ct_xkind oc_xrule kV_xrule dc_xrule pm_xrule cd_xrule ct_xrule : Value} {n_TdCS n_TdCA n_TdCL n_TdCU n_TN : Nat} {tk_TN_0 tk_TN_1 tk_TN_2 tk_TN_3 tk_TN_4 tk_MOST_LETTERS tk_WEEK tk_LETTERS : Tok} {nm_CI q_CI : Str} {N_CI : Addr} {bs_CI sub_CI : List Value} {sn_CI : List Str} {ab_CI : Bool} {col_CI : Option Bool} {dd_CI : Option Addr} {k0_CI k1_CI k2_CI k3_CI k5_CI : Option Value} {nm_CJ q_CJ : Str} {N_CJ : Addr} {bs_CJ sub_CJ : List Value} {sn_CJ : List Str} {ab_CJ : Bool} {col_CJ : Option Bool} {dd_CJ : Option Addr} {k0_CJ k1_CJ k2_CJ k3_CJ k5_CJ : Option Value}
    (a_draw : PySem.W.nsIn K mainGlobals "_law_draw" = some (some (.ref f_draw)))
    (l_draw : K.lookup f_draw = some ⟨oc_draw, od_draw, .func (PySem.W.fnOf "_law_draw" "_law_draw" (C8.fnArgs sDraw) (C8.fnBody sDraw) (C8.fnScope sDraw) .none kV_draw dc_draw pm_draw an_draw cd_draw ct_draw), sl_draw⟩)
    (c_draw : PySem.W.codeIn K cd_draw "_law_draw" = true)
    (k_draw : PySem.W.keepIn K (.ref f_draw) = true)
    (a_deal : PySem.W.nsIn K mainGlobals "_law_deal" = some (some (.ref f_deal)))
    (l_deal : K.lookup f_deal = some ⟨oc_deal, od_deal, .func (PySem.W.fnOf "_law_deal" "_law_deal" (C8.fnArgs sDeal) (C8.fnBody sDeal) (C8.fnScope sDeal) .none kV_deal dc_deal pm_deal an_deal cd_deal ct_deal), sl_deal⟩)
    (c_deal : PySem.W.codeIn K cd_deal "_law_deal" = true)
    (k_deal : PySem.W.keepIn K (.ref f_deal) = true)
    (a_pick : PySem.W.nsIn K mainGlobals "_law_pick" = some (some (.ref f_pick)))
    (l_pick : K.lookup f_pick = some ⟨oc_pick, od_pick, .func (PySem.W.fnOf "_law_pick" "_law_pick" (C8.fnArgs sPick) (C8.fnBody sPick) (C8.fnScope sPick) .none kV_pick dc_pick pm_pick an_pick cd_pick ct_pick), sl_pick⟩)
    (c_pick : PySem.W.codeIn K cd_pick "_law_pick" = true)
    (k_pick : PySem.W.keepIn K (.ref f_pick) = true)
    (a_mixed : PySem.W.nsIn K mainGlobals "_law_mixed" = some (some (.ref f_mixed)))
    (l_mixed : K.lookup f_mixed = some ⟨oc_mixed, od_mixed, .func (PySem.W.fnOf "_law_mixed" "_law_mixed" (C8.fnArgs sMixed) (C8.fnBody sMixed) (C8.fnScope sMixed) .none kV_mixed dc_mixed pm_mixed an_mixed cd_mixed ct_mixed), sl_mixed⟩)
    (c_mixed : PySem.W.codeIn K cd_mixed "_law_mixed" = true)
    (k_mixed : PySem.W.keepIn K (.ref f_mixed) = true)
    (a_any : PySem.W.nsIn K mainGlobals "_law_any" = some (some (.ref f_any)))
    (l_any : K.lookup f_any = some ⟨oc_any, od_any, .func (PySem.W.fnOf "_law_any" "_law_any" (C8.fnArgs sAny) (C8.fnBody sAny) (C8.fnScope sAny) .none kV_any dc_any pm_any an_any cd_any ct_any), sl_any⟩)
    (c_any : PySem.W.codeIn K cd_any "_law_any" = true)
    (k_any : PySem.W.keepIn K (.ref f_any) = true)
    (a_names : PySem.W.nsIn K mainGlobals "_law_names" = some (some (.ref f_names)))
    (l_names : K.lookup f_names = some ⟨oc_names, od_names, .func (PySem.W.fnOf "_law_names" "_law_names" (C8.fnArgs sNames) (C8.fnBody sNames) (C8.fnScope sNames) .none kV_names dc_names pm_names an_names cd_names ct_names), sl_names⟩)
    (c_names : PySem.W.codeIn K cd_names "_law_names" = true)
    (k_names : PySem.W.keepIn K (.ref f_names) = true)
    (a_kindD : PySem.W.nsIn K mainGlobals "_law_kind" = some (some (.ref f_kindD)))
    (l_kindD : K.lookup f_kindD = some ⟨oc_kindD, od_kindD, .func (PySem.W.fnOf "_law_kind" "_law_kind" (C8.fnArgs sKindD) (C8.fnBody sKindD) (C8.fnScope sKindD) .none kV_kindD dc_kindD pm_kindD an_kindD cd_kindD ct_kindD), sl_kindD⟩)
    (c_kindD : PySem.W.codeIn K cd_kindD "_law_kind" = true)
    (k_kindD : PySem.W.keepIn K (.ref f_kindD) = true)
    (a_ruleD : PySem.W.nsIn K mainGlobals "_law_rule" = some (some (.ref f_ruleD)))
    (l_ruleD : K.lookup f_ruleD = some ⟨oc_ruleD, od_ruleD, .func (PySem.W.fnOf "_law_rule" "_law_rule" (C8.fnArgs sRuleD) (C8.fnBody sRuleD) (C8.fnScope sRuleD) .none kV_ruleD dc_ruleD pm_ruleD an_ruleD cd_ruleD ct_ruleD), sl_ruleD⟩)
    (c_ruleD : PySem.W.codeIn K cd_ruleD "_law_rule" = true)
    (k_ruleD : PySem.W.keepIn K (.ref f_ruleD) = true)
    (a_kMade : PySem.W.nsIn K mainGlobals "_law_kind_made" = some (some (.ref f_kMade)))
    (l_kMade : K.lookup f_kMade = some ⟨oc_kMade, od_kMade, .func (PySem.W.fnOf "_law_kind_made" "_law_kind_made" (C8.fnArgs sKMade) (C8.fnBody sKMade) (C8.fnScope sKMade) .none kV_kMade dc_kMade pm_kMade an_kMade cd_kMade ct_kMade), sl_kMade⟩)
    (c_kMade : PySem.W.codeIn K cd_kMade "_law_kind_made" = true)
    (k_kMade : PySem.W.keepIn K (.ref f_kMade) = true)
    (a_size : PySem.W.nsIn K mainGlobals "_law_is_size" = some (some (.ref f_size)))
    (l_size : K.lookup f_size = some ⟨oc_size, od_size, .func (PySem.W.fnOf "_law_is_size" "_law_is_size" (C8.fnArgs sSize) (C8.fnBody sSize) (C8.fnScope sSize) .none kV_size dc_size pm_size an_size cd_size ct_size), sl_size⟩)
    (c_size : PySem.W.codeIn K cd_size "_law_is_size" = true)
    (k_size : PySem.W.keepIn K (.ref f_size) = true)
    (a_lRests : PySem.W.nsIn K mainGlobals "_law_are_rests" = some (some (.ref f_lRests)))
    (l_lRests : K.lookup f_lRests = some ⟨oc_lRests, od_lRests, .func (PySem.W.fnOf "_law_are_rests" "_law_are_rests" (C8.fnArgs sLRests) (C8.fnBody sLRests) (C8.fnScope sLRests) .none kV_lRests dc_lRests pm_lRests an_lRests cd_lRests ct_lRests), sl_lRests⟩)
    (c_lRests : PySem.W.codeIn K cd_lRests "_law_are_rests" = true)
    (k_lRests : PySem.W.keepIn K (.ref f_lRests) = true)
    (a_heard : PySem.W.nsIn K mainGlobals "_law_heard" = some (some (.ref f_heard)))
    (l_heard : K.lookup f_heard = some ⟨oc_heard, od_heard, .func (PySem.W.fnOf "_law_heard" "_law_heard" (C8.fnArgs sHeard) (C8.fnBody sHeard) (C8.fnScope sHeard) .none kV_heard dc_heard pm_heard an_heard cd_heard ct_heard), sl_heard⟩)
    (c_heard : PySem.W.codeIn K cd_heard "_law_heard" = true)
    (k_heard : PySem.W.keepIn K (.ref f_heard) = true)
    (a_due : PySem.W.nsIn K mainGlobals "_law_due" = some (some (.ref f_due)))
    (l_due : K.lookup f_due = some ⟨oc_due, od_due, .func (PySem.W.fnOf "_law_due" "_law_due" (C8.fnArgs sDue) (C8.fnBody sDue) (C8.fnScope sDue) .none kV_due dc_due pm_due an_due cd_due ct_due), sl_due⟩)
    (c_due : PySem.W.codeIn K cd_due "_law_due" = true)
    (k_due : PySem.W.keepIn K (.ref f_due) = true)
    (a_isInt : PySem.W.nsIn K mainGlobals "is_integer" = some (some (.ref f_isInt)))
    (l_isInt : K.lookup f_isInt = some ⟨oc_isInt, od_isInt, .func (PySem.W.fnOf "is_integer" "is_integer" (C8.fnArgs sIsInt) (C8.fnBody sIsInt) (C8.fnScope sIsInt) .none kV_isInt dc_isInt pm_isInt an_isInt cd_isInt ct_isInt), sl_isInt⟩)
    (c_isInt : PySem.W.codeIn K cd_isInt "is_integer" = true)
    (k_isInt : PySem.W.keepIn K (.ref f_isInt) = true)
    (a_isCount : PySem.W.nsIn K mainGlobals "is_count" = some (some (.ref f_isCount)))
    (l_isCount : K.lookup f_isCount = some ⟨oc_isCount, od_isCount, .func (PySem.W.fnOf "is_count" "is_count" (C8.fnArgs sIsCount) (C8.fnBody sIsCount) (C8.fnScope sIsCount) .none kV_isCount dc_isCount pm_isCount an_isCount cd_isCount ct_isCount), sl_isCount⟩)
    (c_isCount : PySem.W.codeIn K cd_isCount "is_count" = true)
    (k_isCount : PySem.W.keepIn K (.ref f_isCount) = true)
    (a_isName : PySem.W.nsIn K mainGlobals "is_name" = some (some (.ref f_isName)))
    (l_isName : K.lookup f_isName = some ⟨oc_isName, od_isName, .func (PySem.W.fnOf "is_name" "is_name" (C8.fnArgs sIsName) (C8.fnBody sIsName) (C8.fnScope sIsName) .none kV_isName dc_isName pm_isName an_isName cd_isName ct_isName), sl_isName⟩)
    (c_isName : PySem.W.codeIn K cd_isName "is_name" = true)
    (k_isName : PySem.W.keepIn K (.ref f_isName) = true)
    (a_isSeq : PySem.W.nsIn K mainGlobals "is_sequence" = some (some (.ref f_isSeq)))
    (l_isSeq : K.lookup f_isSeq = some ⟨oc_isSeq, od_isSeq, .func (PySem.W.fnOf "is_sequence" "is_sequence" (C8.fnArgs sIsSeq) (C8.fnBody sIsSeq) (C8.fnScope sIsSeq) .none kV_isSeq dc_isSeq pm_isSeq an_isSeq cd_isSeq ct_isSeq), sl_isSeq⟩)
    (c_isSeq : PySem.W.codeIn K cd_isSeq "is_sequence" = true)
    (k_isSeq : PySem.W.keepIn K (.ref f_isSeq) = true)
    (a_check : PySem.W.nsIn K mainGlobals "check_arguments" = some (some (.ref f_check)))
    (l_check : K.lookup f_check = some ⟨oc_check, od_check, .func (PySem.W.fnOf "check_arguments" "check_arguments" (C8.fnArgs sCheck) (C8.fnBody sCheck) (C8.fnScope sCheck) .none kV_check dc_check pm_check an_check cd_check ct_check), sl_check⟩)
    (c_check : PySem.W.codeIn K cd_check "check_arguments" = true)
    (k_check : PySem.W.keepIn K (.ref f_check) = true)
    (a_areRests : PySem.W.nsIn K mainGlobals "are_rests" = some (some (.ref f_areRests)))
    (l_areRests : K.lookup f_areRests = some ⟨oc_areRests, od_areRests, .func (PySem.W.fnOf "are_rests" "are_rests" (C8.fnArgs sAreRests) (C8.fnBody sAreRests) (C8.fnScope sAreRests) .none kV_areRests dc_areRests pm_areRests an_areRests cd_areRests ct_areRests), sl_areRests⟩)
    (c_areRests : PySem.W.codeIn K cd_areRests "are_rests" = true)
    (k_areRests : PySem.W.keepIn K (.ref f_areRests) = true)
    (a_areKinds : PySem.W.nsIn K mainGlobals "are_kinds" = some (some (.ref f_areKinds)))
    (l_areKinds : K.lookup f_areKinds = some ⟨oc_areKinds, od_areKinds, .func (PySem.W.fnOf "are_kinds" "are_kinds" (C8.fnArgs sAreKinds) (C8.fnBody sAreKinds) (C8.fnScope sAreKinds) .none kV_areKinds dc_areKinds pm_areKinds an_areKinds cd_areKinds ct_areKinds), sl_areKinds⟩)
    (c_areKinds : PySem.W.codeIn K cd_areKinds "are_kinds" = true)
    (k_areKinds : PySem.W.keepIn K (.ref f_areKinds) = true)
    (a_law : PySem.W.nsIn K mainGlobals "law" = some (some (.ref f_law)))
    (l_law : K.lookup f_law = some ⟨oc_law, od_law, .func (PySem.W.fnOf "law" "law" (C8.fnArgs sLaw) (C8.fnBody sLaw) (C8.fnScope sLaw) .none kV_law dc_law pm_law an_law cd_law ct_law), sl_law⟩)
    (c_law : PySem.W.codeIn K cd_law "law" = true)
    (k_law : PySem.W.keepIn K (.ref f_law) = true)
    (g_CK : PySem.W.nsIn K mainGlobals "Kind" = some (some (.ref CK)))
    (g_CS : PySem.W.nsIn K mainGlobals "Still" = some (some (.ref CS)))
    (pg_CS : PySem.W.plainGet K CS Str.empty = true)
    (hd_CS : PySem.W.hasDictIn K CS = true)
    (po_CS : PySem.W.plainOver K CS = true)
    (sa_CS : PySem.W.findIn K (.ref CS) "__setattr__" = some (some (.builtin "object.__setattr__")))
    (mk_CS : PySem.W.makesIn K CS = true)
    (kc_CS : PySem.W.keepIn K (.ref CS) = true)
    (n_CS_name : PySem.W.findIn K (.ref CS) "name" = some none)
    (n_CS_days : PySem.W.findIn K (.ref CS) "days" = some none)
    (n_CS_times : PySem.W.findIn K (.ref CS) "times" = some none)
    (ha_CS : PySem.W.findIn K (.ref CS) "__class__" = some (some (.builtin "object.__class__")))
    (hn_cls : PySem.W.specialIn K (.builtin "object.__class__") "__get__" = some (some (.builtin "getset_descriptor.__get__")))
    (ht_cls : PySem.W.takesIn K (.builtin "object.__class__") = some true)
    (hm_CS : PySem.W.mroIn K CS (.type "object") = some true)
    (k0_CS : PySem.W.kitOne K (.ref CS) (.type "int") = some false)
    (k1_CS : PySem.W.kitOne K (.ref CS) (.type "bool") = some false)
    (k2_CS : PySem.W.kitOne K (.ref CS) (.type "str") = some false)
    (k3_CS : PySem.W.kitOne K (.ref CS) (.type "list") = some false)
    (k4_CS : PySem.W.kitOne K (.ref CS) (.type "tuple") = some false)
    (a_Still : PySem.W.findIn K (.ref CS) "__init__" = some (some (.ref f_Still)))
    (i_Still : PySem.W.isFn K (.ref f_Still) = true)
    (l_Still : K.lookup f_Still = some ⟨oc_Still, od_Still, .func (PySem.W.fnOf "__init__" "Still.__init__" (C8.fnArgs sStill) (C8.fnBody sStill) (C8.fnScope sStill) (.ref TdCS) kV_Still dc_Still pm_Still an_Still cd_Still ct_Still), sl_Still⟩)
    (c_Still : PySem.W.codeIn K cd_Still "Still.__init__" = true)
    (k_Still : PySem.W.keepIn K (.ref f_Still) = true)
    (l_TdCS : K.lookup TdCS = some ⟨oc_TdCS, od_TdCS, .seq #[.none] n_TdCS, sl_TdCS⟩)
    (kd_CS : PySem.W.kitOne K (.ref CS) (.ref CK) = some true)
    (g_CA : PySem.W.nsIn K mainGlobals "Anew" = some (some (.ref CA)))
    (pg_CA : PySem.W.plainGet K CA Str.empty = true)
    (hd_CA : PySem.W.hasDictIn K CA = true)
    (po_CA : PySem.W.plainOver K CA = true)
    (sa_CA : PySem.W.findIn K (.ref CA) "__setattr__" = some (some (.builtin "object.__setattr__")))
    (mk_CA : PySem.W.makesIn K CA = true)
    (kc_CA : PySem.W.keepIn K (.ref CA) = true)
    (n_CA_name : PySem.W.findIn K (.ref CA) "name" = some none)
    (n_CA_left : PySem.W.findIn K (.ref CA) "left" = some none)
    (n_CA_times : PySem.W.findIn K (.ref CA) "times" = some none)
    (ha_CA : PySem.W.findIn K (.ref CA) "__class__" = some (some (.builtin "object.__class__")))
    (hm_CA : PySem.W.mroIn K CA (.type "object") = some true)
    (k0_CA : PySem.W.kitOne K (.ref CA) (.type "int") = some false)
    (k1_CA : PySem.W.kitOne K (.ref CA) (.type "bool") = some false)
    (k2_CA : PySem.W.kitOne K (.ref CA) (.type "str") = some false)
    (k3_CA : PySem.W.kitOne K (.ref CA) (.type "list") = some false)
    (k4_CA : PySem.W.kitOne K (.ref CA) (.type "tuple") = some false)
    (a_Anew : PySem.W.findIn K (.ref CA) "__init__" = some (some (.ref f_Anew)))
    (i_Anew : PySem.W.isFn K (.ref f_Anew) = true)
    (l_Anew : K.lookup f_Anew = some ⟨oc_Anew, od_Anew, .func (PySem.W.fnOf "__init__" "Anew.__init__" (C8.fnArgs sAnew) (C8.fnBody sAnew) (C8.fnScope sAnew) (.ref TdCA) kV_Anew dc_Anew pm_Anew an_Anew cd_Anew ct_Anew), sl_Anew⟩)
    (c_Anew : PySem.W.codeIn K cd_Anew "Anew.__init__" = true)
    (k_Anew : PySem.W.keepIn K (.ref f_Anew) = true)
    (l_TdCA : K.lookup TdCA = some ⟨oc_TdCA, od_TdCA, .seq #[.none] n_TdCA, sl_TdCA⟩)
    (kd_CA : PySem.W.kitOne K (.ref CA) (.ref CK) = some true)
    (g_CL : PySem.W.nsIn K mainGlobals "Lift" = some (some (.ref CL)))
    (pg_CL : PySem.W.plainGet K CL Str.empty = true)
    (hd_CL : PySem.W.hasDictIn K CL = true)
    (po_CL : PySem.W.plainOver K CL = true)
    (sa_CL : PySem.W.findIn K (.ref CL) "__setattr__" = some (some (.builtin "object.__setattr__")))
    (mk_CL : PySem.W.makesIn K CL = true)
    (kc_CL : PySem.W.keepIn K (.ref CL) = true)
    (n_CL_name : PySem.W.findIn K (.ref CL) "name" = some none)
    (n_CL_by : PySem.W.findIn K (.ref CL) "by" = some none)
    (n_CL_top : PySem.W.findIn K (.ref CL) "top" = some none)
    (n_CL_times : PySem.W.findIn K (.ref CL) "times" = some none)
    (ha_CL : PySem.W.findIn K (.ref CL) "__class__" = some (some (.builtin "object.__class__")))
    (hm_CL : PySem.W.mroIn K CL (.type "object") = some true)
    (k0_CL : PySem.W.kitOne K (.ref CL) (.type "int") = some false)
    (k1_CL : PySem.W.kitOne K (.ref CL) (.type "bool") = some false)
    (k2_CL : PySem.W.kitOne K (.ref CL) (.type "str") = some false)
    (k3_CL : PySem.W.kitOne K (.ref CL) (.type "list") = some false)
    (k4_CL : PySem.W.kitOne K (.ref CL) (.type "tuple") = some false)
    (a_Lift : PySem.W.findIn K (.ref CL) "__init__" = some (some (.ref f_Lift)))
    (i_Lift : PySem.W.isFn K (.ref f_Lift) = true)
    (l_Lift : K.lookup f_Lift = some ⟨oc_Lift, od_Lift, .func (PySem.W.fnOf "__init__" "Lift.__init__" (C8.fnArgs sLift) (C8.fnBody sLift) (C8.fnScope sLift) (.ref TdCL) kV_Lift dc_Lift pm_Lift an_Lift cd_Lift ct_Lift), sl_Lift⟩)
    (c_Lift : PySem.W.codeIn K cd_Lift "Lift.__init__" = true)
    (k_Lift : PySem.W.keepIn K (.ref f_Lift) = true)
    (l_TdCL : K.lookup TdCL = some ⟨oc_TdCL, od_TdCL, .seq #[.none] n_TdCL, sl_TdCL⟩)
    (kd_CL : PySem.W.kitOne K (.ref CL) (.ref CK) = some true)
    (nk0 : PySem.W.kitOne K (.type "int") (.ref CK) = some false)
    (nk1 : PySem.W.kitOne K (.type "bool") (.ref CK) = some false)
    (nk2 : PySem.W.kitOne K (.type "str") (.ref CK) = some false)
    (nk3 : PySem.W.kitOne K (.type "list") (.ref CK) = some false)
    (nk4 : PySem.W.kitOne K (.type "tuple") (.ref CK) = some false)
    (nk5 : PySem.W.kitOne K (.type "NoneType") (.ref CK) = some false)
    (g_CU : PySem.W.nsIn K mainGlobals "Rule" = some (some (.ref CU)))
    (pg_CU : PySem.W.plainGet K CU Str.empty = true)
    (hd_CU : PySem.W.hasDictIn K CU = true)
    (po_CU : PySem.W.plainOver K CU = true)
    (sa_CU : PySem.W.findIn K (.ref CU) "__setattr__" = some (some (.builtin "object.__setattr__")))
    (mk_CU : PySem.W.makesIn K CU = true)
    (kc_CU : PySem.W.keepIn K (.ref CU) = true)
    (n_CU_length : PySem.W.findIn K (.ref CU) "length" = some none)
    (n_CU_rests : PySem.W.findIn K (.ref CU) "rests" = some none)
    (n_CU_cap : PySem.W.findIn K (.ref CU) "cap" = some none)
    (n_CU_kinds : PySem.W.findIn K (.ref CU) "kinds" = some none)
    (n_CU_names : PySem.W.findIn K (.ref CU) "names" = some none)
    (a_rule : PySem.W.findIn K (.ref CU) "__init__" = some (some (.ref f_rule)))
    (i_rule : PySem.W.isFn K (.ref f_rule) = true)
    (l_rule : K.lookup f_rule = some ⟨oc_rule, od_rule, .func (PySem.W.fnOf "__init__" "Rule.__init__" (C8.fnArgs sInit) (C8.fnBody sInit) (C8.fnScope sInit) (.ref TdCU) kV_rule dc_rule pm_rule an_rule cd_rule ct_rule), sl_rule⟩)
    (c_rule : PySem.W.codeIn K cd_rule "Rule.__init__" = true)
    (k_rule : PySem.W.keepIn K (.ref f_rule) = true)
    (l_TdCU : K.lookup TdCU = some ⟨oc_TdCU, od_TdCU, .seq #[.ref TeR, .none, .ref TeK] n_TdCU, sl_TdCU⟩)
    (g_CT : PySem.W.nsIn K mainGlobals "TermError" = some (some (.ref CT)))
    (g_CR : PySem.W.nsIn K mainGlobals "InvalidText" = some (some (.ref CR)))
    (g_CI : PySem.W.nsIn K mainGlobals "InvalidKind" = some (some (.ref CI)))
    (l_CI : K.lookup CI = some (excClassObj nm_CI q_CI CI N_CI bs_CI [.ref CT, .type "ValueError", .type "Exception", .type "BaseException", .type "object"] true sn_CI sub_CI ab_CI col_CI dd_CI k0_CI k1_CI k2_CI k3_CI k5_CI "ValueError.__new__"))
    (sa_CI : PySem.W.findIn K (.ref CI) "__setattr__" = some (some (.builtin "object.__setattr__")))
    (ex_CI : PySem.W.subIn K (.ref CI) (.type "BaseException") = some true)
    (ty_CI : PySem.W.typeIn K (.ref CI) = some (.type "type"))
    (kc_CI : PySem.W.keepIn K (.ref CI) = true)
    (a_xkind : PySem.W.findIn K (.ref CI) "__init__" = some (some (.ref f_xkind)))
    (t_xkind : PySem.W.typeIn K (.ref f_xkind) = some (.type "function"))
    (l_xkind : K.lookup f_xkind = some ⟨oc_xkind, od_xkind, .func (PySem.W.fnOf "__init__" "InvalidKind.__init__" (C8.fnArgs sXKind) (C8.fnBody sXKind) (C8.fnScope sXKind) .none kV_xkind dc_xkind pm_xkind an_xkind cd_xkind ct_xkind), sl_xkind⟩)
    (c_xkind : PySem.W.codeIn K cd_xkind "InvalidKind.__init__" = true)
    (no_CI : PySem.W.findIn K (.ref CI) "word" = some none)
    (g_CJ : PySem.W.nsIn K mainGlobals "InvalidRule" = some (some (.ref CJ)))
    (l_CJ : K.lookup CJ = some (excClassObj nm_CJ q_CJ CJ N_CJ bs_CJ [.ref CT, .type "ValueError", .type "Exception", .type "BaseException", .type "object"] true sn_CJ sub_CJ ab_CJ col_CJ dd_CJ k0_CJ k1_CJ k2_CJ k3_CJ k5_CJ "ValueError.__new__"))
    (sa_CJ : PySem.W.findIn K (.ref CJ) "__setattr__" = some (some (.builtin "object.__setattr__")))
    (ex_CJ : PySem.W.subIn K (.ref CJ) (.type "BaseException") = some true)
    (ty_CJ : PySem.W.typeIn K (.ref CJ) = some (.type "type"))
    (kc_CJ : PySem.W.keepIn K (.ref CJ) = true)
    (a_xrule : PySem.W.findIn K (.ref CJ) "__init__" = some (some (.ref f_xrule)))
    (t_xrule : PySem.W.typeIn K (.ref f_xrule) = some (.type "function"))
    (l_xrule : K.lookup f_xrule = some ⟨oc_xrule, od_xrule, .func (PySem.W.fnOf "__init__" "InvalidRule.__init__" (C8.fnArgs sXRule) (C8.fnBody sXRule) (C8.fnScope sXRule) .none kV_xrule dc_xrule pm_xrule an_xrule cd_xrule ct_xrule), sl_xrule⟩)
    (c_xrule : PySem.W.codeIn K cd_xrule "InvalidRule.__init__" = true)
    (no_CJ : PySem.W.findIn K (.ref CJ) "word" = some none)
    (ga_CJ : PySem.W.findIn K (.ref CJ) "__getattribute__" = some (some (.builtin "BaseException.__getattribute__")))
    (gg_CJ : PySem.W.findIn K (.ref CJ) "__getattr__" = some none)
    (hd_CJ : PySem.W.hasDictIn K CJ = true)
    (ha_CJ : PySem.W.findIn K (.ref CJ) "__class__" = some (some (.builtin "object.__class__")))
    (hm_CJ : PySem.W.mroIn K CJ (.type "object") = some true)
    (su_CJ : PySem.W.subIn K (.ref CJ) (.ref CJ) = some true)
    (is_CJ_CT : PySem.W.kitOne K (.ref CJ) (.ref CT) = some true)
    (is_CJ_CR : PySem.W.kitOne K (.ref CJ) (.ref CR) = some false)
    (z_int : PySem.W.nsIn K mainGlobals "int" = some none)
    (z_bool : PySem.W.nsIn K mainGlobals "bool" = some none)
    (z_str : PySem.W.nsIn K mainGlobals "str" = some none)
    (z_list : PySem.W.nsIn K mainGlobals "list" = some none)
    (z_range : PySem.W.nsIn K mainGlobals "range" = some none)
    (z_isinstance : PySem.W.nsIn K mainGlobals "isinstance" = some none)
    (z_len : PySem.W.nsIn K mainGlobals "len" = some none)
    (z_abs : PySem.W.nsIn K mainGlobals "abs" = some none)
    (z_tuple : PySem.W.nsIn K mainGlobals "tuple" = some none)
    (z_all : PySem.W.nsIn K mainGlobals "all" = some none)
    (z_set : PySem.W.nsIn K mainGlobals "set" = some none)
    (z_sorted : PySem.W.nsIn K mainGlobals "sorted" = some none)
    (z_enumerate : PySem.W.nsIn K mainGlobals "enumerate" = some none)
    (z_min : PySem.W.nsIn K mainGlobals "min" = some none)
    (g_TN : PySem.W.nsIn K mainGlobals "NO_NAMES" = some (some (.ref TN)))
    (l_TN : K.lookup TN = some ⟨.type "tuple", od_TN, .seq #[.str "any" tk_TN_0, .str "none" tk_TN_1, .str "anew" tk_TN_2, .str "lift" tk_TN_3, .str "term" tk_TN_4] n_TN, sl_TN⟩)
    (z_MOST_LETTERS : PySem.W.nsIn K mainGlobals "MOST_LETTERS" = some (some (.int 4 tk_MOST_LETTERS)))
    (z_WEEK : PySem.W.nsIn K mainGlobals "WEEK" = some (some (.int 7 tk_WEEK)))
    (z_LETTERS : PySem.W.nsIn K mainGlobals "LETTERS" = some (some (.str "abcdefghijklmnopqrstuvwxyz" tk_LETTERS))) :
    ∃ fd : FuncData, (∀ (s : Shared) (v : Value), BindsTo s fd ⟨[v], []⟩ [("_law_script", v)]) ∧ ∀ base : Heap, K.In base → base.Ns mainGlobals mg → FnOk l.prog w K mg base C8.CX0 10 fa fd ["_law_script"] (spLaw K) := by
  have e := hfa.symm.trans (PySem.W.mg_of X G a_law)
  cases e
  have N : ∀ {x : Str}, PySem.W.nsIn K mainGlobals x = some none → mg x = none := fun z => PySem.W.mg_none_of X G z
  have D_draw : C8.Def K mg "_law_draw" sDraw f_draw _ := ⟨⟨oc_draw, od_draw, .none, kV_draw, dc_draw, pm_draw, an_draw, cd_draw, ct_draw, sl_draw, rfl, l_draw, c_draw⟩, PySem.W.mg_of X G a_draw, k_draw⟩
  have D_deal : C8.Def K mg "_law_deal" sDeal f_deal _ := ⟨⟨oc_deal, od_deal, .none, kV_deal, dc_deal, pm_deal, an_deal, cd_deal, ct_deal, sl_deal, rfl, l_deal, c_deal⟩, PySem.W.mg_of X G a_deal, k_deal⟩
  have D_pick : C8.Def K mg "_law_pick" sPick f_pick _ := ⟨⟨oc_pick, od_pick, .none, kV_pick, dc_pick, pm_pick, an_pick, cd_pick, ct_pick, sl_pick, rfl, l_pick, c_pick⟩, PySem.W.mg_of X G a_pick, k_pick⟩
  have D_mixed : C8.Def K mg "_law_mixed" sMixed f_mixed _ := ⟨⟨oc_mixed, od_mixed, .none, kV_mixed, dc_mixed, pm_mixed, an_mixed, cd_mixed, ct_mixed, sl_mixed, rfl, l_mixed, c_mixed⟩, PySem.W.mg_of X G a_mixed, k_mixed⟩
  have D_any : C8.Def K mg "_law_any" sAny f_any _ := ⟨⟨oc_any, od_any, .none, kV_any, dc_any, pm_any, an_any, cd_any, ct_any, sl_any, rfl, l_any, c_any⟩, PySem.W.mg_of X G a_any, k_any⟩
  have D_names : C8.Def K mg "_law_names" sNames f_names _ := ⟨⟨oc_names, od_names, .none, kV_names, dc_names, pm_names, an_names, cd_names, ct_names, sl_names, rfl, l_names, c_names⟩, PySem.W.mg_of X G a_names, k_names⟩
  have D_kindD : C8.Def K mg "_law_kind" sKindD f_kindD _ := ⟨⟨oc_kindD, od_kindD, .none, kV_kindD, dc_kindD, pm_kindD, an_kindD, cd_kindD, ct_kindD, sl_kindD, rfl, l_kindD, c_kindD⟩, PySem.W.mg_of X G a_kindD, k_kindD⟩
  have D_ruleD : C8.Def K mg "_law_rule" sRuleD f_ruleD _ := ⟨⟨oc_ruleD, od_ruleD, .none, kV_ruleD, dc_ruleD, pm_ruleD, an_ruleD, cd_ruleD, ct_ruleD, sl_ruleD, rfl, l_ruleD, c_ruleD⟩, PySem.W.mg_of X G a_ruleD, k_ruleD⟩
  have D_kMade : C8.Def K mg "_law_kind_made" sKMade f_kMade _ := ⟨⟨oc_kMade, od_kMade, .none, kV_kMade, dc_kMade, pm_kMade, an_kMade, cd_kMade, ct_kMade, sl_kMade, rfl, l_kMade, c_kMade⟩, PySem.W.mg_of X G a_kMade, k_kMade⟩
  have D_size : C8.Def K mg "_law_is_size" sSize f_size _ := ⟨⟨oc_size, od_size, .none, kV_size, dc_size, pm_size, an_size, cd_size, ct_size, sl_size, rfl, l_size, c_size⟩, PySem.W.mg_of X G a_size, k_size⟩
  have D_lRests : C8.Def K mg "_law_are_rests" sLRests f_lRests _ := ⟨⟨oc_lRests, od_lRests, .none, kV_lRests, dc_lRests, pm_lRests, an_lRests, cd_lRests, ct_lRests, sl_lRests, rfl, l_lRests, c_lRests⟩, PySem.W.mg_of X G a_lRests, k_lRests⟩
  have D_heard : C8.Def K mg "_law_heard" sHeard f_heard _ := ⟨⟨oc_heard, od_heard, .none, kV_heard, dc_heard, pm_heard, an_heard, cd_heard, ct_heard, sl_heard, rfl, l_heard, c_heard⟩, PySem.W.mg_of X G a_heard, k_heard⟩
  have D_due : C8.Def K mg "_law_due" sDue f_due _ := ⟨⟨oc_due, od_due, .none, kV_due, dc_due, pm_due, an_due, cd_due, ct_due, sl_due, rfl, l_due, c_due⟩, PySem.W.mg_of X G a_due, k_due⟩
  have D_isInt : C8.Def K mg "is_integer" sIsInt f_isInt _ := ⟨⟨oc_isInt, od_isInt, .none, kV_isInt, dc_isInt, pm_isInt, an_isInt, cd_isInt, ct_isInt, sl_isInt, rfl, l_isInt, c_isInt⟩, PySem.W.mg_of X G a_isInt, k_isInt⟩
  have D_isCount : C8.Def K mg "is_count" sIsCount f_isCount _ := ⟨⟨oc_isCount, od_isCount, .none, kV_isCount, dc_isCount, pm_isCount, an_isCount, cd_isCount, ct_isCount, sl_isCount, rfl, l_isCount, c_isCount⟩, PySem.W.mg_of X G a_isCount, k_isCount⟩
  have D_isName : C8.Def K mg "is_name" sIsName f_isName _ := ⟨⟨oc_isName, od_isName, .none, kV_isName, dc_isName, pm_isName, an_isName, cd_isName, ct_isName, sl_isName, rfl, l_isName, c_isName⟩, PySem.W.mg_of X G a_isName, k_isName⟩
  have D_isSeq : C8.Def K mg "is_sequence" sIsSeq f_isSeq _ := ⟨⟨oc_isSeq, od_isSeq, .none, kV_isSeq, dc_isSeq, pm_isSeq, an_isSeq, cd_isSeq, ct_isSeq, sl_isSeq, rfl, l_isSeq, c_isSeq⟩, PySem.W.mg_of X G a_isSeq, k_isSeq⟩
  have D_check : C8.Def K mg "check_arguments" sCheck f_check _ := ⟨⟨oc_check, od_check, .none, kV_check, dc_check, pm_check, an_check, cd_check, ct_check, sl_check, rfl, l_check, c_check⟩, PySem.W.mg_of X G a_check, k_check⟩
  have D_areRests : C8.Def K mg "are_rests" sAreRests f_areRests _ := ⟨⟨oc_areRests, od_areRests, .none, kV_areRests, dc_areRests, pm_areRests, an_areRests, cd_areRests, ct_areRests, sl_areRests, rfl, l_areRests, c_areRests⟩, PySem.W.mg_of X G a_areRests, k_areRests⟩
  have D_areKinds : C8.Def K mg "are_kinds" sAreKinds f_areKinds _ := ⟨⟨oc_areKinds, od_areKinds, .none, kV_areKinds, dc_areKinds, pm_areKinds, an_areKinds, cd_areKinds, ct_areKinds, sl_areKinds, rfl, l_areKinds, c_areKinds⟩, PySem.W.mg_of X G a_areKinds, k_areKinds⟩
  have F_law : C8.Fun K "law" "law" sLaw fa _ := ⟨oc_law, od_law, .none, kV_law, dc_law, pm_law, an_law, cd_law, ct_law, sl_law, rfl, l_law, c_law⟩
  have c_CS : Cls K CS := ⟨pg_CS, hd_CS, po_CS, sa_CS⟩
  have N_CS : ClsN K CS ["name", "days", "times"] := ⟨c_CS, fun n hn => by
    simp only [List.mem_cons, List.not_mem_nil, or_false] at hn
    rcases hn with rfl | rfl | rfl
    · exact n_CS_name
    · exact n_CS_days
    · exact n_CS_times⟩
  have O_CS : OwnT K CS := ⟨c_CS, ha_CS, hn_cls, ht_cls, hm_CS, k0_CS, k1_CS, k2_CS, k3_CS, k4_CS⟩
  have F_Still : C8.Fun K "__init__" "Still.__init__" sStill f_Still _ := ⟨oc_Still, od_Still, (.ref TdCS), kV_Still, dc_Still, pm_Still, an_Still, cd_Still, ct_Still, sl_Still, rfl, l_Still, c_Still⟩
  have FD_Still : FunD K "__init__" "Still.__init__" (C8.fnArgs sStill) (C8.fnBody sStill) (C8.fnScope sStill) [.non] [] f_Still _ := ⟨⟨oc_Still, od_Still, .ref TdCS, kV_Still, dc_Still, pm_Still, an_Still, cd_Still, ct_Still, sl_Still, rfl, l_Still, c_Still, .inr ⟨by simp, TdCS, _, [.none], n_TdCS, rfl, l_TdCS, rfl, .cons rfl (.nil)⟩, .inl rfl⟩, k_Still⟩
  have KC_CS : KCls K CK CS := ⟨O_CS, n_CS_name, kd_CS⟩
  have c_CA : Cls K CA := ⟨pg_CA, hd_CA, po_CA, sa_CA⟩
  have N_CA : ClsN K CA ["name", "left", "times"] := ⟨c_CA, fun n hn => by
    simp only [List.mem_cons, List.not_mem_nil, or_false] at hn
    rcases hn with rfl | rfl | rfl
    · exact n_CA_name
    · exact n_CA_left
    · exact n_CA_times⟩
  have O_CA : OwnT K CA := ⟨c_CA, ha_CA, hn_cls, ht_cls, hm_CA, k0_CA, k1_CA, k2_CA, k3_CA, k4_CA⟩
  have F_Anew : C8.Fun K "__init__" "Anew.__init__" sAnew f_Anew _ := ⟨oc_Anew, od_Anew, (.ref TdCA), kV_Anew, dc_Anew, pm_Anew, an_Anew, cd_Anew, ct_Anew, sl_Anew, rfl, l_Anew, c_Anew⟩
  have FD_Anew : FunD K "__init__" "Anew.__init__" (C8.fnArgs sAnew) (C8.fnBody sAnew) (C8.fnScope sAnew) [.non] [] f_Anew _ := ⟨⟨oc_Anew, od_Anew, .ref TdCA, kV_Anew, dc_Anew, pm_Anew, an_Anew, cd_Anew, ct_Anew, sl_Anew, rfl, l_Anew, c_Anew, .inr ⟨by simp, TdCA, _, [.none], n_TdCA, rfl, l_TdCA, rfl, .cons rfl (.nil)⟩, .inl rfl⟩, k_Anew⟩
  have KC_CA : KCls K CK CA := ⟨O_CA, n_CA_name, kd_CA⟩
  have c_CL : Cls K CL := ⟨pg_CL, hd_CL, po_CL, sa_CL⟩
  have N_CL : ClsN K CL ["name", "by", "top", "times"] := ⟨c_CL, fun n hn => by
    simp only [List.mem_cons, List.not_mem_nil, or_false] at hn
    rcases hn with rfl | rfl | rfl | rfl
    · exact n_CL_name
    · exact n_CL_by
    · exact n_CL_top
    · exact n_CL_times⟩
  have O_CL : OwnT K CL := ⟨c_CL, ha_CL, hn_cls, ht_cls, hm_CL, k0_CL, k1_CL, k2_CL, k3_CL, k4_CL⟩
  have F_Lift : C8.Fun K "__init__" "Lift.__init__" sLift f_Lift _ := ⟨oc_Lift, od_Lift, (.ref TdCL), kV_Lift, dc_Lift, pm_Lift, an_Lift, cd_Lift, ct_Lift, sl_Lift, rfl, l_Lift, c_Lift⟩
  have FD_Lift : FunD K "__init__" "Lift.__init__" (C8.fnArgs sLift) (C8.fnBody sLift) (C8.fnScope sLift) [.non] [] f_Lift _ := ⟨⟨oc_Lift, od_Lift, .ref TdCL, kV_Lift, dc_Lift, pm_Lift, an_Lift, cd_Lift, ct_Lift, sl_Lift, rfl, l_Lift, c_Lift, .inr ⟨by simp, TdCL, _, [.none], n_TdCL, rfl, l_TdCL, rfl, .cons rfl (.nil)⟩, .inl rfl⟩, k_Lift⟩
  have KC_CL : KCls K CK CL := ⟨O_CL, n_CL_name, kd_CL⟩
  have NK : NoKd K CK := ⟨nk0, nk1, nk2, nk3, nk4, nk5⟩
  have c_CU : Cls K CU := ⟨pg_CU, hd_CU, po_CU, sa_CU⟩
  have N_CU : ClsN K CU ["length", "rests", "cap", "kinds", "names"] := ⟨c_CU, fun n hn => by
    simp only [List.mem_cons, List.not_mem_nil, or_false] at hn
    rcases hn with rfl | rfl | rfl | rfl | rfl
    · exact n_CU_length
    · exact n_CU_rests
    · exact n_CU_cap
    · exact n_CU_kinds
    · exact n_CU_names⟩
  have F_rule : C8.Fun K "__init__" "Rule.__init__" sInit f_rule _ := ⟨oc_rule, od_rule, (.ref TdCU), kV_rule, dc_rule, pm_rule, an_rule, cd_rule, ct_rule, sl_rule, rfl, l_rule, c_rule⟩
  have FD_rule : FunD K "__init__" "Rule.__init__" (C8.fnArgs sInit) (C8.fnBody sInit) (C8.fnScope sInit) [.ref TeR, .non, .ref TeK] [] f_rule _ := ⟨⟨oc_rule, od_rule, .ref TdCU, kV_rule, dc_rule, pm_rule, an_rule, cd_rule, ct_rule, sl_rule, rfl, l_rule, c_rule, .inr ⟨by simp, TdCU, _, [.ref TeR, .none, .ref TeK], n_TdCU, rfl, l_TdCU, rfl, .cons rfl (.cons rfl (.cons rfl (.nil)))⟩, .inl rfl⟩, k_rule⟩
  have RC : RuleC K CU := ⟨c_CU, n_CU_length, n_CU_rests, n_CU_cap, n_CU_kinds, n_CU_names⟩
  have F_xkind : C8.Fun K "__init__" "InvalidKind.__init__" sXKind f_xkind _ := ⟨oc_xkind, od_xkind, .none, kV_xkind, dc_xkind, pm_xkind, an_xkind, cd_xkind, ct_xkind, sl_xkind, rfl, l_xkind, c_xkind⟩
  have X_CI : OexC K CI := ⟨⟨_, _, _, _, _, _, _, _, _, _, _, _, _, _, _, l_CI, rfl⟩, sa_CI, ex_CI, ty_CI, kc_CI⟩
  have F_xrule : C8.Fun K "__init__" "InvalidRule.__init__" sXRule f_xrule _ := ⟨oc_xrule, od_xrule, .none, kV_xrule, dc_xrule, pm_xrule, an_xrule, cd_xrule, ct_xrule, sl_xrule, rfl, l_xrule, c_xrule⟩
  have X_CJ : OexC K CJ := ⟨⟨_, _, _, _, _, _, _, _, _, _, _, _, _, _, _, l_CJ, rfl⟩, sa_CJ, ex_CJ, ty_CJ, kc_CJ⟩
  have te_CJ : PySem.W.exmOne K (.ref CJ) (.ref CJ) = some true := PySem.W.exm_ref ex_CJ hd_CJ ty_CJ su_CJ
  have EC_CJ : ExcC K CJ := ⟨ga_CJ, gg_CJ, ex_CJ, hd_CJ, ha_CJ, hn_cls, ht_cls, hm_CJ⟩
  have XF_CJ : XfC K CJ := ⟨ga_CJ, gg_CJ, ex_CJ, hd_CJ⟩
  have T_TN : ∀ H, SqT K H TN noNames := fun H => .inr ⟨_, _, n_TN, l_TN, rfl, rfl, (by show 5 ≤ sizeLine; decide), .cons ⟨_, rfl⟩ (.cons ⟨_, rfl⟩ (.cons ⟨_, rfl⟩ (.cons ⟨_, rfl⟩ (.cons ⟨_, rfl⟩ (.nil)))))⟩
  have m_MOST_LETTERS : ∃ u, mg "MOST_LETTERS" = some u ∧ RelV (.int 4) u := ⟨_, PySem.W.mg_of X G z_MOST_LETTERS, _, rfl⟩
  have m_WEEK : ∃ u, mg "WEEK" = some u ∧ RelV (.int 7) u := ⟨_, PySem.W.mg_of X G z_WEEK, _, rfl⟩
  have m_LETTERS : ∃ u, mg "LETTERS" = some u ∧ RelV (.str letters) u := ⟨_, PySem.W.mg_of X G z_LETTERS, _, rfl⟩
  obtain ⟨dsS, vS, bS⟩ := FD_Still.binds1 (ps := ["self", "name", "days", "times"]) 4 1 (by simp) rfl fun T kV doc pm an cdv ct us its h1 h2 => match us, h1, its, h2 with | [_, _, _, _], _, [_], _ => ⟨_, rfl, rfl⟩
  obtain ⟨dsA, vA, bA⟩ := FD_Anew.binds1 (ps := ["self", "name", "left", "times"]) 4 1 (by simp) rfl fun T kV doc pm an cdv ct us its h1 h2 => match us, h1, its, h2 with | [_, _, _, _], _, [_], _ => ⟨_, rfl, rfl⟩
  obtain ⟨dsL, vL, bL⟩ := FD_Lift.binds1 (ps := ["self", "name", "by", "top", "times"]) 5 1 (by simp) rfl fun T kV doc pm an cdv ct us its h1 h2 => match us, h1, its, h2 with | [_, _, _, _, _], _, [_], _ => ⟨_, rfl, rfl⟩
  obtain ⟨dsT, vT, bT⟩ := FD_Still.binds1 (ps := ["self", "name", "days", "times"]) 3 0 (by simp) rfl fun T kV doc pm an cdv ct us its h1 h2 => match us, h1, its, h2 with | [_, _, _], _, [_], _ => ⟨_, rfl, rfl⟩
  obtain ⟨dsW, vW, bW⟩ := FD_Anew.binds1 (ps := ["self", "name", "left", "times"]) 3 0 (by simp) rfl fun T kV doc pm an cdv ct us its h1 h2 => match us, h1, its, h2 with | [_, _, _], _, [_], _ => ⟨_, rfl, rfl⟩
  obtain ⟨dsR, vR, bR⟩ := FD_rule.binds1 (ps := ["self", "length", "rests", "cap", "kinds"]) 5 3 (by simp) rfl fun T kV doc pm an cdv ct us its h1 h2 => match us, h1, its, h2 with | [_, _, _, _, _], _, [_, _, _], _ => ⟨_, rfl, rfl⟩
  refine ⟨PySem.W.fnOf "law" "law" (C8.fnArgs sLaw) (C8.fnBody sLaw) (C8.fnScope sLaw) .none kV_law dc_law pm_law an_law cd_law ct_law, fun s v => .of_eq rfl, fun base _ _ => ?_⟩
  have gI := PySem.W.mg_of X G g_CI
  have gJ := PySem.W.mg_of X G g_CJ
  have cI := cal_isInt (P := l.prog) (w := w) (base := base) D_isInt rfl (N z_isinstance) (N z_int) (N z_bool)
  have cC := cal_isCount D_isCount rfl cI
  have cN := cal_isName (P := l.prog) (w := w) (base := base) D_isName rfl (N z_isinstance) (N z_str) (N z_len) (N z_all) (PySem.W.mg_of X G g_TN) T_TN m_MOST_LETTERS m_LETTERS
  have cQ := cal_isSeq (P := l.prog) (w := w) (base := base) D_isSeq rfl (N z_isinstance) (N z_list) (N z_tuple)
  have eK := err_kind (P := l.prog) (w := w) (base := base) F_xkind rfl X_CI a_xkind t_xkind no_CI gI
  have eR := err_rule (P := l.prog) (w := w) (base := base) F_xrule rfl X_CJ a_xrule t_xrule no_CJ gJ
  have cX := cal_check D_check rfl eK cN cC
  have fS := fn_Still F_Still N_CS cX
  have fA := fn_Anew F_Anew N_CA cX
  have fL := fn_Lift F_Lift N_CL cX
  have mkS : Mk K CS f_Still := ⟨mk_CS, a_Still, i_Still, kc_CS⟩
  have mkA : Mk K CA f_Anew := ⟨mk_CA, a_Anew, i_Anew, kc_CA⟩
  have mkL : Mk K CL f_Lift := ⟨mk_CL, a_Lift, i_Lift, kc_CL⟩
  have mS : MakX l.prog w K mg base 4 "Still" CS (spKind K CS CI 3 dueS fsS) [] := ⟨f_Still, _, _, dsS, mkS, fS, PySem.W.mg_of X G g_CS, bS, vS⟩
  have mT : MakX l.prog w K mg base 4 "Still" CS (spKind K CS CI 3 dueS fsS) [.non] := ⟨f_Still, _, _, dsT, mkS, fS, PySem.W.mg_of X G g_CS, bT, vT⟩
  have mA : MakX l.prog w K mg base 4 "Anew" CA (spKind K CA CI 3 dueA fsA) [] := ⟨f_Anew, _, _, dsA, mkA, fA, PySem.W.mg_of X G g_CA, bA, vA⟩
  have mW : MakX l.prog w K mg base 4 "Anew" CA (spKind K CA CI 3 dueA fsA) [.non] := ⟨f_Anew, _, _, dsW, mkA, fA, PySem.W.mg_of X G g_CA, bW, vW⟩
  have mL : MakX l.prog w K mg base 4 "Lift" CL (spKind K CL CI 4 dueL fsL) [] := ⟨f_Lift, _, _, dsL, mkL, fL, PySem.W.mg_of X G g_CL, bL, vL⟩
  have cRs := cal_areRests (P := l.prog) (w := w) (base := base) D_areRests rfl cI cQ (N z_all) (N z_len) (N z_set) m_WEEK
  have cKs := cal_areKinds (P := l.prog) (w := w) (base := base) D_areKinds rfl cQ (N z_all) (N z_len) (N z_set) (N z_isinstance) (PySem.W.mg_of X G g_CK)
  have fR := fn_rule F_rule RC eR cC cRs cKs (N z_tuple) (N z_sorted)
  have mR : MakX l.prog w K mg base 3 "Rule" CU (spRule K CU CJ CK) [] := ⟨f_rule, _, _, dsR, ⟨mk_CU, a_rule, i_rule, kc_CU⟩, fR, PySem.W.mg_of X G g_CU, bR, vR⟩
  have cDraw := cal_draw (P := l.prog) (w := w) (base := base) D_draw rfl (N z_int)
  have cPick := cal_pick D_pick rfl (N z_len) cDraw
  have cMix := cal_mixed D_mixed rfl (N z_len) (N z_list) cDraw
  have cNm := cal_names D_names rfl cMix
  have cKd := cal_kindD D_kindD rfl cDraw cPick
  have cRD := cal_ruleD D_ruleD rfl ⟨N z_list, N z_range, N z_int, N z_min, N z_sorted⟩ cDraw cPick cMix cNm cKd
  have cKM := cal_kMade D_kMade rfl KC_CS KC_CA KC_CL mS mA mL
  have cZ := cal_size (P := l.prog) (w := w) (base := base) D_size rfl (N z_isinstance) (N z_int) (N z_bool)
  have cLR := cal_lRests (P := l.prog) (w := w) (base := base) D_lRests rfl (N z_isinstance) (N z_int) (N z_bool) (N z_list) (N z_tuple) (N z_len) (N z_enumerate)
  have cH := cal_heard D_heard rfl ⟨EC_CJ, XF_CJ, no_CJ, te_CJ, is_CJ_CT, is_CJ_CR, gJ, PySem.W.mg_of X G g_CT, PySem.W.mg_of X G g_CR⟩ (N z_isinstance) mR
  exact fn_law (CI := CI) F_law ⟨N z_range, N z_list⟩ NK KC_CS KC_CA KC_CL (cal_deal D_deal rfl (N z_int) (N z_abs)) cDraw cPick cMix cRD cKM (cal_any D_any rfl (N z_range) (N z_tuple) cDraw cPick 6) cH (cal_due D_due rfl cZ cLR) mT mW mL
theorem walk {l : PySem.W.OpenLaw} {q : Program} {loose : List Str} {XP : (Str → Option Value) → Heap → Prop} {YP : World → Heap → Prop} {d : DefRec} {K : Params → PySem.W.Frag} (hn : l.most = some 63) (hdf : d.params.defaults = [])
    (hY : ∀ (w : World) (h : Heap), YP w h → (K w.params).In h)
    (F : ∀ (w : World) (mg : Str → Option Value) (fa : Addr) (h : Heap), (K w.params).In h → h.Ns mainGlobals mg → mg d.name = some (.ref fa) →
      ∃ fd : FuncData, (∀ (s : Shared) (u : Value), BindsTo s fd ⟨[u], []⟩ [("_law_script", u)]) ∧ ∀ base : Heap, (K w.params).In base → base.Ns mainGlobals mg → FnOk l.prog w (K w.params) mg base C8.CX0 10 fa fd ["_law_script"] (spLaw (K w.params))) :
    PySem.W.WalkO q loose XP YP l.row.toRowW d [] (fun f vs => PySem.call f vs) :=
  L2.walk_of (n := 63) (k := 10) (x := "_law_script") (CX := fun _ => C8.CX0) (sp := fun w => spLaw (K w.params)) hn (by decide) hdf ⟨rfl, by decide, by decide⟩ hY F (fun _ _ a ns hl _ hS => ⟨a, ns, rfl, hS, hl, fun _ => rfl⟩) fun _ _ _ _ _ z => z
end Ts
open PySem PySem.W PyProof.Rows
set_option maxRecDepth 100000 in
set_option maxHeartbeats 0 in
theorem PySem.Challenge.cw_termstill_k07_rules_refused_holds : PySem.Challenge.rw_termstill_k07_rules_refused.Holds := by
  w_on; o_law; k_head; (case hw => w_witness2)
  k_fill
  refine Ts.walk (l := PySem.Challenge.rw_termstill_k07_rules_refused) rfl rfl (fun w h Y => PySem.W.kIn_of Y) ?F
  case F =>
    intro w mg fa h KX G hmg
    refine' Ts.all_mk KX G hmg ?a_draw ?l_draw ?c_draw ?k_draw ?a_deal ?l_deal ?c_deal ?k_deal ?a_pick ?l_pick ?c_pick ?k_pick ?a_mixed ?l_mixed ?c_mixed ?k_mixed ?a_any ?l_any ?c_any ?k_any ?a_names ?l_names ?c_names ?k_names ?a_kindD ?l_kindD ?c_kindD ?k_kindD ?a_ruleD ?l_ruleD ?c_ruleD ?k_ruleD ?a_kMade ?l_kMade ?c_kMade ?k_kMade ?a_size ?l_size ?c_size ?k_size ?a_lRests ?l_lRests ?c_lRests ?k_lRests ?a_heard ?l_heard ?c_heard ?k_heard ?a_due ?l_due ?c_due ?k_due ?a_isInt ?l_isInt ?c_isInt ?k_isInt ?a_isCount ?l_isCount ?c_isCount ?k_isCount ?a_isName ?l_isName ?c_isName ?k_isName ?a_isSeq ?l_isSeq ?c_isSeq ?k_isSeq ?a_check ?l_check ?c_check ?k_check ?a_areRests ?l_areRests ?c_areRests ?k_areRests ?a_areKinds ?l_areKinds ?c_areKinds ?k_areKinds ?a_law ?l_law ?c_law ?k_law ?g_CK ?g_CS ?pg_CS ?hd_CS ?po_CS ?sa_CS ?mk_CS ?kc_CS ?n_CS_name ?n_CS_days ?n_CS_times ?ha_CS ?hn_cls ?ht_cls ?hm_CS ?k0_CS ?k1_CS ?k2_CS ?k3_CS ?k4_CS ?a_Still ?i_Still ?l_Still ?c_Still ?k_Still ?l_TdCS ?kd_CS ?g_CA ?pg_CA ?hd_CA ?po_CA ?sa_CA ?mk_CA ?kc_CA ?n_CA_name ?n_CA_left ?n_CA_times ?ha_CA ?hm_CA ?k0_CA ?k1_CA ?k2_CA ?k3_CA ?k4_CA ?a_Anew ?i_Anew ?l_Anew ?c_Anew ?k_Anew ?l_TdCA ?kd_CA ?g_CL ?pg_CL ?hd_CL ?po_CL ?sa_CL ?mk_CL ?kc_CL ?n_CL_name ?n_CL_by ?n_CL_top ?n_CL_times ?ha_CL ?hm_CL ?k0_CL ?k1_CL ?k2_CL ?k3_CL ?k4_CL ?a_Lift ?i_Lift ?l_Lift ?c_Lift ?k_Lift ?l_TdCL ?kd_CL ?nk0 ?nk1 ?nk2 ?nk3 ?nk4 ?nk5 ?g_CU ?pg_CU ?hd_CU ?po_CU ?sa_CU ?mk_CU ?kc_CU ?n_CU_length ?n_CU_rests ?n_CU_cap ?n_CU_kinds ?n_CU_names ?a_rule ?i_rule ?l_rule ?c_rule ?k_rule ?l_TdCU ?g_CT ?g_CR ?g_CI ?l_CI ?sa_CI ?ex_CI ?ty_CI ?kc_CI ?a_xkind ?t_xkind ?l_xkind ?c_xkind ?no_CI ?g_CJ ?l_CJ ?sa_CJ ?ex_CJ ?ty_CJ ?kc_CJ ?a_xrule ?t_xrule ?l_xrule ?c_xrule ?no_CJ ?ga_CJ ?gg_CJ ?hd_CJ ?ha_CJ ?hm_CJ ?su_CJ ?is_CJ_CT ?is_CJ_CR ?z_int ?z_bool ?z_str ?z_list ?z_range ?z_isinstance ?z_len ?z_abs ?z_tuple ?z_all ?z_set ?z_sorted ?z_enumerate ?z_min ?g_TN ?l_TN ?z_MOST_LETTERS ?z_WEEK ?z_LETTERS
    (case a_draw => k_is)
    (case l_draw => k_is)
    (case c_draw => k_is)
    (case k_draw => k_is)
    (case a_deal => k_is)
    (case l_deal => k_is)
    (case c_deal => k_is)
    (case k_deal => k_is)
    (case a_pick => k_is)
    (case l_pick => k_is)
    (case c_pick => k_is)
    (case k_pick => k_is)
    (case a_mixed => k_is)
    (case l_mixed => k_is)
    (case c_mixed => k_is)
    (case k_mixed => k_is)
    (case a_any => k_is)
    (case l_any => k_is)
    (case c_any => k_is)
    (case k_any => k_is)
    (case a_names => k_is)
    (case l_names => k_is)
    (case c_names => k_is)
    (case k_names => k_is)
    (case a_kindD => k_is)
    (case l_kindD => k_is)
    (case c_kindD => k_is)
    (case k_kindD => k_is)
    (case a_ruleD => k_is)
    (case l_ruleD => k_is)
    (case c_ruleD => k_is)
    (case k_ruleD => k_is)
    (case a_kMade => k_is)
    (case l_kMade => k_is)
    (case c_kMade => k_is)
    (case k_kMade => k_is)
    (case a_size => k_is)
    (case l_size => k_is)
    (case c_size => k_is)
    (case k_size => k_is)
    (case a_lRests => k_is)
    (case l_lRests => k_is)
    (case c_lRests => k_is)
    (case k_lRests => k_is)
    (case a_heard => k_is)
    (case l_heard => k_is)
    (case c_heard => k_is)
    (case k_heard => k_is)
    (case a_due => k_is)
    (case l_due => k_is)
    (case c_due => k_is)
    (case k_due => k_is)
    (case a_isInt => k_is)
    (case l_isInt => k_is)
    (case c_isInt => k_is)
    (case k_isInt => k_is)
    (case a_isCount => k_is)
    (case l_isCount => k_is)
    (case c_isCount => k_is)
    (case k_isCount => k_is)
    (case a_isName => k_is)
    (case l_isName => k_is)
    (case c_isName => k_is)
    (case k_isName => k_is)
    (case a_isSeq => k_is)
    (case l_isSeq => k_is)
    (case c_isSeq => k_is)
    (case k_isSeq => k_is)
    (case a_check => k_is)
    (case l_check => k_is)
    (case c_check => k_is)
    (case k_check => k_is)
    (case a_areRests => k_is)
    (case l_areRests => k_is)
    (case c_areRests => k_is)
    (case k_areRests => k_is)
    (case a_areKinds => k_is)
    (case l_areKinds => k_is)
    (case c_areKinds => k_is)
    (case k_areKinds => k_is)
    (case a_law => k_is)
    (case l_law => k_is)
    (case c_law => k_is)
    (case k_law => k_is)
    (case g_CK => k_is)
    (case g_CS => k_is)
    (case pg_CS => k_is)
    (case hd_CS => k_is)
    (case po_CS => k_is)
    (case sa_CS => k_is)
    (case mk_CS => k_is)
    (case kc_CS => k_is)
    (case n_CS_name => k_is)
    (case n_CS_days => k_is)
    (case n_CS_times => k_is)
    (case ha_CS => k_is)
    (case hn_cls => k_is)
    (case ht_cls => k_is)
    (case hm_CS => k_is)
    (case k0_CS => (first | kit_is | k_is))
    (case k1_CS => (first | kit_is | k_is))
    (case k2_CS => (first | kit_is | k_is))
    (case k3_CS => (first | kit_is | k_is))
    (case k4_CS => (first | kit_is | k_is))
    (case a_Still => k_is)
    (case i_Still => k_is)
    (case l_Still => k_is)
    (case c_Still => k_is)
    (case k_Still => k_is)
    (case l_TdCS => k_is)
    (case kd_CS => (first | kit_is | k_is))
    (case g_CA => k_is)
    (case pg_CA => k_is)
    (case hd_CA => k_is)
    (case po_CA => k_is)
    (case sa_CA => k_is)
    (case mk_CA => k_is)
    (case kc_CA => k_is)
    (case n_CA_name => k_is)
    (case n_CA_left => k_is)
    (case n_CA_times => k_is)
    (case ha_CA => k_is)
    (case hm_CA => k_is)
    (case k0_CA => (first | kit_is | k_is))
    (case k1_CA => (first | kit_is | k_is))
    (case k2_CA => (first | kit_is | k_is))
    (case k3_CA => (first | kit_is | k_is))
    (case k4_CA => (first | kit_is | k_is))
    (case a_Anew => k_is)
    (case i_Anew => k_is)
    (case l_Anew => k_is)
    (case c_Anew => k_is)
    (case k_Anew => k_is)
    (case l_TdCA => k_is)
    (case kd_CA => (first | kit_is | k_is))
    (case g_CL => k_is)
    (case pg_CL => k_is)
    (case hd_CL => k_is)
    (case po_CL => k_is)
    (case sa_CL => k_is)
    (case mk_CL => k_is)
    (case kc_CL => k_is)
    (case n_CL_name => k_is)
    (case n_CL_by => k_is)
    (case n_CL_top => k_is)
    (case n_CL_times => k_is)
    (case ha_CL => k_is)
    (case hm_CL => k_is)
    (case k0_CL => (first | kit_is | k_is))
    (case k1_CL => (first | kit_is | k_is))
    (case k2_CL => (first | kit_is | k_is))
    (case k3_CL => (first | kit_is | k_is))
    (case k4_CL => (first | kit_is | k_is))
    (case a_Lift => k_is)
    (case i_Lift => k_is)
    (case l_Lift => k_is)
    (case c_Lift => k_is)
    (case k_Lift => k_is)
    (case l_TdCL => k_is)
    (case kd_CL => (first | kit_is | k_is))
    (case nk0 => (first | kit_is | k_is))
    (case nk1 => (first | kit_is | k_is))
    (case nk2 => (first | kit_is | k_is))
    (case nk3 => (first | kit_is | k_is))
    (case nk4 => (first | kit_is | k_is))
    (case nk5 => (first | kit_is | k_is))
    (case g_CU => k_is)
    (case pg_CU => k_is)
    (case hd_CU => k_is)
    (case po_CU => k_is)
    (case sa_CU => k_is)
    (case mk_CU => k_is)
    (case kc_CU => k_is)
    (case n_CU_length => k_is)
    (case n_CU_rests => k_is)
    (case n_CU_cap => k_is)
    (case n_CU_kinds => k_is)
    (case n_CU_names => k_is)
    (case a_rule => k_is)
    (case i_rule => k_is)
    (case l_rule => k_is)
    (case c_rule => k_is)
    (case k_rule => k_is)
    (case l_TdCU => k_is)
    (case g_CT => k_is)
    (case g_CR => k_is)
    (case g_CI => k_is)
    (case l_CI => k_is)
    (case sa_CI => k_is)
    (case ex_CI => k_is)
    (case ty_CI => k_is)
    (case kc_CI => k_is)
    (case a_xkind => k_is)
    (case t_xkind => k_is)
    (case l_xkind => k_is)
    (case c_xkind => k_is)
    (case no_CI => k_is)
    (case g_CJ => k_is)
    (case l_CJ => k_is)
    (case sa_CJ => k_is)
    (case ex_CJ => k_is)
    (case ty_CJ => k_is)
    (case kc_CJ => k_is)
    (case a_xrule => k_is)
    (case t_xrule => k_is)
    (case l_xrule => k_is)
    (case c_xrule => k_is)
    (case no_CJ => k_is)
    (case ga_CJ => k_is)
    (case gg_CJ => k_is)
    (case hd_CJ => k_is)
    (case ha_CJ => k_is)
    (case hm_CJ => k_is)
    (case su_CJ => k_is)
    (case is_CJ_CT => (first | kit_is | k_is))
    (case is_CJ_CR => (first | kit_is | k_is))
    (case z_int => k_is)
    (case z_bool => k_is)
    (case z_str => k_is)
    (case z_list => k_is)
    (case z_range => k_is)
    (case z_isinstance => k_is)
    (case z_len => k_is)
    (case z_abs => k_is)
    (case z_tuple => k_is)
    (case z_all => k_is)
    (case z_set => k_is)
    (case z_sorted => k_is)
    (case z_enumerate => k_is)
    (case z_min => k_is)
    (case g_TN => k_is)
    (case l_TN => k_is)
    (case z_MOST_LETTERS => k_is)
    (case z_WEEK => k_is)
    (case z_LETTERS => k_is)

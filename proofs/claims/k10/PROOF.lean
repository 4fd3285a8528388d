import PyProof.Rows.All
import Wide.All
import OpenK.AllK
import Wide.FinOn
import HandS.ForMost
import HandS.ForExc
import HandS.Wide
import HandS.Codes
import HandS.IsInst
import HandS.SortInts
import HandS.Conv
import HandS.Style
import HandS.Defaults
import HandS.Strs
import HandS.Zip
import HandS.CallRecv
import PySem.Challenge.RW_termstill_k10_working_days
set_option Elab.async false
set_option maxRecDepth 100000
namespace Ts
open PySem L2

/-! ### heaps -/
/-- all but two places stay -/
def Kept (D L : Addr) (H H' : Hp) : Prop := ∀ b o, b ≠ D → b ≠ L → H b = some o → H' b = some o
theorem Kept.refl {D L : Addr} {H : Hp} : Kept D L H H := fun _ _ _ _ h => h
theorem Kept.trans {D L : Addr} {H H1 H2 : Hp} (a : Kept D L H H1) (b : Kept D L H1 H2) : Kept D L H H2 := fun c o h1 h2 h => b c o h1 h2 (a c o h1 h2 h)
theorem Kept.new {D L p : Addr} {o : HO} {H H1 : Hp} (a : Kept D L H H1) (h : H1 p = none) : Kept D L H (upd H1 p o) := fun b u h1 h2 e => by
  rw [upd_ne (ne_of_none (a b u h1 h2 e) h)]
  exact a b u h1 h2 e
theorem Kept.atD {D L : Addr} {o : HO} {H H1 : Hp} (a : Kept D L H H1) : Kept D L H (upd H1 D o) := fun b u h1 h2 e => by
  rw [upd_ne h1]
  exact a b u h1 h2 e
theorem Kept.atL {D L : Addr} {o : HO} {H H1 : Hp} (a : Kept D L H H1) : Kept D L H (upd H1 L o) := fun b u h1 h2 e => by
  rw [upd_ne h2]
  exact a b u h1 h2 e
theorem Same.kept {D L : Addr} {H H' : Hp} (s : Same H H') : Kept D L H H' := fun b o _ _ h => s b o h
theorem Same.new {H H1 : Hp} {p : Addr} {o : HO} (s : Same H H1) (h : H1 p = none) : Same H (upd H1 p o) := fun b u e => by
  rw [upd_ne (ne_of_none (s b u e) h)]
  exact s b u e

/-! ### lists of ints compared with the empty list -/
theorem dpAll_ints {K : PySem.W.Frag} {H : Hp} : ∀ cs : List Int, DpAll K H (cs.map V.int) (cs.map PyData.int)
  | [] => .nil
  | c :: cs => .cons (.int c) (dpAll_ints cs)
theorem eqv_nil (cs : List Int) : PyData.eqv (.list (cs.map PyData.int)) (.list []) = cs.isEmpty := by
  cases cs with
  | nil => rfl
  | cons c cs => rfl
theorem ne_nil {K : PySem.W.Frag} {H : Hp} {L p : Addr} {cs : List Int} (hL : SqL K H L (cs.map V.int)) (hp : H p = some (.lst [])) {Q : VK} (q : Q (.bl (!cs.isEmpty)) H) : rNeD K (.ref L) (.ref p) H Q := by
  refine ⟨.list (cs.map .int), .list [], .lst hL (dpAll_ints cs), .lst (SqL.of hp) .nil, PySem.W.ke_shaped_ints cs, PySem.W.ke_shaped_ints [], ?_⟩
  rw [eqv_nil]
  exact q

/-! ### what the law draws from -/
/-- at D the pair (list of the great cells, a small number), the list at L -/
structure DealAt (H : Hp) (D L : Addr) : Prop where
  ex : ∃ (cs : List Int) (m : Int), H D = some (.lst [.ref L, .int m]) ∧ H L = some (.lst (cs.map V.int)) ∧ cs.length ≤ 60 ∧ (∀ c ∈ cs, 0 ≤ c) ∧ 0 ≤ m ∧ m < 2147483647
theorem deal_ne {H : Hp} {D L : Addr} {m : Int} {cs : List Int} (h1 : H D = some (.lst [.ref L, .int m])) (h2 : H L = some (.lst (cs.map V.int))) : D ≠ L := by
  intro e
  subst e
  rw [h1] at h2
  cases cs with
  | nil => cases h2
  | cons c cs => cases h2
theorem DealAt.ne {H : Hp} {D L : Addr} (d : DealAt H D L) : D ≠ L := by
  obtain ⟨cs, m, h1, h2, _⟩ := d.ex
  exact deal_ne h1 h2
theorem DealAt.someD {H : Hp} {D L : Addr} (d : DealAt H D L) : ∃ o, H D = some o := by
  obtain ⟨cs, m, h1, h2, _⟩ := d.ex
  exact ⟨_, h1⟩
theorem DealAt.someL {H : Hp} {D L : Addr} (d : DealAt H D L) : ∃ o, H L = some o := by
  obtain ⟨cs, m, h1, h2, _⟩ := d.ex
  exact ⟨_, h2⟩
theorem DealAt.same {H H' : Hp} {D L : Addr} (d : DealAt H D L) (s : Same H H') : DealAt H' D L := by
  obtain ⟨cs, m, h1, h2, r⟩ := d.ex
  exact ⟨cs, m, s _ _ h1, s _ _ h2, r⟩
/-- a draw, or several: the deal goes on, all else stays -/
structure Went (D L : Addr) (H H' : Hp) : Prop where
  d : DealAt H' D L
  k : Kept D L H H'
theorem Went.trans {D L : Addr} {H H1 H2 : Hp} (a : Went D L H H1) (b : Went D L H1 H2) : Went D L H H2 := ⟨b.d, a.k.trans b.k⟩
theorem Went.same {D L : Addr} {H H1 H2 : Hp} (a : Went D L H H1) (s : Same H1 H2) : Went D L H H2 := ⟨a.d.same s, a.k.trans (Same.kept s)⟩
theorem Went.new {D L p : Addr} {o : HO} {H H1 : Hp} (a : Went D L H H1) (h : H1 p = none) : Went D L H (upd H1 p o) := a.same (Same.new (Same.refl _) h)

/-! ### the promise of a draw -/
def spDraw : Sp := fun vs H Q _ => ∃ (D L : Addr) (n : Int), vs = [.ref D, .int n] ∧ DealAt H D L ∧ 0 < n ∧ n < 2 ^ 64 ∧
  ∀ (d : Int) (H' : Hp), 0 ≤ d → d < n → Went D L H H' → Q (.int d) H'
theorem fdiv_nonneg {a b : Int} (h1 : 0 ≤ a) (h2 : 0 < b) : 0 ≤ a / b := Int.ediv_nonneg h1 (Int.le_of_lt h2)

theorem cs_last {cs : List Int} (h : cs.isEmpty = false) : ∃ ds d, cs = ds ++ [d] := by
  cases cs with
  | nil => cases h
  | cons c cs => exact ⟨(c :: cs).dropLast, (c :: cs).getLast (by simp), (List.dropLast_concat_getLast (by simp)).symm⟩

theorem cut_to {α : Type} (f : α → V) (xs : List α) (k : Nat) : cutV (xs.map f) none (some (k : Int)) = (xs.take k).map f := by
  unfold cutV
  rw [HT.sIx_none, HT.sIx_nat, List.drop_zero, Nat.sub_zero, List.map_take, List.length_map]
  by_cases h : k ≤ xs.length
  · rw [Nat.min_eq_left h]
  · rw [Nat.min_eq_right (by omega), List.take_of_length_le (by rw [List.length_map]; exact Nat.le_refl _), List.take_of_length_le (by rw [List.length_map]; omega)]
/-- the item of a mapped list -/
theorem map_at {α : Type} {f : α → V} {xs : List α} {i : Nat} {y : V} (h : (xs.map f)[i]? = some y) : ∃ x, y = f x ∧ xs[i]? = some x := by
  rw [List.getElem?_map] at h
  cases e : xs[i]? with
  | none => rw [e] at h; cases h
  | some x => rw [e] at h; exact ⟨x, (Option.some.inj h).symm, rfl⟩
theorem at_lt {α : Type} {xs : List α} {i : Nat} {x : α} (h : xs[i]? = some x) : i < xs.length := (List.getElem?_eq_some_iff.mp h).1
theorem at_mem {α : Type} {xs : List α} {i : Nat} {x : α} (h : xs[i]? = some x) : x ∈ xs := List.mem_of_getElem? h
theorem abs_nn (i : Int) : 0 ≤ (if i < 0 then -i else i) := by split <;> omega
theorem same_upd_new {H H1 : Hp} {p : Addr} {o : HO} (s : Same H H1) (hp : H p = none) : Same H (upd H1 p o) := fun b u e => by
  rw [upd_ne (ne_of_none e hp)]
  exact s b u e
theorem yes_ {σ : L2.St} {H : Hp} {A : Hp → Prop} {B : Hp → Prop} (h : A H) : tYes σ H (fun b H3 => if b = true then A H3 else B H3) := by
  show (if true = true then A H else B H)
  exact iteT h
def spDeal (K : PySem.W.Frag) : Sp := fun vs H Q _ => ∃ (a : Addr) (ns : List Int), vs = [.ref a] ∧ SqL K H a (ns.map V.int) ∧ ns.length ≤ 63 ∧
  ∀ (D L : Addr) (H' : Hp), DealAt H' D L → Same H H' → H D = none → H L = none → Q (.ref D) H'

/-! ### flat values -/
def okV : V → Bool
  | .non => true
  | .bl _ => true
  | .int _ => true
  | .str x => PySem.PyData.strOk x
  | _ => false
def toD : V → PyData
  | .non => .none
  | .bl b => .bool b
  | .int i => .int i
  | .str x => .str x
  | _ => .none
theorem dp_ok {K : PySem.W.Frag} {H : Hp} {v : V} (h : okV v = true) : Dp K H v (toD v) := by
  cases v with
  | non => exact .non
  | bl b => exact .bl b
  | int i => exact .int i
  | str x => exact .str x
  | byt b => cases h
  | flt b => cases h
  | ref a => cases h
  | ty n => cases h
theorem dpAll_ok {K : PySem.W.Frag} {H : Hp} : ∀ {xs : List V}, xs.all okV = true → DpAll K H xs (xs.map toD)
  | [], _ => .nil
  | x :: xs, h => by
    rw [List.all_cons, Bool.and_eq_true] at h
    exact .cons (dp_ok h.1) (dpAll_ok h.2)
theorem lay_ok {v : V} (h : okV v = true) : PyData.canLay0 (toD v) = true := by
  cases v <;> first | rfl | exact h | cases h
theorem layAll_ok : ∀ {xs : List V}, xs.all okV = true → PyData.canLayAll0 (xs.map toD) = true
  | [], _ => rfl
  | x :: xs, h => by
    rw [List.all_cons, Bool.and_eq_true] at h
    simp [PyData.canLayAll0, lay_ok h.1, layAll_ok h.2]
theorem depth_ok (v : V) : PyData.depth (toD v) = 0 := by cases v <;> rfl
theorem depthAll_ok : ∀ xs : List V, PyData.depthAll (xs.map toD) = 0
  | [] => rfl
  | x :: xs => by simp [PyData.depthAll, depth_ok, depthAll_ok xs]
theorem shaped_ok {xs : List V} (h : xs.all okV = true) : SeqAt.shaped (.list (xs.map toD)) = true := by
  simp [SeqAt.shaped, PyData.canLay0, PyData.depth, layAll_ok h, depthAll_ok]
theorem eqv_nilF (xs : List V) : PyData.eqv (.list (xs.map toD)) (.list []) = xs.isEmpty := by
  cases xs with
  | nil => rfl
  | cons c cs => rfl
theorem ne_nilF {K : PySem.W.Frag} {H : Hp} {L p : Addr} {xs : List V} (hL : SqL K H L xs) (ho : xs.all okV = true) (hp : H p = some (.lst [])) {Q : VK} (q : Q (.bl (!xs.isEmpty)) H) : rNeD K (.ref L) (.ref p) H Q := by
  refine ⟨.list (xs.map toD), .list [], .lst hL (dpAll_ok ho), .lst (SqL.of hp) .nil, shaped_ok ho, PySem.W.ke_shaped_ints [], ?_⟩
  rw [eqv_nilF]
  exact q
theorem okV_flat {v : V} (h : okV v = true) : flatV v = true := by
  cases v <;> first | rfl | cases h
theorem Kept.seq {K : PySem.W.Frag} {D L a : Addr} {xs : List V} {H H' : Hp} (k : Kept D L H H') (h1 : a ≠ D) (h2 : a ≠ L) (h : SqL K H a xs) : SqL K H' a xs := by
  rcases h with (h | ⟨o, h⟩) | h
  · exact .inl (.inl (k _ _ h1 h2 h))
  · exact .inl (.inr ⟨o, k _ _ h1 h2 h⟩)
  · exact .inr h
/-- not one of the deal's two lists -/
def Off (H : Hp) (D L a : Addr) : Prop := a ≠ D ∧ a ≠ L
theorem off_new {H : Hp} {D L a : Addr} (d : DealAt H D L) (h : H a = none) : a ≠ D ∧ a ≠ L := by
  obtain ⟨o, hD⟩ := d.someD
  obtain ⟨o', hL⟩ := d.someL
  exact ⟨(ne_of_none hD h).symm, (ne_of_none hL h).symm⟩

/-! ### picking, mixing -/
def spPick (K : PySem.W.Frag) : Sp := fun vs H Q _ => ∃ (D L a : Addr) (xs : List V), vs = [.ref D, .ref a] ∧ DealAt H D L ∧ SqL K H a xs ∧ a ≠ D ∧ a ≠ L ∧ 0 < xs.length ∧ xs.length ≤ 1000 ∧
  ∀ (v : V) (H' : Hp), v ∈ xs → Went D L H H' → Q v H'
def spMixed (K : PySem.W.Frag) : Sp := fun vs H Q _ => ∃ (D L a : Addr) (xs : List V), vs = [.ref D, .ref a] ∧ DealAt H D L ∧ SqL K H a xs ∧ a ≠ D ∧ a ≠ L ∧ xs.all okV = true ∧ xs.length ≤ 1000 ∧
  ∀ (p : Addr) (ys : List V) (H' : Hp), ys.Perm xs → Went D L H H' → H p = none → H' p = some (.lst ys) → Q (.ref p) H'
theorem seqIndex_nat {j n : Nat} (h : j < n) : seqIndex? (j : Int) n = some j := by
  unfold seqIndex?
  simp only [show ¬ ((j : Int) < 0) by omega, if_false]
  rw [show (decide (0 ≤ (j : Int)) && decide ((j : Int) < (n : Int))) = true by simp; omega]
  simp
theorem erase_perm {α : Type} : ∀ {xs : List α} {j : Nat} {y : α}, xs[j]? = some y → (y :: xs.eraseIdx j).Perm xs
  | [], j, y, h => by simp at h
  | x :: xs, 0, y, h => by
    have e : x = y := Option.some.inj h
    rw [e]
    exact List.Perm.refl _
  | x :: xs, j + 1, y, h => by
    have ih := erase_perm (xs := xs) (j := j) (y := y) h
    exact (List.Perm.swap x y _).trans (ih.cons x)
end Ts

namespace Ts
open PySem L2
open PySem.Builtin in
/-- sorted(xs), xs a list or a tuple of ints -/
def rSortedQ (K : PySem.W.Frag) : List V → Hp → VK → Prop := fun vs H Q => ∃ (a : Addr) (ns : List Int), vs = [V.ref a] ∧ (SqL K H a (ns.map V.int) ∨ SqT K H a (ns.map V.int)) ∧
  ∀ (ys : List Int) (p : Addr), ys.Perm ns → ys.Pairwise (· ≤ ·) → H p = none → Q (.ref p) (upd H p (.lst (ys.map V.int)))
section
variable {X : Cx}
open PyProof.Rows in
theorem cr_sortedQ : CallR X (.builtin "sorted") (rSortedQ X.K) := by
  intro pins s σ H vs us Q I r h
  obtain ⟨a, ns, rfl, hs, q⟩ := h
  rw [Vals.ref1 r]
  have hob : ∃ (T : String) (o : Obj) (its : List Value) (n : Nat), (T = "list" ∨ T = "tuple") ∧ s.heap.get? a = some o ∧ o.cls = .type T ∧ o.data = .seq its.toArray n ∧ Vals (ns.map V.int) its ∧ (ns.map V.int).length ≤ sizeLine := by
    rcases hs with hs | hs
    · obtain ⟨its, rv, ⟨o, n, e1, e2, _, e3⟩, hz⟩ := I.list hs
      exact ⟨_, o, its, n, .inl rfl, e1, e2, e3, rv, hz⟩
    · obtain ⟨its, rv, ⟨o, e1, e2, n, e3⟩, hz⟩ := I.tuple hs
      exact ⟨_, o, its, n, .inr rfl, e1, e2, e3, rv, hz⟩
  obtain ⟨T, o, its, n, hT, e1, e2, e3, rv, hz⟩ := hob
  have hi := rv.ints
  have hl : its.length ≤ sizeLine := by rw [← rv.length]; exact hz
  refine Calls.call_function_entry kind_sorted (prog := X.prog) (w := X.w) plain_sorted entry_sorted (args_sorted1 _) ?_
  unfold PySem.Builtin.«sorted»
  refine wpAny_bind (m := PySem.checkCount "sorted" 1 1 _) (wpAny_pure (wpAny_bind ?_))
  refine wpAny_collect_seq a hT e1 e2 e3 (fun h1 keep => wpAny_bind (wpAny_newList ?_ (by simpa using hl))) (by rw [List.size_toArray]; exact hl)
  have I1 : Inv X pins σ H { s with heap := h1 } := I.kept (t' := s.toks) keep
  have hnew : (h1.push (seqObj "list" its.toArray 0)).get? h1.objs.size = some (seqObj "list" its.toArray 0) := Heap.get?_push_size _ rfl
  refine wpAny_bind (wpAny_holding (wpAny_call_entry slot_list_sort ⟨_, hnew, rfl⟩ entry_list_sort (SrtO.list_sort_ord SrtO.swo_int hnew hl (fun h2 => SrtO.ints_sortable hi h2) fun out o1 o2 => ⟨_, rfl, wpAny_pure ⟨_, rfl, ?_⟩⟩) (args_list_sort _)))
  obtain ⟨k1, k2, k3⟩ := SrtO.ints_out hi o1 o2
  obtain ⟨ep, hat⟩ := PyProof.Rows.sortedHeap_at (vs := its) (out := out.toArray) hnew
  have hlen : ((out.map SrtO.iv).map V.int).length ≤ sizeLine := by
    rw [List.length_map, k2.length_eq, ← List.length_map (f := V.int)]
    exact hz
  refine ⟨.ref _, upd H h1.objs.size (.lst ((out.map SrtO.iv).map V.int)), I1.laid (t' := s.toks) (fun b u e => ?_) (Nat.le_refl _) ⟨hlen, out, ep, vals_of_ints k1, hat⟩, rfl, q _ _ k2 k3 (I1.hok.fresh (Nat.le_refl _))⟩
  have hb : b < h1.objs.size := Heap.lt_size e
  rw [PyProof.Rows.sortedHeap_old (Nat.ne_of_lt hb) (Heap.lt_size (Heap.get?_push_of_some (seqObj "list" its.toArray 0) e))]
  exact Heap.get?_push_of_some _ e
end
end Ts

namespace Ts
open PySem L2
/-! ### values and their types -/
inductive Kd where
  | non | bl | int | str | lst | tup | own
  deriving DecidableEq
def Kd.inI : Kd → Bool | .int => true | .bl => true | _ => false
def Kd.inB : Kd → Bool | .bl => true | _ => false
def Kd.inS : Kd → Bool | .str => true | _ => false
def Kd.inL : Kd → Bool | .lst => true | _ => false
def Kd.inT : Kd → Bool | .tup => true | _ => false
structure TyV (K : PySem.W.Frag) (H : Hp) (v : V) (k : Kd) : Prop where
  ex : ∃ t, TyX K H v t ∧ PySem.W.kitOne K t (.type "int") = some k.inI ∧ PySem.W.kitOne K t (.type "bool") = some k.inB ∧ PySem.W.kitOne K t (.type "str") = some k.inS ∧ PySem.W.kitOne K t (.type "list") = some k.inL ∧ PySem.W.kitOne K t (.type "tuple") = some k.inT
  i1 : k = .int → ∃ i, v = .int i
  s1 : k = .str → ∃ x, v = .str x
theorem tyV_int {K : PySem.W.Frag} {H : Hp} {i : Int} : TyV K H (.int i) .int :=
  ⟨⟨_, .base (.int i), kit_ty (by decide +kernel), kit_ty (by decide +kernel), kit_ty (by decide +kernel), kit_ty (by decide +kernel), kit_ty (by decide +kernel)⟩, fun _ => ⟨i, rfl⟩, fun h => (by cases h)⟩
theorem tyV_bl {K : PySem.W.Frag} {H : Hp} {b : Bool} : TyV K H (.bl b) .bl :=
  ⟨⟨_, .base (.bl b), kit_ty (by decide +kernel), kit_ty (by decide +kernel), kit_ty (by decide +kernel), kit_ty (by decide +kernel), kit_ty (by decide +kernel)⟩, fun h => (by cases h), fun h => (by cases h)⟩
theorem tyV_non {K : PySem.W.Frag} {H : Hp} : TyV K H .non .non :=
  ⟨⟨_, .base .non, kit_ty (by decide +kernel), kit_ty (by decide +kernel), kit_ty (by decide +kernel), kit_ty (by decide +kernel), kit_ty (by decide +kernel)⟩, fun h => (by cases h), fun h => (by cases h)⟩
theorem tyV_str {K : PySem.W.Frag} {H : Hp} {x : Str} : TyV K H (.str x) .str :=
  ⟨⟨_, .base (.str x), kit_ty (by decide +kernel), kit_ty (by decide +kernel), kit_ty (by decide +kernel), kit_ty (by decide +kernel), kit_ty (by decide +kernel)⟩, fun h => (by cases h), fun _ => ⟨x, rfl⟩⟩
theorem tyV_list {K : PySem.W.Frag} {H : Hp} {a : Addr} {xs : List V} (h : SqL K H a xs) : TyV K H (.ref a) .lst := by
  refine ⟨?_, fun h => (by cases h), fun h => (by cases h)⟩
  have e : TyX K H (.ref a) (.type "list") := by
    rcases h with (h | ⟨o, h⟩) | ⟨o, its, n, h1, h2, _⟩
    · exact .base (.lst h)
    · exact .base (.frz h)
    · exact .kList h1 h2
  exact ⟨_, e, kit_ty (by decide +kernel), kit_ty (by decide +kernel), kit_ty (by decide +kernel), kit_ty (by decide +kernel), kit_ty (by decide +kernel)⟩
theorem tyV_tup {K : PySem.W.Frag} {H : Hp} {a : Addr} {xs : List V} (h : SqT K H a xs) : TyV K H (.ref a) .tup := by
  refine ⟨?_, fun h => (by cases h), fun h => (by cases h)⟩
  have e : TyX K H (.ref a) (.type "tuple") := by
    rcases h with (h | ⟨o, h⟩) | ⟨o, its, n, h1, h2, _⟩
    · exact .base (.tup h)
    · exact .fTuple h
    · exact .kTuple h1 h2
  exact ⟨_, e, kit_ty (by decide +kernel), kit_ty (by decide +kernel), kit_ty (by decide +kernel), kit_ty (by decide +kernel), kit_ty (by decide +kernel)⟩
theorem TyX.same {K : PySem.W.Frag} {H H' : Hp} {v : V} {t : Value} (h : TyX K H v t) (s : Same H H') : TyX K H' v t := by
  cases h with
  | base h =>
    refine .base ?_
    cases h with
    | non => exact .non
    | bl x => exact .bl x
    | int i => exact .int i
    | str x => exact .str x
    | flt x => exact .flt x
    | lst e => exact .lst (s _ _ e)
    | frz e => exact .frz (s _ _ e)
    | tup e => exact .tup (s _ _ e)
    | dK e => exact .dK (s _ _ e)
    | dT e => exact .dT (s _ _ e)
    | ins e cl ha hn htk hm => exact .ins (s _ _ e) cl ha hn htk hm
  | byt b => exact .byt b
  | set e => exact .set (s _ _ e)
  | kList e c => exact .kList e c
  | kTuple e c => exact .kTuple e c
  | kDict e c => exact .kDict e c
  | fTuple e => exact .fTuple (s _ _ e)
  | fDict e => exact .fDict (s _ _ e)
theorem TyV.same {K : PySem.W.Frag} {H H' : Hp} {v : V} {k : Kd} (h : TyV K H v k) (s : Same H H') : TyV K H' v k := by
  obtain ⟨⟨t, h1, h2⟩, h3, h4⟩ := h
  exact ⟨⟨t, TyX.same h1 s, h2⟩, h3, h4⟩
theorem Same.sqt {K : PySem.W.Frag} {H H' : Hp} {a : Addr} {xs : List V} (e : Same H H') (h : SqT K H a xs) : SqT K H' a xs := by
  rcases h with (h | ⟨o, h⟩) | h
  · exact .inl (.inl (e _ _ h))
  · exact .inl (.inr ⟨o, e _ _ h⟩)
  · exact .inr h
/-- the answer of is_count -/
def cntV : V → Bool
  | .int i => decide (1 ≤ i)
  | _ => false
def spIsInt (K : PySem.W.Frag) : Sp := fun vs H Q _ => ∃ (v : V) (k : Kd), vs = [v] ∧ TyV K H v k ∧ Q (.bl (decide (k = .int))) H
def spIsCount (K : PySem.W.Frag) : Sp := fun vs H Q _ => ∃ (v : V) (k : Kd), vs = [v] ∧ TyV K H v k ∧ Q (.bl (decide (k = .int) && cntV v)) H
def spIsSeq (K : PySem.W.Frag) : Sp := fun vs H Q _ => ∃ (v : V) (k : Kd), vs = [v] ∧ TyV K H v k ∧ ∀ H', Same H H' → Q (.bl (k.inL || k.inT)) H'
end Ts

namespace Ts
open PySem L2
theorem nodup_le : ∀ {xs ys : List Int}, xs.Nodup → (∀ x ∈ xs, x ∈ ys) → xs.length ≤ ys.length
  | [], _, _, _ => Nat.zero_le _
  | x :: xs, ys, h, hs => by
    rw [List.nodup_cons] at h
    have h1 : x ∈ ys := hs x (List.mem_cons_self ..)
    have h2 := nodup_le (xs := xs) (ys := ys.erase x) h.2 fun z hz => by
      have hne : z ≠ x := fun e => h.1 (e ▸ hz)
      exact (List.mem_erase_of_ne hne).mpr (hs z (List.mem_cons_of_mem _ hz))
    have h3 := List.length_erase_of_mem h1
    have h4 : 0 < ys.length := List.length_pos_of_mem h1
    rw [List.length_cons]
    omega
/-- at most six days of the week are off: one is on -/
theorem day_on {rs : List Int} (h : rs.length ≤ 6) : ∃ k : Int, 0 ≤ k ∧ k < 7 ∧ ¬ k ∈ rs := by
  by_cases e : ∃ k : Int, 0 ≤ k ∧ k < 7 ∧ ¬ k ∈ rs
  · exact e
  · have h1 : ∀ x ∈ ([0, 1, 2, 3, 4, 5, 6] : List Int), x ∈ rs := fun x hx => by
      by_cases hm : x ∈ rs
      · exact hm
      · refine absurd ⟨x, ?_, ?_, hm⟩ e
        · simp only [List.mem_cons, List.not_mem_nil, or_false] at hx
          omega
        · simp only [List.mem_cons, List.not_mem_nil, or_false] at hx
          omega
    have h2 := nodup_le (by decide) h1
    simp only [List.length_cons, List.length_nil] at h2
    omega
theorem least_day {rs : List Int} (t : Int) : ∀ n : Nat, (∃ c, t ≤ c ∧ c < t + n ∧ ¬ c % 7 ∈ rs) → ∃ e, t ≤ e ∧ e < t + n ∧ ¬ e % 7 ∈ rs ∧ ∀ c, t ≤ c → c < e → c % 7 ∈ rs
  | 0, ⟨c, h1, h2, _⟩ => by omega
  | n + 1, ⟨c, h1, h2, h3⟩ => by
    by_cases h : ∃ c, t ≤ c ∧ c < t + (n : Int) ∧ ¬ c % 7 ∈ rs
    · obtain ⟨e, e1, e2, e3, e4⟩ := least_day t n h
      exact ⟨e, e1, by omega, e3, e4⟩
    · refine ⟨c, h1, h2, h3, fun d d1 d2 => ?_⟩
      by_cases hd : d % 7 ∈ rs
      · exact hd
      · exact absurd ⟨d, d1, by omega, hd⟩ h
/-- the first working day from t on -/
theorem next_work {rs : List Int} (h : rs.length ≤ 6) (t : Int) : ∃ e, t ≤ e ∧ e < t + 7 ∧ ¬ e % 7 ∈ rs ∧ ∀ c, t ≤ c → c < e → c % 7 ∈ rs := by
  obtain ⟨k, k0, k1, hk⟩ := day_on h
  refine least_day t 7 ⟨t + (k - t) % 7, ?_, ?_, ?_⟩
  · omega
  · omega
  · have : (t + (k - t) % 7) % 7 = k := by omega
    rw [this]
    exact hk
theorem perm_ints {ys : List V} {ns : List Int} (h : ys.Perm (ns.map V.int)) : ∃ ms : List Int, ys = ms.map V.int ∧ ms.Perm ns := by
  have hall : ∀ y ∈ ys, ∃ i, y = V.int i := fun y hy => by
    obtain ⟨i, _, e⟩ := List.mem_map.mp (h.mem_iff.mp hy)
    exact ⟨i, e.symm⟩
  have hg : ∀ {zs : List V}, (∀ y ∈ zs, ∃ i, y = V.int i) → zs = (zs.map fun v => match v with | .int i => i | _ => 0).map V.int := by
    intro zs hz
    rw [List.map_map]
    conv => lhs; rw [← List.map_id zs]
    refine List.map_congr_left fun y hy => ?_
    obtain ⟨i, rfl⟩ := hz y hy
    rfl
  refine ⟨_, hg hall, ?_⟩
  have := h.map (fun v => match v with | V.int i => i | _ => (0 : Int))
  rw [List.map_map] at this
  have e : (ns.map ((fun v => match v with | V.int i => i | _ => (0 : Int)) ∘ V.int)) = ns := by
    conv => rhs; rw [← List.map_id ns]
    rfl
  rw [e] at this
  exact this
end Ts

namespace Ts
open PySem L2
def top (i : Nat) : Stmt := PySem.Challenge.pw_termstill_k10_working_days.main.body.getD i (.Pass ⟨0, 0, 0, 0⟩)
section
variable {P : Program} {w : World} {K : PySem.W.Frag} {mg : Str → Option Value} {base : Heap}
abbrev sDraw : Stmt := top 37
theorem sc_draw : FnScope ["_law_deal_here", "_law_many", "_law_rest"] ["_law_deal_here", "_law_many"] (C8.fnScope sDraw) := C8.fnScope_by (by decide +kernel)
theorem cal_draw {f : Addr} {fd : FuncData} (F : C8.Def K mg "_law_draw" sDraw f fd) (df : fd.defaults = .none) (mInt : mg "int" = none) : C8.Cal P w K mg base 1 "_law_draw" spDraw [] := by
  refine C8.cal0 F (C8.Fun.binds F.fn df (ps := ["_law_deal_here", "_law_many"]) fun _ _ _ _ _ _ us hl => match us, hl with | [_, _], _ => rfl) .nil sc_draw (fun vs H Q E h => ?_) (fun cdv A outer s H vs Q E hr h => ?_)
  · obtain ⟨D, L, n, rfl, _⟩ := h
    rfl
  · obtain ⟨D, L, n, rfl, dl, n0, n1, k⟩ := h
    have hu := hr.units
    refine ⟨_, pss_cons (ps_while PassesOwn.never (PW.pt (pw_and (pt_cmpR (op_neD hu) (pe_ix ix_list (pv 0) pe_int (fun _ _ => rfl)) (pe_lst pa_nil) (nomark _)) (pw_and1 (pt_cmpR op_eq (pe_ix ix_list (pe_ix ix_list (pv 0) pe_int (fun _ _ => rfl)) (pe_un un_neg pe_int) (fun _ _ => rfl)) pe_int (nomark _)))))
        (pss_one (ps_expr (pe_bm0 PySem.F.plainAttrs_list PySem.F.slot_list_pop PySem.F.type_list_pop mt_pop (pe_ix ix_list (pv 0) pe_int (fun _ _ => rfl))))))
      (pss_cons (ps_if (pt_cmpR (op_neD hu) (pe_ix ix_list (pv 0) pe_int (fun _ _ => rfl)) (pe_lst pa_nil) (nomark _))
        (pss_cons (ps_set (i := 2) sc_draw.nd rfl (Or.inl rfl) (pe_bm0 PySem.F.plainAttrs_list PySem.F.slot_list_pop PySem.F.type_list_pop mt_pop (pe_ix ix_list (pv 0) pe_int (fun _ _ => rfl))))
        (pss_cons (ps_expr (pe_bm PySem.F.plainAttrs_list PySem.F.slot_list_append PySem.F.type_list_append mt_append (pe_ix ix_list (pv 0) pe_int (fun _ _ => rfl)) (pa_cons (pe_op op_fdivW (pv 2) (pv 1)) pa_nil)))
        (pss_one (ps_ret (pe_op op_mod (pe_callTy call_int1 (by rfl) mInt PyProof.Rows.boot_int (pa_cons (pv 2) pa_nil)) (pv 1)))))) pss_nil)
      (pss_cons (ps_asg (pe_op op_mod (pe_callTy call_int1 (by rfl) mInt PyProof.Rows.boot_int (pa_cons (pe_op op_add (pe_op op_mul (pe_ix ix_list (pv 0) pe_int (fun _ _ => rfl)) pe_int) pe_int) pa_nil)) pe_int) (pg_sub (pv 0) pe_int set_list))
      (pss_one (ps_ret (pe_op op_mod (pe_callTy call_int1 (by rfl) mInt PyProof.Rows.boot_int (pa_cons (pe_op op_fdivW (pe_ix ix_list (pv 0) pe_int (fun _ _ => rfl)) pe_int) pa_nil)) (pv 1)))))), ?_⟩
    obtain ⟨cs0, m0, g1, g2, g3, g4, g5, g6⟩ := dl.ex
    -- while
    refine ⟨fun m σ H' => ∃ cs : List Int, σ = [some (.ref D), some (.int n), none] ∧ m = cs.length ∧ H' D = some (.lst [.ref L, .int m0]) ∧ H' L = some (.lst (cs.map V.int)) ∧ cs.length ≤ 60 ∧ (∀ c ∈ cs, 0 ≤ c) ∧ Kept D L H H',
      ⟨_, cs0, rfl, rfl, g1, g2, g3, g4, Kept.refl⟩, ?_⟩
    rintro m σ H1 ⟨cs, rfl, rfl, h1, h2, h3, h4, hk⟩
    have hDL : D ≠ L := deal_ne h1 h2
    refine ⟨_, rfl, D, _, 0, _, rfl, rfl, SqL.of h1, rfl, Nat.zero_le _, fun p hp => ?_⟩
    have pD : D ≠ p := ne_of_none h1 hp
    have pL : L ≠ p := ne_of_none h2 hp
    have h1' : upd H1 p (.lst []) D = some (.lst [.ref L, .int m0]) := by rw [upd_ne pD]; exact h1
    have h2' : upd H1 p (.lst []) L = some (.lst (cs.map V.int)) := by rw [upd_ne pL]; exact h2
    refine ne_nil (SqL.of h2') upd_same ⟨_, rfl, ?_⟩
    have ix0 : ∀ (R : V → Hp → Prop), R (.ref L) (upd H1 p (.lst [])) → (∃ v, ([some (V.ref D), some (V.int n), none] : L2.St)[0]? = some (some v) ∧ rIxL K v (.int 0) (upd H1 p (.lst [])) R) := fun R r => ⟨_, rfl, D, _, 0, _, rfl, rfl, SqL.of h1', rfl, r⟩
    cases e : cs.isEmpty with
    | true =>
      refine iteF (iteF ?_)
      have ec : cs = [] := List.isEmpty_iff.mp e
      subst ec
      -- if
      refine ⟨_, rfl, D, _, 0, _, rfl, rfl, SqL.of h1', rfl, Nat.zero_le _, fun q hq => ?_⟩
      have qD : D ≠ q := ne_of_none h1' hq
      have qL : L ≠ q := ne_of_none h2' hq
      have h1'' : upd (upd H1 p (.lst [])) q (.lst []) D = some (.lst [.ref L, .int m0]) := by rw [upd_ne qD]; exact h1'
      have h2'' : upd (upd H1 p (.lst [])) q (.lst []) L = some (.lst (([] : List Int).map V.int)) := by rw [upd_ne qL]; exact h2'
      refine ne_nil (SqL.of h2'') upd_same ⟨_, rfl, iteF ?_⟩
      have hk2 := (hk.new hp (o := .lst [])).new hq (o := .lst [])
      refine ⟨_, rfl, D, _, 1, _, rfl, rfl, SqL.of h1'', rfl, _, _, rfl, rfl, Or.inr ⟨by decide, by decide⟩, _, _, rfl, rfl, Or.inl ⟨_, rfl, _, _, rfl, rfl, (by show (0 : Int) < 2147483647; decide), ?_⟩⟩
      refine ⟨_, rfl, D, _, 1, 1, rfl, rfl, h1'', rfl, ?_⟩
      have r1 : 0 ≤ (m0 * 48271 + 31) % 2147483647 := Int.emod_nonneg _ (by decide)
      have r2 : (m0 * 48271 + 31) % 2147483647 < 2147483647 := Int.emod_lt_of_pos _ (by decide)
      refine ⟨_, rfl, D, _, 1, _, rfl, rfl, SqL.of upd_same, rfl, _, _, rfl, rfl, wide_div (b := 60) (by decide) (by decide) (by decide) (by decide), Or.inl ⟨_, rfl, _, rfl, _, _, rfl, rfl, n0, ?_⟩⟩
      refine k _ _ (Int.emod_nonneg _ (by omega)) (Int.emod_lt_of_pos _ n0) ⟨⟨[], _, upd_same, (by rw [upd_ne hDL.symm]; exact h2''), by decide, (fun c hc => by cases hc), r1, r2⟩, hk2.atD⟩
    | false =>
      refine iteT ?_
      obtain ⟨ds, d, rfl⟩ := cs_last e
      have em : (ds ++ [d]).map V.int = ds.map V.int ++ [V.int d] := List.map_append
      rw [em] at h2 h2'
      have hds : ds.length ≤ 60 := by rw [List.length_append] at h3; omega
      have hdn : ∀ c ∈ ds, 0 ≤ c := fun c hc => h4 c (List.mem_append_left _ hc)
      have hd0 : 0 ≤ d := h4 d (List.mem_append_right _ (List.mem_singleton.mpr rfl))
      refine ⟨_, rfl, D, _, 0, _, rfl, rfl, SqL.of h1', rfl, _, rfl, L, _, -1, _, rfl, rfl, SqL.of h2', atI_last _ _, rfl, _, rfl, ?_⟩
      have tyL : tyV K "list" (.ref L) (upd H1 p (.lst [])) := .inl ⟨rfl, _, SqL.of h2'⟩
      have hg : (ds.map V.int ++ [V.int d])[(ds.map V.int ++ [V.int d]).length - 1]? = some (V.int d) := by
        rw [List.length_append, List.length_singleton, Nat.add_sub_cancel, List.getElem?_append_right (Nat.le_refl _), Nat.sub_self]
        rfl
      have hdl : (ds.map V.int ++ [V.int d]).dropLast = ds.map V.int := List.dropLast_concat
      refine ite2 (fun _ => ?_) (fun _ => ?_)
      · -- pop
        refine ⟨fun σ' H' => ∃ cs : List Int, σ' = [some (.ref D), some (.int n), none] ∧ cs.length = ds.length ∧ H' D = some (.lst [.ref L, .int m0]) ∧ H' L = some (.lst (cs.map V.int)) ∧ cs.length ≤ 60 ∧ (∀ c ∈ cs, 0 ≤ c) ∧ Kept D L H H', ?_, ?_⟩
        · rintro σ' H' ⟨cs, rfl, el, r⟩
          exact ⟨_, by rw [List.length_append, List.length_singleton, ← el]; exact Nat.lt_succ_self _, cs, rfl, rfl, r⟩
        · refine ⟨_, rfl, D, _, 0, _, rfl, rfl, SqL.of h1', rfl, tyL, L, _, _, rfl, rfl, h2', hg, ?_⟩
          exact ⟨ds, rfl, rfl, by rw [upd_ne hDL]; exact h1', by rw [upd_same, hdl], hds, hdn, (hk.new hp).atL⟩
      · -- if
        refine ⟨_, rfl, D, _, 0, _, rfl, rfl, SqL.of h1', rfl, Nat.zero_le _, fun q hq => ?_⟩
        have qD : D ≠ q := ne_of_none h1' hq
        have qL : L ≠ q := ne_of_none h2' hq
        have h1'' : upd (upd H1 p (.lst [])) q (.lst []) D = some (.lst [.ref L, .int m0]) := by rw [upd_ne qD]; exact h1'
        have h2'' : upd (upd H1 p (.lst [])) q (.lst []) L = some (.lst (ds.map V.int ++ [V.int d])) := by rw [upd_ne qL]; exact h2'
        have hk2 := (hk.new hp (o := .lst [])).new hq (o := .lst [])
        refine ne_nil (cs := ds ++ [d]) (SqL.of (by rw [em]; exact h2'')) upd_same ⟨_, rfl, ?_⟩
        rw [e]
        refine iteT ?_
        have tyL2 : tyV K "list" (.ref L) (upd (upd H1 p (.lst [])) q (.lst [])) := .inl ⟨rfl, _, SqL.of h2''⟩
        refine ⟨_, rfl, D, _, 0, _, rfl, rfl, SqL.of h1'', rfl, tyL2, L, _, _, rfl, rfl, h2'', hg, ?_⟩
        rw [hdl]
        have h1m : upd (upd (upd H1 p (.lst [])) q (.lst [])) L (.lst (ds.map V.int)) D = some (.lst [.ref L, .int m0]) := by rw [upd_ne hDL]; exact h1''
        have tyL3 : tyV K "list" (.ref L) (upd (upd (upd H1 p (.lst [])) q (.lst [])) L (.lst (ds.map V.int))) := .inl ⟨rfl, _, SqL.of upd_same⟩
        refine ⟨_, rfl, D, _, 0, _, rfl, rfl, SqL.of h1m, rfl, tyL3, _, rfl, _, rfl, _, _, rfl, rfl, ⟨n0, ?_⟩, L, _, _, rfl, rfl, upd_same, (small1000 (by rw [List.length_map]; omega)), ?_⟩
        · exact (wide_div (i := 0) (b := 64) n0 (by omega) (by decide) (by decide)).2
        refine ⟨_, rfl, Or.inl ⟨_, rfl, _, rfl, _, _, rfl, rfl, n0, ?_⟩⟩
        refine k _ _ (Int.emod_nonneg _ (by omega)) (Int.emod_lt_of_pos _ n0) ⟨⟨ds ++ [d / n], m0, (by rw [upd_ne hDL]; exact h1m), (by rw [upd_same, List.map_append]; rfl), (by rw [List.length_append, List.length_singleton]; rw [List.length_append, List.length_singleton] at h3; exact h3), ?_, g5, g6⟩, hk2.atL.atL⟩
        intro c hc
        rcases List.mem_append.mp hc with hc | hc
        · exact hdn c hc
        · rw [List.mem_singleton.mp hc]
          exact fdiv_nonneg hd0 n0

abbrev sDeal : Stmt := top 36
theorem sc_deal : FnScope ["_law_script", "_law_cell", "_law_cells", "_law_mixed_here"] ["_law_script"] (C8.fnScope sDeal) := C8.fnScope_by (by decide +kernel)
theorem cal_deal {f : Addr} {fd : FuncData} (F : C8.Def K mg "_law_deal" sDeal f fd) (df : fd.defaults = .none) (mInt : mg "int" = none) (mAbs : mg "abs" = none) : C8.Cal P w K mg base 1 "_law_deal" (spDeal K) [] := by
  refine C8.cal0 F (C8.Fun.binds F.fn df (ps := ["_law_script"]) fun _ _ _ _ _ _ us hl => match us, hl with | [_], _ => rfl) .nil sc_deal (fun vs H Q E h => ?_) (fun cdv A outer s H vs Q E hr h => ?_)
  · obtain ⟨a, ns, rfl, _⟩ := h
    rfl
  · obtain ⟨a, ns, rfl, hS, hl, k⟩ := h
    refine ⟨_, pss_cons (ps_par (i := 2) (j := 3) (by rfl) sc_deal.nd rfl rfl (by decide) rfl rfl (pa_cons
          (pe_lc (own := [("_law_cell", 1)]) (g := gName 1) (by rfl) sc_deal.nd (pi_list (pe_slice sl_list (pv 0) po_none (po_some pe_int))) (blkOk_by (own := [("_law_cell", 1)]) (N := ["_law_script", "_law_cell", "_law_cells", "_law_mixed_here"]) (sc := C8.fnScope sDeal) (by decide +kernel)) (fun _ _ _ _ _ => pg_name (i := 1) sc_deal.nd rfl (Or.inl rfl)) (fun _ _ _ _ _ => pts_nil)
            (fun _ _ _ _ _ => pe_callB call_abs (by rfl) mAbs PyProof.Rows.boot_abs (pa_cons (pv 1) pa_nil)))
          (pa_cons pe_int pa_nil)) (by rfl))
      (pss_cons (ps_for PassesOwn.never rfl (pi_list (pv 2)) (pg_name (i := 1) sc_deal.nd rfl (Or.inl rfl))
        (pss_one (ps_set (i := 3) sc_deal.nd rfl (Or.inl rfl) (pe_op op_mod (pe_callTy call_int1 (by rfl) mInt PyProof.Rows.boot_int (pa_cons (pe_op op_add (pe_op op_mul (pv 3) pe_int) (pe_op op_mod (pe_callTy call_int1 (by rfl) mInt PyProof.Rows.boot_int (pa_cons (pv 1) pa_nil)) pe_int)) pa_nil)) pe_int))))
      (pss_one (ps_ret (pe_lst (pa_cons (pe_revL (pe_lc (own := [("_law_cell", 1)]) (g := gName 1) (by rfl) sc_deal.nd (pi_list (pv 2)) (blkOk_by (own := [("_law_cell", 1)]) (N := ["_law_script", "_law_cell", "_law_cells", "_law_mixed_here"]) (sc := C8.fnScope sDeal) (by decide +kernel)) (fun _ _ _ _ _ => pg_name (i := 1) sc_deal.nd rfl (Or.inl rfl)) (fun _ _ _ _ _ => pts_one (pt_cmpR op_ge (pv 1) (pe_op op_pow pe_int pe_int) (nomark _)))
            (fun _ _ _ _ _ => (pv 1)))) (pa_cons (pv 3) pa_nil)))))), ?_⟩
    have hd0 : ∀ {p d : Addr} {o : HO}, H p = none → upd H p o d = none → H d = none := fun {p d o} hp hd => by
      by_cases e : d = p
      · rw [e]; exact hp
      · rw [upd_ne e] at hd; exact hd
    refine ⟨_, rfl, _, rfl, a, _, rfl, hS, fun p hp => ⟨p, rfl, ⟨_, SqL.of upd_same⟩, fun d hd => lc_list (K := K) (a := p) (xs := (ns.take 60).map V.int)
      (fun i H' => ∃ cs : List Int, H' d = some (.lst (cs.map V.int)) ∧ cs.length ≤ i ∧ (∀ c ∈ cs, 0 ≤ c) ∧ H' p = some (.lst ((ns.take 60).map V.int)) ∧ Same H H') ?_ (fun i H' _ h => SqL.of h.choose_spec.2.2.2.1) ?_ ?_⟩⟩
    · rw [show cutV (ns.map V.int) none (some 60) = (ns.take 60).map V.int from cut_to V.int ns 60] at hd ⊢
      have hpd : p ≠ d := fun e => by
        rw [← e, upd_same] at hd
        cases hd
      exact ⟨[], upd_same, Nat.le_refl _, (fun c hc => by cases hc), by rw [upd_ne hpd, upd_same], same_upd_new (same_upd_new (Same.refl _) hp) (hd0 hp hd)⟩
    · rintro i y H1 hi ⟨cs, h1, h2, h3, h4, h5⟩
      obtain ⟨u, rfl, hu⟩ := map_at hi
      have hi60 : i < 60 := by
        have := at_lt hu
        rw [List.length_take] at this
        omega
      refine ⟨rfl, yes_ ?_⟩
      refine ⟨_, rfl, _, rfl, _, h1, small1000 (by rw [List.length_map]; omega), cs ++ [if u < 0 then -u else u], ?_, ?_, ?_, ?_, ?_⟩
      · rw [upd_same, List.map_append]
        rfl
      · rw [List.length_append, List.length_singleton]
        omega
      · intro c hc
        rcases List.mem_append.mp hc with hc | hc
        · exact h3 c hc
        · rw [List.mem_singleton.mp hc]
          exact abs_nn u
      · rw [upd_ne (ne_of h4 h1 (by
          intro e
          have e := HO.lst.inj e
          have : (List.map V.int (ns.take 60)).length = (List.map V.int cs).length := by rw [e]
          rw [List.length_map, List.length_map] at this
          have := at_lt hu
          omega))]
        exact h4
      · exact same_upd_new h5 (hd0 hp hd)
    · rintro H1 ⟨cs, h1, h2, h3, h4, h5⟩
      have hc60 : cs.length ≤ 60 := by
        rw [List.length_map, List.length_take] at h2
        omega
      have nd : H d = none := hd0 hp hd
      -- the small number
      refine ⟨_, _, rfl, ?_⟩
      refine ⟨_, rfl, d, rfl, ⟨_, SqL.of h1⟩, for_list (K := K) (a := d) (xs := cs.map V.int)
        (fun i σ H' => ∃ (v : Option V) (m : Int), σ = [some (.ref a), v, some (.ref d), some (.int m)] ∧ 0 ≤ m ∧ m < 2147483647 ∧ H' = H1) ⟨_, _, rfl, by decide, by decide, rfl⟩ (fun i σ H' _ h => by obtain ⟨_, _, _, _, _, rfl⟩ := h; exact SqL.of h1) ?_ ?_⟩
      · rintro i y σ H' hi ⟨v, m, rfl, m0, m1, rfl⟩
        obtain ⟨u, rfl, hu⟩ := map_at hi
        refine ⟨_, rfl, _, _, rfl, rfl, Or.inl ⟨by omega, by omega⟩, _, rfl, Or.inl ⟨_, rfl, _, _, rfl, rfl, (by show (0 : Int) < 2147483629; decide), _, _, rfl, rfl, Or.inl ⟨_, rfl, _, _, rfl, rfl, (by show (0 : Int) < 2147483647; decide), ?_⟩⟩⟩
        exact ⟨_, _, rfl, Int.emod_nonneg _ (by decide), Int.emod_lt_of_pos _ (by decide), rfl⟩
      · rintro σ H' ⟨v, m, rfl, m0, m1, rfl⟩
        refine ⟨_, rfl, d, rfl, ⟨_, SqL.of h1⟩, fun e he => lc_list (K := K) (a := d) (xs := cs.map V.int)
          (fun i H2 => ∃ es : List Int, H2 e = some (.lst (es.map V.int)) ∧ es.length ≤ i ∧ (∀ c ∈ es, 0 ≤ c) ∧ H2 d = some (.lst (cs.map V.int)) ∧ Same H H2) ?_ (fun i H2 _ h => SqL.of h.choose_spec.2.2.2.1) ?_ ?_⟩
        · exact ⟨[], upd_same, Nat.le_refl _, (fun c hc => by cases hc), by rw [upd_ne (ne_of_none h1 he)]; exact h1, Same.new h5 he⟩
        · rintro i y H2 hi ⟨es, j1, j2, j3, j4, j5⟩
          obtain ⟨u, rfl, hu⟩ := map_at hi
          have hne : d ≠ e := fun q => by
            rw [← q, h1] at he
            cases he
          have he0 : H e = none := h5.free he
          refine ⟨rfl, ?_⟩
          refine ⟨_, rfl, _, _, rfl, rfl, ⟨by decide, by decide, by decide⟩, _, _, rfl, rfl, _, rfl, ?_⟩
          refine ite2 (fun _ => ?_) (fun _ => ⟨es, j1, by omega, j3, j4, j5⟩)
          have := at_lt hu
          refine ⟨_, rfl, _, j1, small1000 (by rw [List.length_map]; omega), es ++ [u], by rw [upd_same, List.map_append]; rfl, by rw [List.length_append, List.length_singleton]; omega, ?_, by rw [upd_ne hne]; exact j4, same_upd_new j5 he0⟩
          intro c hc
          rcases List.mem_append.mp hc with hc | hc
          · exact j3 c hc
          · rw [List.mem_singleton.mp hc]
            exact h3 u (at_mem hu)
        · rintro H2 ⟨es, j1, j2, j3, j4, j5⟩
          rw [List.length_map] at j2
          refine ⟨e, _, rfl, SqL.of j1, fun q hq => ⟨_, rfl, (by show 2 ≤ sizeLine; decide), fun r hr => ?_⟩⟩
          have hq0 : H q = none := j5.free hq
          have hqr : q ≠ r := fun z => by
            rw [← z, upd_same] at hr
            cases hr
          have hr0 : H2 r = none := by
            rw [upd_ne hqr.symm] at hr
            exact hr
          refine k r q _ ⟨es.reverse, m, upd_same, ?_, by rw [List.length_reverse]; omega, fun c hc => j3 c (List.mem_reverse.mp hc), m0, m1⟩ (Same.new (Same.new j5 hq) hr) (j5.free hr0) hq0
          rw [upd_ne hqr, upd_same, List.map_reverse]
end
end Ts

namespace Ts
open PySem L2
section
variable {P : Program} {w : World} {K : PySem.W.Frag} {mg : Str → Option Value} {base : Heap}
abbrev sPick : Stmt := top 38
theorem sc_pick : FnScope ["_law_deal_here", "_law_some"] ["_law_deal_here", "_law_some"] (C8.fnScope sPick) := C8.fnScope_by (by decide +kernel)
theorem cal_pick {f : Addr} {fd : FuncData} (F : C8.Def K mg "_law_pick" sPick f fd) (df : fd.defaults = .none) (mLen : mg "len" = none) (cD : C8.Cal P w K mg base 1 "_law_draw" spDraw []) : C8.Cal P w K mg base 2 "_law_pick" (spPick K) [] := by
  refine C8.cal0 F (C8.Fun.binds F.fn df (ps := ["_law_deal_here", "_law_some"]) fun _ _ _ _ _ _ us hl => match us, hl with | [_, _], _ => rfl) .nil sc_pick (fun vs H Q E h => ?_) (fun cdv A outer s H vs Q E hr h => ?_)
  · obtain ⟨D, L, a, xs, rfl, _⟩ := h
    rfl
  · obtain ⟨D, L, a, xs, rfl, dl, hS, a1, a2, l1, l2, k⟩ := h
    refine ⟨_, pss_one (ps_ret (pe_ix ix_list (pv 1) (C8.pe_c cD hr (by decide) (by rfl) (pa_cons (pv 0) (pa_cons (pe_callB call_len_seq (by rfl) mLen PySem.boot_len (pa_cons (pv 1) pa_nil)) pa_nil))) (fun _ _ => rfl))), ?_⟩
    refine ⟨_, rfl, _, rfl, _, rfl, a, _, rfl, .inl hS, D, L, _, rfl, dl, by omega, by omega, fun d H' d0 d1 W => ?_⟩
    obtain ⟨j, rfl⟩ := Int.eq_ofNat_of_zero_le d0
    have hj : j < xs.length := by omega
    exact ⟨a, xs, _, xs[j], rfl, rfl, W.k.seq a1 a2 hS, atI_nat (List.getElem?_eq_getElem hj), k _ _ (List.getElem_mem hj) W⟩
abbrev sMixed : Stmt := top 39
theorem sc_mixed : FnScope ["_law_deal_here", "_law_some", "_law_others", "_law_found"] ["_law_deal_here", "_law_some"] (C8.fnScope sMixed) := C8.fnScope_by (by decide +kernel)
theorem cal_mixed {f : Addr} {fd : FuncData} (F : C8.Def K mg "_law_mixed" sMixed f fd) (df : fd.defaults = .none) (mLen : mg "len" = none) (mList : mg "list" = none) (cD : C8.Cal P w K mg base 1 "_law_draw" spDraw []) : C8.Cal P w K mg base 2 "_law_mixed" (spMixed K) [] := by
  refine C8.cal0 F (C8.Fun.binds F.fn df (ps := ["_law_deal_here", "_law_some"]) fun _ _ _ _ _ _ us hl => match us, hl with | [_, _], _ => rfl) .nil sc_mixed (fun vs H Q E h => ?_) (fun cdv A outer s H vs Q E hr h => ?_)
  · obtain ⟨D, L, a, xs, rfl, _⟩ := h
    rfl
  · obtain ⟨D, L, a, xs, rfl, dl, hS, a1, a2, l1, l2, k⟩ := h
    have hu := hr.units
    refine ⟨_, pss_cons (ps_par (i := 2) (j := 3) (by rfl) sc_mixed.nd rfl rfl (by decide) rfl rfl (pa_cons (pe_callTy call_list_of (by rfl) mList PyProof.Rows.boot_list (pa_cons (pv 1) pa_nil)) (pa_cons (pe_lst pa_nil) pa_nil)) (by rfl))
      (pss_cons (ps_while PassesOwn.never (pt_cmpR (op_neD hu) (pv 2) (pe_lst pa_nil) (nomark _))
        (pss_one (ps_expr (pe_bm PySem.F.plainAttrs_list PySem.F.slot_list_append PySem.F.type_list_append mt_append (pv 3) (pa_cons (pe_bm PySem.F.plainAttrs_list PySem.F.slot_list_pop PySem.F.type_list_pop mt_popAt (pv 2)
          (pa_cons (C8.pe_c cD hr (by decide) (by rfl) (pa_cons (pv 0) (pa_cons (pe_callB call_len_seq (by rfl) mLen PySem.boot_len (pa_cons (pv 2) pa_nil)) pa_nil))) pa_nil)) pa_nil)))))
      (pss_one (ps_ret (pv 3)))), ?_⟩
    refine ⟨_, rfl, a, _, rfl, .inl hS, fun o ho => ⟨Nat.zero_le _, fun q hq => ⟨_, _, rfl, ?_⟩⟩⟩
    have oq : o ≠ q := fun z => by
      rw [← z, upd_same] at hq
      cases hq
    have hq0 : H q = none := by
      rw [upd_ne oq.symm] at hq
      exact hq
    have oD := off_new dl ho
    have qD := off_new dl hq0
    refine ⟨fun m σ H' => ∃ (us ys : List V), σ = [some (.ref D), some (.ref a), some (.ref o), some (.ref q)] ∧ m = us.length ∧ H' o = some (.lst us) ∧ H' q = some (.lst ys) ∧ (ys ++ us).Perm xs ∧ Went D L H H',
      ⟨_, xs, [], rfl, rfl, by rw [upd_ne oq, upd_same], upd_same, List.Perm.refl _, ⟨dl.same (Same.new (Same.new (Same.refl _) ho) hq), (Kept.refl.new ho).new hq⟩⟩, ?_⟩
    rintro m σ H1 ⟨us, ys, rfl, rfl, h1, h2, hp, W⟩
    have hall : ∀ v ∈ ys ++ us, okV v = true := fun v hv => List.all_eq_true.mp l1 v (hp.mem_iff.mp hv)
    have hok : us.all okV = true := List.all_eq_true.mpr fun v hv => hall v (List.mem_append_right _ hv)
    have hlen : ys.length + us.length = xs.length := by
      have := hp.length_eq
      rw [List.length_append] at this
      exact this
    refine ⟨_, rfl, Nat.zero_le _, fun r hr' => ?_⟩
    have ro := ne_of_none h1 hr'
    have rq := ne_of_none h2 hr'
    have h1' : upd H1 r (.lst []) o = some (.lst us) := by rw [upd_ne ro]; exact h1
    have h2' : upd H1 r (.lst []) q = some (.lst ys) := by rw [upd_ne rq]; exact h2
    have W' : Went D L H (upd H1 r (.lst [])) := W.new hr'
    refine ne_nilF (SqL.of h1') hok upd_same ⟨_, rfl, ?_⟩
    cases e : us.isEmpty with
    | true =>
      refine iteF ?_
      rw [List.isEmpty_iff.mp e, List.append_nil] at hp
      exact ⟨_, rfl, k q ys _ hp W' hq0 h2'⟩
    | false =>
      refine iteT ?_
      refine ⟨fun σ' H' => ∃ (us' ys : List V), σ' = [some (.ref D), some (.ref a), some (.ref o), some (.ref q)] ∧ us'.length < us.length ∧ H' o = some (.lst us') ∧ H' q = some (.lst ys) ∧ (ys ++ us').Perm xs ∧ Went D L H H',
        fun σ' H' ⟨us', ys, e1, e2, r⟩ => ⟨_, e2, us', ys, e1, rfl, r⟩, ?_⟩
      have hu0 : 0 < us.length := by
        cases us with
        | nil => cases e
        | cons u us => exact Nat.succ_pos _
      refine ⟨_, rfl, .inl ⟨rfl, _, SqL.of h2'⟩, _, rfl, .inl ⟨rfl, _, SqL.of h1'⟩, _, rfl, _, rfl, o, _, rfl, .inl (SqL.of h1'), D, L, _, rfl, W'.d, by omega, by omega, fun d H2 d0 d1 W2 => ?_⟩
      obtain ⟨j, rfl⟩ := Int.eq_ofNat_of_zero_le d0
      have hj : j < us.length := by omega
      have hj' : us[j]? = some us[j] := List.getElem?_eq_getElem hj
      have g1 := W2.k _ _ oD.1 oD.2 h1'
      have g2 := W2.k _ _ qD.1 qD.2 h2'
      refine ⟨o, us, _, j, us[j], rfl, rfl, g1, by omega, by omega, seqIndex_nat hj, hj', q, ys, _, rfl, rfl, by rw [upd_ne oq.symm]; exact g2, small1000 (by omega), ?_⟩
      refine ⟨us.eraseIdx j, ys ++ [us[j]], rfl, by rw [List.length_eraseIdx_of_lt hj]; omega, by rw [upd_ne oq, upd_same], upd_same, ?_, ?_⟩
      · rw [List.append_assoc]
        exact ((erase_perm hj').append_left ys).trans hp
      · have W3 := W'.trans W2
        refine ⟨?_, fun b u b1 b2 hb => ?_⟩
        · obtain ⟨cs, m, e1, e2, rr⟩ := W3.d.ex
          exact ⟨cs, m, by rw [upd_ne qD.1.symm, upd_ne oD.1.symm]; exact e1, by rw [upd_ne qD.2.symm, upd_ne oD.2.symm]; exact e2, rr⟩
        · rw [upd_ne (ne_of_none hb hq0), upd_ne (ne_of_none hb ho)]
          exact W3.k _ _ b1 b2 hb
end
end Ts

namespace Ts
open PySem L2
section
variable {P : Program} {w : World} {K : PySem.W.Frag} {mg : Str → Option Value} {base : Heap}
abbrev sIsInt : Stmt := top 7
theorem sc_isInt : FnScope ["value"] ["value"] (C8.fnScope sIsInt) := C8.fnScope_by (by decide +kernel)
theorem cal_isInt {f : Addr} {fd : FuncData} (F : C8.Def K mg "is_integer" sIsInt f fd) (df : fd.defaults = .none) (mIsi : mg "isinstance" = none) (mInt : mg "int" = none) (mBool : mg "bool" = none) : C8.Cal P w K mg base 1 "is_integer" (spIsInt K) [] := by
  refine C8.cal0 F (C8.Fun.binds F.fn df (ps := ["value"]) fun _ _ _ _ _ _ us hl => match us, hl with | [_], _ => rfl) .nil sc_isInt (fun vs H Q E h => ?_) (fun cdv A outer s H vs Q E hr h => ?_)
  · obtain ⟨v, k, rfl, _⟩ := h
    rfl
  · obtain ⟨v, k, rfl, ⟨⟨t, tx, t1, t2, t3, t4, t5⟩, _, _⟩, q⟩ := h
    refine ⟨_, pss_one (ps_ret (pe_and (pe_callB call_isi (by rfl) mIsi PyProof.Rows.boot_isinstance (pa_cons (pv 0) (pa_cons (pe_bltn (v := .ty "int") (by rfl) mInt PyProof.Rows.boot_int rfl) pa_nil)))
      (pe_one (pe_not (pe_callB call_isi (by rfl) mIsi PyProof.Rows.boot_isinstance (pa_cons (pv 0) (pa_cons (pe_bltn (v := .ty "bool") (by rfl) mBool PyProof.Rows.boot_bool rfl) pa_nil))))))), ?_⟩
    refine ⟨_, rfl, _, _, t, _, _, rfl, .ty _, tx, t1, _, rfl, ?_⟩
    cases k <;> first | exact iteF q | (refine iteT ⟨_, rfl, _, _, t, _, _, rfl, .ty _, tx, t2, _, rfl, ?_⟩; exact q)
abbrev sIsCount : Stmt := top 8
theorem sc_isCount : FnScope ["value"] ["value"] (C8.fnScope sIsCount) := C8.fnScope_by (by decide +kernel)
theorem cal_isCount {f : Addr} {fd : FuncData} (F : C8.Def K mg "is_count" sIsCount f fd) (df : fd.defaults = .none) (cI : C8.Cal P w K mg base 1 "is_integer" (spIsInt K) []) : C8.Cal P w K mg base 2 "is_count" (spIsCount K) [] := by
  refine C8.cal0 F (C8.Fun.binds F.fn df (ps := ["value"]) fun _ _ _ _ _ _ us hl => match us, hl with | [_], _ => rfl) .nil sc_isCount (fun vs H Q E h => ?_) (fun cdv A outer s H vs Q E hr h => ?_)
  · obtain ⟨v, k, rfl, _⟩ := h
    rfl
  · obtain ⟨v, k, rfl, ty, q⟩ := h
    refine ⟨_, pss_one (ps_ret (pe_and (C8.pe_c cI hr (by decide) (by rfl) (pa_cons (pv 0) pa_nil)) (pe_one (pe_cmpR op_ge (pv 0) pe_int (nomark _))))), ?_⟩
    refine ⟨_, rfl, v, k, rfl, ty, _, rfl, ?_⟩
    by_cases e : k = .int
    · obtain ⟨i, rfl⟩ := ty.i1 e
      rw [decide_eq_true e] at q ⊢
      refine iteT ⟨_, rfl, _, _, rfl, rfl, ?_⟩
      exact q
    · rw [decide_eq_false e] at q ⊢
      exact iteF q
abbrev sIsSeq : Stmt := top 10
theorem sc_isSeq : FnScope ["value"] ["value"] (C8.fnScope sIsSeq) := C8.fnScope_by (by decide +kernel)
theorem cal_isSeq {f : Addr} {fd : FuncData} (F : C8.Def K mg "is_sequence" sIsSeq f fd) (df : fd.defaults = .none) (mIsi : mg "isinstance" = none) (mList : mg "list" = none) (mTup : mg "tuple" = none) : C8.Cal P w K mg base 1 "is_sequence" (spIsSeq K) [] := by
  refine C8.cal0 F (C8.Fun.binds F.fn df (ps := ["value"]) fun _ _ _ _ _ _ us hl => match us, hl with | [_], _ => rfl) .nil sc_isSeq (fun vs H Q E h => ?_) (fun cdv A outer s H vs Q E hr h => ?_)
  · obtain ⟨v, k, rfl, _⟩ := h
    rfl
  · obtain ⟨v, k, rfl, ty, q⟩ := h
    refine ⟨_, pss_one (ps_ret (pe_callB call_isiT (by rfl) mIsi PyProof.Rows.boot_isinstance (pa_cons (pv 0) (pa_cons (pe_tup (pa_cons (pe_bltn (v := .ty "list") (by rfl) mList PyProof.Rows.boot_list rfl) (pa_cons (pe_bltn (v := .ty "tuple") (by rfl) mTup PyProof.Rows.boot_tuple rfl) pa_nil))) pa_nil)))), ?_⟩
    refine ⟨_, rfl, (by show 2 ≤ sizeLine; decide), fun p hp => ?_⟩
    have S : Same H (upd H p (.tup [.ty "list", .ty "tuple"])) := Same.new (Same.refl _) hp
    obtain ⟨⟨t, tx, t1, t2, t3, t4, t5⟩, _, _⟩ := ty.same S
    have ka : PySem.W.kitAny K t [.type "list", .type "tuple"] = some (k.inL || k.inT) := by
      simp only [PySem.W.kitAny, t4, t5]
      cases k <;> rfl
    exact ⟨v, p, _, t, [.type "list", .type "tuple"], _, rfl, upd_same, .cons (.ty _) (.cons (.ty _) .nil), tx, ka, q _ S⟩
end
end Ts

namespace Ts
open PySem L2
/-- what a rule's rests may be: distinct numbers of days, at most six; or the empty tuple -/
def RestsOk (K : PySem.W.Frag) (H : Hp) (a : Addr) (ns : List Int) : Prop := (SqL K H a (ns.map V.int) ∧ ns.Nodup ∧ (∀ n ∈ ns, 0 ≤ n ∧ n < 7) ∧ ns.length ≤ 6) ∨ (SqT K H a [] ∧ ns = [])
theorem RestsOk.same {K : PySem.W.Frag} {H H' : Hp} {a : Addr} {ns : List Int} (h : RestsOk K H a ns) (s : Same H H') : RestsOk K H' a ns := by
  rcases h with ⟨h, r⟩ | ⟨h, r⟩
  · exact .inl ⟨s.seq h, r⟩
  · exact .inr ⟨Same.sqt s h, r⟩
def spAreRests (K : PySem.W.Frag) : Sp := fun vs H Q _ => ∃ (a : Addr) (ns : List Int), vs = [.ref a] ∧ RestsOk K H a ns ∧ ∀ H', Same H H' → Q (.bl true) H'
def spAreKinds0 (K : PySem.W.Frag) : Sp := fun vs H Q _ => ∃ (a : Addr), vs = [.ref a] ∧ SqT K H a [] ∧ ∀ H', Same H H' → Q (.bl true) H'
theorem all_true {bs : List Bool} (h : ∀ b ∈ bs, b = true) : bs.all id = true := List.all_eq_true.mpr h
section
variable {P : Program} {w : World} {K : PySem.W.Frag} {mg : Str → Option Value} {base : Heap}
abbrev sAreRests : Stmt := top 31
theorem sc_areRests : FnScope ["value", "rest"] ["value"] (C8.fnScope sAreRests) := C8.fnScope_by (by decide +kernel)
theorem cal_areRests {f : Addr} {fd : FuncData} (F : C8.Def K mg "are_rests" sAreRests f fd) (df : fd.defaults = .none) (cI : C8.Cal P w K mg base 1 "is_integer" (spIsInt K) []) (cS : C8.Cal P w K mg base 1 "is_sequence" (spIsSeq K) [])
    (mAll : mg "all" = none) (mLen : mg "len" = none) (mSet : mg "set" = none) (mWeek : ∃ u, mg "WEEK" = some u ∧ RelV (.int 7) u) : C8.Cal P w K mg base 2 "are_rests" (spAreRests K) [] := by
  refine C8.cal0 F (C8.Fun.binds F.fn df (ps := ["value"]) fun _ _ _ _ _ _ us hl => match us, hl with | [_], _ => rfl) .nil sc_areRests (fun vs H Q E h => ?_) (fun cdv A outer s H vs Q E hr h => ?_)
  · obtain ⟨a, ns, rfl, _⟩ := h
    rfl
  · obtain ⟨a, ns, rfl, ⟨hS, hn, h7, hl⟩ | ⟨hS, rfl⟩, k⟩ := h
    · refine ⟨_, pss_cons (ps_if (PW.pt (pw_or (pt_not (pt_val (C8.pe_c cS hr (by decide) (by rfl) (pa_cons (pv 0) pa_nil))))
          (pw_or1 (pt_not (pt_val (pe_callB (cr_all (by rfl)) (by rfl) mAll PyProof.Rows.boot_all (pa_cons
            (pe_lc (own := [("rest", 1)]) (g := gName 1) (by rfl) sc_areRests.nd (pi_list (pv 0)) (blkOk_by (own := [("rest", 1)]) (N := ["value", "rest"]) (sc := C8.fnScope sAreRests) (by decide +kernel)) (fun _ _ _ _ _ => pg_name (i := 1) sc_areRests.nd rfl (Or.inl rfl)) (fun _ _ _ _ _ => pts_nil)
              (fun _ _ _ _ _ => pe_and (C8.pe_c cI hr (by decide) (by rfl) (pa_cons (pv 1) pa_nil)) (pe_one (pe_chain op_le op_lt pe_int (pv 1) (C8.pe_gc (v := .int 7) (by rfl) mWeek))))) pa_nil)))))))
            (pss_one (ps_ret pe_bl)) pss_nil)
        (pss_one (ps_ret (pe_chain op_eq op_lt (RZ.pe_lenSetI (by rfl) mLen (by rfl) mSet (pv 0)) (pe_callB call_len_seq (by rfl) mLen PySem.boot_len (pa_cons (pv 0) pa_nil)) (C8.pe_gc (v := .int 7) (by rfl) mWeek)))), ?_⟩
      refine ⟨_, rfl, _, .lst, rfl, tyV_list hS, fun H1 s1 => ⟨_, rfl, iteF ?_⟩⟩
      have hS1 := s1.seq hS
      refine ⟨_, rfl, a, rfl, ⟨_, hS1⟩, fun d hd => lc_list (K := K) (a := a) (xs := ns.map V.int)
        (fun i H' => H' d = some (.lst ((List.replicate i true).map V.bl)) ∧ Same H1 H') ⟨upd_same, Same.new (Same.refl _) hd⟩ (fun i H' _ h => h.2.seq hS1) ?_ ?_⟩
      · rintro i y H' hi ⟨h1, h2⟩
        obtain ⟨u, rfl, hu⟩ := map_at hi
        have := at_lt hu
        have hu7 := h7 u (at_mem hu)
        refine ⟨rfl, yes_ ⟨_, rfl, _, .int, rfl, tyV_int, _, rfl, iteT ⟨_, rfl, _, _, rfl, rfl, _, rfl, ?_⟩⟩⟩
        rw [decide_eq_true hu7.1]
        refine iteT ⟨_, _, rfl, rfl, ?_⟩
        dsimp only
        rw [decide_eq_true hu7.2]
        refine ⟨_, h1, small1000 (by rw [List.length_map, List.length_replicate]; omega), ?_, same_upd_new h2 hd⟩
        rw [upd_same, List.replicate_succ', List.map_append]
        rfl
      · rintro H' ⟨h1, h2⟩
        have s2 := s1.trans h2
        refine ⟨d, _, rfl, SqL.of h1, _, rfl, ?_⟩
        rw [all_true fun b hb => List.eq_of_mem_replicate hb]
        refine iteF ?_
        refine ⟨_, rfl, a, ns, rfl, s2.seq hS, hn, by omega, _, rfl, a, _, rfl, .inl (s2.seq hS), rfl, _, rfl, ?_⟩
        rw [List.length_map, decide_eq_true rfl]
        refine iteT ⟨_, _, rfl, rfl, ?_⟩
        dsimp only
        rw [decide_eq_true (show ((ns.length : Nat) : Int) < 7 by omega)]
        exact k _ s2
    · refine ⟨_, pss_cons (ps_if (PW.pt (pw_or (pt_not (pt_val (C8.pe_c cS hr (by decide) (by rfl) (pa_cons (pv 0) pa_nil))))
          (pw_or1 (pt_not (pt_val (pe_callB (cr_all (by rfl)) (by rfl) mAll PyProof.Rows.boot_all (pa_cons
            (pe_lc (own := [("rest", 1)]) (g := gName 1) (by rfl) sc_areRests.nd (pi_tup (pv 0)) (blkOk_by (own := [("rest", 1)]) (N := ["value", "rest"]) (sc := C8.fnScope sAreRests) (by decide +kernel)) (fun _ _ _ _ _ => pg_name (i := 1) sc_areRests.nd rfl (Or.inl rfl)) (fun _ _ _ _ _ => pts_nil)
              (fun _ _ _ _ _ => pe_and (C8.pe_c cI hr (by decide) (by rfl) (pa_cons (pv 1) pa_nil)) (pe_one (pe_chain op_le op_lt pe_int (pv 1) (C8.pe_gc (v := .int 7) (by rfl) mWeek))))) pa_nil)))))))
            (pss_one (ps_ret pe_bl)) pss_nil)
        (pss_one (ps_ret (pe_chain op_eq op_lt (pe_lenSet (by rfl) (by rfl) mLen (by rfl) mSet (pv 0)) (pe_callB call_len_seq (by rfl) mLen PySem.boot_len (pa_cons (pv 0) pa_nil)) (C8.pe_gc (v := .int 7) (by rfl) mWeek)))), ?_⟩
      refine ⟨_, rfl, _, .tup, rfl, tyV_tup hS, fun H1 s1 => ⟨_, rfl, iteF ?_⟩⟩
      have hS1 := Same.sqt s1 hS
      refine ⟨_, rfl, a, rfl, ⟨_, hS1⟩, fun d hd => lc_tup (K := K) (a := a) (xs := [])
        (fun i H' => H' d = some (.lst (([] : List Bool).map V.bl)) ∧ Same H1 H') ⟨upd_same, Same.new (Same.refl _) hd⟩ (fun i H' _ h => Same.sqt h.2 hS1) (fun i y H' hi => by cases hi) ?_⟩
      rintro H' ⟨h1, h2⟩
      have s2 := s1.trans h2
      refine ⟨d, _, rfl, SqL.of h1, _, rfl, iteF ?_⟩
      refine ⟨_, rfl, a, ([] : List Str), rfl, .inr (Same.sqt s2 hS), Nat.zero_le _, _, rfl, a, _, rfl, .inr (Same.sqt s2 hS), rfl, _, rfl, ?_⟩
      exact iteT ⟨_, _, rfl, rfl, k _ s2⟩
abbrev sAreKinds : Stmt := top 32
theorem sc_areKinds : FnScope ["value", "kind"] ["value"] (C8.fnScope sAreKinds) := C8.fnScope_by (by decide +kernel)
theorem cal_areKinds0 {f CK : Addr} {fd : FuncData} (F : C8.Def K mg "are_kinds" sAreKinds f fd) (df : fd.defaults = .none) (cS : C8.Cal P w K mg base 1 "is_sequence" (spIsSeq K) [])
    (mAll : mg "all" = none) (mLen : mg "len" = none) (mSet : mg "set" = none) (mIsi : mg "isinstance" = none) (mKind : mg "Kind" = some (.ref CK)) : C8.Cal P w K mg base 2 "are_kinds" (spAreKinds0 K) [] := by
  refine C8.cal0 F (C8.Fun.binds F.fn df (ps := ["value"]) fun _ _ _ _ _ _ us hl => match us, hl with | [_], _ => rfl) .nil sc_areKinds (fun vs H Q E h => ?_) (fun cdv A outer s H vs Q E hr h => ?_)
  · obtain ⟨a, rfl, _⟩ := h
    rfl
  · obtain ⟨a, rfl, hS, k⟩ := h
    refine ⟨_, pss_cons (ps_if (PW.pt (pw_or (pt_not (pt_val (C8.pe_c cS hr (by decide) (by rfl) (pa_cons (pv 0) pa_nil))))
          (pw_or1 (pt_not (pt_val (pe_callB (cr_all (by rfl)) (by rfl) mAll PyProof.Rows.boot_all (pa_cons
            (pe_lc (own := [("kind", 1)]) (g := gName 1) (by rfl) sc_areKinds.nd (pi_tup (pv 0)) (blkOk_by (own := [("kind", 1)]) (N := ["value", "kind"]) (sc := C8.fnScope sAreKinds) (by decide +kernel)) (fun _ _ _ _ _ => pg_name (i := 1) sc_areKinds.nd rfl (Or.inl rfl)) (fun _ _ _ _ _ => pts_nil)
              (fun _ _ _ _ _ => pe_callB (r := rIsi K) call_isi (by rfl) mIsi PyProof.Rows.boot_isinstance (pa_cons (pv 1) (pa_cons (pe_glob (v := .ref CK) (by rfl) mKind rfl) pa_nil)))) pa_nil)))))))
            (pss_one (ps_ret pe_bl)) pss_nil)
        (pss_one (ps_ret (pe_cmpR op_eq (pe_lenSet (by rfl) (by rfl) mLen (by rfl) mSet
            (pe_lc (own := [("kind", 1)]) (g := gName 1) (by rfl) sc_areKinds.nd (pi_tup (pv 0)) (blkOk_by (own := [("kind", 1)]) (N := ["value", "kind"]) (sc := C8.fnScope sAreKinds) (by decide +kernel)) (fun _ _ _ _ _ => pg_name (i := 1) sc_areKinds.nd rfl (Or.inl rfl)) (fun _ _ _ _ _ => pts_nil)
              (fun _ _ _ _ _ => show PE _ _ (tFld K (tVar 1) "name") from pe_fld (pv 1) rfl)))
           (pe_callB call_len_seq (by rfl) mLen PySem.boot_len (pa_cons (pv 0) pa_nil)) (nomark _)))), ?_⟩
    refine ⟨_, rfl, _, .tup, rfl, tyV_tup hS, fun H1 s1 => ⟨_, rfl, iteF ?_⟩⟩
    have hS1 := Same.sqt s1 hS
    refine ⟨_, rfl, a, rfl, ⟨_, hS1⟩, fun d hd => lc_tup (K := K) (a := a) (xs := [])
      (fun i H' => H' d = some (.lst (([] : List Bool).map V.bl)) ∧ Same H1 H') ⟨upd_same, Same.new (Same.refl _) hd⟩ (fun i H' _ h => Same.sqt h.2 hS1) (fun i y H' hi => by cases hi) ?_⟩
    rintro H' ⟨h1, h2⟩
    have s2 := s1.trans h2
    have hS2 := Same.sqt s2 hS
    refine ⟨d, _, rfl, SqL.of h1, _, rfl, iteF ?_⟩
    refine ⟨_, rfl, a, rfl, ⟨_, hS2⟩, fun e he => lc_tup (K := K) (a := a) (xs := [])
      (fun i H2 => H2 e = some (.lst (([] : List Str).map V.str)) ∧ Same H' H2) ⟨upd_same, Same.new (Same.refl _) he⟩ (fun i H2 _ h => Same.sqt h.2 hS2) (fun i y H2 hi => by cases hi) ?_⟩
    rintro H2 ⟨g1, g2⟩
    have s3 := s2.trans g2
    exact ⟨e, [], rfl, .inl (SqL.of g1), Nat.zero_le _, _, rfl, a, _, rfl, .inr (Same.sqt s3 hS), rfl, k _ s3⟩
end
end Ts

namespace Ts
open PySem L2
/-- all but one place stay -/
def But (x : Addr) (H H' : Hp) : Prop := ∀ b o, H b = some o → b ≠ x → H' b = some o
theorem But.refl {x : Addr} {H : Hp} : But x H H := fun _ _ h _ => h
theorem But.trans {x : Addr} {H H1 H2 : Hp} (a : But x H H1) (b : But x H1 H2) : But x H H2 := fun c o h n => b c o (a c o h n) n
theorem But.same {x : Addr} {H H1 H2 : Hp} (a : But x H H1) (s : Same H1 H2) : But x H H2 := fun c o h n => s c o (a c o h n)
theorem But.at {x : Addr} {H H1 : Hp} {o : HO} (a : But x H H1) : But x H (upd H1 x o) := fun c u h n => by
  rw [upd_ne n]
  exact a c u h n
theorem But.seq {K : PySem.W.Frag} {x a C dx : Addr} {fs : List (Str × V)} {xs : List V} {H H' : Hp} (b : But x H H') (hx : H x = some (.ins C dx fs)) (h : SqL K H a xs) : SqL K H' a xs := by
  rcases h with (h | ⟨o, h⟩) | h
  · exact .inl (.inl (b _ _ h (ne_of h hx (by intro z; cases z))))
  · exact .inl (.inr ⟨o, b _ _ h (ne_of h hx (by intro z; cases z))⟩)
  · exact .inr h
theorem But.sqt {K : PySem.W.Frag} {x a C dx : Addr} {fs : List (Str × V)} {xs : List V} {H H' : Hp} (b : But x H H') (hx : H x = some (.ins C dx fs)) (h : SqT K H a xs) : SqT K H' a xs := by
  rcases h with (h | ⟨o, h⟩) | h
  · exact .inl (.inl (b _ _ h (ne_of h hx (by intro z; cases z))))
  · exact .inl (.inr ⟨o, b _ _ h (ne_of h hx (by intro z; cases z))⟩)
  · exact .inr h
theorem RestsOk.but {K : PySem.W.Frag} {x a C dx : Addr} {fs : List (Str × V)} {ns : List Int} {H H' : Hp} (h : RestsOk K H a ns) (b : But x H H') (hx : H x = some (.ins C dx fs)) : RestsOk K H' a ns := by
  rcases h with ⟨h, r⟩ | ⟨h, r⟩
  · exact .inl ⟨b.seq hx h, r⟩
  · exact .inr ⟨b.sqt hx h, r⟩
theorem RestsOk.sq {K : PySem.W.Frag} {H : Hp} {a : Addr} {ns : List Int} (h : RestsOk K H a ns) : SqL K H a (ns.map V.int) ∨ SqT K H a (ns.map V.int) := by
  rcases h with ⟨h, _⟩ | ⟨h, rfl⟩
  · exact .inl h
  · exact .inr h
theorem RestsOk.small {K : PySem.W.Frag} {H : Hp} {a : Addr} {ns : List Int} (h : RestsOk K H a ns) : ns.length ≤ 6 := by
  rcases h with ⟨_, _, _, h⟩ | ⟨_, rfl⟩
  · exact h
  · exact Nat.zero_le _
/-- the attributes of a rule -/
def ruleF (l : Int) (r : Addr) (c : V) (k n : Addr) : List (Str × V) := putF "names" (.ref n) (putF "kinds" (.ref k) (putF "cap" c (putF "rests" (.ref r) (putF "length" (.int l) []))))
theorem few {f : Str} {v : V} {fs : List (Str × V)} {n : Nat} (h : fs.length ≤ n) : (putF f v fs).length ≤ n + 1 := Nat.le_trans (length_putF f v fs) (Nat.succ_le_succ h)
theorem few0 : ([] : List (Str × V)).length ≤ 0 := Nat.le_refl _
theorem few_lt {fs : List (Str × V)} {n : Nat} (h : fs.length ≤ n) (h2 : n < 1000) : fs.length < 1000 := Nat.lt_of_le_of_lt h h2
theorem ruleF_rests (l : Int) (r : Addr) (c : V) (k n : Addr) : (ruleF l r c k n).lookup ("rests" : Str) = some (.ref r) := by
  unfold ruleF
  rw [lookup_putF, if_neg (by decide +kernel), lookup_putF, if_neg (by decide +kernel), lookup_putF, if_neg (by decide +kernel), lookup_putF, if_pos rfl]
theorem ruleF_no (l : Int) (r : Addr) (c : V) (k n : Addr) {m : Str} (h1 : ¬ m = "names") (h2 : ¬ m = "kinds") (h3 : ¬ m = "cap") (h4 : ¬ m = "rests") (h5 : ¬ m = "length") : (ruleF l r c k n).lookup m = none := by
  unfold ruleF
  rw [lookup_putF, if_neg h1, lookup_putF, if_neg h2, lookup_putF, if_neg h3, lookup_putF, if_neg h4, lookup_putF, if_neg h5]
  rfl
def spInit0 (K : PySem.W.Frag) (C : Addr) : Sp := fun vs H Q _ => ∃ (x dx a T : Addr) (l : Int) (ns : List Int), vs = [.ref x, .int l, .ref a, .non, .ref T] ∧ H x = some (.ins C dx []) ∧ 1 ≤ l ∧ RestsOk K H a ns ∧ SqT K H T [] ∧
  ∀ (H' : Hp) (r k n : Addr) (rs : List Int), rs.Perm ns → H' x = some (.ins C dx (ruleF l r .non k n)) → H' r = some (.tup (rs.map V.int)) → But x H H' → Q .non H'
section
variable {P : Program} {w : World} {K : PySem.W.Frag} {mg : Str → Option Value} {base : Heap}
abbrev sInit : Stmt := inClass (top 30) 0
theorem sc_init : FnScope ["self", "length", "rests", "cap", "kinds", "kind"] ["self", "length", "rests", "cap", "kinds"] (C8.fnScope sInit) := C8.fnScope_by (by decide +kernel)
structure RuleC (K : PySem.W.Frag) (C : Addr) : Prop where
  cl : Cls K C
  n1 : NoAttr K C "length"
  n2 : NoAttr K C "rests"
  n3 : NoAttr K C "cap"
  n4 : NoAttr K C "kinds"
  n5 : NoAttr K C "names"
theorem fn_init0 {f C : Addr} {fd : FuncData} (F : C8.Fun K "__init__" "Rule.__init__" sInit f fd) (T : RuleC K C) (cC : C8.Cal P w K mg base 2 "is_count" (spIsCount K) []) (cR : C8.Cal P w K mg base 2 "are_rests" (spAreRests K) []) (cK : C8.Cal P w K mg base 2 "are_kinds" (spAreKinds0 K) [])
    (mTup : mg "tuple" = none) (mSorted : mg "sorted" = none) : FnOk P w K mg base C8.CX0 3 f fd ["self", "length", "rests", "cap", "kinds"] (spInit0 K C) := by
  refine C8.fn0 F sc_init (fun vs H Q E h => ?_) (fun cdv A outer s H vs Q E hr h => ?_)
  · obtain ⟨x, dx, a, T, l, ns, rfl, _⟩ := h
    rfl
  · obtain ⟨x, dx, a, T0, l, ns, rfl, hx, hl, hR, hT, k⟩ := h
    refine ⟨_, pss_cons (ps_if (pt_not (pt_val (C8.pe_c cC hr (by decide) (by rfl) (pa_cons (pv 1) pa_nil)))) (pss_one ps_never) pss_nil)
      (pss_cons (ps_if (pt_not (pt_val (C8.pe_c cR hr (by decide) (by rfl) (pa_cons (pv 2) pa_nil)))) (pss_one ps_never) pss_nil)
      (pss_cons (ps_if (PW.pt (pw_and (pt_cmpR op_notN (pv 3) pe_non (nomark _)) (pw_and1 (pt_not (pt_val (C8.pe_c cC hr (by decide) (by rfl) (pa_cons (pv 3) pa_nil))))))) (pss_one ps_never) pss_nil)
      (pss_cons (ps_if (pt_not (pt_val (C8.pe_c cK hr (by decide) (by rfl) (pa_cons (pv 4) pa_nil)))) (pss_one ps_never) pss_nil)
      (pss_cons (ps_fld (pv 0) (pv 1) rfl)
      (pss_cons (ps_fld (pv 0) (pe_callTy call_tuple_of (by rfl) mTup PyProof.Rows.boot_tuple (pa_cons (pe_callB cr_sortedQ (by rfl) mSorted PyProof.Rows.boot_sorted (pa_cons (pv 2) pa_nil)) pa_nil)) rfl)
      (pss_cons (ps_fld (pv 0) (pv 3) rfl)
      (pss_cons (ps_fld (pv 0) (pe_callTy call_tuple_of (by rfl) mTup PyProof.Rows.boot_tuple (pa_cons (pv 4) pa_nil)) rfl)
      (pss_one (ps_fld (pv 0) (pe_callTy call_tuple_of (by rfl) mTup PyProof.Rows.boot_tuple (pa_cons
        (pe_lc (own := [("kind", 5)]) (g := gName 5) (by rfl) sc_init.nd (pi_tup (pv 4)) (blkOk_by (own := [("kind", 5)]) (N := ["self", "length", "rests", "cap", "kinds", "kind"]) (sc := C8.fnScope sInit) (by decide +kernel)) (fun _ _ _ _ _ => pg_name (i := 5) sc_init.nd rfl (Or.inl rfl)) (fun _ _ _ _ _ => pts_nil)
              (fun _ _ _ _ _ => show PE _ _ (tFld K (tVar 5) "name") from pe_fld (pv 5) rfl)) pa_nil)) rfl))))))))), ?_⟩
    refine ⟨_, rfl, _, .int, rfl, tyV_int, _, rfl, ?_⟩
    rw [show (decide (Kd.int = Kd.int) && cntV (.int l)) = true by simp [cntV, hl]]
    refine iteF ⟨_, rfl, a, ns, rfl, hR, fun H1 s1 => ⟨_, rfl, iteF ⟨_, rfl, rfl, _, rfl, iteF (iteF ?_)⟩⟩⟩
    refine ⟨_, rfl, T0, rfl, Same.sqt s1 hT, fun H2 s2 => ⟨_, rfl, iteF ?_⟩⟩
    have s12 := s1.trans s2
    have hx2 := s12 _ _ hx
    -- self.length
    refine ⟨_, rfl, _, rfl, x, C, dx, [], rfl, hx2, T.cl, T.n1, by decide, ?_⟩
    have b3 : But x H2 (upd H2 x (.ins C dx (putF "length" (.int l) []))) := But.refl.at
    -- self.rests
    refine ⟨_, rfl, a, ns, rfl, ((hR.same s12).but b3 hx2).sq, fun rs p hp _ np => ⟨p, _, rfl, .inl ⟨SqL.of upd_same, fun r nr => ?_⟩⟩⟩
    have b4 := (b3.same (Same.new (Same.refl _) np (o := .lst (rs.map V.int)))).same (Same.new (Same.refl _) nr (o := .tup (rs.map V.int)))
    have xr : x ≠ r := fun e => by
      rw [← e, upd_ne (fun e => by rw [← e, upd_same] at np; cases np), upd_same] at nr
      cases nr
    have xp : x ≠ p := fun e => by
      rw [← e, upd_same] at np
      cases np
    refine ⟨_, rfl, x, C, dx, _, rfl, by rw [upd_ne xr, upd_ne xp, upd_same], T.cl, T.n2, few_lt (few few0) (by decide), ?_⟩
    -- self.cap
    refine ⟨_, rfl, _, rfl, x, C, dx, _, rfl, upd_same, T.cl, T.n3, few_lt (few (few few0)) (by decide), ?_⟩
    -- self.kinds
    have b5 := (b4.at (o := .ins C dx (putF "rests" (.ref r) (putF "length" (.int l) [])))).at (o := .ins C dx (putF "cap" .non (putF "rests" (.ref r) (putF "length" (.int l) []))))
    refine ⟨_, rfl, T0, _, rfl, .inr ⟨b5.sqt hx2 (Same.sqt s12 hT), ?_⟩⟩
    refine ⟨_, rfl, x, C, dx, _, rfl, upd_same, T.cl, T.n4, few_lt (few (few (few few0))) (by decide), ?_⟩
    have b6 := b5.at (o := .ins C dx (putF "kinds" (.ref T0) (putF "cap" .non (putF "rests" (.ref r) (putF "length" (.int l) [])))))
    -- self.names
    have hT6 := b6.sqt hx2 (Same.sqt s12 hT)
    refine ⟨_, rfl, T0, rfl, ⟨_, hT6⟩, fun d hd => lc_tup (K := K) (a := T0) (xs := [])
      (fun i H' => H' = upd _ d (.lst [])) rfl (fun i H' _ h => by rw [h]; exact Same.sqt (Same.new (Same.refl _) hd) hT6) (fun i y H' hi => by cases hi) ?_⟩
    rintro H' rfl
    refine ⟨d, _, rfl, .inl ⟨SqL.of upd_same, fun n hn => ?_⟩⟩
    have xd : x ≠ d := fun e => by
      rw [← e, upd_same] at hd
      cases hd
    have xn : x ≠ n := fun e => by
      rw [← e, upd_ne xd, upd_same] at hn
      cases hn
    refine ⟨_, rfl, x, C, dx, _, rfl, by rw [upd_ne xn, upd_ne xd, upd_same], T.cl, T.n5, few_lt (few (few (few (few few0)))) (by decide), ?_⟩
    refine k _ r T0 n rs hp upd_same ?_ ?_
    · have hr0 : r ≠ d := fun e => by
        rw [← e, upd_ne xr.symm, upd_ne xr.symm, upd_ne xr.symm, upd_same] at hd
        cases hd
      have hrn : r ≠ n := fun e => by
        rw [← e, upd_ne hr0, upd_ne xr.symm, upd_ne xr.symm, upd_ne xr.symm, upd_same] at hn
        cases hn
      rw [upd_ne xr.symm, upd_ne hrn, upd_ne hr0, upd_ne xr.symm, upd_ne xr.symm, upd_ne xr.symm, upd_same]
    · exact fun c u hc hn' => (((b6.same (Same.new (Same.refl _) hd)).same (Same.new (Same.refl _) hn)).at) c u (s12 _ _ hc) hn'
end
end Ts

namespace Ts
open PySem L2
def spWork (K : PySem.W.Frag) (C : Addr) : Sp := fun vs H Q _ => ∃ (x dx r : Addr) (fs : List (Str × V)) (rs : List Int) (day e : Int), vs = [.ref x, .int day] ∧ H x = some (.ins C dx fs) ∧ fs.lookup ("rests" : Str) = some (.ref r) ∧ SqT K H r (rs.map V.int) ∧
  day ≤ e ∧ ¬ e % 7 ∈ rs ∧ (∀ c, day ≤ c → c < e → c % 7 ∈ rs) ∧ Q (.int e) H
theorem inV_ints (i : Int) (rs : List Int) : inV (.int i) (rs.map V.int) = decide (i ∈ rs) := by
  unfold inV
  rw [List.any_map]
  by_cases h : i ∈ rs
  · rw [decide_eq_true h]
    exact List.any_eq_true.mpr ⟨i, h, by simp [eqV]⟩
  · rw [decide_eq_false h]
    rw [List.any_eq_false]
    intro y hy e
    have : y = i := by simpa [eqV] using e
    exact h (this ▸ hy)
theorem flat_ints (rs : List Int) : (rs.map V.int).all flatV = true := by
  rw [List.all_map]
  exact List.all_eq_true.mpr fun _ _ => rfl
section
variable {P : Program} {w : World} {K : PySem.W.Frag} {mg : Str → Option Value} {base : Heap}
abbrev sWork : Stmt := inClass (top 30) 3
theorem sc_work : FnScope ["self", "day"] ["self", "day"] (C8.fnScope sWork) := C8.fnScope_by (by decide +kernel)
theorem met_work {f C : Addr} {fd : FuncData} (F : C8.Fun K "work" "Rule.work" sWork f fd) (df : fd.defaults = .none) (T : RuleC K C) (me : Meth K C "work" f) (mWeek : ∃ u, mg "WEEK" = some u ∧ RelV (.int 7) u) : C8.Met P w K mg base 1 C "work" (spWork K C) [] := by
  refine C8.met0 T.cl me F (C8.Fun.binds F df (ps := ["self", "day"]) fun _ _ _ _ _ _ us hl => match us, hl with | [_, _], _ => rfl) sc_work (fun vs H Q E h => ?_) (fun cdv A outer s H vs Q E hr h => ?_)
  · obtain ⟨x, dx, r, fs, rs, day, e, rfl, _⟩ := h
    rfl
  · obtain ⟨x, dx, r, fs, rs, day, e, rfl, hx, hf, hS, h1, h2, h3, q⟩ := h
    refine ⟨_, pss_cons (ps_while PassesOwn.never (pt_cmpR op_in_seq (pe_op op_mod (pv 1) (C8.pe_gc (v := .int 7) (by rfl) mWeek)) (pe_fld (pv 0) rfl) (by rfl)) (pss_one (ps_aug (i := 1) sc_work.nd rfl (.inl rfl) pe_int ip_add)))
      (pss_one (ps_ret (pv 1))), ?_⟩
    refine ⟨fun m σ H' => ∃ c, σ = [some (.ref x), some (.int c)] ∧ H' = H ∧ m = (e - c).toNat ∧ day ≤ c ∧ c ≤ e, ⟨_, day, rfl, rfl, rfl, Int.le_refl _, h1⟩, ?_⟩
    rintro m σ H' ⟨c, rfl, rfl, rfl, c1, c2⟩
    refine ⟨_, rfl, _, _, rfl, rfl, (by show (0 : Int) < 7; decide), _, rfl, x, C, dx, _, _, rfl, hx, T.cl, T.n2, hf, r, _, rfl, .inr hS, rfl, flat_ints rs, _, rfl, ?_⟩
    show (if inV (.int (c % 7)) (rs.map V.int) = true then _ else _)
    rw [inV_ints]
    by_cases hc : c % 7 ∈ rs
    · rw [decide_eq_true hc]
      refine iteT ⟨fun σ' H2 => σ' = [some (.ref x), some (.int (c + 1))] ∧ H2 = H', fun σ' H2 ⟨e1, e2⟩ => ⟨_, ?_, c + 1, e1, e2, rfl, by omega, ?_⟩, ?_⟩
      · have : c ≠ e := fun z => h2 (z ▸ hc)
        omega
      · have : c ≠ e := fun z => h2 (z ▸ hc)
        omega
      · exact ⟨_, rfl, _, _, rfl, rfl, rfl, rfl⟩
    · rw [decide_eq_false hc]
      have : c = e := by
        by_cases hlt : c < e
        · exact absurd (h3 c c1 hlt) hc
        · omega
      subst this
      exact iteF ⟨_, rfl, q⟩
end
end Ts

namespace Ts
open PySem L2
def spLaw (K : PySem.W.Frag) : Sp := fun vs H Q _ => ∃ (a : Addr) (ns : List Int), vs = [.ref a] ∧ SqL K H a (ns.map V.int) ∧ ns.length ≤ 63 ∧ ∀ H', Q (.bl true) H'
theorem take_snoc {α : Type} {xs : List α} {i : Nat} {x : α} (h : xs[i]? = some x) : xs.take (i + 1) = xs.take i ++ [x] := by
  rw [List.take_add_one, h]
  rfl
section
variable {P : Program} {w : World} {K : PySem.W.Frag} {mg : Str → Option Value} {base : Heap}
abbrev sLaw : Stmt := top 40
abbrev nLaw : List Str := ["_law_script", "_law_deal_here", "_law_turn", "_law_days_off", "_law_made", "_law_low", "_law_today", "_law_found", "_law_one"]
theorem sc_law : FnScope nLaw ["_law_script"] (C8.fnScope sLaw) := C8.fnScope_by (by decide +kernel)
structure NoG (mg : Str → Option Value) : Prop where
  int : mg "int" = none
  bool : mg "bool" = none
  list : mg "list" = none
  range : mg "range" = none
  sorted : mg "sorted" = none
  isi : mg "isinstance" = none
theorem fn_law {f C T0 T1 : Addr} {fd : FuncData} (F : C8.Fun K "law" "law" sLaw f fd) (T : RuleC K C) (G : NoG mg) (cDeal : C8.Cal P w K mg base 1 "_law_deal" (spDeal K) []) (cDraw : C8.Cal P w K mg base 1 "_law_draw" spDraw []) (cPick : C8.Cal P w K mg base 2 "_law_pick" (spPick K) []) (cMix : C8.Cal P w K mg base 2 "_law_mixed" (spMixed K) [])
    (mk2 : C8.Mak P w K mg base 3 "Rule" C (spInit0 K C) [.non, .ref T0]) (mk1 : C8.Mak P w K mg base 3 "Rule" C (spInit0 K C) [.ref T1, .non, .ref T0]) (hT0 : ∀ H, SqT K H T0 []) (hT1 : ∀ H, SqT K H T1 []) (mW : C8.Met P w K mg base 1 C "work" (spWork K C) []) :
    FnOk P w K mg base C8.CX0 5 f fd ["_law_script"] (spLaw K) := by
  refine C8.fn0 F sc_law (fun vs H Q E h => ?_) (fun cdv A outer s H vs Q E hr h => ?_)
  · obtain ⟨a, ns, rfl, _⟩ := h
    rfl
  · obtain ⟨a, ns, rfl, hS, hl, k⟩ := h
    have hu := hr.units
    have noW : ∀ (l : Int) (r kk n : Addr), (ruleF l r .non kk n).lookup ("work" : Str) = none := fun l r kk n => ruleF_no _ _ _ _ _ (by decide +kernel) (by decide +kernel) (by decide +kernel) (by decide +kernel) (by decide +kernel)
    refine ⟨_, pss_cons (ps_set (i := 1) sc_law.nd rfl (Or.inl rfl) (C8.pe_c cDeal hr (by decide) (by rfl) (pa_cons (pv 0) pa_nil)))
      (pss_cons (ps_for PassesOwn.never rfl (pi_range1 (by rfl) G.range (pa_cons pe_int pa_nil)) (pg_name (i := 2) sc_law.nd rfl (Or.inl rfl))
        (pss_cons (ps_set (i := 3) sc_law.nd rfl (Or.inr rfl) (pe_callB cr_sortedQ (by rfl) G.sorted PyProof.Rows.boot_sorted (pa_cons
            (pe_lc (own := [("_law_one", 8)]) (g := gName 8) (by rfl) sc_law.nd (pi_list (pe_slice sl_list (C8.pe_c cMix hr (by decide) (by rfl) (pa_cons (pv 1) (pa_cons (pe_listRg (by rfl) (by rfl) G.list (prg_1 (by rfl) G.range pe_int)) pa_nil)))
                po_none (po_some (C8.pe_c cDraw hr (by decide) (by rfl) (pa_cons (pv 1) (pa_cons pe_int pa_nil))))))
              (blkOk_by (own := [("_law_one", 8)]) (N := nLaw) (sc := C8.fnScope sLaw) (by decide +kernel)) (fun _ _ _ _ _ => pg_name (i := 8) sc_law.nd rfl (Or.inl rfl)) (fun _ _ _ _ _ => pts_nil)
              (fun _ _ _ _ _ => pe_callTy call_int1 (by rfl) G.int PyProof.Rows.boot_int (pa_cons (pv 8) pa_nil))) pa_nil)))
        (pss_cons (ps_set (i := 4) sc_law.nd rfl (Or.inl rfl) (C8.pe_mk mk2 hr (by decide) (by rfl) (pa_cons (pe_op op_add pe_int (C8.pe_c cDraw hr (by decide) (by rfl) (pa_cons (pv 1) (pa_cons pe_int pa_nil)))) (pa_cons (pv 3) pa_nil))))
        (pss_cons (ps_set (i := 5) sc_law.nd rfl (Or.inl rfl) (C8.pe_c cDraw hr (by decide) (by rfl) (pa_cons (pv 1) (pa_cons (C8.pe_c cPick hr (by decide) (by rfl) (pa_cons (pv 1) (pa_cons
              (pe_lst (pa_cons pe_int (pa_cons pe_int (pa_cons (pe_op op_sub (pe_op op_pow pe_int pe_int) pe_int) pa_nil)))) pa_nil))) pa_nil))))
        (pss_one (ps_for PassesOwn.never rfl (pi_range2 (by rfl) G.range (pa_cons (pv 5) (pa_cons (pe_op op_add (pv 5) pe_int) pa_nil))) (pg_name (i := 6) sc_law.nd rfl (Or.inl rfl))
          (pss_cons (ps_set (i := 7) sc_law.nd rfl (Or.inl rfl) (C8.pe_mt mW hr (by decide) (pv 4) (pa_cons (pv 6) pa_nil)))
          (pss_cons (ps_if (PW.pt (pw_or (pt_val (pe_callB call_isi (by rfl) G.isi PyProof.Rows.boot_isinstance (pa_cons (pv 7) (pa_cons (pe_bltn (v := .ty "bool") (by rfl) G.bool PyProof.Rows.boot_bool rfl) pa_nil))))
              (pw_or (pt_not (pt_val (pe_callB call_isi (by rfl) G.isi PyProof.Rows.boot_isinstance (pa_cons (pv 7) (pa_cons (pe_bltn (v := .ty "int") (by rfl) G.int PyProof.Rows.boot_int rfl) pa_nil)))))
              (pw_or1 (pt_not (pt_chain op_le op_lt (pv 6) (pv 7) (pe_op op_add (pv 6) pe_int))))))) (pss_one (ps_ret pe_bl)) pss_nil)
          (pss_cons (ps_if (pt_cmpR op_in_seq (pe_op op_mod (pe_callTy call_int1 (by rfl) G.int PyProof.Rows.boot_int (pa_cons (pv 7) pa_nil)) pe_int) (pv 3) (by rfl)) (pss_one (ps_ret pe_bl)) pss_nil)
          (pss_cons (ps_if (pt_cmpR (op_neD hu) (pe_lc (own := [("_law_one", 8)]) (g := gName 8) (by rfl) sc_law.nd (pi_range2 (by rfl) G.range (pa_cons (pv 6) (pa_cons (pv 7) pa_nil)))
              (blkOk_by (own := [("_law_one", 8)]) (N := nLaw) (sc := C8.fnScope sLaw) (by decide +kernel)) (fun _ _ _ _ _ => pg_name (i := 8) sc_law.nd rfl (Or.inl rfl))
              (fun _ _ _ _ _ => pts_one (pt_cmpR (show OpR _ (compareOp .NotIn) (rIn K true) from op_notIn_seq) (pe_op op_mod (pe_callTy call_int1 (by rfl) G.int PyProof.Rows.boot_int (pa_cons (pv 8) pa_nil)) pe_int) (pv 3) (by rfl)))
              (fun _ _ _ _ _ => pv 8)) (pe_lst pa_nil) (nomark _)) (pss_one (ps_ret pe_bl)) pss_nil)
          (pss_cons (ps_if (PW.pt (pw_or (pt_cmpR op_ne (C8.pe_mt mW hr (by decide) (pv 4) (pa_cons (pe_op op_add (pv 6) pe_int) pa_nil)) (pe_op op_add (pv 7) pe_int) (nomark _))
              (pw_or1 (pt_cmpR op_ne (C8.pe_mt mW hr (by decide) (pv 4) (pa_cons (pv 7) pa_nil)) (pv 7) (nomark _))))) (pss_one (ps_ret pe_bl)) pss_nil)
          (pss_one (ps_if (pt_cmpR op_ne (pe_cmpR op_eq (pv 7) (pv 6) (nomark _)) (pe_cmpR op_notIn_seq (pe_op op_mod (pe_callTy call_int1 (by rfl) G.int PyProof.Rows.boot_int (pa_cons (pv 6) pa_nil)) pe_int) (pv 3) (by rfl)) (nomark _)) (pss_one (ps_ret pe_bl)) pss_nil)))))))))))))
      (pss_one (ps_ret (pe_and (pe_cmpR op_eq (C8.pe_mt mW hr (by decide) (C8.pe_mk mk1 hr (by decide) (by rfl) (pa_cons pe_int pa_nil)) (pa_cons (pe_op op_pow pe_int pe_int) pa_nil)) (pe_op op_pow pe_int pe_int) (nomark _))
        (pe_one (pe_cmpR op_eq (C8.pe_mt mW hr (by decide) (C8.pe_mk mk2 hr (by decide) (by rfl) (pa_cons pe_int (pa_cons (pe_lst (pa_cons pe_int (pa_cons pe_int (pa_cons pe_int (pa_cons pe_int (pa_cons pe_int (pa_cons pe_int pa_nil))))))) pa_nil))) (pa_cons pe_int pa_nil)) pe_int (nomark _))))))), ?_⟩
    refine ⟨_, rfl, a, ns, rfl, hS, hl, fun D L H1 dl s1 D0 L0 => ?_⟩
    refine ⟨12, rfl, by decide, by decide, for_range (lo := 0) (n := 12) (fun i σ H' => ∃ (v2 v3 v4 v5 v6 v7 v8 : Option V), σ = [some (.ref a), some (.ref D), v2, v3, v4, v5, v6, v7, v8] ∧ Went D L H1 H')
      ⟨_, _, _, _, _, _, _, rfl, dl, Kept.refl⟩ ?_ ?_⟩
    · rintro i σ H2 hi ⟨v2, v3, v4, v5, v6, v7, v8, rfl, W⟩
      -- the days off
      refine ⟨_, rfl, 7, rfl, RgOk.of_le (by decide) (by decide) (by decide) (by decide), fun q hq => ?_⟩
      have Wa : Went D L H1 (upd H2 q (.lst (rgV 0 7))) := W.new hq
      have oq := off_new W.d hq
      refine ⟨D, L, q, rgV 0 7, rfl, Wa.d, SqL.of upd_same, oq.1, oq.2, rfl, by decide, fun p ys H3 hys W3 np hp => ?_⟩
      obtain ⟨ms, rfl, hms⟩ := perm_ints (ns := [0, 1, 2, 3, 4, 5, 6]) hys
      have op := off_new Wa.d np
      refine ⟨_, rfl, D, L, 7, rfl, W3.d, by decide, by decide, fun d H4 d0 d1 W4 => ⟨_, rfl, p, _, rfl, SqL.of (W4.k _ _ op.1 op.2 hp), fun p2 np2 => ?_⟩⟩
      obtain ⟨dn, rfl⟩ := Int.eq_ofNat_of_zero_le d0
      rw [cut_to V.int ms dn]
      have hmn : ms.Nodup := hms.nodup_iff.mpr (by decide)
      have hm7 : ∀ n ∈ ms, 0 ≤ n ∧ n < 7 := fun n hn => by
        have := hms.mem_iff.mp hn
        simp only [List.mem_cons, List.not_mem_nil, or_false] at this
        omega
      have zn : (ms.take dn).Nodup := hmn.sublist (List.take_sublist _ _)
      have z7 : ∀ n ∈ ms.take dn, 0 ≤ n ∧ n < 7 := fun n hn => hm7 n (List.mem_of_mem_take hn)
      have zl : (ms.take dn).length ≤ 6 := by
        rw [List.length_take]
        omega
      generalize ms.take dn = zs at zn z7 zl ⊢
      have W5 : Went D L H1 (upd H4 p2 (.lst (zs.map V.int))) := ((Wa.trans W3).trans W4).new np2
      generalize hH5 : upd H4 p2 (.lst (zs.map V.int)) = H5 at W5 ⊢
      have hz5 : H5 p2 = some (.lst (zs.map V.int)) := by rw [← hH5, upd_same]
      refine ⟨p2, rfl, ⟨_, SqL.of hz5⟩, fun e ne => lc_list (K := K) (a := p2) (xs := zs.map V.int)
        (fun i H' => H' e = some (.lst ((zs.take i).map V.int)) ∧ Same H5 H') ⟨upd_same, Same.new (Same.refl _) ne⟩ (fun i H' _ h => SqL.of (h.2 _ _ hz5)) ?_ ?_⟩
      · rintro j y H' hj ⟨g1, g2⟩
        obtain ⟨u, rfl, hu'⟩ := map_at hj
        refine ⟨rfl, yes_ ⟨_, rfl, .inl ⟨_, rfl, _, g1, small1000 (by rw [List.length_map, List.length_take]; omega), ?_, same_upd_new g2 ne⟩⟩⟩
        rw [upd_same, take_snoc hu', List.map_append]
        rfl
      · rintro H6 ⟨g1, g2⟩
        rw [List.length_map, List.take_length] at g1
        refine ⟨e, zs, rfl, .inl (SqL.of g1), fun rs off prs _ noff => ?_⟩
        have W6 : Went D L H1 H6 := W5.same g2
        have oo := off_new W6.d noff
        have W7 : Went D L H1 (upd H6 off (.lst (rs.map V.int))) := W6.new noff
        generalize hH7 : upd H6 off (.lst (rs.map V.int)) = H7 at W7 ⊢
        have ho7 : H7 off = some (.lst (rs.map V.int)) := by rw [← hH7, upd_same]
        have rn : rs.Nodup := prs.nodup_iff.mpr zn
        have r7 : ∀ n ∈ rs, 0 ≤ n ∧ n < 7 := fun n hn => z7 n (prs.mem_iff.mp hn)
        have rl : rs.length ≤ 6 := by rw [prs.length_eq]; exact zl
        -- the rule
        refine ⟨_, rfl, D, L, 9, rfl, W7.d, by decide, by decide, fun d2 H8 e0 e1 W8 => ⟨_, _, rfl, rfl, _, rfl, fun x dx nx ndx nex => ?_⟩⟩
        have ho8 := W8.k _ _ oo.1 oo.2 ho7
        have W8' := W7.trans W8
        have s9 : Same H8 (upd (upd H8 dx (.own x)) x (.ins C dx [])) := fun b o h => by
          rw [upd_ne (ne_of_none h nx), upd_ne (ne_of_none h ndx)]
          exact h
        refine ⟨x, dx, off, T0, _, rs, rfl, upd_same, by omega, .inl ⟨SqL.of (s9 _ _ ho8), rn, r7, rl⟩, hT0 _, fun H10 r kk nn rs2 prs2 hx hrr hbut => ⟨rfl, ?_⟩⟩
        have s10 : Same H8 H10 := fun b o h => hbut b o (s9 _ _ h) (ne_of_none h nx)
        have W10 := W8'.same s10
        have ox := off_new W8'.d nx
        -- the day to begin with
        refine ⟨_, rfl, _, rfl, _, _, rfl, rfl, ⟨by decide, by decide, by decide⟩, _, _, rfl, rfl, (by show 3 ≤ sizeLine; decide), fun l nl => ?_⟩
        have ol := off_new W10.d nl
        have W11 := W10.new nl (o := .lst [.int 30, .int 1000, .int (10 ^ (18 : Int).toNat - 60)])
        refine ⟨D, L, l, _, rfl, W11.d, SqL.of upd_same, ol.1, ol.2, by decide, by decide, fun v H12 hv W12 => ?_⟩
        obtain ⟨most, rfl, m0, m1⟩ : ∃ most : Int, v = .int most ∧ 0 < most ∧ most ≤ 10 ^ 18 := by
          simp only [List.mem_cons, List.not_mem_nil, or_false] at hv
          rcases hv with rfl | rfl | rfl
          · exact ⟨_, rfl, by decide, by decide⟩
          · exact ⟨_, rfl, by decide, by decide⟩
          · exact ⟨_, rfl, by decide, by decide⟩
        refine ⟨D, L, most, rfl, W12.d, m0, by omega, fun low H13 l0 l1 W13 => ?_⟩
        have W13' := (W11.trans W12).trans W13
        have kp : Kept D L H10 H13 := ((Kept.refl.new nl).trans W12.k).trans W13.k
        have ho13 := kp _ _ oo.1 oo.2 (s10 _ _ ho8)
        have hx13 := kp _ _ ox.1 ox.2 hx
        have hr13 : H13 r = some (.tup (rs2.map V.int)) := by
          obtain ⟨cs, m, f1, f2, _⟩ := W10.d.ex
          exact kp _ _ (ne_of hrr f1 (by intro z; cases z)) (ne_of hrr f2 (by intro z; cases z)) hrr
        have rl2 : rs2.length ≤ 6 := by rw [prs2.length_eq]; exact rl
        have mem2 : ∀ z : Int, z ∈ rs ↔ z ∈ rs2 := fun z => prs2.mem_iff.symm
        refine ⟨_, rfl, _, rfl, _, _, rfl, rfl, low, low + 9, rfl, ⟨by omega, by omega, by omega, by omega⟩, for_range (lo := low) (n := (low + 9 - low).toNat)
          (fun j σ H' => ∃ (v6 v7 : Option V), σ = [some (.ref a), some (.ref D), some (.int (0 + (i : Int))), some (.ref off), some (.ref x), some (.int low), v6, v7, v8] ∧ Same H13 H') ⟨_, _, rfl, Same.refl _⟩ ?_ ?_⟩
        · rintro j σ H' hj ⟨v6, v7, rfl, S⟩
          have hj9 : j < 9 := by omega
          generalize ht : low + (j : Int) = t
          obtain ⟨e, e1, e2, e3, e4⟩ := next_work rl2 t
          have hxx := S _ _ hx13
          have hoo := S _ _ ho13
          have hrx := S _ _ hr13
          -- found
          refine ⟨_, rfl, x, dx, _, rfl, hxx, noW _ _ _ _, _, rfl, x, dx, r, _, rs2, t, e, rfl, hxx, ruleF_rests _ _ _ _ _, SqT.of hrx, e1, e3, e4, ?_⟩
          refine ⟨_, rfl, _, _, _, _, false, rfl, .ty _, .base (.int e), kit_ty (by decide +kernel), _, rfl, iteF ?_⟩
          refine ⟨_, rfl, _, _, _, _, true, rfl, .ty _, .base (.int e), kit_ty (by decide +kernel), _, rfl, iteF ?_⟩
          refine ⟨_, rfl, _, rfl, _, _, rfl, rfl, _, rfl, ?_⟩
          rw [decide_eq_true e1]
          refine iteT ⟨_, rfl, _, _, rfl, rfl, _, _, rfl, rfl, _, rfl, ?_⟩
          rw [decide_eq_true e2]
          refine iteF ?_
          -- not a day off
          refine ⟨_, rfl, .inl ⟨_, rfl, _, _, rfl, rfl, (by show (0 : Int) < 7; decide), _, rfl, off, _, rfl, .inl (SqL.of hoo), rfl, flat_ints rs, _, rfl, ?_⟩⟩
          show (if inV (.int (e % 7)) (rs.map V.int) = true then _ else _)
          rw [inV_ints, decide_eq_false (fun h => e3 ((mem2 _).mp h))]
          refine iteF ?_
          -- none between
          refine ⟨_, rfl, _, rfl, t, e, rfl, ⟨by omega, by omega, by omega, by omega⟩, fun d3 nd3 => lc_range (lo := t) (n := (e - t).toNat) (fun i H'' => H'' d3 = some (.lst []) ∧ Same H' H'') ⟨upd_same, Same.new (Same.refl _) nd3⟩ ?_ ?_⟩
          · rintro c H'' hc ⟨g1, g2⟩
            refine ⟨rfl, ?_⟩
            refine ⟨_, rfl, .inl ⟨_, rfl, _, _, rfl, rfl, (by show (0 : Int) < 7; decide), _, rfl, off, _, rfl, .inl (SqL.of (g2 _ _ hoo)), rfl, flat_ints rs, _, rfl, ?_⟩⟩
            show (if (!inV (.int ((t + (c : Int)) % 7)) (rs.map V.int)) = true then _ else _)
            rw [inV_ints, decide_eq_true ((mem2 _).mpr (e4 _ (by omega) (by omega)))]
            exact iteF ⟨g1, g2⟩
          · rintro H'' ⟨g1, g2⟩
            refine ⟨Nat.zero_le _, fun q2 nq2 => ?_⟩
            refine ne_nil (cs := []) (SqL.of (by rw [upd_ne (ne_of_none g1 nq2)]; exact g1)) upd_same ⟨_, rfl, iteF ?_⟩
            have S2 : Same H13 (upd H'' q2 (.lst [])) := Same.new (S.trans g2) nq2
            have hxx := S2 _ _ hx13
            have hoo := S2 _ _ ho13
            have hrx := S2 _ _ hr13
            -- a week later, and asked again
            refine ⟨_, rfl, x, dx, _, rfl, hxx, noW _ _ _ _, _, rfl, _, _, rfl, rfl, x, dx, r, _, rs2, t + 7, e + 7, rfl, hxx, ruleF_rests _ _ _ _ _, SqT.of hrx, by omega, ?_, ?_, _, rfl, _, _, rfl, rfl, rfl, _, rfl, iteNS rfl ?_⟩
            · rw [show (e + 7) % 7 = e % 7 by omega]
              exact e3
            · intro c c1 c2
              rw [show c % 7 = (c - 7) % 7 by omega]
              exact e4 _ (by omega) (by omega)
            refine ⟨_, rfl, x, dx, _, rfl, hxx, noW _ _ _ _, _, rfl, x, dx, r, _, rs2, e, e, rfl, hxx, ruleF_rests _ _ _ _ _, SqT.of hrx, by omega, e3, fun c c1 c2 => by omega, _, rfl, rfl, _, rfl, iteNS rfl ?_⟩
            -- its own
            refine ⟨_, rfl, _, rfl, rfl, _, rfl, .inl ⟨_, rfl, _, _, rfl, rfl, (by show (0 : Int) < 7; decide), _, rfl, off, _, rfl, .inl (SqL.of hoo), rfl, flat_ints rs, rfl, _, rfl, ?_⟩⟩
            refine iteNS ?_ ⟨_, _, rfl, S2⟩
            show V.bl (decide (V.int e = V.int t)) = V.bl (!inV (.int (t % 7)) (rs.map V.int))
            rw [inV_ints]
            by_cases z : e = t
            · rw [z] at e3
              rw [z, decide_eq_true rfl, decide_eq_false (fun h => e3 ((mem2 _).mp h))]
              rfl
            · rw [decide_eq_false (fun h => z (V.int.inj h)), decide_eq_true ((mem2 _).mpr (e4 t (by omega) (by omega)))]
              rfl
        · rintro σ H' ⟨v6, v7, rfl, S⟩
          exact ⟨_, _, _, _, _, _, _, rfl, W13'.same S⟩
    · rintro σ H' ⟨v2, v3, v4, v5, v6, v7, v8, rfl, W⟩
      intro x dx nx ndx nex
      refine ⟨x, dx, T1, T0, 5, [], rfl, upd_same, by decide, .inr ⟨hT1 _, rfl⟩, hT0 _, fun H1 r kk nn rs pr hx hrr hbut => ⟨rfl, ?_⟩⟩
      have rs0 : rs = [] := pr.eq_nil
      subst rs0
      refine ⟨x, dx, _, rfl, hx, noW _ _ _ _, _, _, rfl, rfl, ⟨by decide, by decide, by decide⟩, x, dx, r, _, [], _, _, rfl, hx, ruleF_rests _ _ _ _ _, SqT.of hrr, Int.le_refl _, List.not_mem_nil, fun c c1 c2 => by omega, ?_⟩
      refine ⟨_, _, rfl, rfl, ⟨by decide, by decide, by decide⟩, rfl, _, rfl, ?_⟩
      rw [decide_eq_true rfl]
      refine iteT ?_
      refine ⟨(by show 6 ≤ sizeLine; decide), fun l nl => ?_⟩
      intro x2 dx2 nx2 ndx2 nex2
      have sq : SqL K (upd (upd (upd H1 l (.lst [.int 0, .int 1, .int 2, .int 3, .int 4, .int 5])) dx2 (.own x2)) x2 (.ins C dx2 [])) l (([0, 1, 2, 3, 4, 5] : List Int).map V.int) := by
        have h0 : upd H1 l (.lst [.int 0, .int 1, .int 2, .int 3, .int 4, .int 5]) l = some (.lst [.int 0, .int 1, .int 2, .int 3, .int 4, .int 5]) := upd_same
        refine SqL.of ?_
        rw [upd_ne (ne_of_none h0 nx2), upd_ne (ne_of_none h0 ndx2), upd_same]
        rfl
      refine ⟨x2, dx2, l, T0, 5, [0, 1, 2, 3, 4, 5], rfl, upd_same, by decide, .inl ⟨sq, by decide, by decide, by decide⟩, hT0 _, fun H2 r2 kk2 nn2 rs2 pr2 hx2 hrr2 hbut2 => ⟨rfl, ?_⟩⟩
      refine ⟨x2, dx2, _, rfl, hx2, noW _ _ _ _, x2, dx2, r2, _, rs2, 7, 13, rfl, hx2, ruleF_rests _ _ _ _ _, SqT.of hrr2, by decide, ?_, ?_, rfl, k _⟩
      · rw [pr2.mem_iff]
        decide
      · intro c c1 c2
        rw [pr2.mem_iff]
        simp only [List.mem_cons, List.not_mem_nil, or_false]
        omega
end
end Ts

namespace Ts
open PySem L2
theorem sqt_k {K : PySem.W.Frag} {T : Addr} {od : Option Addr} {n : Nat} {sl : Array (Option Value)} (h : K.lookup T = some ⟨.type "tuple", od, .seq #[] n, sl⟩) (H : Hp) : SqT K H T [] :=
  .inr ⟨_, #[], n, h, rfl, rfl, Nat.zero_le _, .nil⟩
theorem all_mk {l : PySem.W.OpenLaw} {w : World} {K : PySem.W.Frag} {h : Heap} {mg : Str → Option Value} {fa f_draw f_deal f_pick f_mixed f_isInt f_isCount f_isSeq f_areRests f_areKinds f_law C CK Td T0 T1 f_init f_work : Addr} (X : K.In h) (G : h.Ns mainGlobals mg) (hfa : mg "law" = some (.ref fa))
    {od_draw an_draw od_deal an_deal od_pick an_pick od_mixed an_mixed od_isInt an_isInt od_isCount an_isCount od_isSeq an_isSeq od_areRests an_areRests od_areKinds an_areKinds od_law an_law od_init an_init od_work an_work od_d od_0 od_1 : Option Addr} {sl_draw sl_deal sl_pick sl_mixed sl_isInt sl_isCount sl_isSeq sl_areRests sl_areKinds sl_law sl_init sl_work sl_d sl_0 sl_1 : Array (Option Value)} {oc_draw kV_draw dc_draw pm_draw cd_draw ct_draw oc_deal kV_deal dc_deal pm_deal cd_deal ct_deal oc_pick kV_pick dc_pick pm_pick cd_pick ct_pick oc_mixed kV_mixed dc_mixed pm_mixed cd_mixed ct_mixed oc_isInt kV_isInt dc_isInt pm_isInt cd_isInt ct_isInt oc_isCount kV_isCount dc_isCount pm_isCount cd_isCount ct_isCount oc_isSeq kV_isSeq dc_isSeq pm_isSeq cd_isSeq ct_isSeq oc_areRests kV_areRests dc_areRests pm_areRests cd_areRests ct_areRests oc_areKinds kV_areKinds dc_areKinds pm_areKinds cd_areKinds ct_areKinds oc_law kV_law dc_law pm_law cd_law ct_law oc_init kV_init dc_init pm_init cd_init ct_init oc_work kV_work dc_work pm_work cd_work ct_work oc_d : Value} {n_d n_0 n_1 : Nat} {tk : Tok}
    (a_draw : PySem.W.nsIn K mainGlobals "_law_draw" = some (some (.ref f_draw)))
    (l_draw : K.lookup f_draw = some ⟨oc_draw, od_draw, .func (PySem.W.fnOf "_law_draw" "_law_draw" (C8.fnArgs sDraw) (C8.fnBody sDraw) (C8.fnScope sDraw) .none kV_draw dc_draw pm_draw an_draw cd_draw ct_draw), sl_draw⟩)
    (c_draw : PySem.W.codeIn K cd_draw "_law_draw" = true)
    (k_draw : PySem.W.keepIn K (.ref f_draw) = true)
    (a_deal : PySem.W.nsIn K mainGlobals "_law_deal" = some (some (.ref f_deal)))
    (l_deal : K.lookup f_deal = some ⟨oc_deal, od_deal, .func (PySem.W.fnOf "_law_deal" "_law_deal" (C8.fnArgs sDeal) (C8.fnBody sDeal) (C8.fnScope sDeal) .none kV_deal dc_deal pm_deal an_deal cd_deal ct_deal), sl_deal⟩)
    (c_deal : PySem.W.codeIn K cd_deal "_law_deal" = true)
    (k_deal : PySem.W.keepIn K (.ref f_deal) = true)
    (a_pick : PySem.W.nsIn K mainGlobals "_law_pick" = some (some (.ref f_pick)))
    (l_pick : K.lookup f_pick = some ⟨oc_pick, od_pick, .func (PySem.W.fnOf "_law_pick" "_law_pick" (C8.fnArgs sPick) (C8.fnBody sPick) (C8.fnScope sPick) .none kV_pick dc_pick pm_pick an_pick cd_pick ct_pick), sl_pick⟩)
    (c_pick : PySem.W.codeIn K cd_pick "_law_pick" = true)
    (k_pick : PySem.W.keepIn K (.ref f_pick) = true)
    (a_mixed : PySem.W.nsIn K mainGlobals "_law_mixed" = some (some (.ref f_mixed)))
    (l_mixed : K.lookup f_mixed = some ⟨oc_mixed, od_mixed, .func (PySem.W.fnOf "_law_mixed" "_law_mixed" (C8.fnArgs sMixed) (C8.fnBody sMixed) (C8.fnScope sMixed) .none kV_mixed dc_mixed pm_mixed an_mixed cd_mixed ct_mixed), sl_mixed⟩)
    (c_mixed : PySem.W.codeIn K cd_mixed "_law_mixed" = true)
    (k_mixed : PySem.W.keepIn K (.ref f_mixed) = true)
    (a_isInt : PySem.W.nsIn K mainGlobals "is_integer" = some (some (.ref f_isInt)))
    (l_isInt : K.lookup f_isInt = some ⟨oc_isInt, od_isInt, .func (PySem.W.fnOf "is_integer" "is_integer" (C8.fnArgs sIsInt) (C8.fnBody sIsInt) (C8.fnScope sIsInt) .none kV_isInt dc_isInt pm_isInt an_isInt cd_isInt ct_isInt), sl_isInt⟩)
    (c_isInt : PySem.W.codeIn K cd_isInt "is_integer" = true)
    (k_isInt : PySem.W.keepIn K (.ref f_isInt) = true)
    (a_isCount : PySem.W.nsIn K mainGlobals "is_count" = some (some (.ref f_isCount)))
    (l_isCount : K.lookup f_isCount = some ⟨oc_isCount, od_isCount, .func (PySem.W.fnOf "is_count" "is_count" (C8.fnArgs sIsCount) (C8.fnBody sIsCount) (C8.fnScope sIsCount) .none kV_isCount dc_isCount pm_isCount an_isCount cd_isCount ct_isCount), sl_isCount⟩)
    (c_isCount : PySem.W.codeIn K cd_isCount "is_count" = true)
    (k_isCount : PySem.W.keepIn K (.ref f_isCount) = true)
    (a_isSeq : PySem.W.nsIn K mainGlobals "is_sequence" = some (some (.ref f_isSeq)))
    (l_isSeq : K.lookup f_isSeq = some ⟨oc_isSeq, od_isSeq, .func (PySem.W.fnOf "is_sequence" "is_sequence" (C8.fnArgs sIsSeq) (C8.fnBody sIsSeq) (C8.fnScope sIsSeq) .none kV_isSeq dc_isSeq pm_isSeq an_isSeq cd_isSeq ct_isSeq), sl_isSeq⟩)
    (c_isSeq : PySem.W.codeIn K cd_isSeq "is_sequence" = true)
    (k_isSeq : PySem.W.keepIn K (.ref f_isSeq) = true)
    (a_areRests : PySem.W.nsIn K mainGlobals "are_rests" = some (some (.ref f_areRests)))
    (l_areRests : K.lookup f_areRests = some ⟨oc_areRests, od_areRests, .func (PySem.W.fnOf "are_rests" "are_rests" (C8.fnArgs sAreRests) (C8.fnBody sAreRests) (C8.fnScope sAreRests) .none kV_areRests dc_areRests pm_areRests an_areRests cd_areRests ct_areRests), sl_areRests⟩)
    (c_areRests : PySem.W.codeIn K cd_areRests "are_rests" = true)
    (k_areRests : PySem.W.keepIn K (.ref f_areRests) = true)
    (a_areKinds : PySem.W.nsIn K mainGlobals "are_kinds" = some (some (.ref f_areKinds)))
    (l_areKinds : K.lookup f_areKinds = some ⟨oc_areKinds, od_areKinds, .func (PySem.W.fnOf "are_kinds" "are_kinds" (C8.fnArgs sAreKinds) (C8.fnBody sAreKinds) (C8.fnScope sAreKinds) .none kV_areKinds dc_areKinds pm_areKinds an_areKinds cd_areKinds ct_areKinds), sl_areKinds⟩)
    (c_areKinds : PySem.W.codeIn K cd_areKinds "are_kinds" = true)
    (k_areKinds : PySem.W.keepIn K (.ref f_areKinds) = true)
    (a_law : PySem.W.nsIn K mainGlobals "law" = some (some (.ref f_law)))
    (l_law : K.lookup f_law = some ⟨oc_law, od_law, .func (PySem.W.fnOf "law" "law" (C8.fnArgs sLaw) (C8.fnBody sLaw) (C8.fnScope sLaw) .none kV_law dc_law pm_law an_law cd_law ct_law), sl_law⟩)
    (c_law : PySem.W.codeIn K cd_law "law" = true)
    (k_law : PySem.W.keepIn K (.ref f_law) = true)
    (aC : PySem.W.nsIn K mainGlobals "Rule" = some (some (.ref C)))
    (aK : PySem.W.nsIn K mainGlobals "Kind" = some (some (.ref CK)))
    (a_init : PySem.W.findIn K (.ref C) "__init__" = some (some (.ref f_init)))
    (i_init : PySem.W.isFn K (.ref f_init) = true)
    (l_init : K.lookup f_init = some ⟨oc_init, od_init, .func (PySem.W.fnOf "__init__" "Rule.__init__" (C8.fnArgs sInit) (C8.fnBody sInit) (C8.fnScope sInit) (.ref Td) kV_init dc_init pm_init an_init cd_init ct_init), sl_init⟩)
    (c_init : PySem.W.codeIn K cd_init "Rule.__init__" = true)
    (k_init : PySem.W.keepIn K (.ref f_init) = true)
    (a_work : PySem.W.findIn K (.ref C) "work" = some (some (.ref f_work)))
    (i_work : PySem.W.isFn K (.ref f_work) = true)
    (l_work : K.lookup f_work = some ⟨oc_work, od_work, .func (PySem.W.fnOf "work" "Rule.work" (C8.fnArgs sWork) (C8.fnBody sWork) (C8.fnScope sWork) .none kV_work dc_work pm_work an_work cd_work ct_work), sl_work⟩)
    (c_work : PySem.W.codeIn K cd_work "Rule.work" = true)
    (k_work : PySem.W.keepIn K (.ref f_work) = true)
    (l_d : K.lookup Td = some ⟨oc_d, od_d, .seq #[.ref T1, .none, .ref T0] n_d, sl_d⟩)
    (l_0 : K.lookup T0 = some ⟨.type "tuple", od_0, .seq #[] n_0, sl_0⟩)
    (l_1 : K.lookup T1 = some ⟨.type "tuple", od_1, .seq #[] n_1, sl_1⟩)
    (pg : PySem.W.plainGet K C Str.empty = true)
    (hd : PySem.W.hasDictIn K C = true)
    (po : PySem.W.plainOver K C = true)
    (sa : PySem.W.findIn K (.ref C) "__setattr__" = some (some (.builtin "object.__setattr__")))
    (mk : PySem.W.makesIn K C = true)
    (kc : PySem.W.keepIn K (.ref C) = true)
    (n_length : PySem.W.findIn K (.ref C) "length" = some none)
    (n_rests : PySem.W.findIn K (.ref C) "rests" = some none)
    (n_cap : PySem.W.findIn K (.ref C) "cap" = some none)
    (n_kinds : PySem.W.findIn K (.ref C) "kinds" = some none)
    (n_names : PySem.W.findIn K (.ref C) "names" = some none)
    (z_int : PySem.W.nsIn K mainGlobals "int" = some none)
    (z_bool : PySem.W.nsIn K mainGlobals "bool" = some none)
    (z_list : PySem.W.nsIn K mainGlobals "list" = some none)
    (z_range : PySem.W.nsIn K mainGlobals "range" = some none)
    (z_sorted : PySem.W.nsIn K mainGlobals "sorted" = some none)
    (z_isinstance : PySem.W.nsIn K mainGlobals "isinstance" = some none)
    (z_len : PySem.W.nsIn K mainGlobals "len" = some none)
    (z_abs : PySem.W.nsIn K mainGlobals "abs" = some none)
    (z_tuple : PySem.W.nsIn K mainGlobals "tuple" = some none)
    (z_all : PySem.W.nsIn K mainGlobals "all" = some none)
    (z_set : PySem.W.nsIn K mainGlobals "set" = some none)
    (z_WEEK : PySem.W.nsIn K mainGlobals "WEEK" = some (some (.int 7 tk))) :
    ∃ fd : FuncData, (∀ (s : Shared) (v : Value), BindsTo s fd ⟨[v], []⟩ [("_law_script", v)]) ∧ ∀ base : Heap, K.In base → base.Ns mainGlobals mg → FnOk l.prog w K mg base C8.CX0 5 fa fd ["_law_script"] (spLaw K) := by
  have e := hfa.symm.trans (PySem.W.mg_of X G a_law)
  cases e
  have N : ∀ {x : Str}, PySem.W.nsIn K mainGlobals x = some none → mg x = none := fun z => PySem.W.mg_none_of X G z
  have D_draw : C8.Def K mg "_law_draw" sDraw f_draw _ := ⟨⟨oc_draw, od_draw, .none, kV_draw, dc_draw, pm_draw, an_draw, cd_draw, ct_draw, sl_draw, rfl, l_draw, c_draw⟩, PySem.W.mg_of X G a_draw, k_draw⟩
  have D_deal : C8.Def K mg "_law_deal" sDeal f_deal _ := ⟨⟨oc_deal, od_deal, .none, kV_deal, dc_deal, pm_deal, an_deal, cd_deal, ct_deal, sl_deal, rfl, l_deal, c_deal⟩, PySem.W.mg_of X G a_deal, k_deal⟩
  have D_pick : C8.Def K mg "_law_pick" sPick f_pick _ := ⟨⟨oc_pick, od_pick, .none, kV_pick, dc_pick, pm_pick, an_pick, cd_pick, ct_pick, sl_pick, rfl, l_pick, c_pick⟩, PySem.W.mg_of X G a_pick, k_pick⟩
  have D_mixed : C8.Def K mg "_law_mixed" sMixed f_mixed _ := ⟨⟨oc_mixed, od_mixed, .none, kV_mixed, dc_mixed, pm_mixed, an_mixed, cd_mixed, ct_mixed, sl_mixed, rfl, l_mixed, c_mixed⟩, PySem.W.mg_of X G a_mixed, k_mixed⟩
  have D_isInt : C8.Def K mg "is_integer" sIsInt f_isInt _ := ⟨⟨oc_isInt, od_isInt, .none, kV_isInt, dc_isInt, pm_isInt, an_isInt, cd_isInt, ct_isInt, sl_isInt, rfl, l_isInt, c_isInt⟩, PySem.W.mg_of X G a_isInt, k_isInt⟩
  have D_isCount : C8.Def K mg "is_count" sIsCount f_isCount _ := ⟨⟨oc_isCount, od_isCount, .none, kV_isCount, dc_isCount, pm_isCount, an_isCount, cd_isCount, ct_isCount, sl_isCount, rfl, l_isCount, c_isCount⟩, PySem.W.mg_of X G a_isCount, k_isCount⟩
  have D_isSeq : C8.Def K mg "is_sequence" sIsSeq f_isSeq _ := ⟨⟨oc_isSeq, od_isSeq, .none, kV_isSeq, dc_isSeq, pm_isSeq, an_isSeq, cd_isSeq, ct_isSeq, sl_isSeq, rfl, l_isSeq, c_isSeq⟩, PySem.W.mg_of X G a_isSeq, k_isSeq⟩
  have D_areRests : C8.Def K mg "are_rests" sAreRests f_areRests _ := ⟨⟨oc_areRests, od_areRests, .none, kV_areRests, dc_areRests, pm_areRests, an_areRests, cd_areRests, ct_areRests, sl_areRests, rfl, l_areRests, c_areRests⟩, PySem.W.mg_of X G a_areRests, k_areRests⟩
  have D_areKinds : C8.Def K mg "are_kinds" sAreKinds f_areKinds _ := ⟨⟨oc_areKinds, od_areKinds, .none, kV_areKinds, dc_areKinds, pm_areKinds, an_areKinds, cd_areKinds, ct_areKinds, sl_areKinds, rfl, l_areKinds, c_areKinds⟩, PySem.W.mg_of X G a_areKinds, k_areKinds⟩
  have mWeek : ∃ u, mg "WEEK" = some u ∧ RelV (.int 7) u := ⟨_, PySem.W.mg_of X G z_WEEK, _, rfl⟩
  have T : RuleC K C := ⟨⟨pg, hd, po, sa⟩, n_length, n_rests, n_cap, n_kinds, n_names⟩
  have F_init : C8.Fun K "__init__" "Rule.__init__" sInit f_init _ := ⟨oc_init, od_init, .ref Td, kV_init, dc_init, pm_init, an_init, cd_init, ct_init, sl_init, rfl, l_init, c_init⟩
  have F_work : C8.Fun K "work" "Rule.work" sWork f_work _ := ⟨oc_work, od_work, .none, kV_work, dc_work, pm_work, an_work, cd_work, ct_work, sl_work, rfl, l_work, c_work⟩
  have F_law : C8.Fun K "law" "law" sLaw fa _ := ⟨oc_law, od_law, .none, kV_law, dc_law, pm_law, an_law, cd_law, ct_law, sl_law, rfl, l_law, c_law⟩
  have FD : FunD K "__init__" "Rule.__init__" (C8.fnArgs sInit) (C8.fnBody sInit) (C8.fnScope sInit) [.ref T1, .non, .ref T0] [] f_init _ := ⟨⟨oc_init, od_init, .ref Td, kV_init, dc_init, pm_init, an_init, cd_init, ct_init, sl_init, rfl, l_init, c_init, .inr ⟨by simp, Td, _, [.ref T1, .none, .ref T0], n_d, rfl, l_d, rfl, .cons rfl (.cons rfl (.cons rfl .nil))⟩, .inl rfl⟩, k_init⟩
  obtain ⟨ds2, v2, b2⟩ := FD.binds1 (ps := ["self", "length", "rests", "cap", "kinds"]) 3 1 (by simp) rfl fun T kV doc pm an cdv ct us its h1 h2 => match us, h1, its, h2 with | [_, _, _], _, [_, _, _], _ => ⟨_, rfl, rfl⟩
  obtain ⟨ds1, v1, b1⟩ := FD.binds1 (ps := ["self", "length", "rests", "cap", "kinds"]) 2 0 (by simp) rfl fun T kV doc pm an cdv ct us its h1 h2 => match us, h1, its, h2 with | [_, _], _, [_, _, _], _ => ⟨_, rfl, rfl⟩
  refine ⟨PySem.W.fnOf "law" "law" (C8.fnArgs sLaw) (C8.fnBody sLaw) (C8.fnScope sLaw) .none kV_law dc_law pm_law an_law cd_law ct_law, fun s v => .of_eq rfl, fun base _ _ => ?_⟩
  have cI := cal_isInt (P := l.prog) (w := w) (base := base) D_isInt rfl (N z_isinstance) (N z_int) (N z_bool)
  have cC := cal_isCount D_isCount rfl cI
  have cS := cal_isSeq (P := l.prog) (w := w) (base := base) D_isSeq rfl (N z_isinstance) (N z_list) (N z_tuple)
  have cR := cal_areRests D_areRests rfl cI cS (N z_all) (N z_len) (N z_set) mWeek
  have cK := cal_areKinds0 D_areKinds rfl cS (N z_all) (N z_len) (N z_set) (N z_isinstance) (PySem.W.mg_of X G aK)
  have fI := fn_init0 F_init T cC cR cK (N z_tuple) (N z_sorted)
  have M : Mk K C f_init := ⟨mk, a_init, i_init, kc⟩
  have cDraw := cal_draw (P := l.prog) (w := w) (base := base) D_draw rfl (N z_int)
  exact fn_law F_law T ⟨N z_int, N z_bool, N z_list, N z_range, N z_sorted, N z_isinstance⟩ (cal_deal D_deal rfl (N z_int) (N z_abs)) cDraw (cal_pick D_pick rfl (N z_len) cDraw) (cal_mixed D_mixed rfl (N z_len) (N z_list) cDraw)
    ⟨f_init, _, _, ds2, M, fI, PySem.W.mg_of X G aC, b2, v2⟩ ⟨f_init, _, _, ds1, M, fI, PySem.W.mg_of X G aC, b1, v1⟩ (sqt_k l_0) (sqt_k l_1) (met_work F_work rfl T ⟨a_work, i_work, k_work⟩ mWeek)
theorem walk {l : PySem.W.OpenLaw} {q : Program} {loose : List Str} {XP : (Str → Option Value) → Heap → Prop} {YP : World → Heap → Prop} {d : DefRec} {K : Params → PySem.W.Frag} (hn : l.most = some 63) (hdf : d.params.defaults = [])
    (hY : ∀ (w : World) (h : Heap), YP w h → (K w.params).In h)
    (F : ∀ (w : World) (mg : Str → Option Value) (fa : Addr) (h : Heap), (K w.params).In h → h.Ns mainGlobals mg → mg d.name = some (.ref fa) →
      ∃ fd : FuncData, (∀ (s : Shared) (u : Value), BindsTo s fd ⟨[u], []⟩ [("_law_script", u)]) ∧ ∀ base : Heap, (K w.params).In base → base.Ns mainGlobals mg → FnOk l.prog w (K w.params) mg base C8.CX0 5 fa fd ["_law_script"] (spLaw (K w.params))) :
    PySem.W.WalkO q loose XP YP l.row.toRowW d [] (fun f vs => PySem.call f vs) :=
  L2.walk_of (n := 63) (k := 5) (x := "_law_script") (CX := fun _ => C8.CX0) (sp := fun w => spLaw (K w.params)) hn (by decide) hdf ⟨rfl, by decide, by decide⟩ hY F (fun _ _ a ns hl _ hS => ⟨a, ns, rfl, hS, hl, fun _ => rfl⟩) fun _ _ _ _ _ z => z
end Ts
open PySem PySem.W PyProof.Rows
set_option maxRecDepth 100000 in
set_option maxHeartbeats 0 in
theorem PySem.Challenge.cw_termstill_k10_working_days_holds : PySem.Challenge.rw_termstill_k10_working_days.Holds := by
  w_on; o_law; k_head; (case hw => w_witness2)
  k_fill
  refine Ts.walk (l := PySem.Challenge.rw_termstill_k10_working_days) rfl rfl (fun w h Y => PySem.W.kIn_of Y) ?F
  case F =>
    intro w mg fa h KX G hmg
    refine' Ts.all_mk KX G hmg ?a_draw ?l_draw ?c_draw ?k_draw ?a_deal ?l_deal ?c_deal ?k_deal ?a_pick ?l_pick ?c_pick ?k_pick ?a_mixed ?l_mixed ?c_mixed ?k_mixed ?a_isInt ?l_isInt ?c_isInt ?k_isInt ?a_isCount ?l_isCount ?c_isCount ?k_isCount ?a_isSeq ?l_isSeq ?c_isSeq ?k_isSeq ?a_areRests ?l_areRests ?c_areRests ?k_areRests ?a_areKinds ?l_areKinds ?c_areKinds ?k_areKinds ?a_law ?l_law ?c_law ?k_law ?aC ?aK ?a_init ?i_init ?l_init ?c_init ?k_init ?a_work ?i_work ?l_work ?c_work ?k_work ?l_d ?l_0 ?l_1 ?pg ?hd ?po ?sa ?mk ?kc ?n_length ?n_rests ?n_cap ?n_kinds ?n_names ?z_int ?z_bool ?z_list ?z_range ?z_sorted ?z_isinstance ?z_len ?z_abs ?z_tuple ?z_all ?z_set ?z_WEEK
    (case a_draw => k_is)
    (case l_draw => k_is)
    (case c_draw => k_is)
    (case k_draw => k_is)
    (case a_deal => k_is)
    (case l_deal => k_is)
    (case c_deal => k_is)
    (case k_deal => k_is)
    (case a_pick => k_is)
    (case l_pick => k_is)
    (case c_pick => k_is)
    (case k_pick => k_is)
    (case a_mixed => k_is)
    (case l_mixed => k_is)
    (case c_mixed => k_is)
    (case k_mixed => k_is)
    (case a_isInt => k_is)
    (case l_isInt => k_is)
    (case c_isInt => k_is)
    (case k_isInt => k_is)
    (case a_isCount => k_is)
    (case l_isCount => k_is)
    (case c_isCount => k_is)
    (case k_isCount => k_is)
    (case a_isSeq => k_is)
    (case l_isSeq => k_is)
    (case c_isSeq => k_is)
    (case k_isSeq => k_is)
    (case a_areRests => k_is)
    (case l_areRests => k_is)
    (case c_areRests => k_is)
    (case k_areRests => k_is)
    (case a_areKinds => k_is)
    (case l_areKinds => k_is)
    (case c_areKinds => k_is)
    (case k_areKinds => k_is)
    (case a_law => k_is)
    (case l_law => k_is)
    (case c_law => k_is)
    (case k_law => k_is)
    (case aC => k_is)
    (case aK => k_is)
    (case a_init => k_is)
    (case i_init => k_is)
    (case l_init => k_is)
    (case c_init => k_is)
    (case k_init => k_is)
    (case a_work => k_is)
    (case i_work => k_is)
    (case l_work => k_is)
    (case c_work => k_is)
    (case k_work => k_is)
    (case l_d => k_is)
    (case l_0 => k_is)
    (case l_1 => k_is)
    (case pg => k_is)
    (case hd => k_is)
    (case po => k_is)
    (case sa => k_is)
    (case mk => k_is)
    (case kc => k_is)
    (case n_length => k_is)
    (case n_rests => k_is)
    (case n_cap => k_is)
    (case n_kinds => k_is)
    (case n_names => k_is)
    (case z_int => k_is)
    (case z_bool => k_is)
    (case z_list => k_is)
    (case z_range => k_is)
    (case z_sorted => k_is)
    (case z_isinstance => k_is)
    (case z_len => k_is)
    (case z_abs => k_is)
    (case z_tuple => k_is)
    (case z_all => k_is)
    (case z_set => k_is)
    (case z_WEEK => k_is)

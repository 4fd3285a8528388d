import PyProof.Rows.All
import Wide.All
import OpenK.AllK
import Wide.FinOn
import HandS.ForMost
import HandS.ForExc
import HandS.Wide
import HandS.Codes
import HandS.IsInst
import HandS.SortInts
import HandS.Conv
import HandS.Style
import HandS.Defaults
import HandS.Strs
import HandS.Zip
import HandS.ExcInit
import HandS.ExcField
import HandS.ExcIs
import HandS.TryOnly
import HandS.Walk
import PySem.Challenge.RW_termstill_k03_kinds_refused
set_option Elab.async false
set_option maxRecDepth 100000
namespace Ts
open PySem L2

/-! ### heaps -/
/-- all but two places stay -/
def Kept (D L : Addr) (H H' : Hp) : Prop := ∀ b o, b ≠ D → b ≠ L → H b = some o → H' b = some o
theorem Kept.refl {D L : Addr} {H : Hp} : Kept D L H H := fun _ _ _ _ h => h
theorem Kept.trans {D L : Addr} {H H1 H2 : Hp} (a : Kept D L H H1) (b : Kept D L H1 H2) : Kept D L H H2 := fun c o h1 h2 h => b c o h1 h2 (a c o h1 h2 h)
theorem Kept.new {D L p : Addr} {o : HO} {H H1 : Hp} (a : Kept D L H H1) (h : H1 p = none) : Kept D L H (upd H1 p o) := fun b u h1 h2 e => by
  rw [upd_ne (ne_of_none (a b u h1 h2 e) h)]
  exact a b u h1 h2 e
theorem Kept.atD {D L : Addr} {o : HO} {H H1 : Hp} (a : Kept D L H H1) : Kept D L H (upd H1 D o) := fun b u h1 h2 e => by
  rw [upd_ne h1]
  exact a b u h1 h2 e
theorem Kept.atL {D L : Addr} {o : HO} {H H1 : Hp} (a : Kept D L H H1) : Kept D L H (upd H1 L o) := fun b u h1 h2 e => by
  rw [upd_ne h2]
  exact a b u h1 h2 e
theorem Same.kept {D L : Addr} {H H' : Hp} (s : Same H H') : Kept D L H H' := fun b o _ _ h => s b o h
theorem Same.new {H H1 : Hp} {p : Addr} {o : HO} (s : Same H H1) (h : H1 p = none) : Same H (upd H1 p o) := fun b u e => by
  rw [upd_ne (ne_of_none (s b u e) h)]
  exact s b u e

/-! ### lists of ints compared with the empty list -/
theorem dpAll_ints {K : PySem.W.Frag} {H : Hp} : ∀ cs : List Int, DpAll K H (cs.map V.int) (cs.map PyData.int)
  | [] => .nil
  | c :: cs => .cons (.int c) (dpAll_ints cs)
theorem eqv_nil (cs : List Int) : PyData.eqv (.list (cs.map PyData.int)) (.list []) = cs.isEmpty := by
  cases cs with
  | nil => rfl
  | cons c cs => rfl
theorem ne_nil {K : PySem.W.Frag} {H : Hp} {L p : Addr} {cs : List Int} (hL : SqL K H L (cs.map V.int)) (hp : H p = some (.lst [])) {Q : VK} (q : Q (.bl (!cs.isEmpty)) H) : rNeD K (.ref L) (.ref p) H Q := by
  refine ⟨.list (cs.map .int), .list [], .lst hL (dpAll_ints cs), .lst (SqL.of hp) .nil, PySem.W.ke_shaped_ints cs, PySem.W.ke_shaped_ints [], ?_⟩
  rw [eqv_nil]
  exact q

/-! ### what the law draws from -/
/-- at D the pair (list of the great cells, a small number), the list at L -/
structure DealAt (H : Hp) (D L : Addr) : Prop where
  ex : ∃ (cs : List Int) (m : Int), H D = some (.lst [.ref L, .int m]) ∧ H L = some (.lst (cs.map V.int)) ∧ cs.length ≤ 60 ∧ (∀ c ∈ cs, 0 ≤ c) ∧ 0 ≤ m ∧ m < 2147483647
theorem deal_ne {H : Hp} {D L : Addr} {m : Int} {cs : List Int} (h1 : H D = some (.lst [.ref L, .int m])) (h2 : H L = some (.lst (cs.map V.int))) : D ≠ L := by
  intro e
  subst e
  rw [h1] at h2
  cases cs with
  | nil => cases h2
  | cons c cs => cases h2
theorem DealAt.ne {H : Hp} {D L : Addr} (d : DealAt H D L) : D ≠ L := by
  obtain ⟨cs, m, h1, h2, _⟩ := d.ex
  exact deal_ne h1 h2
theorem DealAt.someD {H : Hp} {D L : Addr} (d : DealAt H D L) : ∃ o, H D = some o := by
  obtain ⟨cs, m, h1, h2, _⟩ := d.ex
  exact ⟨_, h1⟩
theorem DealAt.someL {H : Hp} {D L : Addr} (d : DealAt H D L) : ∃ o, H L = some o := by
  obtain ⟨cs, m, h1, h2, _⟩ := d.ex
  exact ⟨_, h2⟩
theorem DealAt.same {H H' : Hp} {D L : Addr} (d : DealAt H D L) (s : Same H H') : DealAt H' D L := by
  obtain ⟨cs, m, h1, h2, r⟩ := d.ex
  exact ⟨cs, m, s _ _ h1, s _ _ h2, r⟩
/-- a draw, or several: the deal goes on, all else stays -/
structure Went (D L : Addr) (H H' : Hp) : Prop where
  d : DealAt H' D L
  k : Kept D L H H'
theorem Went.trans {D L : Addr} {H H1 H2 : Hp} (a : Went D L H H1) (b : Went D L H1 H2) : Went D L H H2 := ⟨b.d, a.k.trans b.k⟩
theorem Went.same {D L : Addr} {H H1 H2 : Hp} (a : Went D L H H1) (s : Same H1 H2) : Went D L H H2 := ⟨a.d.same s, a.k.trans (Same.kept s)⟩
theorem Went.new {D L p : Addr} {o : HO} {H H1 : Hp} (a : Went D L H H1) (h : H1 p = none) : Went D L H (upd H1 p o) := a.same (Same.new (Same.refl _) h)

/-! ### the promise of a draw -/
def spDraw : Sp := fun vs H Q _ => ∃ (D L : Addr) (n : Int), vs = [.ref D, .int n] ∧ DealAt H D L ∧ 0 < n ∧ n < 2 ^ 64 ∧
  ∀ (d : Int) (H' : Hp), 0 ≤ d → d < n → Went D L H H' → Q (.int d) H'
theorem fdiv_nonneg {a b : Int} (h1 : 0 ≤ a) (h2 : 0 < b) : 0 ≤ a / b := Int.ediv_nonneg h1 (Int.le_of_lt h2)

theorem cs_last {cs : List Int} (h : cs.isEmpty = false) : ∃ ds d, cs = ds ++ [d] := by
  cases cs with
  | nil => cases h
  | cons c cs => exact ⟨(c :: cs).dropLast, (c :: cs).getLast (by simp), (List.dropLast_concat_getLast (by simp)).symm⟩

theorem cut_to {α : Type} (f : α → V) (xs : List α) (k : Nat) : cutV (xs.map f) none (some (k : Int)) = (xs.take k).map f := by
  unfold cutV
  rw [HT.sIx_none, HT.sIx_nat, List.drop_zero, Nat.sub_zero, List.map_take, List.length_map]
  by_cases h : k ≤ xs.length
  · rw [Nat.min_eq_left h]
  · rw [Nat.min_eq_right (by omega), List.take_of_length_le (by rw [List.length_map]; exact Nat.le_refl _), List.take_of_length_le (by rw [List.length_map]; omega)]
/-- the item of a mapped list -/
theorem map_at {α : Type} {f : α → V} {xs : List α} {i : Nat} {y : V} (h : (xs.map f)[i]? = some y) : ∃ x, y = f x ∧ xs[i]? = some x := by
  rw [List.getElem?_map] at h
  cases e : xs[i]? with
  | none => rw [e] at h; cases h
  | some x => rw [e] at h; exact ⟨x, (Option.some.inj h).symm, rfl⟩
theorem at_lt {α : Type} {xs : List α} {i : Nat} {x : α} (h : xs[i]? = some x) : i < xs.length := (List.getElem?_eq_some_iff.mp h).1
theorem at_mem {α : Type} {xs : List α} {i : Nat} {x : α} (h : xs[i]? = some x) : x ∈ xs := List.mem_of_getElem? h
theorem abs_nn (i : Int) : 0 ≤ (if i < 0 then -i else i) := by split <;> omega
theorem same_upd_new {H H1 : Hp} {p : Addr} {o : HO} (s : Same H H1) (hp : H p = none) : Same H (upd H1 p o) := fun b u e => by
  rw [upd_ne (ne_of_none e hp)]
  exact s b u e
theorem yes_ {σ : L2.St} {H : Hp} {A : Hp → Prop} {B : Hp → Prop} (h : A H) : tYes σ H (fun b H3 => if b = true then A H3 else B H3) := by
  show (if true = true then A H else B H)
  exact iteT h
def spDeal (K : PySem.W.Frag) : Sp := fun vs H Q _ => ∃ (a : Addr) (ns : List Int), vs = [.ref a] ∧ SqL K H a (ns.map V.int) ∧ ns.length ≤ 63 ∧
  ∀ (D L : Addr) (H' : Hp), DealAt H' D L → Same H H' → H D = none → H L = none → Q (.ref D) H'

/-! ### flat values -/
def okV : V → Bool
  | .non => true
  | .bl _ => true
  | .int _ => true
  | .str x => PySem.PyData.strOk x
  | _ => false
def toD : V → PyData
  | .non => .none
  | .bl b => .bool b
  | .int i => .int i
  | .str x => .str x
  | _ => .none
theorem dp_ok {K : PySem.W.Frag} {H : Hp} {v : V} (h : okV v = true) : Dp K H v (toD v) := by
  cases v with
  | non => exact .non
  | bl b => exact .bl b
  | int i => exact .int i
  | str x => exact .str x
  | byt b => cases h
  | flt b => cases h
  | ref a => cases h
  | ty n => cases h
theorem dpAll_ok {K : PySem.W.Frag} {H : Hp} : ∀ {xs : List V}, xs.all okV = true → DpAll K H xs (xs.map toD)
  | [], _ => .nil
  | x :: xs, h => by
    rw [List.all_cons, Bool.and_eq_true] at h
    exact .cons (dp_ok h.1) (dpAll_ok h.2)
theorem lay_ok {v : V} (h : okV v = true) : PyData.canLay0 (toD v) = true := by
  cases v <;> first | rfl | exact h | cases h
theorem layAll_ok : ∀ {xs : List V}, xs.all okV = true → PyData.canLayAll0 (xs.map toD) = true
  | [], _ => rfl
  | x :: xs, h => by
    rw [List.all_cons, Bool.and_eq_true] at h
    simp [PyData.canLayAll0, lay_ok h.1, layAll_ok h.2]
theorem depth_ok (v : V) : PyData.depth (toD v) = 0 := by cases v <;> rfl
theorem depthAll_ok : ∀ xs : List V, PyData.depthAll (xs.map toD) = 0
  | [] => rfl
  | x :: xs => by simp [PyData.depthAll, depth_ok, depthAll_ok xs]
theorem shaped_ok {xs : List V} (h : xs.all okV = true) : SeqAt.shaped (.list (xs.map toD)) = true := by
  simp [SeqAt.shaped, PyData.canLay0, PyData.depth, layAll_ok h, depthAll_ok]
theorem eqv_nilF (xs : List V) : PyData.eqv (.list (xs.map toD)) (.list []) = xs.isEmpty := by
  cases xs with
  | nil => rfl
  | cons c cs => rfl
theorem ne_nilF {K : PySem.W.Frag} {H : Hp} {L p : Addr} {xs : List V} (hL : SqL K H L xs) (ho : xs.all okV = true) (hp : H p = some (.lst [])) {Q : VK} (q : Q (.bl (!xs.isEmpty)) H) : rNeD K (.ref L) (.ref p) H Q := by
  refine ⟨.list (xs.map toD), .list [], .lst hL (dpAll_ok ho), .lst (SqL.of hp) .nil, shaped_ok ho, PySem.W.ke_shaped_ints [], ?_⟩
  rw [eqv_nilF]
  exact q
theorem okV_flat {v : V} (h : okV v = true) : flatV v = true := by
  cases v <;> first | rfl | cases h
theorem Kept.seq {K : PySem.W.Frag} {D L a : Addr} {xs : List V} {H H' : Hp} (k : Kept D L H H') (h1 : a ≠ D) (h2 : a ≠ L) (h : SqL K H a xs) : SqL K H' a xs := by
  rcases h with (h | ⟨o, h⟩) | h
  · exact .inl (.inl (k _ _ h1 h2 h))
  · exact .inl (.inr ⟨o, k _ _ h1 h2 h⟩)
  · exact .inr h
/-- not one of the deal's two lists -/
def Off (H : Hp) (D L a : Addr) : Prop := a ≠ D ∧ a ≠ L
theorem off_new {H : Hp} {D L a : Addr} (d : DealAt H D L) (h : H a = none) : a ≠ D ∧ a ≠ L := by
  obtain ⟨o, hD⟩ := d.someD
  obtain ⟨o', hL⟩ := d.someL
  exact ⟨(ne_of_none hD h).symm, (ne_of_none hL h).symm⟩

/-! ### picking, mixing -/
def spPick (K : PySem.W.Frag) : Sp := fun vs H Q _ => ∃ (D L a : Addr) (xs : List V), vs = [.ref D, .ref a] ∧ DealAt H D L ∧ SqL K H a xs ∧ a ≠ D ∧ a ≠ L ∧ 0 < xs.length ∧ xs.length ≤ 1000 ∧
  ∀ (v : V) (H' : Hp), v ∈ xs → Went D L H H' → Q v H'
def spMixed (K : PySem.W.Frag) : Sp := fun vs H Q _ => ∃ (D L a : Addr) (xs : List V), vs = [.ref D, .ref a] ∧ DealAt H D L ∧ SqL K H a xs ∧ a ≠ D ∧ a ≠ L ∧ xs.all okV = true ∧ xs.length ≤ 1000 ∧
  ∀ (p : Addr) (ys : List V) (H' : Hp), ys.Perm xs → Went D L H H' → H p = none → H' p = some (.lst ys) → Q (.ref p) H'
theorem seqIndex_nat {j n : Nat} (h : j < n) : seqIndex? (j : Int) n = some j := by
  unfold seqIndex?
  simp only [show ¬ ((j : Int) < 0) by omega, if_false]
  rw [show (decide (0 ≤ (j : Int)) && decide ((j : Int) < (n : Int))) = true by simp; omega]
  simp
theorem erase_perm {α : Type} : ∀ {xs : List α} {j : Nat} {y : α}, xs[j]? = some y → (y :: xs.eraseIdx j).Perm xs
  | [], j, y, h => by simp at h
  | x :: xs, 0, y, h => by
    have e : x = y := Option.some.inj h
    rw [e]
    exact List.Perm.refl _
  | x :: xs, j + 1, y, h => by
    have ih := erase_perm (xs := xs) (j := j) (y := y) h
    exact (List.Perm.swap x y _).trans (ih.cons x)
end Ts

namespace Ts
open PySem L2
open PySem.Builtin in
/-- sorted(xs), xs a list or a tuple of ints -/
def rSortedQ (K : PySem.W.Frag) : List V → Hp → VK → Prop := fun vs H Q => ∃ (a : Addr) (ns : List Int), vs = [V.ref a] ∧ (SqL K H a (ns.map V.int) ∨ SqT K H a (ns.map V.int)) ∧
  ∀ (ys : List Int) (p : Addr), ys.Perm ns → ys.Pairwise (· ≤ ·) → H p = none → Q (.ref p) (upd H p (.lst (ys.map V.int)))
section
variable {X : Cx}
open PyProof.Rows in
theorem cr_sortedQ : CallR X (.builtin "sorted") (rSortedQ X.K) := by
  intro pins s σ H vs us Q I r h
  obtain ⟨a, ns, rfl, hs, q⟩ := h
  rw [Vals.ref1 r]
  have hob : ∃ (T : String) (o : Obj) (its : List Value) (n : Nat), (T = "list" ∨ T = "tuple") ∧ s.heap.get? a = some o ∧ o.cls = .type T ∧ o.data = .seq its.toArray n ∧ Vals (ns.map V.int) its ∧ (ns.map V.int).length ≤ sizeLine := by
    rcases hs with hs | hs
    · obtain ⟨its, rv, ⟨o, n, e1, e2, _, e3⟩, hz⟩ := I.list hs
      exact ⟨_, o, its, n, .inl rfl, e1, e2, e3, rv, hz⟩
    · obtain ⟨its, rv, ⟨o, e1, e2, n, e3⟩, hz⟩ := I.tuple hs
      exact ⟨_, o, its, n, .inr rfl, e1, e2, e3, rv, hz⟩
  obtain ⟨T, o, its, n, hT, e1, e2, e3, rv, hz⟩ := hob
  have hi := rv.ints
  have hl : its.length ≤ sizeLine := by rw [← rv.length]; exact hz
  refine Calls.call_function_entry kind_sorted (prog := X.prog) (w := X.w) plain_sorted entry_sorted (args_sorted1 _) ?_
  unfold PySem.Builtin.«sorted»
  refine wpAny_bind (m := PySem.checkCount "sorted" 1 1 _) (wpAny_pure (wpAny_bind ?_))
  refine wpAny_collect_seq a hT e1 e2 e3 (fun h1 keep => wpAny_bind (wpAny_newList ?_ (by simpa using hl))) (by rw [List.size_toArray]; exact hl)
  have I1 : Inv X pins σ H { s with heap := h1 } := I.kept (t' := s.toks) keep
  have hnew : (h1.push (seqObj "list" its.toArray 0)).get? h1.objs.size = some (seqObj "list" its.toArray 0) := Heap.get?_push_size _ rfl
  refine wpAny_bind (wpAny_holding (wpAny_call_entry slot_list_sort ⟨_, hnew, rfl⟩ entry_list_sort (SrtO.list_sort_ord SrtO.swo_int hnew hl (fun h2 => SrtO.ints_sortable hi h2) fun out o1 o2 => ⟨_, rfl, wpAny_pure ⟨_, rfl, ?_⟩⟩) (args_list_sort _)))
  obtain ⟨k1, k2, k3⟩ := SrtO.ints_out hi o1 o2
  obtain ⟨ep, hat⟩ := PyProof.Rows.sortedHeap_at (vs := its) (out := out.toArray) hnew
  have hlen : ((out.map SrtO.iv).map V.int).length ≤ sizeLine := by
    rw [List.length_map, k2.length_eq, ← List.length_map (f := V.int)]
    exact hz
  refine ⟨.ref _, upd H h1.objs.size (.lst ((out.map SrtO.iv).map V.int)), I1.laid (t' := s.toks) (fun b u e => ?_) (Nat.le_refl _) ⟨hlen, out, ep, vals_of_ints k1, hat⟩, rfl, q _ _ k2 k3 (I1.hok.fresh (Nat.le_refl _))⟩
  have hb : b < h1.objs.size := Heap.lt_size e
  rw [PyProof.Rows.sortedHeap_old (Nat.ne_of_lt hb) (Heap.lt_size (Heap.get?_push_of_some (seqObj "list" its.toArray 0) e))]
  exact Heap.get?_push_of_some _ e
end
end Ts

namespace Ts
open PySem L2
/-! ### values and their types -/
inductive Kd where
  | non | bl | int | str | lst | tup | own
  deriving DecidableEq
def Kd.inI : Kd → Bool | .int => true | .bl => true | _ => false
def Kd.inB : Kd → Bool | .bl => true | _ => false
def Kd.inS : Kd → Bool | .str => true | _ => false
def Kd.inL : Kd → Bool | .lst => true | _ => false
def Kd.inT : Kd → Bool | .tup => true | _ => false
structure TyV (K : PySem.W.Frag) (H : Hp) (v : V) (k : Kd) : Prop where
  ex : ∃ t, TyX K H v t ∧ PySem.W.kitOne K t (.type "int") = some k.inI ∧ PySem.W.kitOne K t (.type "bool") = some k.inB ∧ PySem.W.kitOne K t (.type "str") = some k.inS ∧ PySem.W.kitOne K t (.type "list") = some k.inL ∧ PySem.W.kitOne K t (.type "tuple") = some k.inT
  i1 : k = .int → ∃ i, v = .int i
  s1 : k = .str → ∃ x, v = .str x
theorem tyV_int {K : PySem.W.Frag} {H : Hp} {i : Int} : TyV K H (.int i) .int :=
  ⟨⟨_, .base (.int i), kit_ty (by decide +kernel), kit_ty (by decide +kernel), kit_ty (by decide +kernel), kit_ty (by decide +kernel), kit_ty (by decide +kernel)⟩, fun _ => ⟨i, rfl⟩, fun h => (by cases h)⟩
theorem tyV_bl {K : PySem.W.Frag} {H : Hp} {b : Bool} : TyV K H (.bl b) .bl :=
  ⟨⟨_, .base (.bl b), kit_ty (by decide +kernel), kit_ty (by decide +kernel), kit_ty (by decide +kernel), kit_ty (by decide +kernel), kit_ty (by decide +kernel)⟩, fun h => (by cases h), fun h => (by cases h)⟩
theorem tyV_non {K : PySem.W.Frag} {H : Hp} : TyV K H .non .non :=
  ⟨⟨_, .base .non, kit_ty (by decide +kernel), kit_ty (by decide +kernel), kit_ty (by decide +kernel), kit_ty (by decide +kernel), kit_ty (by decide +kernel)⟩, fun h => (by cases h), fun h => (by cases h)⟩
theorem tyV_str {K : PySem.W.Frag} {H : Hp} {x : Str} : TyV K H (.str x) .str :=
  ⟨⟨_, .base (.str x), kit_ty (by decide +kernel), kit_ty (by decide +kernel), kit_ty (by decide +kernel), kit_ty (by decide +kernel), kit_ty (by decide +kernel)⟩, fun h => (by cases h), fun _ => ⟨x, rfl⟩⟩
theorem tyV_list {K : PySem.W.Frag} {H : Hp} {a : Addr} {xs : List V} (h : SqL K H a xs) : TyV K H (.ref a) .lst := by
  refine ⟨?_, fun h => (by cases h), fun h => (by cases h)⟩
  have e : TyX K H (.ref a) (.type "list") := by
    rcases h with (h | ⟨o, h⟩) | ⟨o, its, n, h1, h2, _⟩
    · exact .base (.lst h)
    · exact .base (.frz h)
    · exact .kList h1 h2
  exact ⟨_, e, kit_ty (by decide +kernel), kit_ty (by decide +kernel), kit_ty (by decide +kernel), kit_ty (by decide +kernel), kit_ty (by decide +kernel)⟩
theorem tyV_tup {K : PySem.W.Frag} {H : Hp} {a : Addr} {xs : List V} (h : SqT K H a xs) : TyV K H (.ref a) .tup := by
  refine ⟨?_, fun h => (by cases h), fun h => (by cases h)⟩
  have e : TyX K H (.ref a) (.type "tuple") := by
    rcases h with (h | ⟨o, h⟩) | ⟨o, its, n, h1, h2, _⟩
    · exact .base (.tup h)
    · exact .fTuple h
    · exact .kTuple h1 h2
  exact ⟨_, e, kit_ty (by decide +kernel), kit_ty (by decide +kernel), kit_ty (by decide +kernel), kit_ty (by decide +kernel), kit_ty (by decide +kernel)⟩
theorem TyX.same {K : PySem.W.Frag} {H H' : Hp} {v : V} {t : Value} (h : TyX K H v t) (s : Same H H') : TyX K H' v t := by
  cases h with
  | base h =>
    refine .base ?_
    cases h with
    | non => exact .non
    | bl x => exact .bl x
    | int i => exact .int i
    | str x => exact .str x
    | flt x => exact .flt x
    | lst e => exact .lst (s _ _ e)
    | frz e => exact .frz (s _ _ e)
    | tup e => exact .tup (s _ _ e)
    | dK e => exact .dK (s _ _ e)
    | dT e => exact .dT (s _ _ e)
    | ins e cl ha hn htk hm => exact .ins (s _ _ e) cl ha hn htk hm
  | byt b => exact .byt b
  | set e => exact .set (s _ _ e)
  | kList e c => exact .kList e c
  | kTuple e c => exact .kTuple e c
  | kDict e c => exact .kDict e c
  | fTuple e => exact .fTuple (s _ _ e)
  | fDict e => exact .fDict (s _ _ e)
theorem TyV.same {K : PySem.W.Frag} {H H' : Hp} {v : V} {k : Kd} (h : TyV K H v k) (s : Same H H') : TyV K H' v k := by
  obtain ⟨⟨t, h1, h2⟩, h3, h4⟩ := h
  exact ⟨⟨t, TyX.same h1 s, h2⟩, h3, h4⟩
theorem Same.sqt {K : PySem.W.Frag} {H H' : Hp} {a : Addr} {xs : List V} (e : Same H H') (h : SqT K H a xs) : SqT K H' a xs := by
  rcases h with (h | ⟨o, h⟩) | h
  · exact .inl (.inl (e _ _ h))
  · exact .inl (.inr ⟨o, e _ _ h⟩)
  · exact .inr h
/-- the answer of is_count -/
def cntV : V → Bool
  | .int i => decide (1 ≤ i)
  | _ => false
def spIsInt (K : PySem.W.Frag) : Sp := fun vs H Q _ => ∃ (v : V) (k : Kd), vs = [v] ∧ TyV K H v k ∧ Q (.bl (decide (k = .int))) H
def spIsCount (K : PySem.W.Frag) : Sp := fun vs H Q _ => ∃ (v : V) (k : Kd), vs = [v] ∧ TyV K H v k ∧ Q (.bl (decide (k = .int) && cntV v)) H
def spIsSeq (K : PySem.W.Frag) : Sp := fun vs H Q _ => ∃ (v : V) (k : Kd), vs = [v] ∧ TyV K H v k ∧ ∀ H', Same H H' → Q (.bl (k.inL || k.inT)) H'
end Ts

namespace Ts
open PySem L2
/-! ### isinstance of a caught error that keeps something -/
section
variable {prog : Program} {w : World} {A : Around} {E : Value → Shared → Prop} {s : Shared} {K : PySem.W.Frag} {x D : Addr} {ox od : Obj}
open PySem.W PySem.Calls PyProof.Rows
theorem class_of_err {Q : Option Value → Shared → Prop} (c : ExcC K D) (X : K.In s.heap) (I : InstAt s.heap x ox D (some od)) (h : Q (some (.ref D)) { s with toks := s.toks + 1 }) :
    wpAny (model prog w) A (getAttr? (.ref x) "__class__") Q E s := by
  have some_cls : (clsIn K D).isSome = true := by
    obtain ⟨cd, e, _⟩ := any_some c.hd
    rw [e]
    rfl
  have found : findObj K D (some od) "__class__" = _ := findObj_data some_cls c.ha c.hn c.ht
  have n2 : (Value.builtin "BaseException.__getattribute__" == Value.builtin "object.__getattribute__") = false := by decide +kernel
  have n1 : (onTheHeap (Value.ref D) && Value.builtin "BaseException.__getattribute__" == Value.builtin "object.__getattribute__") = false := by
    rw [n2]
    rfl
  have n0 : (false && onTheHeap (Value.builtin "BaseException.__getattribute__")) = false := rfl
  obtain ⟨hp, gs, dr, tk, os⟩ := s
  have ty := I.type (M := model prog w)
  have l3 := looks_find (M := model prog w) X I found
  unfold getAttr? getAttrBy? getAttrBy
  refine wpAny_bind (wpAny_mkText (wpAny_bind (wpAny_attempt (wpAny_holding (wpAny_bind (ty.at (wpAny_bind ((looks_findIn (M := model prog w) X c.hg).at ?_))))))))
  refine (show wpAny _ _ (if (onTheHeap (Value.ref D) && Value.builtin "BaseException.__getattribute__" == Value.builtin "object.__getattribute__") = true then _ else _) _ _ _ from ?_)
  rw [n1, if_neg Bool.false_ne_true]
  unfold getAttrByItsOwn hookBefore
  refine wpAny_bind ?_
  rw [if_pos (show onTheHeap (Value.ref D) = true by rfl)]
  refine (looks_findIn (M := model prog w) X c.hk).at (wpAny_bind (wpAny_attempt (wpAny_holding ?_)))
  unfold callGetattribute
  rw [n0, if_neg Bool.false_ne_true]
  unfold boundAndCalled
  rw [PySem.F.excAttr_ValueError.ga.bind (.ref x)]
  refine wpAny_bind (wpAny_pure (show wpAny _ _ (call (.builtin "BaseException.__getattribute__") [.ref x, .str "__class__" tk]) _ _ _ from ?_))
  refine wpAny_call (codeAny_call_builtin PySem.F.excAttr_ValueError.ga.plain PySem.F.entry_bexc_ga ?_)
  refine @check_slot (model prog w) _ _ ⟨hp, gs, dr, tk + 1, os⟩ "BaseException.__getattribute__" "BaseException" "__getattribute__" (.ref x) [.str "__class__" tk] [] _ (by decide +kernel) (by decide +kernel) (ty.andThen (looks_subIn X c.hs)) (PySem.F.args_bexc_ga (.ref x) (.str "__class__" tk)) ?_
  unfold Builtin.«object.__getattribute__»
  refine wpAny_bind (wpAny_of_eq (a := ((Value.ref x : Value), [Value.str "__class__" tk])) (by first | rfl | (simp only [slotArgs]; rfl)) (wpAny_bind (wpAny_pure (wpAny_bind (ty.at (wpAny_bind (l3.at ?_)))))))
  refine (show wpAny _ _ (holding [Value.builtin "object.__class__"] (call (.builtin "getset_descriptor.__get__") [.builtin "object.__class__", .ref x, .ref D]) >>= ret) _ _ _ from ?_)
  refine wpAny_bind (wpAny_holding (wpAny_call (class_get (s := ⟨hp, gs, dr, tk + 1, os⟩) (ox := ox) (od := some od) X I c.hm (wpAny_pure ?_))))
  refine (show wpAny _ _ (handedOut (.ref D)) _ _ _ from ?_)
  rw [handedOut_of (v := .ref D) rfl]
  first
    | exact wpAny_pure (wpAny_pure h)
    | exact wpAny_pure h
    | exact wpAny_pure (wpAny_bind (wpAny_pure (wpAny_pure h)))
theorem kit_err (c : ExcC K D) : KitX K (.ref x) (.ref D) (fun h => InstAt h x ox D (some od)) where
  ty := fun _ _ _ I => I.type
  it := fun _ _ X _ => by
    obtain ⟨cd, e, _⟩ := any_some c.hd
    unfold clsIn at e
    split at e
    · rename_i a1 a2 a3 a4 ho
      intro A' Q' E' s' kk q
      unfold isType loadHead
      exact wpAny_bind (wpAny_loadPart (kk _ _ (X _ _ ho)) (wpAny_pure q))
    · cases e
  ne := fun h tp dd its n sl X htp => Bool.eq_false_iff.mpr fun q => by
    obtain ⟨cd, e, _⟩ := any_some c.hd
    have e2 : D = tp := Value.ref.inj (beq_iff_eq.mp q)
    subst e2
    unfold clsIn at e
    split at e
    · rename_i a1 a2 a3 a4 ho
      cases (X _ _ ho).symm.trans htp
    · cases e
  ca := fun X I k => class_of_err c X I k
end

def rIsD (K : PySem.W.Frag) (D a : Addr) (cls : Value) (d : Option Addr) : List V → Hp → VK → Prop := fun xs H Q => ∃ (c : V) (cv : Value) (b : Bool) (dd : Addr) (fs : List (Str × V)), xs = [.ref a, c] ∧ (∀ u, RelV c u → u = cv) ∧ cls = .ref D ∧ d = some dd ∧ H dd = some (.xd fs) ∧ PySem.W.kitOne K (.ref D) cv = some b ∧ Q (.bl b) H
theorem call_isD {X : Cx} {a D : Addr} {cls : Value} {d : Option Addr} {oe : Obj} {pn : List (Addr × Obj)} (C : ExcC X.K D) (hz : Zc cls d oe) (hf : ∃ vs, oe.data = .fields vs) : CallR (X.suite a ((a, oe) :: pn)) (.builtin "isinstance") (rIsD X.K D a cls d) := by
  intro pins s σ H xs us Q I r h
  obtain ⟨c, cv, b, dd, fs, rfl, hcv, rfl, rfl, hd, e, q⟩ := h
  obtain ⟨u1, u2, rfl, r1, r2⟩ := vals2 r
  cases r1
  have ec := hcv _ r2
  subst ec
  obtain ⟨hget, _⟩ := I.pin (a, oe) (List.mem_append.mpr (.inl List.mem_cons_self))
  obtain ⟨vs, hv⟩ := hf
  have hx : ObjOk X.prog X.w H s.heap dd (.xd fs) := I.hok dd _ hd
  obtain ⟨mA, hns, _⟩ := hx
  obtain ⟨od, ho, _⟩ := lookIn_ns hns
  have J : PySem.W.InstAt s.heap a oe D (some od) := ⟨hget, hz.1, by unfold PySem.W.notCls; rw [hv] <;> rfl, by rw [hz.2]; exact ho⟩
  exact PySem.W.kia_one (kit_err C) I.kIn J e (fun z => nomatch z) fun tk => ⟨.bl b, H, I.kept (t' := tk) fun _ _ z => z, rfl, q⟩
/-! ### errors with one thing kept -/
def spExc (C : Addr) (f : Str) : Sp := fun vs H Q _ => ∃ (a : Addr) (v : V), vs = [.ref a, v] ∧ H a = some (exo a C none) ∧ ∀ dx, H dx = none → dx ≠ a → Q .non (upd (upd H dx (exd dx [(f, v)])) a (exo a C (some dx)))
theorem mk_ex {C : Addr} {f : Str} {v : V} {H1 : Hp} {Q : XK} (h : ∀ d, H1 d = none → Q (.ref C) (some d) (upd H1 d (.xd [(f, v)]))) :
    [v].length ≤ 1000 ∧ ∀ a, H1 a = none → spExc C f (.ref a :: ([v] ++ [])) (upd H1 a (exo a C none))
      (fun u H2 => u = .non ∧ ∃ (d : Addr) (fs : List (Str × V)), H2 a = some (exo a C (some d)) ∧ H2 d = some (exd d fs) ∧ H1 d = none ∧ Q (.ref C) (some d) (upd (del H2 a) d (.xd fs))) (fun _ _ _ => False) := by
  refine ⟨(by show 1 ≤ 1000; decide), fun a na => ⟨a, v, rfl, upd_same, fun dx n ne => ⟨rfl, dx, _, upd_same, by rw [upd_ne ne, upd_same], ?_, ?_⟩⟩⟩
  · rw [upd_ne ne] at n
    exact n
  · have n1 : H1 dx = none := by
      rw [upd_ne ne] at n
      exact n
    have e : upd (del (upd (upd (upd H1 a (exo a C none)) dx (exd dx [(f, v)])) a (exo a C (some dx))) a) dx (.xd [(f, v)]) = upd H1 dx (.xd [(f, v)]) := by
      funext b
      by_cases h1 : b = dx
      · rw [h1, upd_same, upd_same]
      · rw [upd_ne h1, upd_ne h1]
        by_cases h2 : b = a
        · rw [h2, del_same, na]
        · rw [del_ne h2, upd_ne h2, upd_ne h1, upd_ne h2]
    rw [e]
    exact h dx n1
theorem passesLen {X : Cx} {W : WX} (tk : Takes X W) : Passes (L2.CX X.prog X.w) X (fun cls d H => ∀ σ : L2.St, σ.length = X.N.length → W cls d σ H) := fun pins σ H s e s' I c =>
  tk e s' (XE.of_call I (fun _ _ _ h => h σ I.len) c)
theorem passesN {X : Cx} {W : WX} (n : Nat) (tk : Takes X W) (hn : X.N.length = n) : Passes (L2.CX X.prog X.w) X (fun cls d H => ∀ σ : L2.St, σ.length = n → W cls d σ H) := fun pins σ H s e s' I c =>
  tk e s' (XE.of_call I (fun _ _ _ h => h σ (I.len.trans hn)) c)
theorem passesUp {X : Cx} {E : XK} (tk : Takes X (fun cls d _ H => E cls d H)) : Passes (L2.CX X.prog X.w) X E := fun pins σ H s e s' I c =>
  tk e s' (XE.of_call I (fun _ _ _ h => h) c)
end Ts

namespace Ts
open PySem L2
def noNames : List V := [.str "any", .str "none", .str "anew", .str "lift", .str "term"]
def letters : Str := "abcdefghijklmnopqrstuvwxyz"
def nameB (x : Str) : Bool := !inV (.str x) noNames && ((decide (1 ≤ (x.length : Int)) && decide ((x.length : Int) ≤ 4)) && x.cps.toList.all fun c => decide (c ∈ letters.cps.toList))
def nameV : V → Bool
  | .str x => nameB x
  | _ => false
/-- a value of which the type is known, a text not too long -/
def GoodV (K : PySem.W.Frag) (H : Hp) (v : V) : Prop := ∃ k, TyV K H v k ∧ ∀ x, v = .str x → x.length ≤ 1000 ∧ PyData.strOk x = true
theorem GoodV.same {K : PySem.W.Frag} {H H' : Hp} {v : V} (g : GoodV K H v) (s : Same H H') : GoodV K H' v := by
  obtain ⟨k, t, h⟩ := g
  exact ⟨k, t.same s, h⟩
theorem TyX.went {K : PySem.W.Frag} {D L : Addr} {H H' : Hp} {v : V} {t : Value} (h : TyX K H v t) (d : DealAt H D L) (w : Went D L H H') : TyX K H' v t := by
  have key : ∀ {a : Addr} {o : HO}, H a = some o → (∀ xs, o ≠ .lst xs) → H' a = some o := fun {a o} e n => by
    refine w.k _ _ (fun z => ?_) (fun z => ?_) e
    · obtain ⟨cs, m, h1, _⟩ := d.ex
      rw [z, h1] at e
      exact n _ (Option.some.inj e).symm
    · obtain ⟨cs, m, _, h1, _⟩ := d.ex
      rw [z, h1] at e
      exact n _ (Option.some.inj e).symm
  cases h with
  | base h =>
    cases h with
    | non => exact .base .non
    | bl x => exact .base (.bl x)
    | int i => exact .base (.int i)
    | str x => exact .base (.str x)
    | flt x => exact .base (.flt x)
    | @lst a xs e =>
      by_cases hD : a = D
      · obtain ⟨cs, m, h1, _⟩ := w.d.ex
        rw [hD]
        exact .base (.lst h1)
      · by_cases hL : a = L
        · obtain ⟨cs, m, _, h1, _⟩ := w.d.ex
          rw [hL]
          exact .base (.lst h1)
        · exact .base (.lst (w.k _ _ hD hL e))
    | frz e => exact .base (.frz (key e fun _ z => by cases z))
    | tup e => exact .base (.tup (key e fun _ z => by cases z))
    | dK e => exact .base (.dK (key e fun _ z => by cases z))
    | dT e => exact .base (.dT (key e fun _ z => by cases z))
    | ins e cl ha hn htk hm => exact .base (.ins (key e fun _ z => by cases z) cl ha hn htk hm)
  | byt b => exact .byt b
  | set e => exact .set (key e fun _ z => by cases z)
  | kList e c => exact .kList e c
  | kTuple e c => exact .kTuple e c
  | kDict e c => exact .kDict e c
  | fTuple e => exact .fTuple (key e fun _ z => by cases z)
  | fDict e => exact .fDict (key e fun _ z => by cases z)
theorem TyV.went {K : PySem.W.Frag} {D L : Addr} {H H' : Hp} {v : V} {k : Kd} (h : TyV K H v k) (d : DealAt H D L) (w : Went D L H H') : TyV K H' v k := by
  obtain ⟨⟨t, h1, h2⟩, h3, h4⟩ := h
  exact ⟨⟨t, TyX.went h1 d w, h2⟩, h3, h4⟩
theorem GoodV.went {K : PySem.W.Frag} {D L : Addr} {H H' : Hp} {v : V} (g : GoodV K H v) (d : DealAt H D L) (w : Went D L H H') : GoodV K H' v := by
  obtain ⟨k, t, h⟩ := g
  exact ⟨k, t.went d w, h⟩
def spIsName (K : PySem.W.Frag) : Sp := fun vs H Q _ => ∃ v, vs = [v] ∧ GoodV K H v ∧ ∀ H', Same H H' → Q (.bl (nameV v)) H'
/-- all(..) over the signs of a text -/
theorem all_take {α : Type} {p : α → Bool} {xs : List α} : ∀ {i : Nat} {x : α}, xs[i]? = some x → (xs.take (i + 1)).all p = ((xs.take i).all p && p x) := by
  intro i x h
  rw [List.take_add_one, h]
  simp [List.all_append]
end Ts

namespace Ts
open PySem L2
theorem cnt_eq {K : PySem.W.Frag} {H : Hp} {v : V} {k : Kd} (h : TyV K H v k) : (decide (k = .int) && cntV v) = cntV v := by
  obtain ⟨⟨t, tx, t1, t2, t3, t4, t5⟩, i1, _⟩ := h
  by_cases e : k = .int
  · rw [decide_eq_true e]
    rfl
  · rw [decide_eq_false e]
    cases v with
    | int i =>
      cases tx with
      | base hb =>
        cases hb
        rw [kit_ty (a := "int") (b := "int") (r := true) (by decide +kernel)] at t1
        rw [kit_ty (a := "int") (b := "bool") (r := false) (by decide +kernel)] at t2
        cases k <;> first | exact absurd rfl e | exact absurd t1 (by decide) | exact absurd t2 (by decide)
    | _ => rfl
/-- a def that may raise, by its body -/
theorem fnX {P : Program} {w : World} {K : PySem.W.Frag} {mg : Str → Option Value} {base : Heap} {x qual : Str} {st : Stmt} {f : Addr} {fd : FuncData} {N ps : List Str} {k : Nat} {sp : Sp} (F : C8.Fun K x qual st f fd) (S : FnScope N ps (C8.fnScope st)) (len : ∀ vs H Q E, sp vs H Q E → vs.length = ps.length)
    (hbody : ∀ (cdv : Value) (A : Around) (outer : List Env) (s : Shared) (H : Hp) (vs : List V) (Q : VK) (E : XK), Room k (A.deeper (PyProof.Rows.envOfC qual (C8.fnScope st) s.heap.objs.size f cdv)) → sp vs H Q E →
      ∃ t, PSs (cxOf (L2.CX P w) P w K mg base N qual (C8.fnScope st) f cdv A outer s H E) (C8.fnBody st) t ∧ t { nx := fun _ H' => Q .non H', rt := Q } (start N vs) H) : FnOk P w K mg base (L2.CX P w) (k + 1) f fd ps sp := by
  obtain ⟨oc, od, dV, kV, doc, pm, an, cdv, ct, osl, rfl, lk, hcd⟩ := F.ex
  exact fn_of lk hcd S len fun A outer s H vs Q E hr hsp => hbody cdv A outer s H vs Q E hr hsp
/-- a def that may raise, called by its name -/
structure CalX (P : Program) (w : World) (K : PySem.W.Frag) (mg : Str → Option Value) (base : Heap) (k : Nat) (x : Str) (sp : Sp) (dvs : List V) : Prop where
  ex : ∃ (f : Addr) (fd : FuncData) (ps : List Str) (ds : List Value), FnOk P w K mg base (L2.CX P w) k f fd ps sp ∧ mg x = some (.ref f) ∧ PySem.W.keepIn K (.ref f) = true ∧ Binds K fd ps ds ∧ Vals dvs ds
/-- a class whose __init__ may raise -/
structure MakX (P : Program) (w : World) (K : PySem.W.Frag) (mg : Str → Option Value) (base : Heap) (k : Nat) (x : Str) (C : Addr) (sp : Sp) (dvs : List V) : Prop where
  ex : ∃ (f : Addr) (fd : FuncData) (ps : List Str) (ds : List Value), Mk K C f ∧ FnOk P w K mg base (L2.CX P w) k f fd ps sp ∧ mg x = some (.ref C) ∧ Binds K fd ps ds ∧ Vals dvs ds
/-- an error class that keeps one thing -/
structure Err (P : Program) (w : World) (K : PySem.W.Frag) (mg : Str → Option Value) (base : Heap) (x : Str) (C : Addr) (fl : Str) : Prop where
  ex : ∃ (fI : Addr) (fd : FuncData) (ps : List Str), OexC K C ∧ PySem.W.findIn K (.ref C) "__init__" = some (some (.ref fI)) ∧ PySem.W.typeIn K (.ref fI) = some (.type "function") ∧ FnOk P w K mg base C8.CX0 1 fI fd ps (spExc C fl) ∧ Binds K fd ps [] ∧ mg x = some (.ref C)
section
variable {X : Cx} {k j : Nat} {C : Addr} {x : Str} {sp : Sp} {dvs : List V} {E : XK} {p pos : Pos} {e : Expr} {es : List Expr} {ta : TA} {fl : Str}
theorem pe_cX (c : CalX X.prog X.w X.K X.mg X.base k x sp dvs) (hr : Room j X.A) (hk : k ≤ j) (hx : Passes (L2.CX X.prog X.w) X E) (hg : Gl X x) (ha : PA X (e :: es) ta)
    (hdb : (x == ("__debug__" : Str)) = false := by decide) (he : starEach (e :: es) X.env = (false, eval e X.env) :: starEach es X.env := by rfl) (hpl : (backTo pos (starEach es X.env)).any (·.1) = false := by rfl) :
    PE X (.Call (.Name x p) (e :: es) [] pos) (tCall sp dvs E ta) := by
  obtain ⟨f, fd, ps, ds, F, hm, kp, b, d⟩ := c.ex
  exact pe_call F (hr.mono hk) hg hm kp b d hx ha hdb he hpl
theorem pe_mkX (c : MakX X.prog X.w X.K X.mg X.base k x C sp dvs) (hr : Room j X.A) (hk : k + 1 ≤ j) (hx : Passes (L2.CX X.prog X.w) X E) (hg : Gl X x) (ha : PA X (e :: es) ta)
    (hdb : (x == ("__debug__" : Str)) = false := by decide) (he : starEach (e :: es) X.env = (false, eval e X.env) :: starEach es X.env := by rfl) (hpl : (backTo pos (starEach es X.env)).any (·.1) = false := by rfl) :
    PE X (.Call (.Name x p) (e :: es) [] pos) (tMake C sp dvs E ta) := by
  obtain ⟨f, fd, ps, ds, M, F, hm, b, d⟩ := c.ex
  exact pe_make M F (hr.mono hk) hg hm b d hx ha hdb he hpl
theorem pmk_err (c : Err X.prog X.w X.K X.mg X.base x C fl) (hr : Room j X.A) (hk : 2 ≤ j) (hg : Gl X x) (ha : PA X (e :: es) ta)
    (hdb : (x == ("__debug__" : Str)) = false := by decide) (he : starEach (e :: es) X.env = (false, eval e X.env) :: starEach es X.env := by rfl) (hpl : (backTo pos (starEach es X.env)).any (·.1) = false := by rfl) :
    PMk X (.Call (.Name x p) (e :: es) [] pos) (tMkO C (spExc C fl) [] ta) := by
  obtain ⟨fI, fd, ps, T, iC, tI, F, b, hm⟩ := c.ex
  exact pmk_oex T iC tI F (hr.mono hk) b .nil C8.pass0 hg hm ha hdb he hpl
end
/-! ### the arguments of kinds -/
def dueC (nm : V) (prs : List (Str × V)) (tm : V) : Option Str :=
  if nameV nm = false then some "name" else match prs.find? fun p => !cntV p.2 with
    | some p => some p.1
    | none => if tm ≠ .non ∧ cntV tm = false then some "times" else none
/-- at a list of pairs (a word, a value) -/
def PrsAt (K : PySem.W.Frag) (H : Hp) (a : Addr) (prs : List (Str × V)) : Prop := ∃ ts : List Addr, H a = some (.lst (ts.map V.ref)) ∧ ts.length = prs.length ∧ ∀ (i : Nat) (t : Addr) (p : Str × V), ts[i]? = some t → prs[i]? = some p → H t = some (.tup [.str p.1, p.2])
theorem PrsAt.same {K : PySem.W.Frag} {H H' : Hp} {a : Addr} {prs : List (Str × V)} (h : PrsAt K H a prs) (s : Same H H') : PrsAt K H' a prs := by
  obtain ⟨ts, h1, h2, h3⟩ := h
  exact ⟨ts, s _ _ h1, h2, fun i t p a b => s _ _ (h3 i t p a b)⟩
def spCheck (K : PySem.W.Frag) (CI : Addr) : Sp := fun vs H Q E => ∃ (nm : V) (a : Addr) (prs : List (Str × V)) (tm : V), vs = [nm, .ref a, tm] ∧ PrsAt K H a prs ∧ GoodV K H nm ∧ GoodV K H tm ∧ (∀ p ∈ prs, GoodV K H p.2) ∧
  (dueC nm prs tm = none → ∀ H', Same H H' → Q .non H') ∧
  ∀ wd, dueC nm prs tm = some wd → ∀ (H' : Hp) (d : Addr), Same H H' → H' d = some (.xd [("word", .str wd)]) → E (.ref CI) (some d) H'
theorem find_pre {α : Type} {p : α → Bool} {xs : List α} {i : Nat} {x : α} (hx : xs[i]? = some x) (h0 : ∀ y ∈ xs.take i, p y = false) (h1 : p x = true) : xs.find? p = some x := by
  have e : xs = xs.take i ++ x :: xs.drop (i + 1) := by
    obtain ⟨hi, rfl⟩ := List.getElem?_eq_some_iff.mp hx
    rw [← List.drop_eq_getElem_cons hi, List.take_append_drop]
  rw [e, List.find?_append, List.find?_eq_none.mpr (fun y hy => by rw [h0 y hy]; exact Bool.false_ne_true), List.find?_cons, h1]
  rfl
end Ts

namespace Ts
open PySem L2
/-- all but one place stay -/
def But (x : Addr) (H H' : Hp) : Prop := ∀ b o, H b = some o → b ≠ x → H' b = some o
theorem But.refl {x : Addr} {H : Hp} : But x H H := fun _ _ h _ => h
theorem But.trans {x : Addr} {H H1 H2 : Hp} (a : But x H H1) (b : But x H1 H2) : But x H H2 := fun c o h n => b c o (a c o h n) n
theorem But.same {x : Addr} {H H1 H2 : Hp} (a : But x H H1) (s : Same H1 H2) : But x H H2 := fun c o h n => s c o (a c o h n)
theorem Same.but {x : Addr} {H H1 : Hp} (s : Same H H1) : But x H H1 := fun c o h _ => s c o h
theorem But.at {x : Addr} {H H1 : Hp} {o : HO} (a : But x H H1) : But x H (upd H1 x o) := fun c u h n => by
  rw [upd_ne n]
  exact a c u h n
theorem But.seq {K : PySem.W.Frag} {x a C dx : Addr} {fs : List (Str × V)} {xs : List V} {H H' : Hp} (b : But x H H') (hx : H x = some (.ins C dx fs)) (h : SqL K H a xs) : SqL K H' a xs := by
  rcases h with (h | ⟨o, h⟩) | h
  · exact .inl (.inl (b _ _ h (ne_of h hx (by intro z; cases z))))
  · exact .inl (.inr ⟨o, b _ _ h (ne_of h hx (by intro z; cases z))⟩)
  · exact .inr h
theorem But.sqt {K : PySem.W.Frag} {x a C dx : Addr} {fs : List (Str × V)} {xs : List V} {H H' : Hp} (b : But x H H') (hx : H x = some (.ins C dx fs)) (h : SqT K H a xs) : SqT K H' a xs := by
  rcases h with (h | ⟨o, h⟩) | h
  · exact .inl (.inl (b _ _ h (ne_of h hx (by intro z; cases z))))
  · exact .inl (.inr ⟨o, b _ _ h (ne_of h hx (by intro z; cases z))⟩)
  · exact .inr h
theorem few {f : Str} {v : V} {fs : List (Str × V)} {n : Nat} (h : fs.length ≤ n) : (putF f v fs).length ≤ n + 1 := Nat.le_trans (length_putF f v fs) (Nat.succ_le_succ h)
theorem few0 : ([] : List (Str × V)).length ≤ 0 := Nat.le_refl _
theorem few_lt {fs : List (Str × V)} {n : Nat} (h : fs.length ≤ n) (h2 : n < 1000) : fs.length < 1000 := Nat.lt_of_le_of_lt h h2
/-- what the text's class says: no class of it has these names -/
structure ClsN (K : PySem.W.Frag) (C : Addr) (ns : List Str) : Prop where
  cl : Cls K C
  no : ∀ n ∈ ns, NoAttr K C n
def stillF (nm d tm : V) : List (Str × V) := putF "times" tm (putF "days" d (putF "name" nm []))
def anewF (nm d tm : V) : List (Str × V) := putF "times" tm (putF "left" d (putF "name" nm []))
def liftF (nm b t tm : V) : List (Str × V) := putF "times" tm (putF "top" t (putF "by" b (putF "name" nm [])))
/-- the promise of a kind's __init__: due, what its arguments owe; fs, its attributes -/
def spKind (K : PySem.W.Frag) (C CI : Addr) (n : Nat) (due : List V → Option Str) (fs : List V → List (Str × V)) : Sp := fun vs H Q E => ∃ (x dx : Addr) (ws : List V), vs = .ref x :: ws ∧ ws.length = n ∧ H x = some (.ins C dx []) ∧ (∀ v ∈ ws, GoodV K H v) ∧
  (due ws = none → ∀ H', H' x = some (.ins C dx (fs ws)) → But x H H' → Q .non H') ∧
  ∀ wd, due ws = some wd → ∀ (H' : Hp) (d : Addr), Same H H' → H' d = some (.xd [("word", .str wd)]) → E (.ref CI) (some d) H'
def dueS : List V → Option Str | [a, b, c] => dueC a [("days", b)] c | _ => none
def dueA : List V → Option Str | [a, b, c] => dueC a [("left", b)] c | _ => none
def dueL : List V → Option Str | [a, b, c, d] => dueC a [("by", b), ("top", c)] d | _ => none
def fsS : List V → List (Str × V) | [a, b, c] => stillF a b c | _ => []
def fsA : List V → List (Str × V) | [a, b, c] => anewF a b c | _ => []
def fsL : List V → List (Str × V) | [a, b, c, d] => liftF a b c d | _ => []
theorem len3 {α : Type} {ws : List α} (h : ws.length = 3) : ∃ a b c, ws = [a, b, c] := by
  match ws, h with
  | [a, b, c], _ => exact ⟨a, b, c, rfl⟩
theorem len4 {α : Type} {ws : List α} (h : ws.length = 4) : ∃ a b c d, ws = [a, b, c, d] := by
  match ws, h with
  | [a, b, c, d], _ => exact ⟨a, b, c, d, rfl⟩
end Ts

namespace Ts
open PySem L2
theorem nodup_le : ∀ {xs ys : List Int}, xs.Nodup → (∀ x ∈ xs, x ∈ ys) → xs.length ≤ ys.length
  | [], _, _, _ => Nat.zero_le _
  | x :: xs, ys, h, hs => by
    rw [List.nodup_cons] at h
    have h1 : x ∈ ys := hs x (List.mem_cons_self ..)
    have h2 := nodup_le (xs := xs) (ys := ys.erase x) h.2 fun z hz => by
      have hne : z ≠ x := fun e => h.1 (e ▸ hz)
      exact (List.mem_erase_of_ne hne).mpr (hs z (List.mem_cons_of_mem _ hz))
    have h3 := List.length_erase_of_mem h1
    have h4 : 0 < ys.length := List.length_pos_of_mem h1
    rw [List.length_cons]
    omega
/-- at most six days of the week are off: one is on -/
theorem day_on {rs : List Int} (h : rs.length ≤ 6) : ∃ k : Int, 0 ≤ k ∧ k < 7 ∧ ¬ k ∈ rs := by
  by_cases e : ∃ k : Int, 0 ≤ k ∧ k < 7 ∧ ¬ k ∈ rs
  · exact e
  · have h1 : ∀ x ∈ ([0, 1, 2, 3, 4, 5, 6] : List Int), x ∈ rs := fun x hx => by
      by_cases hm : x ∈ rs
      · exact hm
      · refine absurd ⟨x, ?_, ?_, hm⟩ e
        · simp only [List.mem_cons, List.not_mem_nil, or_false] at hx
          omega
        · simp only [List.mem_cons, List.not_mem_nil, or_false] at hx
          omega
    have h2 := nodup_le (by decide) h1
    simp only [List.length_cons, List.length_nil] at h2
    omega
theorem least_day {rs : List Int} (t : Int) : ∀ n : Nat, (∃ c, t ≤ c ∧ c < t + n ∧ ¬ c % 7 ∈ rs) → ∃ e, t ≤ e ∧ e < t + n ∧ ¬ e % 7 ∈ rs ∧ ∀ c, t ≤ c → c < e → c % 7 ∈ rs
  | 0, ⟨c, h1, h2, _⟩ => by omega
  | n + 1, ⟨c, h1, h2, h3⟩ => by
    by_cases h : ∃ c, t ≤ c ∧ c < t + (n : Int) ∧ ¬ c % 7 ∈ rs
    · obtain ⟨e, e1, e2, e3, e4⟩ := least_day t n h
      exact ⟨e, e1, by omega, e3, e4⟩
    · refine ⟨c, h1, h2, h3, fun d d1 d2 => ?_⟩
      by_cases hd : d % 7 ∈ rs
      · exact hd
      · exact absurd ⟨d, d1, by omega, hd⟩ h
/-- the first working day from t on -/
theorem next_work {rs : List Int} (h : rs.length ≤ 6) (t : Int) : ∃ e, t ≤ e ∧ e < t + 7 ∧ ¬ e % 7 ∈ rs ∧ ∀ c, t ≤ c → c < e → c % 7 ∈ rs := by
  obtain ⟨k, k0, k1, hk⟩ := day_on h
  refine least_day t 7 ⟨t + (k - t) % 7, ?_, ?_, ?_⟩
  · omega
  · omega
  · have : (t + (k - t) % 7) % 7 = k := by omega
    rw [this]
    exact hk
theorem perm_ints {ys : List V} {ns : List Int} (h : ys.Perm (ns.map V.int)) : ∃ ms : List Int, ys = ms.map V.int ∧ ms.Perm ns := by
  have hall : ∀ y ∈ ys, ∃ i, y = V.int i := fun y hy => by
    obtain ⟨i, _, e⟩ := List.mem_map.mp (h.mem_iff.mp hy)
    exact ⟨i, e.symm⟩
  have hg : ∀ {zs : List V}, (∀ y ∈ zs, ∃ i, y = V.int i) → zs = (zs.map fun v => match v with | .int i => i | _ => 0).map V.int := by
    intro zs hz
    rw [List.map_map]
    conv => lhs; rw [← List.map_id zs]
    refine List.map_congr_left fun y hy => ?_
    obtain ⟨i, rfl⟩ := hz y hy
    rfl
  refine ⟨_, hg hall, ?_⟩
  have := h.map (fun v => match v with | V.int i => i | _ => (0 : Int))
  rw [List.map_map] at this
  have e : (ns.map ((fun v => match v with | V.int i => i | _ => (0 : Int)) ∘ V.int)) = ns := by
    conv => rhs; rw [← List.map_id ns]
    rfl
  rw [e] at this
  exact this
end Ts

namespace Ts
open PySem L2
theorem Went.refl {D L : Addr} {H : Hp} (d : DealAt H D L) : Went D L H H := ⟨d, Kept.refl⟩
/-- an object that is new since H1 is written -/
theorem Went.mut {D L p : Addr} {o : HO} {H1 H' : Hp} (w : Went D L H1 H') (n : H1 p = none) (h1 : p ≠ D) (h2 : p ≠ L) : Went D L H1 (upd H' p o) := by
  refine ⟨?_, fun b u b1 b2 hb => ?_⟩
  · obtain ⟨cs, m, e1, e2, r⟩ := w.d.ex
    exact ⟨cs, m, by rw [upd_ne h1.symm]; exact e1, by rw [upd_ne h2.symm]; exact e2, r⟩
  · rw [upd_ne (ne_of_none hb n)]
    exact w.k _ _ b1 b2 hb
def flatB : V → Bool
  | .non => true
  | .bl _ => true
  | .int _ => true
  | .str x => decide (x.length ≤ 1000) && PyData.strOk x
  | _ => false
theorem goodFlat {K : PySem.W.Frag} {H : Hp} {v : V} (h : flatB v = true) : GoodV K H v := by
  cases v with
  | non => exact ⟨_, tyV_non, fun x z => by cases z⟩
  | bl b => exact ⟨_, tyV_bl, fun x z => by cases z⟩
  | int i => exact ⟨_, tyV_int, fun x z => by cases z⟩
  | str x => exact ⟨_, tyV_str, fun y z => by cases z; exact ⟨of_decide_eq_true (Bool.and_eq_true_iff.mp h).1, (Bool.and_eq_true_iff.mp h).2⟩⟩
  | byt b => cases h
  | flt b => cases h
  | ref a => cases h
  | ty n => cases h
theorem goodAll {K : PySem.W.Frag} {H : Hp} {xs : List V} {v : V} (h : xs.all flatB = true) (hv : v ∈ xs) : GoodV K H v := goodFlat (List.all_eq_true.mp h v hv)
theorem goodList {K : PySem.W.Frag} {H : Hp} {a : Addr} {xs : List V} (h : SqL K H a xs) : GoodV K H (.ref a) := ⟨_, tyV_list h, fun x z => by cases z⟩
theorem goodTup {K : PySem.W.Frag} {H : Hp} {a : Addr} {xs : List V} (h : SqT K H a xs) : GoodV K H (.ref a) := ⟨_, tyV_tup h, fun x z => by cases z⟩
def spAny (K : PySem.W.Frag) (n : Nat) : Sp := fun vs H Q _ => ∃ (D L : Addr) (deep : Int), vs = [.ref D, .int deep] ∧ DealAt H D L ∧ 0 ≤ deep ∧ deep ≤ n ∧
  ∀ (v : V) (H' : Hp), GoodV K H' v → Went D L H H' → Q v H'
def nameVs : List V := [.str "talk", .str "owe", .str "plea", .str "a", .str "b", .str "zz", .str "x", .str "suit", .str "rest", .str "cap"]
def spNames : Sp := fun vs H Q _ => ∃ (D L : Addr) (m : Int), vs = [.ref D, .int m] ∧ DealAt H D L ∧ 0 ≤ m ∧ m ≤ 10 ∧
  ∀ (p : Addr) (zs : List V) (H' : Hp), zs.Perm nameVs → Went D L H H' → H p = none → H' p = some (.lst (zs.take m.toNat)) → Q (.ref p) H'
def formVs : List V := [.str "still", .str "anew", .str "lift"]
def manyVs : List V := [.int 1, .int 1, .int 2, .int 3, .non]
/-- what is drawn of a kind: (form, name, a number, another one or 0, times) -/
structure Told (most : Int) (fm : Str) (a b : Int) (mn : V) : Prop where
  f : V.str fm ∈ formVs
  a1 : 1 ≤ a
  a2 : a ≤ most
  b1 : fm = "lift" → 1 ≤ b
  b2 : fm = "lift" → b ≤ most
  b0 : fm ≠ "lift" → b = 0
  m : mn ∈ manyVs
def spKindD : Sp := fun vs H Q _ => ∃ (D L : Addr) (wd : V) (most : Int), vs = [.ref D, wd, .int most] ∧ DealAt H D L ∧ 0 < most ∧ most < 2 ^ 64 ∧
  ∀ (t : Addr) (fm : Str) (a b : Int) (mn : V) (H' : Hp), Told most fm a b mn → Went D L H H' → H t = none → H' t = some (.tup [.str fm, wd, .int a, .int b, mn]) → Q (.ref t) H'
end Ts

namespace Ts
open PySem L2
theorem cut_toV (xs : List V) (k : Nat) : cutV xs none (some (k : Int)) = xs.take k := by
  have h := cut_to (fun v => v) xs k
  rw [List.map_id', List.map_id'] at h
  exact h
theorem cut_fromV (xs : List V) (k : Nat) : cutV xs (some (k : Int)) none = xs.drop k := by
  unfold cutV
  rw [HT.sIx_nat, HT.sIx_none]
  by_cases h : k ≤ xs.length
  · rw [Nat.min_eq_left h, List.take_of_length_le (by rw [List.length_drop]; exact Nat.le_refl _)]
  · rw [Nat.min_eq_right (by omega), Nat.sub_self, List.take_zero, List.drop_eq_nil_of_le (by omega)]
theorem nameV_not {K : PySem.W.Frag} {H : Hp} {v : V} {k : Kd} (h : TyV K H v k) (e : k ≠ .str) : nameV v = false := by
  obtain ⟨⟨t, tx, t1, t2, t3, t4, t5⟩, _, _⟩ := h
  cases v with
  | str x =>
    cases tx with
    | base hb =>
      cases hb
      rw [kit_ty (a := "str") (b := "str") (r := true) (by decide +kernel)] at t3
      cases k <;> first | exact absurd rfl e | exact absurd t3 (by decide)
  | _ => rfl
theorem dp_signs {K : PySem.W.Frag} {H : Hp} : ∀ cs : List Nat, DpAll K H (cs.map fun c => V.str ⟨#[c]⟩) (cs.map fun c => PyData.str ⟨#[c]⟩)
  | [] => .nil
  | c :: cs => .cons (.str _) (dp_signs cs)
theorem filter_snoc {α : Type} {p : α → Bool} {xs : List α} {i : Nat} {c : α} (h : xs[i]? = some c) : (xs.take (i + 1)).filter p = if p c = true then (xs.take i).filter p ++ [c] else (xs.take i).filter p := by
  rw [List.take_add_one, h, List.filter_append]
  by_cases e : p c = true
  · rw [if_pos e]
    show _ ++ List.filter p [c] = _
    rw [List.filter_cons, if_pos e]
    rfl
  · rw [if_neg e]
    show _ ++ List.filter p [c] = _
    rw [List.filter_cons, if_neg e]
    exact List.append_nil _
theorem shaped_signs {cs : List Nat} (h : ∀ c ∈ cs, c < 0x110000) : SeqAt.shaped (.list (cs.map fun c => PyData.str ⟨#[c]⟩)) = true := by
  have h1 : PyData.canLayAll0 (cs.map fun c => PyData.str ⟨#[c]⟩) = true := by
    induction cs with
    | nil => rfl
    | cons c cs ih =>
      have := ih fun d hd => h d (List.mem_cons_of_mem _ hd)
      simp only [List.map_cons, PyData.canLayAll0, PyData.canLay0, this, Bool.and_true]
      have := h c (List.mem_cons_self ..)
      simp [PyData.strOk, this]
  have h2 : ∀ ds : List Nat, PyData.depthAll (ds.map fun c => PyData.str ⟨#[c]⟩) = 0 := by
    intro ds
    induction ds with
    | nil => rfl
    | cons c ds ih => simp [PyData.depthAll, PyData.depth, ih]
  simp [SeqAt.shaped, PyData.canLay0, PyData.depth, h1, h2]
theorem strOk_mem {x : Str} (h : PyData.strOk x = true) {c : Nat} (hc : c ∈ x.cps.toList) : c < 0x110000 := by
  unfold PyData.strOk at h
  rw [← Array.all_toList] at h
  exact of_decide_eq_true (List.all_eq_true.mp h c hc)
theorem all_filter (cs : List Nat) (p : Nat → Bool) : cs.all p = PyData.eqv (.list ((cs.filter fun c => !p c).map fun c => PyData.str ⟨#[c]⟩)) (.list []) := by
  induction cs with
  | nil => rfl
  | cons c cs ih =>
    rw [List.all_cons, List.filter_cons]
    cases e : p c with
    | true =>
      rw [ih]
      simp
    | false =>
      simp
      rfl
def optV : Option Str → V
  | some x => .str x
  | none => .non
def dueK (fm : Str) (ws : List V) : Option Str := if fm = "lift" then dueL ws else if fm = "still" then dueS ws else dueA ws
def Shape (fm : Str) (ws : List V) : Prop := (fm = "lift" ∧ ws.length = 4) ∨ (fm = "still" ∧ ws.length = 3) ∨ (fm = "anew" ∧ ws.length = 3)
def spHeard (K : PySem.W.Frag) : Sp := fun vs H Q _ => ∃ (fm : Str) (g : Addr) (ws : List V), vs = [.str fm, .ref g] ∧ SqL K H g ws ∧ Shape fm ws ∧ (∀ v ∈ ws, GoodV K H v) ∧ ∀ H', Same H H' → Q (optV (dueK fm ws)) H'
def spSize (K : PySem.W.Frag) : Sp := fun vs H Q _ => ∃ v, vs = [v] ∧ GoodV K H v ∧ Q (.bl (cntV v)) H
theorem nsl : ¬ (("still" : Str) = "lift") := by decide +kernel
theorem nal : ¬ (("anew" : Str) = "lift") := by decide +kernel
theorem nas : ¬ (("anew" : Str) = "still") := by decide +kernel
theorem nsa : ¬ (("still" : Str) = "anew") := by decide +kernel
theorem nls : ¬ (("lift" : Str) = "still") := by decide +kernel
theorem nla : ¬ (("lift" : Str) = "anew") := by decide +kernel
theorem due3 (a b c : V) : valV (mergeK [] [(Sum.inr "still", a), (Sum.inr "anew", b), (Sum.inr "lift", c)]) (Sum.inr ("still" : Str) : Key) = some a ∧
    valV (mergeK [] [(Sum.inr "still", a), (Sum.inr "anew", b), (Sum.inr "lift", c)]) (Sum.inr ("anew" : Str) : Key) = some b ∧
    valV (mergeK [] [(Sum.inr "still", a), (Sum.inr "anew", b), (Sum.inr "lift", c)]) (Sum.inr ("lift" : Str) : Key) = some c := by
  have i : ∀ {x y : Str}, ((Sum.inr x : Key) = Sum.inr y) = (x = y) := fun {x y} => by simp
  refine ⟨?_, ?_, ?_⟩ <;> simp [mergeK, putK, valV, i, nsl, nal, nas, nsa, nls, nla]
/-- the pairs are looked through -/
theorem find_zip {wl : List Str} {vals : List V} : ∀ {i : Nat} {x : Str} {y : V}, wl[i]? = some x → vals[i]? = some y → (wl.zip vals)[i]? = some (x, y) := by
  intro i x y h1 h2
  rw [List.getElem?_zip_eq_some]
  exact ⟨h1, h2⟩
end Ts

namespace Ts
open PySem L2
theorem TyX.mutList {K : PySem.W.Frag} {H : Hp} {b : Addr} {xs ys : List V} {v : V} {t : Value} (h : TyX K H v t) (hb : H b = some (.lst xs)) : TyX K (upd H b (.lst ys)) v t := by
  have key : ∀ {a : Addr} {o : HO}, H a = some o → (∀ xs, o ≠ .lst xs) → upd H b (.lst ys) a = some o := fun {a o} e n => by
    rw [upd_ne (fun z => by rw [z, hb] at e; exact n _ (Option.some.inj e).symm)]
    exact e
  cases h with
  | base h =>
    cases h with
    | non => exact .base .non
    | bl x => exact .base (.bl x)
    | int i => exact .base (.int i)
    | str x => exact .base (.str x)
    | flt x => exact .base (.flt x)
    | @lst a zs e =>
      by_cases hD : a = b
      · rw [hD]
        exact .base (.lst upd_same)
      · exact .base (.lst (by rw [upd_ne hD]; exact e))
    | frz e => exact .base (.frz (key e fun _ z => by cases z))
    | tup e => exact .base (.tup (key e fun _ z => by cases z))
    | dK e => exact .base (.dK (key e fun _ z => by cases z))
    | dT e => exact .base (.dT (key e fun _ z => by cases z))
    | ins e cl ha hn htk hm => exact .base (.ins (key e fun _ z => by cases z) cl ha hn htk hm)
  | byt b => exact .byt b
  | set e => exact .set (key e fun _ z => by cases z)
  | kList e c => exact .kList e c
  | kTuple e c => exact .kTuple e c
  | kDict e c => exact .kDict e c
  | fTuple e => exact .fTuple (key e fun _ z => by cases z)
  | fDict e => exact .fDict (key e fun _ z => by cases z)
theorem GoodV.mutList {K : PySem.W.Frag} {H : Hp} {b : Addr} {xs ys : List V} {v : V} (g : GoodV K H v) (hb : H b = some (.lst xs)) : GoodV K (upd H b (.lst ys)) v := by
  obtain ⟨k, ⟨⟨t, h1, h2⟩, h3, h4⟩, h⟩ := g
  exact ⟨k, ⟨⟨t, TyX.mutList h1 hb, h2⟩, h3, h4⟩, h⟩
theorem rg_mem {n : Nat} {v : V} (h : v ∈ rgV 0 (n : Int)) : ∃ j : Nat, v = .int (j : Int) ∧ j < n := by
  unfold rgV at h
  obtain ⟨j, hj, e⟩ := List.mem_map.mp h
  rw [List.mem_range] at hj
  exact ⟨j, by rw [← e]; simp, by omega⟩
theorem rg_ok (n : Nat) : (rgV 0 (n : Int)).all okV = true := List.all_eq_true.mpr fun v hv => by
  obtain ⟨j, rfl, _⟩ := rg_mem hv
  rfl
theorem ixN_of {n j : Nat} (hj : j < n) : ixN n (j : Int) = some j := by
  unfold ixN
  rw [if_pos (by omega), if_pos (by omega)]
  simp
theorem name_ok {v : V} (h : v ∈ nameVs) : nameV v = true := by
  have hall : nameVs.all nameV = true := by decide +kernel
  exact List.all_eq_true.mp hall v h
theorem many_ok {v : V} (h : v ∈ manyVs) : v = .non ∨ cntV v = true := by
  simp only [manyVs, List.mem_cons, List.not_mem_nil, or_false] at h
  rcases h with rfl | rfl | rfl | rfl | rfl
  · exact .inr rfl
  · exact .inr rfl
  · exact .inr rfl
  · exact .inr rfl
  · exact .inl rfl
theorem dueC_ok {nm tm : V} {prs : List (Str × V)} (h1 : nameV nm = true) (h2 : ∀ p ∈ prs, cntV p.2 = true) (h3 : tm = .non ∨ cntV tm = true) : dueC nm prs tm = none := by
  have hall : prs.find? (fun p => !cntV p.2) = none := List.find?_eq_none.mpr fun p hp => by
    rw [h2 p hp]
    exact Bool.false_ne_true
  rw [dueC, if_neg (by rw [h1]; exact Bool.noConfusion), hall]
  refine if_neg fun z => ?_
  rcases h3 with h | h
  · exact z.1 h
  · rw [h] at z
    exact Bool.noConfusion z.2
theorem cnt_int {i : Int} (h : 1 ≤ i) : cntV (.int i) = true := decide_eq_true h
theorem form_cases {fm : Str} (h : V.str fm ∈ formVs) : fm = "still" ∨ fm = "anew" ∨ fm = "lift" := by
  simp only [formVs, List.mem_cons, List.not_mem_nil, or_false, V.str.injEq] at h
  exact h
theorem scal_opt (o : Option Str) : scal (optV o) (optV o) = true := by cases o <;> rfl
/-- an instance of an own class, as a value -/
structure OwnT (K : PySem.W.Frag) (C : Addr) : Prop where
  cl : Cls K C
  ha : PySem.W.findIn K (.ref C) "__class__" = some (some (.builtin "object.__class__"))
  hn : PySem.W.specialIn K (.builtin "object.__class__") "__get__" = some (some (.builtin "getset_descriptor.__get__"))
  ht : PySem.W.takesIn K (.builtin "object.__class__") = some true
  hm : PySem.W.mroIn K C (.type "object") = some true
  k1 : PySem.W.kitOne K (.ref C) (.type "int") = some false
  k2 : PySem.W.kitOne K (.ref C) (.type "bool") = some false
  k3 : PySem.W.kitOne K (.ref C) (.type "str") = some false
  k4 : PySem.W.kitOne K (.ref C) (.type "list") = some false
  k5 : PySem.W.kitOne K (.ref C) (.type "tuple") = some false
theorem tyV_own {K : PySem.W.Frag} {H : Hp} {a C dx : Addr} {fs : List (Str × V)} (T : OwnT K C) (h : H a = some (.ins C dx fs)) : TyV K H (.ref a) .own :=
  ⟨⟨_, .base (.ins h T.cl T.ha T.hn T.ht T.hm), T.k1, T.k2, T.k3, T.k4, T.k5⟩, fun z => (by cases z), fun z => (by cases z)⟩
theorem goodOwn {K : PySem.W.Frag} {H : Hp} {a C dx : Addr} {fs : List (Str × V)} (T : OwnT K C) (h : H a = some (.ins C dx fs)) : GoodV K H (.ref a) := ⟨_, tyV_own T h, fun x z => by cases z⟩
theorem ite_list {H : Hp} {P : List V → Prop} {b : Bool} {te1 te2 : TE} {σ : L2.St} {Q : VK} (k : ∀ g ws, H g = none → P ws → Q (.ref g) (upd H g (.lst ws)))
    (h1 : b = true → ∃ ws, P ws ∧ ∀ Q' : VK, (∀ g, H g = none → Q' (.ref g) (upd H g (.lst ws))) → te1 σ H Q')
    (h2 : b = false → ∃ ws, P ws ∧ ∀ Q' : VK, (∀ g, H g = none → Q' (.ref g) (upd H g (.lst ws))) → te2 σ H Q') : if b = true then te1 σ H Q else te2 σ H Q := by
  cases b with
  | true =>
    obtain ⟨ws, p, h⟩ := h1 rfl
    exact iteT (h Q fun g ng => k g ws ng p)
  | false =>
    obtain ⟨ws, p, h⟩ := h2 rfl
    exact iteF (h Q fun g ng => k g ws ng p)
theorem Shape.len {fm : Str} {ws us : List V} (h : Shape fm ws) (e : us.length = ws.length) : Shape fm us := by
  rcases h with ⟨a, b⟩ | ⟨a, b⟩ | ⟨a, b⟩
  · exact .inl ⟨a, e.trans b⟩
  · exact .inr (.inl ⟨a, e.trans b⟩)
  · exact .inr (.inr ⟨a, e.trans b⟩)
theorem Shape.le {fm : Str} {ws : List V} (h : Shape fm ws) : ws.length ≤ 4 := by
  rcases h with ⟨_, b⟩ | ⟨_, b⟩ | ⟨_, b⟩ <;> omega
theorem mem_cut {xs : List V} {lo hi : Option Int} {v : V} (h : v ∈ cutV xs lo hi) : v ∈ xs := by
  unfold cutV at h
  exact List.mem_of_mem_drop (List.mem_of_mem_take h)
theorem cut_le {xs : List V} {lo hi : Option Int} : (cutV xs lo hi).length ≤ xs.length := cutV_length xs lo hi
/-- the law's: a list of at most 63 ints is handed in, True comes out -/
def spLaw (K : PySem.W.Frag) : Sp := fun vs H Q _ => ∃ (a : Addr) (ns : List Int), vs = [.ref a] ∧ SqL K H a (ns.map V.int) ∧ ns.length ≤ 63 ∧ ∀ H', Q (.bl true) H'
end Ts

namespace Ts
open PySem L2
def top (i : Nat) : Stmt := PySem.Challenge.pw_termstill_k03_kinds_refused.main.body.getD i (.Pass ⟨0, 0, 0, 0⟩)
section
variable {P : Program} {w : World} {K : PySem.W.Frag} {mg : Str → Option Value} {base : Heap}
abbrev sDraw : Stmt := (top 27)
theorem sc_draw : FnScope ["_law_deal_here", "_law_many", "_law_rest"] ["_law_deal_here", "_law_many"] (C8.fnScope sDraw) := C8.fnScope_by (by decide +kernel)
theorem cal_draw {f : Addr} {fd : FuncData} (F : C8.Def K mg "_law_draw" sDraw f fd) (df : fd.defaults = .none) (mInt : mg "int" = none) : C8.Cal P w K mg base 1 "_law_draw" spDraw [] := by
  refine C8.cal0 F (C8.Fun.binds F.fn df (ps := ["_law_deal_here", "_law_many"]) fun _ _ _ _ _ _ us hl => match us, hl with | [_, _], _ => rfl) .nil sc_draw (fun vs H Q E h => ?_) (fun cdv A outer s H vs Q E hr h => ?_)
  · obtain ⟨D, L, n, rfl, _⟩ := h
    rfl
  · obtain ⟨D, L, n, rfl, dl, n0, n1, k⟩ := h
    have hu := hr.units
    refine ⟨_, pss_cons (ps_while PassesOwn.never (PW.pt (pw_and (pt_cmpR (op_neD hu) (pe_ix ix_list (pv 0) pe_int (fun _ _ => rfl)) (pe_lst pa_nil) (nomark _)) (pw_and1 (pt_cmpR op_eq (pe_ix ix_list (pe_ix ix_list (pv 0) pe_int (fun _ _ => rfl)) (pe_un un_neg pe_int) (fun _ _ => rfl)) pe_int (nomark _)))))
        (pss_one (ps_expr (pe_bm0 PySem.F.plainAttrs_list PySem.F.slot_list_pop PySem.F.type_list_pop mt_pop (pe_ix ix_list (pv 0) pe_int (fun _ _ => rfl))))))
      (pss_cons (ps_if (pt_cmpR (op_neD hu) (pe_ix ix_list (pv 0) pe_int (fun _ _ => rfl)) (pe_lst pa_nil) (nomark _))
        (pss_cons (ps_set (i := 2) sc_draw.nd rfl (Or.inl rfl) (pe_bm0 PySem.F.plainAttrs_list PySem.F.slot_list_pop PySem.F.type_list_pop mt_pop (pe_ix ix_list (pv 0) pe_int (fun _ _ => rfl))))
        (pss_cons (ps_expr (pe_bm PySem.F.plainAttrs_list PySem.F.slot_list_append PySem.F.type_list_append mt_append (pe_ix ix_list (pv 0) pe_int (fun _ _ => rfl)) (pa_cons (pe_op op_fdivW (pv 2) (pv 1)) pa_nil)))
        (pss_one (ps_ret (pe_op op_mod (pe_callTy call_int1 (by rfl) mInt PyProof.Rows.boot_int (pa_cons (pv 2) pa_nil)) (pv 1)))))) pss_nil)
      (pss_cons (ps_asg (pe_op op_mod (pe_callTy call_int1 (by rfl) mInt PyProof.Rows.boot_int (pa_cons (pe_op op_add (pe_op op_mul (pe_ix ix_list (pv 0) pe_int (fun _ _ => rfl)) pe_int) pe_int) pa_nil)) pe_int) (pg_sub (pv 0) pe_int set_list))
      (pss_one (ps_ret (pe_op op_mod (pe_callTy call_int1 (by rfl) mInt PyProof.Rows.boot_int (pa_cons (pe_op op_fdivW (pe_ix ix_list (pv 0) pe_int (fun _ _ => rfl)) pe_int) pa_nil)) (pv 1)))))), ?_⟩
    obtain ⟨cs0, m0, g1, g2, g3, g4, g5, g6⟩ := dl.ex
    -- while
    refine ⟨fun m σ H' => ∃ cs : List Int, σ = [some (.ref D), some (.int n), none] ∧ m = cs.length ∧ H' D = some (.lst [.ref L, .int m0]) ∧ H' L = some (.lst (cs.map V.int)) ∧ cs.length ≤ 60 ∧ (∀ c ∈ cs, 0 ≤ c) ∧ Kept D L H H',
      ⟨_, cs0, rfl, rfl, g1, g2, g3, g4, Kept.refl⟩, ?_⟩
    rintro m σ H1 ⟨cs, rfl, rfl, h1, h2, h3, h4, hk⟩
    have hDL : D ≠ L := deal_ne h1 h2
    refine ⟨_, rfl, D, _, 0, _, rfl, rfl, SqL.of h1, rfl, Nat.zero_le _, fun p hp => ?_⟩
    have pD : D ≠ p := ne_of_none h1 hp
    have pL : L ≠ p := ne_of_none h2 hp
    have h1' : upd H1 p (.lst []) D = some (.lst [.ref L, .int m0]) := by rw [upd_ne pD]; exact h1
    have h2' : upd H1 p (.lst []) L = some (.lst (cs.map V.int)) := by rw [upd_ne pL]; exact h2
    refine ne_nil (SqL.of h2') upd_same ⟨_, rfl, ?_⟩
    have ix0 : ∀ (R : V → Hp → Prop), R (.ref L) (upd H1 p (.lst [])) → (∃ v, ([some (V.ref D), some (V.int n), none] : L2.St)[0]? = some (some v) ∧ rIxL K v (.int 0) (upd H1 p (.lst [])) R) := fun R r => ⟨_, rfl, D, _, 0, _, rfl, rfl, SqL.of h1', rfl, r⟩
    cases e : cs.isEmpty with
    | true =>
      refine iteF (iteF ?_)
      have ec : cs = [] := List.isEmpty_iff.mp e
      subst ec
      -- if
      refine ⟨_, rfl, D, _, 0, _, rfl, rfl, SqL.of h1', rfl, Nat.zero_le _, fun q hq => ?_⟩
      have qD : D ≠ q := ne_of_none h1' hq
      have qL : L ≠ q := ne_of_none h2' hq
      have h1'' : upd (upd H1 p (.lst [])) q (.lst []) D = some (.lst [.ref L, .int m0]) := by rw [upd_ne qD]; exact h1'
      have h2'' : upd (upd H1 p (.lst [])) q (.lst []) L = some (.lst (([] : List Int).map V.int)) := by rw [upd_ne qL]; exact h2'
      refine ne_nil (SqL.of h2'') upd_same ⟨_, rfl, iteF ?_⟩
      have hk2 := (hk.new hp (o := .lst [])).new hq (o := .lst [])
      refine ⟨_, rfl, D, _, 1, _, rfl, rfl, SqL.of h1'', rfl, _, _, rfl, rfl, Or.inr ⟨by decide, by decide⟩, _, _, rfl, rfl, Or.inl ⟨_, rfl, _, _, rfl, rfl, (by show (0 : Int) < 2147483647; decide), ?_⟩⟩
      refine ⟨_, rfl, D, _, 1, 1, rfl, rfl, h1'', rfl, ?_⟩
      have r1 : 0 ≤ (m0 * 48271 + 31) % 2147483647 := Int.emod_nonneg _ (by decide)
      have r2 : (m0 * 48271 + 31) % 2147483647 < 2147483647 := Int.emod_lt_of_pos _ (by decide)
      refine ⟨_, rfl, D, _, 1, _, rfl, rfl, SqL.of upd_same, rfl, _, _, rfl, rfl, wide_div (b := 60) (by decide) (by decide) (by decide) (by decide), Or.inl ⟨_, rfl, _, rfl, _, _, rfl, rfl, n0, ?_⟩⟩
      refine k _ _ (Int.emod_nonneg _ (by omega)) (Int.emod_lt_of_pos _ n0) ⟨⟨[], _, upd_same, (by rw [upd_ne hDL.symm]; exact h2''), by decide, (fun c hc => by cases hc), r1, r2⟩, hk2.atD⟩
    | false =>
      refine iteT ?_
      obtain ⟨ds, d, rfl⟩ := cs_last e
      have em : (ds ++ [d]).map V.int = ds.map V.int ++ [V.int d] := List.map_append
      rw [em] at h2 h2'
      have hds : ds.length ≤ 60 := by rw [List.length_append] at h3; omega
      have hdn : ∀ c ∈ ds, 0 ≤ c := fun c hc => h4 c (List.mem_append_left _ hc)
      have hd0 : 0 ≤ d := h4 d (List.mem_append_right _ (List.mem_singleton.mpr rfl))
      refine ⟨_, rfl, D, _, 0, _, rfl, rfl, SqL.of h1', rfl, _, rfl, L, _, -1, _, rfl, rfl, SqL.of h2', atI_last _ _, rfl, _, rfl, ?_⟩
      have tyL : tyV K "list" (.ref L) (upd H1 p (.lst [])) := .inl ⟨rfl, _, SqL.of h2'⟩
      have hg : (ds.map V.int ++ [V.int d])[(ds.map V.int ++ [V.int d]).length - 1]? = some (V.int d) := by
        rw [List.length_append, List.length_singleton, Nat.add_sub_cancel, List.getElem?_append_right (Nat.le_refl _), Nat.sub_self]
        rfl
      have hdl : (ds.map V.int ++ [V.int d]).dropLast = ds.map V.int := List.dropLast_concat
      refine ite2 (fun _ => ?_) (fun _ => ?_)
      · -- pop
        refine ⟨fun σ' H' => ∃ cs : List Int, σ' = [some (.ref D), some (.int n), none] ∧ cs.length = ds.length ∧ H' D = some (.lst [.ref L, .int m0]) ∧ H' L = some (.lst (cs.map V.int)) ∧ cs.length ≤ 60 ∧ (∀ c ∈ cs, 0 ≤ c) ∧ Kept D L H H', ?_, ?_⟩
        · rintro σ' H' ⟨cs, rfl, el, r⟩
          exact ⟨_, by rw [List.length_append, List.length_singleton, ← el]; exact Nat.lt_succ_self _, cs, rfl, rfl, r⟩
        · refine ⟨_, rfl, D, _, 0, _, rfl, rfl, SqL.of h1', rfl, tyL, L, _, _, rfl, rfl, h2', hg, ?_⟩
          exact ⟨ds, rfl, rfl, by rw [upd_ne hDL]; exact h1', by rw [upd_same, hdl], hds, hdn, (hk.new hp).atL⟩
      · -- if
        refine ⟨_, rfl, D, _, 0, _, rfl, rfl, SqL.of h1', rfl, Nat.zero_le _, fun q hq => ?_⟩
        have qD : D ≠ q := ne_of_none h1' hq
        have qL : L ≠ q := ne_of_none h2' hq
        have h1'' : upd (upd H1 p (.lst [])) q (.lst []) D = some (.lst [.ref L, .int m0]) := by rw [upd_ne qD]; exact h1'
        have h2'' : upd (upd H1 p (.lst [])) q (.lst []) L = some (.lst (ds.map V.int ++ [V.int d])) := by rw [upd_ne qL]; exact h2'
        have hk2 := (hk.new hp (o := .lst [])).new hq (o := .lst [])
        refine ne_nil (cs := ds ++ [d]) (SqL.of (by rw [em]; exact h2'')) upd_same ⟨_, rfl, ?_⟩
        rw [e]
        refine iteT ?_
        have tyL2 : tyV K "list" (.ref L) (upd (upd H1 p (.lst [])) q (.lst [])) := .inl ⟨rfl, _, SqL.of h2''⟩
        refine ⟨_, rfl, D, _, 0, _, rfl, rfl, SqL.of h1'', rfl, tyL2, L, _, _, rfl, rfl, h2'', hg, ?_⟩
        rw [hdl]
        have h1m : upd (upd (upd H1 p (.lst [])) q (.lst [])) L (.lst (ds.map V.int)) D = some (.lst [.ref L, .int m0]) := by rw [upd_ne hDL]; exact h1''
        have tyL3 : tyV K "list" (.ref L) (upd (upd (upd H1 p (.lst [])) q (.lst [])) L (.lst (ds.map V.int))) := .inl ⟨rfl, _, SqL.of upd_same⟩
        refine ⟨_, rfl, D, _, 0, _, rfl, rfl, SqL.of h1m, rfl, tyL3, _, rfl, _, rfl, _, _, rfl, rfl, ⟨n0, ?_⟩, L, _, _, rfl, rfl, upd_same, (small1000 (by rw [List.length_map]; omega)), ?_⟩
        · exact (wide_div (i := 0) (b := 64) n0 (by omega) (by decide) (by decide)).2
        refine ⟨_, rfl, Or.inl ⟨_, rfl, _, rfl, _, _, rfl, rfl, n0, ?_⟩⟩
        refine k _ _ (Int.emod_nonneg _ (by omega)) (Int.emod_lt_of_pos _ n0) ⟨⟨ds ++ [d / n], m0, (by rw [upd_ne hDL]; exact h1m), (by rw [upd_same, List.map_append]; rfl), (by rw [List.length_append, List.length_singleton]; rw [List.length_append, List.length_singleton] at h3; exact h3), ?_, g5, g6⟩, hk2.atL.atL⟩
        intro c hc
        rcases List.mem_append.mp hc with hc | hc
        · exact hdn c hc
        · rw [List.mem_singleton.mp hc]
          exact fdiv_nonneg hd0 n0

abbrev sDeal : Stmt := (top 26)
theorem sc_deal : FnScope ["_law_script", "_law_cell", "_law_cells", "_law_mixed_here"] ["_law_script"] (C8.fnScope sDeal) := C8.fnScope_by (by decide +kernel)
theorem cal_deal {f : Addr} {fd : FuncData} (F : C8.Def K mg "_law_deal" sDeal f fd) (df : fd.defaults = .none) (mInt : mg "int" = none) (mAbs : mg "abs" = none) : C8.Cal P w K mg base 1 "_law_deal" (spDeal K) [] := by
  refine C8.cal0 F (C8.Fun.binds F.fn df (ps := ["_law_script"]) fun _ _ _ _ _ _ us hl => match us, hl with | [_], _ => rfl) .nil sc_deal (fun vs H Q E h => ?_) (fun cdv A outer s H vs Q E hr h => ?_)
  · obtain ⟨a, ns, rfl, _⟩ := h
    rfl
  · obtain ⟨a, ns, rfl, hS, hl, k⟩ := h
    refine ⟨_, pss_cons (ps_par (i := 2) (j := 3) (by rfl) sc_deal.nd rfl rfl (by decide) rfl rfl (pa_cons
          (pe_lc (own := [("_law_cell", 1)]) (g := gName 1) (by rfl) sc_deal.nd (pi_list (pe_slice sl_list (pv 0) po_none (po_some pe_int))) (blkOk_by (own := [("_law_cell", 1)]) (N := ["_law_script", "_law_cell", "_law_cells", "_law_mixed_here"]) (sc := C8.fnScope sDeal) (by decide +kernel)) (fun _ _ _ _ _ => pg_name (i := 1) sc_deal.nd rfl (Or.inl rfl)) (fun _ _ _ _ _ => pts_nil)
            (fun _ _ _ _ _ => pe_callB call_abs (by rfl) mAbs PyProof.Rows.boot_abs (pa_cons (pv 1) pa_nil)))
          (pa_cons pe_int pa_nil)) (by rfl))
      (pss_cons (ps_for PassesOwn.never rfl (pi_list (pv 2)) (pg_name (i := 1) sc_deal.nd rfl (Or.inl rfl))
        (pss_one (ps_set (i := 3) sc_deal.nd rfl (Or.inl rfl) (pe_op op_mod (pe_callTy call_int1 (by rfl) mInt PyProof.Rows.boot_int (pa_cons (pe_op op_add (pe_op op_mul (pv 3) pe_int) (pe_op op_mod (pe_callTy call_int1 (by rfl) mInt PyProof.Rows.boot_int (pa_cons (pv 1) pa_nil)) pe_int)) pa_nil)) pe_int))))
      (pss_one (ps_ret (pe_lst (pa_cons (pe_revL (pe_lc (own := [("_law_cell", 1)]) (g := gName 1) (by rfl) sc_deal.nd (pi_list (pv 2)) (blkOk_by (own := [("_law_cell", 1)]) (N := ["_law_script", "_law_cell", "_law_cells", "_law_mixed_here"]) (sc := C8.fnScope sDeal) (by decide +kernel)) (fun _ _ _ _ _ => pg_name (i := 1) sc_deal.nd rfl (Or.inl rfl)) (fun _ _ _ _ _ => pts_one (pt_cmpR op_ge (pv 1) (pe_op op_pow pe_int pe_int) (nomark _)))
            (fun _ _ _ _ _ => (pv 1)))) (pa_cons (pv 3) pa_nil)))))), ?_⟩
    have hd0 : ∀ {p d : Addr} {o : HO}, H p = none → upd H p o d = none → H d = none := fun {p d o} hp hd => by
      by_cases e : d = p
      · rw [e]; exact hp
      · rw [upd_ne e] at hd; exact hd
    refine ⟨_, rfl, _, rfl, a, _, rfl, hS, fun p hp => ⟨p, rfl, ⟨_, SqL.of upd_same⟩, fun d hd => lc_list (K := K) (a := p) (xs := (ns.take 60).map V.int)
      (fun i H' => ∃ cs : List Int, H' d = some (.lst (cs.map V.int)) ∧ cs.length ≤ i ∧ (∀ c ∈ cs, 0 ≤ c) ∧ H' p = some (.lst ((ns.take 60).map V.int)) ∧ Same H H') ?_ (fun i H' _ h => SqL.of h.choose_spec.2.2.2.1) ?_ ?_⟩⟩
    · rw [show cutV (ns.map V.int) none (some 60) = (ns.take 60).map V.int from cut_to V.int ns 60] at hd ⊢
      have hpd : p ≠ d := fun e => by
        rw [← e, upd_same] at hd
        cases hd
      exact ⟨[], upd_same, Nat.le_refl _, (fun c hc => by cases hc), by rw [upd_ne hpd, upd_same], same_upd_new (same_upd_new (Same.refl _) hp) (hd0 hp hd)⟩
    · rintro i y H1 hi ⟨cs, h1, h2, h3, h4, h5⟩
      obtain ⟨u, rfl, hu⟩ := map_at hi
      have hi60 : i < 60 := by
        have := at_lt hu
        rw [List.length_take] at this
        omega
      refine ⟨rfl, yes_ ?_⟩
      refine ⟨_, rfl, _, rfl, _, h1, small1000 (by rw [List.length_map]; omega), cs ++ [if u < 0 then -u else u], ?_, ?_, ?_, ?_, ?_⟩
      · rw [upd_same, List.map_append]
        rfl
      · rw [List.length_append, List.length_singleton]
        omega
      · intro c hc
        rcases List.mem_append.mp hc with hc | hc
        · exact h3 c hc
        · rw [List.mem_singleton.mp hc]
          exact abs_nn u
      · rw [upd_ne (ne_of h4 h1 (by
          intro e
          have e := HO.lst.inj e
          have : (List.map V.int (ns.take 60)).length = (List.map V.int cs).length := by rw [e]
          rw [List.length_map, List.length_map] at this
          have := at_lt hu
          omega))]
        exact h4
      · exact same_upd_new h5 (hd0 hp hd)
    · rintro H1 ⟨cs, h1, h2, h3, h4, h5⟩
      have hc60 : cs.length ≤ 60 := by
        rw [List.length_map, List.length_take] at h2
        omega
      have nd : H d = none := hd0 hp hd
      -- the small number
      refine ⟨_, _, rfl, ?_⟩
      refine ⟨_, rfl, d, rfl, ⟨_, SqL.of h1⟩, for_list (K := K) (a := d) (xs := cs.map V.int)
        (fun i σ H' => ∃ (v : Option V) (m : Int), σ = [some (.ref a), v, some (.ref d), some (.int m)] ∧ 0 ≤ m ∧ m < 2147483647 ∧ H' = H1) ⟨_, _, rfl, by decide, by decide, rfl⟩ (fun i σ H' _ h => by obtain ⟨_, _, _, _, _, rfl⟩ := h; exact SqL.of h1) ?_ ?_⟩
      · rintro i y σ H' hi ⟨v, m, rfl, m0, m1, rfl⟩
        obtain ⟨u, rfl, hu⟩ := map_at hi
        refine ⟨_, rfl, _, _, rfl, rfl, Or.inl ⟨by omega, by omega⟩, _, rfl, Or.inl ⟨_, rfl, _, _, rfl, rfl, (by show (0 : Int) < 2147483629; decide), _, _, rfl, rfl, Or.inl ⟨_, rfl, _, _, rfl, rfl, (by show (0 : Int) < 2147483647; decide), ?_⟩⟩⟩
        exact ⟨_, _, rfl, Int.emod_nonneg _ (by decide), Int.emod_lt_of_pos _ (by decide), rfl⟩
      · rintro σ H' ⟨v, m, rfl, m0, m1, rfl⟩
        refine ⟨_, rfl, d, rfl, ⟨_, SqL.of h1⟩, fun e he => lc_list (K := K) (a := d) (xs := cs.map V.int)
          (fun i H2 => ∃ es : List Int, H2 e = some (.lst (es.map V.int)) ∧ es.length ≤ i ∧ (∀ c ∈ es, 0 ≤ c) ∧ H2 d = some (.lst (cs.map V.int)) ∧ Same H H2) ?_ (fun i H2 _ h => SqL.of h.choose_spec.2.2.2.1) ?_ ?_⟩
        · exact ⟨[], upd_same, Nat.le_refl _, (fun c hc => by cases hc), by rw [upd_ne (ne_of_none h1 he)]; exact h1, Same.new h5 he⟩
        · rintro i y H2 hi ⟨es, j1, j2, j3, j4, j5⟩
          obtain ⟨u, rfl, hu⟩ := map_at hi
          have hne : d ≠ e := fun q => by
            rw [← q, h1] at he
            cases he
          have he0 : H e = none := h5.free he
          refine ⟨rfl, ?_⟩
          refine ⟨_, rfl, _, _, rfl, rfl, ⟨by decide, by decide, by decide⟩, _, _, rfl, rfl, _, rfl, ?_⟩
          refine ite2 (fun _ => ?_) (fun _ => ⟨es, j1, by omega, j3, j4, j5⟩)
          have := at_lt hu
          refine ⟨_, rfl, _, j1, small1000 (by rw [List.length_map]; omega), es ++ [u], by rw [upd_same, List.map_append]; rfl, by rw [List.length_append, List.length_singleton]; omega, ?_, by rw [upd_ne hne]; exact j4, same_upd_new j5 he0⟩
          intro c hc
          rcases List.mem_append.mp hc with hc | hc
          · exact j3 c hc
          · rw [List.mem_singleton.mp hc]
            exact h3 u (at_mem hu)
        · rintro H2 ⟨es, j1, j2, j3, j4, j5⟩
          rw [List.length_map] at j2
          refine ⟨e, _, rfl, SqL.of j1, fun q hq => ⟨_, rfl, (by show 2 ≤ sizeLine; decide), fun r hr => ?_⟩⟩
          have hq0 : H q = none := j5.free hq
          have hqr : q ≠ r := fun z => by
            rw [← z, upd_same] at hr
            cases hr
          have hr0 : H2 r = none := by
            rw [upd_ne hqr.symm] at hr
            exact hr
          refine k r q _ ⟨es.reverse, m, upd_same, ?_, by rw [List.length_reverse]; omega, fun c hc => j3 c (List.mem_reverse.mp hc), m0, m1⟩ (Same.new (Same.new j5 hq) hr) (j5.free hr0) hq0
          rw [upd_ne hqr, upd_same, List.map_reverse]
end
end Ts

namespace Ts
open PySem L2
section
variable {P : Program} {w : World} {K : PySem.W.Frag} {mg : Str → Option Value} {base : Heap}
abbrev sPick : Stmt := (top 28)
theorem sc_pick : FnScope ["_law_deal_here", "_law_some"] ["_law_deal_here", "_law_some"] (C8.fnScope sPick) := C8.fnScope_by (by decide +kernel)
theorem cal_pick {f : Addr} {fd : FuncData} (F : C8.Def K mg "_law_pick" sPick f fd) (df : fd.defaults = .none) (mLen : mg "len" = none) (cD : C8.Cal P w K mg base 1 "_law_draw" spDraw []) : C8.Cal P w K mg base 2 "_law_pick" (spPick K) [] := by
  refine C8.cal0 F (C8.Fun.binds F.fn df (ps := ["_law_deal_here", "_law_some"]) fun _ _ _ _ _ _ us hl => match us, hl with | [_, _], _ => rfl) .nil sc_pick (fun vs H Q E h => ?_) (fun cdv A outer s H vs Q E hr h => ?_)
  · obtain ⟨D, L, a, xs, rfl, _⟩ := h
    rfl
  · obtain ⟨D, L, a, xs, rfl, dl, hS, a1, a2, l1, l2, k⟩ := h
    refine ⟨_, pss_one (ps_ret (pe_ix ix_list (pv 1) (C8.pe_c cD hr (by decide) (by rfl) (pa_cons (pv 0) (pa_cons (pe_callB call_len_seq (by rfl) mLen PySem.boot_len (pa_cons (pv 1) pa_nil)) pa_nil))) (fun _ _ => rfl))), ?_⟩
    refine ⟨_, rfl, _, rfl, _, rfl, a, _, rfl, .inl hS, D, L, _, rfl, dl, by omega, by omega, fun d H' d0 d1 W => ?_⟩
    obtain ⟨j, rfl⟩ := Int.eq_ofNat_of_zero_le d0
    have hj : j < xs.length := by omega
    exact ⟨a, xs, _, xs[j], rfl, rfl, W.k.seq a1 a2 hS, atI_nat (List.getElem?_eq_getElem hj), k _ _ (List.getElem_mem hj) W⟩
abbrev sMixed : Stmt := (top 29)
theorem sc_mixed : FnScope ["_law_deal_here", "_law_some", "_law_others", "_law_found"] ["_law_deal_here", "_law_some"] (C8.fnScope sMixed) := C8.fnScope_by (by decide +kernel)
theorem cal_mixed {f : Addr} {fd : FuncData} (F : C8.Def K mg "_law_mixed" sMixed f fd) (df : fd.defaults = .none) (mLen : mg "len" = none) (mList : mg "list" = none) (cD : C8.Cal P w K mg base 1 "_law_draw" spDraw []) : C8.Cal P w K mg base 2 "_law_mixed" (spMixed K) [] := by
  refine C8.cal0 F (C8.Fun.binds F.fn df (ps := ["_law_deal_here", "_law_some"]) fun _ _ _ _ _ _ us hl => match us, hl with | [_, _], _ => rfl) .nil sc_mixed (fun vs H Q E h => ?_) (fun cdv A outer s H vs Q E hr h => ?_)
  · obtain ⟨D, L, a, xs, rfl, _⟩ := h
    rfl
  · obtain ⟨D, L, a, xs, rfl, dl, hS, a1, a2, l1, l2, k⟩ := h
    have hu := hr.units
    refine ⟨_, pss_cons (ps_par (i := 2) (j := 3) (by rfl) sc_mixed.nd rfl rfl (by decide) rfl rfl (pa_cons (pe_callTy call_list_of (by rfl) mList PyProof.Rows.boot_list (pa_cons (pv 1) pa_nil)) (pa_cons (pe_lst pa_nil) pa_nil)) (by rfl))
      (pss_cons (ps_while PassesOwn.never (pt_cmpR (op_neD hu) (pv 2) (pe_lst pa_nil) (nomark _))
        (pss_one (ps_expr (pe_bm PySem.F.plainAttrs_list PySem.F.slot_list_append PySem.F.type_list_append mt_append (pv 3) (pa_cons (pe_bm PySem.F.plainAttrs_list PySem.F.slot_list_pop PySem.F.type_list_pop mt_popAt (pv 2)
          (pa_cons (C8.pe_c cD hr (by decide) (by rfl) (pa_cons (pv 0) (pa_cons (pe_callB call_len_seq (by rfl) mLen PySem.boot_len (pa_cons (pv 2) pa_nil)) pa_nil))) pa_nil)) pa_nil)))))
      (pss_one (ps_ret (pv 3)))), ?_⟩
    refine ⟨_, rfl, a, _, rfl, .inl hS, fun o ho => ⟨Nat.zero_le _, fun q hq => ⟨_, _, rfl, ?_⟩⟩⟩
    have oq : o ≠ q := fun z => by
      rw [← z, upd_same] at hq
      cases hq
    have hq0 : H q = none := by
      rw [upd_ne oq.symm] at hq
      exact hq
    have oD := off_new dl ho
    have qD := off_new dl hq0
    refine ⟨fun m σ H' => ∃ (us ys : List V), σ = [some (.ref D), some (.ref a), some (.ref o), some (.ref q)] ∧ m = us.length ∧ H' o = some (.lst us) ∧ H' q = some (.lst ys) ∧ (ys ++ us).Perm xs ∧ Went D L H H',
      ⟨_, xs, [], rfl, rfl, by rw [upd_ne oq, upd_same], upd_same, List.Perm.refl _, ⟨dl.same (Same.new (Same.new (Same.refl _) ho) hq), (Kept.refl.new ho).new hq⟩⟩, ?_⟩
    rintro m σ H1 ⟨us, ys, rfl, rfl, h1, h2, hp, W⟩
    have hall : ∀ v ∈ ys ++ us, okV v = true := fun v hv => List.all_eq_true.mp l1 v (hp.mem_iff.mp hv)
    have hok : us.all okV = true := List.all_eq_true.mpr fun v hv => hall v (List.mem_append_right _ hv)
    have hlen : ys.length + us.length = xs.length := by
      have := hp.length_eq
      rw [List.length_append] at this
      exact this
    refine ⟨_, rfl, Nat.zero_le _, fun r hr' => ?_⟩
    have ro := ne_of_none h1 hr'
    have rq := ne_of_none h2 hr'
    have h1' : upd H1 r (.lst []) o = some (.lst us) := by rw [upd_ne ro]; exact h1
    have h2' : upd H1 r (.lst []) q = some (.lst ys) := by rw [upd_ne rq]; exact h2
    have W' : Went D L H (upd H1 r (.lst [])) := W.new hr'
    refine ne_nilF (SqL.of h1') hok upd_same ⟨_, rfl, ?_⟩
    cases e : us.isEmpty with
    | true =>
      refine iteF ?_
      rw [List.isEmpty_iff.mp e, List.append_nil] at hp
      exact ⟨_, rfl, k q ys _ hp W' hq0 h2'⟩
    | false =>
      refine iteT ?_
      refine ⟨fun σ' H' => ∃ (us' ys : List V), σ' = [some (.ref D), some (.ref a), some (.ref o), some (.ref q)] ∧ us'.length < us.length ∧ H' o = some (.lst us') ∧ H' q = some (.lst ys) ∧ (ys ++ us').Perm xs ∧ Went D L H H',
        fun σ' H' ⟨us', ys, e1, e2, r⟩ => ⟨_, e2, us', ys, e1, rfl, r⟩, ?_⟩
      have hu0 : 0 < us.length := by
        cases us with
        | nil => cases e
        | cons u us => exact Nat.succ_pos _
      refine ⟨_, rfl, .inl ⟨rfl, _, SqL.of h2'⟩, _, rfl, .inl ⟨rfl, _, SqL.of h1'⟩, _, rfl, _, rfl, o, _, rfl, .inl (SqL.of h1'), D, L, _, rfl, W'.d, by omega, by omega, fun d H2 d0 d1 W2 => ?_⟩
      obtain ⟨j, rfl⟩ := Int.eq_ofNat_of_zero_le d0
      have hj : j < us.length := by omega
      have hj' : us[j]? = some us[j] := List.getElem?_eq_getElem hj
      have g1 := W2.k _ _ oD.1 oD.2 h1'
      have g2 := W2.k _ _ qD.1 qD.2 h2'
      refine ⟨o, us, _, j, us[j], rfl, rfl, g1, by omega, by omega, seqIndex_nat hj, hj', q, ys, _, rfl, rfl, by rw [upd_ne oq.symm]; exact g2, small1000 (by omega), ?_⟩
      refine ⟨us.eraseIdx j, ys ++ [us[j]], rfl, by rw [List.length_eraseIdx_of_lt hj]; omega, by rw [upd_ne oq, upd_same], upd_same, ?_, ?_⟩
      · rw [List.append_assoc]
        exact ((erase_perm hj').append_left ys).trans hp
      · have W3 := W'.trans W2
        refine ⟨?_, fun b u b1 b2 hb => ?_⟩
        · obtain ⟨cs, m, e1, e2, rr⟩ := W3.d.ex
          exact ⟨cs, m, by rw [upd_ne qD.1.symm, upd_ne oD.1.symm]; exact e1, by rw [upd_ne qD.2.symm, upd_ne oD.2.symm]; exact e2, rr⟩
        · rw [upd_ne (ne_of_none hb hq0), upd_ne (ne_of_none hb ho)]
          exact W3.k _ _ b1 b2 hb
end
end Ts

namespace Ts
open PySem L2
section
variable {P : Program} {w : World} {K : PySem.W.Frag} {mg : Str → Option Value} {base : Heap}
abbrev sIsInt : Stmt := (top 7)
theorem sc_isInt : FnScope ["value"] ["value"] (C8.fnScope sIsInt) := C8.fnScope_by (by decide +kernel)
theorem cal_isInt {f : Addr} {fd : FuncData} (F : C8.Def K mg "is_integer" sIsInt f fd) (df : fd.defaults = .none) (mIsi : mg "isinstance" = none) (mInt : mg "int" = none) (mBool : mg "bool" = none) : C8.Cal P w K mg base 1 "is_integer" (spIsInt K) [] := by
  refine C8.cal0 F (C8.Fun.binds F.fn df (ps := ["value"]) fun _ _ _ _ _ _ us hl => match us, hl with | [_], _ => rfl) .nil sc_isInt (fun vs H Q E h => ?_) (fun cdv A outer s H vs Q E hr h => ?_)
  · obtain ⟨v, k, rfl, _⟩ := h
    rfl
  · obtain ⟨v, k, rfl, ⟨⟨t, tx, t1, t2, t3, t4, t5⟩, _, _⟩, q⟩ := h
    refine ⟨_, pss_one (ps_ret (pe_and (pe_callB call_isi (by rfl) mIsi PyProof.Rows.boot_isinstance (pa_cons (pv 0) (pa_cons (pe_bltn (v := .ty "int") (by rfl) mInt PyProof.Rows.boot_int rfl) pa_nil)))
      (pe_one (pe_not (pe_callB call_isi (by rfl) mIsi PyProof.Rows.boot_isinstance (pa_cons (pv 0) (pa_cons (pe_bltn (v := .ty "bool") (by rfl) mBool PyProof.Rows.boot_bool rfl) pa_nil))))))), ?_⟩
    refine ⟨_, rfl, _, _, t, _, _, rfl, .ty _, tx, t1, _, rfl, ?_⟩
    cases k <;> first | exact iteF q | (refine iteT ⟨_, rfl, _, _, t, _, _, rfl, .ty _, tx, t2, _, rfl, ?_⟩; exact q)
abbrev sIsCount : Stmt := (top 8)
theorem sc_isCount : FnScope ["value"] ["value"] (C8.fnScope sIsCount) := C8.fnScope_by (by decide +kernel)
theorem cal_isCount {f : Addr} {fd : FuncData} (F : C8.Def K mg "is_count" sIsCount f fd) (df : fd.defaults = .none) (cI : C8.Cal P w K mg base 1 "is_integer" (spIsInt K) []) : C8.Cal P w K mg base 2 "is_count" (spIsCount K) [] := by
  refine C8.cal0 F (C8.Fun.binds F.fn df (ps := ["value"]) fun _ _ _ _ _ _ us hl => match us, hl with | [_], _ => rfl) .nil sc_isCount (fun vs H Q E h => ?_) (fun cdv A outer s H vs Q E hr h => ?_)
  · obtain ⟨v, k, rfl, _⟩ := h
    rfl
  · obtain ⟨v, k, rfl, ty, q⟩ := h
    refine ⟨_, pss_one (ps_ret (pe_and (C8.pe_c cI hr (by decide) (by rfl) (pa_cons (pv 0) pa_nil)) (pe_one (pe_cmpR op_ge (pv 0) pe_int (nomark _))))), ?_⟩
    refine ⟨_, rfl, v, k, rfl, ty, _, rfl, ?_⟩
    by_cases e : k = .int
    · obtain ⟨i, rfl⟩ := ty.i1 e
      rw [decide_eq_true e] at q ⊢
      refine iteT ⟨_, rfl, _, _, rfl, rfl, ?_⟩
      exact q
    · rw [decide_eq_false e] at q ⊢
      exact iteF q
end
end Ts

namespace Ts
open PySem L2
section
variable {P : Program} {w : World} {K : PySem.W.Frag} {mg : Str → Option Value} {base : Heap}
abbrev sIsName : Stmt := (top 9)
theorem sc_isName : FnScope ["value", "sign"] ["value"] (C8.fnScope sIsName) := C8.fnScope_by (by decide +kernel)
theorem cal_isName {f TN : Addr} {fd : FuncData} (F : C8.Def K mg "is_name" sIsName f fd) (df : fd.defaults = .none) (mIsi : mg "isinstance" = none) (mStr : mg "str" = none) (mLen : mg "len" = none) (mAll : mg "all" = none)
    (mNo : mg "NO_NAMES" = some (.ref TN)) (hNo : ∀ H, SqT K H TN noNames) (mMost : ∃ u, mg "MOST_LETTERS" = some u ∧ RelV (.int 4) u) (mLet : ∃ u, mg "LETTERS" = some u ∧ RelV (.str letters) u) : C8.Cal P w K mg base 1 "is_name" (spIsName K) [] := by
  refine C8.cal0 F (C8.Fun.binds F.fn df (ps := ["value"]) fun _ _ _ _ _ _ us hl => match us, hl with | [_], _ => rfl) .nil sc_isName (fun vs H Q E h => ?_) (fun cdv A outer s H vs Q E hr h => ?_)
  · obtain ⟨v, rfl, _⟩ := h
    rfl
  · obtain ⟨v, rfl, ⟨k, ⟨⟨t, tx, t1, t2, t3, t4, t5⟩, _, hs⟩, hlen⟩, q⟩ := h
    refine ⟨_, pss_cons (ps_if (PW.pt (pw_or (pt_not (pt_val (pe_callB call_isi (by rfl) mIsi PyProof.Rows.boot_isinstance (pa_cons (pv 0) (pa_cons (pe_bltn (v := .ty "str") (by rfl) mStr PyProof.Rows.boot_str rfl) pa_nil)))))
        (pw_or1 (pt_cmpR op_in_seq (pv 0) (pe_glob (v := .ref TN) (by rfl) mNo rfl) (by rfl))))) (pss_one (ps_ret pe_bl)) pss_nil)
      (pss_one (ps_ret (pe_and (pe_chain op_le op_le pe_int (pe_callB call_len_str (by rfl) mLen PySem.boot_len (pa_cons (pv 0) pa_nil)) (C8.pe_gc (v := .int 4) (by rfl) mMost))
        (pe_one (pe_callB (cr_all (by rfl)) (by rfl) mAll PyProof.Rows.boot_all (pa_cons
            (pe_lc (own := [("sign", 1)]) (g := gName 1) (by rfl) sc_isName.nd (pi_str (pv 0)) (blkOk_by (own := [("sign", 1)]) (N := ["value", "sign"]) (sc := C8.fnScope sIsName) (by decide +kernel)) (fun _ _ _ _ _ => pg_name (i := 1) sc_isName.nd rfl (Or.inl rfl)) (fun _ _ _ _ _ => pts_nil)
              (fun _ _ _ _ _ => pe_cmpR op_in_sign (pv 1) (C8.pe_gc (v := .str letters) (by rfl) mLet) (by rfl))) pa_nil)))))), ?_⟩
    refine ⟨_, rfl, _, _, t, _, _, rfl, .ty _, tx, t3, _, rfl, ?_⟩
    by_cases e : k = .str
    · obtain ⟨x, rfl⟩ := hs e
      subst e
      have hx := (hlen x rfl).1
      refine iteF ⟨_, rfl, TN, _, rfl, .inr (hNo H), rfl, (by decide), _, rfl, ?_⟩
      have fin := q
      show (if inV (.str x) noNames = true then _ else _)
      cases e1 : inV (.str x) noNames with
      | true =>
        have : nameV (.str x) = false := by simp [nameV, nameB, e1]
        rw [this] at q
        exact iteT (q H (Same.refl _))
      | false =>
        refine iteF ⟨_, rfl, x, rfl, Nat.le_trans hx (by decide), _, _, rfl, rfl, _, rfl, ?_⟩
        by_cases e2 : 1 ≤ (x.length : Int)
        · rw [decide_eq_true e2]
          refine iteT ⟨_, _, rfl, rfl, _, rfl, ?_⟩
          by_cases e3 : (x.length : Int) ≤ 4
          · rw [decide_eq_true e3]
            refine iteT ⟨_, rfl, x, rfl, fun d hd => lc_it (walk_str (z := x)) (fun i H' => H' d = some (.lst (((x.cps.toList.take i).map fun c => decide (c ∈ letters.cps.toList)).map V.bl)) ∧ Same H H') ⟨upd_same, Same.new (Same.refl _) hd⟩ (fun _ _ _ _ => trivial) ?_ ?_⟩
            · rintro i y H1 H2 hi ⟨g1, g2⟩ ⟨rfl, c, hc, rfl⟩
              have hc' : x.cps.toList[i]? = some c := by simpa using hc
              refine ⟨rfl, yes_ ⟨_, rfl, c, letters, rfl, rfl, _, g1, small1000 (by rw [List.length_map, List.length_map, List.length_take]; have : x.cps.toList.length = x.length := rfl; omega), ?_, same_upd_new g2 hd⟩⟩
              rw [upd_same, List.take_add_one, hc', List.map_append, List.map_append]
              rfl
            · rintro H' ⟨g1, g2⟩
              rw [show x.cps.size = x.cps.toList.length from rfl, List.take_length] at g1
              refine ⟨d, _, rfl, SqL.of g1, ?_⟩
              have := q H' g2
              rw [show nameV (.str x) = ((x.cps.toList.map fun c => decide (c ∈ letters.cps.toList)).all id) by
                simp [nameV, nameB, e1, e2, e3, List.all_map]] at this
              exact this
          · rw [decide_eq_false e3]
            have : nameV (.str x) = false := by simp [nameV, nameB, e3]
            rw [this] at q
            exact iteF (q H (Same.refl _))
        · rw [decide_eq_false e2]
          have : nameV (.str x) = false := by simp [nameV, nameB, e2]
          rw [this] at q
          exact iteF ⟨_, rfl, iteF (q H (Same.refl _))⟩
    · have hk : k.inS = false := by cases k <;> first | rfl | exact absurd rfl e
      rw [hk]
      refine iteT (iteT ?_)
      have : nameV v = false := by
        cases v with
        | str x =>
          obtain ⟨t', tx', u1, u2, u3, u4, u5⟩ : ∃ t', TyX K H (.str x) t' ∧ PySem.W.kitOne K t' (.type "int") = some false ∧ PySem.W.kitOne K t' (.type "bool") = some false ∧ PySem.W.kitOne K t' (.type "str") = some true ∧ True ∧ True :=
            ⟨_, .base (.str x), kit_ty (by decide +kernel), kit_ty (by decide +kernel), kit_ty (by decide +kernel), trivial, trivial⟩
          cases tx with
          | base hb =>
            cases hb
            rw [kit_ty (a := "str") (b := "str") (r := true) (by decide +kernel)] at t3
            rw [hk] at t3
            cases t3
        | _ => rfl
      rw [this] at q
      exact q H (Same.refl _)
end
end Ts

namespace Ts
open PySem L2
section
variable {P : Program} {w : World} {K : PySem.W.Frag} {mg : Str → Option Value} {base : Heap}
abbrev sXKind : Stmt := (inClass (top 13) 0)
theorem sc_xKind : FnScope ["self", "word"] ["self", "word"] (C8.fnScope sXKind) := C8.fnScope_by (by decide +kernel)
theorem err_kind {fI C : Addr} {fd : FuncData} (F : C8.Fun K "__init__" "InvalidKind.__init__" sXKind fI fd) (df : fd.defaults = .none) (T : OexC K C) (iC : PySem.W.findIn K (.ref C) "__init__" = some (some (.ref fI))) (tI : PySem.W.typeIn K (.ref fI) = some (.type "function"))
    (no : PySem.W.findIn K (.ref C) "word" = some none) (hm : mg "InvalidKind" = some (.ref C)) : Err P w K mg base "InvalidKind" C "word" := by
  refine ⟨fI, fd, ["self", "word"], T, iC, tI, ?_, C8.Fun.binds F df (ps := ["self", "word"]) fun _ _ _ _ _ _ us hl => match us, hl with | [_, _], _ => rfl, hm⟩
  refine C8.fn0 F sc_xKind (fun vs H Q E h => ?_) (fun cdv A outer s H vs Q E hr h => ?_)
  · obtain ⟨a, v, rfl, _⟩ := h
    rfl
  · obtain ⟨a, v, rfl, ha, k⟩ := h
    exact ⟨_, pss_one (ps_ost (pv 0) (pv 1) rfl), _, rfl, _, rfl, a, C, rfl, T, no, .inl ⟨ha, fun dx n ne => k dx n ne⟩⟩
abbrev sCheck : Stmt := (top 22)
theorem sc_check : FnScope ["name", "counts", "times", "word", "value"] ["name", "counts", "times"] (C8.fnScope sCheck) := C8.fnScope_by (by decide +kernel)
theorem cal_check {f CI : Addr} {fd : FuncData} (F : C8.Def K mg "check_arguments" sCheck f fd) (df : fd.defaults = .none) (eK : Err P w K mg base "InvalidKind" CI "word") (cN : C8.Cal P w K mg base 1 "is_name" (spIsName K) []) (cC : C8.Cal P w K mg base 2 "is_count" (spIsCount K) []) :
    CalX P w K mg base 3 "check_arguments" (spCheck K CI) [] := by
  refine ⟨f, fd, ["name", "counts", "times"], [], ?_, F.mgf, F.kp, C8.Fun.binds F.fn df (ps := ["name", "counts", "times"]) fun _ _ _ _ _ _ us hl => match us, hl with | [_, _, _], _ => rfl, .nil⟩
  refine fnX F.fn sc_check (fun vs H Q E h => ?_) (fun cdv A outer s H vs Q E hr h => ?_)
  · obtain ⟨nm, a, prs, tm, rfl, _⟩ := h
    rfl
  · obtain ⟨nm, a, prs, tm, rfl, hP, g1, g2, g3, k0, k1⟩ := h
    refine ⟨_, pss_cons (ps_if (pt_not (pt_val (C8.pe_c cN hr (by decide) (by rfl) (pa_cons (pv 0) pa_nil)))) (pss_one (ps_raise rfl (takes_of rfl rfl rfl rfl) (pmk_err eK hr (by decide) (by rfl) (pa_cons pe_str pa_nil)))) pss_nil)
      (pss_cons (ps_for (passes_of rfl) rfl (pi_list (pv 1)) (pg_tup rfl (pgs_cons (pg_name (i := 3) sc_check.nd rfl (Or.inl rfl)) (pgs_cons (pg_name (i := 4) sc_check.nd rfl (Or.inl rfl)) pgs_nil)))
        (pss_one (ps_if (pt_not (pt_val (C8.pe_c cC hr (by decide) (by rfl) (pa_cons (pv 4) pa_nil)))) (pss_one (ps_raise rfl (takes_of rfl rfl rfl rfl) (pmk_err eK hr (by decide) (by rfl) (pa_cons (pv 3) pa_nil)))) pss_nil)))
      (pss_one (ps_if (PW.pt (pw_and (pt_cmpR op_notN (pv 2) pe_non (nomark _)) (pw_and1 (pt_not (pt_val (C8.pe_c cC hr (by decide) (by rfl) (pa_cons (pv 2) pa_nil))))))) (pss_one (ps_raise rfl (takes_of rfl rfl rfl rfl) (pmk_err eK hr (by decide) (by rfl) (pa_cons pe_str pa_nil)))) pss_nil))), ?_⟩
    refine ⟨_, rfl, nm, rfl, g1, fun H1 s1 => ⟨_, rfl, ?_⟩⟩
    cases en : nameV nm with
    | false =>
      refine iteT (mk_ex fun d hd => ?_)
      exact k1 "name" (by simp [dueC, en]) _ d (Same.new s1 hd) upd_same
    | true =>
      refine iteF ?_
      obtain ⟨ts, hts, tl, tat⟩ := hP.same s1
      refine ⟨_, rfl, a, rfl, ⟨_, SqL.of hts⟩, for_list (K := K) (a := a) (xs := ts.map V.ref) (fun i σ H' => ∃ (v3 v4 : Option V), σ = [some nm, some (.ref a), some tm, v3, v4] ∧ Same H1 H' ∧ ∀ p ∈ prs.take i, cntV p.2 = true)
        ⟨_, _, rfl, Same.refl _, fun p hp => by simp at hp⟩ (fun i σ H' _ ⟨_, _, _, s2, _⟩ => SqL.of (s2 _ _ hts)) ?_ ?_⟩
      · rintro i y σ H' hi ⟨v3, v4, rfl, s2, hp⟩
        obtain ⟨t, rfl, ht⟩ := map_at hi
        have hi2 : i < prs.length := by
          have := at_lt ht
          omega
        have hpr : prs[i]? = some prs[i] := List.getElem?_eq_getElem hi2
        have htu := s2 _ _ (tat i t _ ht hpr)
        obtain ⟨kk, ty, _⟩ := (g3 _ (at_mem hpr)).same (s1.trans s2)
        refine ⟨t, _, rfl, SqT.of htu, rfl, _, _, rfl, _, _, rfl, rfl, ?_⟩
        refine ⟨_, rfl, _, kk, rfl, ty, _, rfl, ?_⟩
        rw [cnt_eq ty]
        cases ec : cntV prs[i].2 with
        | true =>
          refine iteF ⟨_, _, rfl, s2, fun p hp' => ?_⟩
          rw [List.take_add_one, hpr] at hp'
          rcases List.mem_append.mp hp' with h | h
          · exact hp p h
          · rw [List.mem_singleton.mp h]
            exact ec
        | false =>
          refine iteT ⟨_, rfl, mk_ex fun d hd => ?_⟩
          refine k1 prs[i].1 ?_ _ d (Same.new (s1.trans s2) hd) upd_same
          simp only [dueC, en]
          rw [find_pre hpr (fun y hy => by rw [hp y hy]; rfl) (by rw [ec]; rfl)]
          rfl
      · rintro σ H' ⟨v3, v4, rfl, s2, hp⟩
        have hall : prs.find? (fun p => !cntV p.2) = none := List.find?_eq_none.mpr fun p hp' => by
          rw [hp p (by rw [List.length_map, tl, List.take_length]; exact hp')]
          exact Bool.false_ne_true
        obtain ⟨kk, ty, _⟩ := g2.same (s1.trans s2)
        refine ⟨_, rfl, rfl, _, rfl, ?_⟩
        by_cases et : tm = .non
        · rw [decide_eq_true et]
          refine iteF (iteF (k0 ?_ _ (s1.trans s2)))
          simp [dueC, en, hall, et]
        · rw [decide_eq_false et]
          refine iteT ⟨_, rfl, _, kk, rfl, ty, _, rfl, ?_⟩
          rw [cnt_eq ty]
          cases ec : cntV tm with
          | true =>
            refine iteF (k0 ?_ _ (s1.trans s2))
            simp [dueC, en, hall, ec]
          | false =>
            refine iteT (mk_ex fun d hd => ?_)
            exact k1 "times" (by simp [dueC, en, hall, ec, et]) _ d (Same.new (s1.trans s2) hd) upd_same
end
end Ts

namespace Ts
open PySem L2
section
variable {P : Program} {w : World} {K : PySem.W.Frag} {mg : Str → Option Value} {base : Heap}
abbrev sStill : Stmt := (inClass (top 19) 0)
theorem sc_Still : FnScope ["self", "name", "days", "times"] ["self", "name", "days", "times"] (C8.fnScope sStill) := C8.fnScope_by (by decide +kernel)
theorem fn_Still {f C CI : Addr} {fd : FuncData} (F : C8.Fun K "__init__" "Still.__init__" sStill f fd) (T : ClsN K C ["name", "days", "times"]) (cX : CalX P w K mg base 3 "check_arguments" (spCheck K CI) []) :
    FnOk P w K mg base (L2.CX P w) 4 f fd ["self", "name", "days", "times"] (spKind K C CI 3 dueS fsS) := by
  refine fnX F sc_Still (fun vs H Q E h => ?_) (fun cdv A outer s H vs Q E hr h => ?_)
  · obtain ⟨x, dx, ws, rfl, hl, _⟩ := h
    rw [List.length_cons, hl]
    rfl
  · obtain ⟨x, dx, ws, rfl, hl, hx, hg, k0, k1⟩ := h
    obtain ⟨nm, d, tm, rfl⟩ := len3 hl
    refine ⟨_, pss_cons (ps_expr (pe_cX cX hr (by decide) (passesUp (takes_of rfl rfl rfl rfl)) (by rfl) (pa_cons (pv 1) (pa_cons (pe_lst (pa_cons (pe_tup (pa_cons pe_str (pa_cons (pv 2) pa_nil))) pa_nil)) (pa_cons (pv 3) pa_nil)))))
      (pss_cons (ps_fld (pv 0) (pv 1) rfl) (pss_cons (ps_fld (pv 0) (pv 2) rfl) (pss_one (ps_fld (pv 0) (pv 3) rfl)))), ?_⟩
    refine ⟨_, rfl, _, rfl, (by show 2 ≤ sizeLine; decide), fun t nt => ⟨(by show 1 ≤ sizeLine; decide), fun a na => ⟨_, rfl, ?_⟩⟩⟩
    have s0 : Same H (upd (upd H t (.tup [.str "days", d])) a (.lst [.ref t])) := Same.new (Same.new (Same.refl _) nt) na
    have ta : t ≠ a := fun z => by
      rw [← z, upd_same] at na
      cases na
    refine ⟨nm, a, [("days", d)], tm, rfl, ⟨[t], upd_same, rfl, fun i t' p h1 h2 => ?_⟩, (hg nm (by simp)).same s0, (hg tm (by simp)).same s0, fun p hp => ?_, fun hd H1 s1 => ?_, fun wd hw H1 d1 s1 e1 => k1 wd hw H1 d1 (s0.trans s1) e1⟩
    · match i, h1, h2 with
      | 0, h1, h2 =>
        cases h1
        cases h2
        rw [upd_ne ta, upd_same]
    · rw [List.mem_singleton.mp hp]
      exact (hg d (by simp)).same s0
    · have hx1 := (s0.trans s1) _ _ hx
      refine ⟨_, rfl, _, rfl, x, C, dx, [], rfl, hx1, T.cl, T.no _ (by simp), by decide, ?_⟩
      refine ⟨_, rfl, _, rfl, x, C, dx, _, rfl, upd_same, T.cl, T.no _ (by simp), few_lt (few few0) (by decide), ?_⟩
      refine ⟨_, rfl, _, rfl, x, C, dx, _, rfl, upd_same, T.cl, T.no _ (by simp), few_lt (few (few few0)) (by decide), ?_⟩
      exact k0 hd _ upd_same (((Same.but (s0.trans s1)).at.at).at)
abbrev sAnew : Stmt := (inClass (top 20) 0)
theorem sc_Anew : FnScope ["self", "name", "left", "times"] ["self", "name", "left", "times"] (C8.fnScope sAnew) := C8.fnScope_by (by decide +kernel)
theorem fn_Anew {f C CI : Addr} {fd : FuncData} (F : C8.Fun K "__init__" "Anew.__init__" sAnew f fd) (T : ClsN K C ["name", "left", "times"]) (cX : CalX P w K mg base 3 "check_arguments" (spCheck K CI) []) :
    FnOk P w K mg base (L2.CX P w) 4 f fd ["self", "name", "left", "times"] (spKind K C CI 3 dueA fsA) := by
  refine fnX F sc_Anew (fun vs H Q E h => ?_) (fun cdv A outer s H vs Q E hr h => ?_)
  · obtain ⟨x, dx, ws, rfl, hl, _⟩ := h
    rw [List.length_cons, hl]
    rfl
  · obtain ⟨x, dx, ws, rfl, hl, hx, hg, k0, k1⟩ := h
    obtain ⟨nm, d, tm, rfl⟩ := len3 hl
    refine ⟨_, pss_cons (ps_expr (pe_cX cX hr (by decide) (passesUp (takes_of rfl rfl rfl rfl)) (by rfl) (pa_cons (pv 1) (pa_cons (pe_lst (pa_cons (pe_tup (pa_cons pe_str (pa_cons (pv 2) pa_nil))) pa_nil)) (pa_cons (pv 3) pa_nil)))))
      (pss_cons (ps_fld (pv 0) (pv 1) rfl) (pss_cons (ps_fld (pv 0) (pv 2) rfl) (pss_one (ps_fld (pv 0) (pv 3) rfl)))), ?_⟩
    refine ⟨_, rfl, _, rfl, (by show 2 ≤ sizeLine; decide), fun t nt => ⟨(by show 1 ≤ sizeLine; decide), fun a na => ⟨_, rfl, ?_⟩⟩⟩
    have s0 : Same H (upd (upd H t (.tup [.str "left", d])) a (.lst [.ref t])) := Same.new (Same.new (Same.refl _) nt) na
    have ta : t ≠ a := fun z => by
      rw [← z, upd_same] at na
      cases na
    refine ⟨nm, a, [("left", d)], tm, rfl, ⟨[t], upd_same, rfl, fun i t' p h1 h2 => ?_⟩, (hg nm (by simp)).same s0, (hg tm (by simp)).same s0, fun p hp => ?_, fun hd H1 s1 => ?_, fun wd hw H1 d1 s1 e1 => k1 wd hw H1 d1 (s0.trans s1) e1⟩
    · match i, h1, h2 with
      | 0, h1, h2 =>
        cases h1
        cases h2
        rw [upd_ne ta, upd_same]
    · rw [List.mem_singleton.mp hp]
      exact (hg d (by simp)).same s0
    · have hx1 := (s0.trans s1) _ _ hx
      refine ⟨_, rfl, _, rfl, x, C, dx, [], rfl, hx1, T.cl, T.no _ (by simp), by decide, ?_⟩
      refine ⟨_, rfl, _, rfl, x, C, dx, _, rfl, upd_same, T.cl, T.no _ (by simp), few_lt (few few0) (by decide), ?_⟩
      refine ⟨_, rfl, _, rfl, x, C, dx, _, rfl, upd_same, T.cl, T.no _ (by simp), few_lt (few (few few0)) (by decide), ?_⟩
      exact k0 hd _ upd_same (((Same.but (s0.trans s1)).at.at).at)
abbrev sLift : Stmt := (inClass (top 21) 0)
theorem sc_Lift : FnScope ["self", "name", "by", "top", "times"] ["self", "name", "by", "top", "times"] (C8.fnScope sLift) := C8.fnScope_by (by decide +kernel)
theorem fn_Lift {f C CI : Addr} {fd : FuncData} (F : C8.Fun K "__init__" "Lift.__init__" sLift f fd) (T : ClsN K C ["name", "by", "top", "times"]) (cX : CalX P w K mg base 3 "check_arguments" (spCheck K CI) []) :
    FnOk P w K mg base (L2.CX P w) 4 f fd ["self", "name", "by", "top", "times"] (spKind K C CI 4 dueL fsL) := by
  refine fnX F sc_Lift (fun vs H Q E h => ?_) (fun cdv A outer s H vs Q E hr h => ?_)
  · obtain ⟨x, dx, ws, rfl, hl, _⟩ := h
    rw [List.length_cons, hl]
    rfl
  · obtain ⟨x, dx, ws, rfl, hl, hx, hg, k0, k1⟩ := h
    obtain ⟨nm, b, c, tm, rfl⟩ := len4 hl
    refine ⟨_, pss_cons (ps_expr (pe_cX cX hr (by decide) (passesUp (takes_of rfl rfl rfl rfl)) (by rfl) (pa_cons (pv 1) (pa_cons (pe_lst (pa_cons (pe_tup (pa_cons pe_str (pa_cons (pv 2) pa_nil))) (pa_cons (pe_tup (pa_cons pe_str (pa_cons (pv 3) pa_nil))) pa_nil))) (pa_cons (pv 4) pa_nil)))))
      (pss_cons (ps_fld (pv 0) (pv 1) rfl) (pss_cons (ps_fld (pv 0) (pv 2) rfl) (pss_cons (ps_fld (pv 0) (pv 3) rfl) (pss_one (ps_fld (pv 0) (pv 4) rfl))))), ?_⟩
    refine ⟨_, rfl, _, rfl, (by show 2 ≤ sizeLine; decide), fun t nt => ⟨_, rfl, (by show 2 ≤ sizeLine; decide), fun u nu => ⟨(by show 2 ≤ sizeLine; decide), fun a na => ⟨_, rfl, ?_⟩⟩⟩⟩
    have s1 : Same (upd H t (.tup [.str "by", b])) (upd (upd (upd H t (.tup [.str "by", b])) u (.tup [.str "top", c])) a (.lst [.ref t, .ref u])) := Same.new (Same.new (Same.refl _) nu) na
    have s0 : Same H (upd (upd (upd H t (.tup [.str "by", b])) u (.tup [.str "top", c])) a (.lst [.ref t, .ref u])) := (Same.new (Same.refl _) nt).trans s1
    have ua : u ≠ a := fun z => by
      rw [← z, upd_same] at na
      cases na
    refine ⟨nm, a, [("by", b), ("top", c)], tm, rfl, ⟨[t, u], upd_same, rfl, fun i t' p h1 h2 => ?_⟩, (hg nm (by simp)).same s0, (hg tm (by simp)).same s0, fun p hp => ?_, fun hd H1 s1 => ?_, fun wd hw H1 d1 s1 e1 => k1 wd hw H1 d1 (s0.trans s1) e1⟩
    · match i, h1, h2 with
      | 0, h1, h2 =>
        cases h1
        cases h2
        exact s1 _ _ upd_same
      | 1, h1, h2 =>
        cases h1
        cases h2
        rw [upd_ne ua, upd_same]
    · rcases List.mem_cons.mp hp with rfl | hp
      · exact (hg b (by simp)).same s0
      · rw [List.mem_singleton.mp hp]
        exact (hg c (by simp)).same s0
    · have hx1 := (s0.trans s1) _ _ hx
      refine ⟨_, rfl, _, rfl, x, C, dx, [], rfl, hx1, T.cl, T.no _ (by simp), by decide, ?_⟩
      refine ⟨_, rfl, _, rfl, x, C, dx, _, rfl, upd_same, T.cl, T.no _ (by simp), few_lt (few few0) (by decide), ?_⟩
      refine ⟨_, rfl, _, rfl, x, C, dx, _, rfl, upd_same, T.cl, T.no _ (by simp), few_lt (few (few few0)) (by decide), ?_⟩
      refine ⟨_, rfl, _, rfl, x, C, dx, _, rfl, upd_same, T.cl, T.no _ (by simp), few_lt (few (few (few few0))) (by decide), ?_⟩
      exact k0 hd _ upd_same ((((Same.but (s0.trans s1)).at.at).at).at)
end
end Ts

namespace Ts
open PySem L2
section
variable {P : Program} {w : World} {K : PySem.W.Frag} {mg : Str → Option Value} {base : Heap}
abbrev sAny : Stmt := (top 30)
abbrev nAny : List Str := ["_law_deal_here", "_law_deep", "_law_form", "_law_some", "_law_k"]
theorem sc_any : FnScope nAny ["_law_deal_here", "_law_deep"] (C8.fnScope sAny) := C8.fnScope_by (by decide +kernel)
theorem cal_any {f : Addr} {fd : FuncData} (F : C8.Def K mg "_law_any" sAny f fd) (df : fd.defaults = .none) (mRange : mg "range" = none) (mTup : mg "tuple" = none) (cD : C8.Cal P w K mg base 1 "_law_draw" spDraw []) (cP : C8.Cal P w K mg base 2 "_law_pick" (spPick K) []) :
    ∀ n : Nat, C8.Cal P w K mg base (n + 3) "_law_any" (spAny K n) [] := by
  intro n
  have fin : ∀ (D L : Addr) (H1 H2 : Hp) (xs : List V) (Q : VK), xs.all flatB = true → DealAt H1 D L → Same H1 H2 → 0 < xs.length → xs.length ≤ 1000 → ∀ l, H2 l = none → (∀ (v : V) (H' : Hp), GoodV K H' v → Went D L H1 H' → Q v H') → spPick K [.ref D, .ref l] (upd H2 l (.lst xs)) Q C8.E0 := by
    intro D L H1 H2 xs Q hf dl s12 l0 l1 l nl k
    have d2 := dl.same s12
    have ol := off_new d2 nl
    refine ⟨D, L, l, xs, rfl, d2.same (Same.new (Same.refl _) nl), SqL.of upd_same, ol.1, ol.2, l0, l1, fun v H' hv W => k v H' (goodAll hf hv) (((Went.refl dl).same s12).new nl |>.trans W)⟩
  induction n with
  | zero =>
    refine C8.cal0 F (C8.Fun.binds F.fn df (ps := ["_law_deal_here", "_law_deep"]) fun _ _ _ _ _ _ us hl => match us, hl with | [_, _], _ => rfl) .nil sc_any (fun vs H Q E h => ?_) (fun cdv A outer s H vs Q E hr h => ?_)
    · obtain ⟨D, L, n, rfl, _⟩ := h
      rfl
    · obtain ⟨D, L, deep, rfl, dl, d0, d1, k⟩ := h
      have hd : deep = 0 := by omega
      subst hd
      refine ⟨_, pss_cons (ps_set (i := 2) sc_any.nd rfl (Or.inl rfl) (C8.pe_c cD hr (by decide) (by rfl) (pa_cons (pv 0) (pa_cons pe_int pa_nil))))
        (pss_cons (ps_if (PW.pt (pw_and (pt_cmpR op_gt (pv 1) pe_int (nomark _)) (pw_and1 (pt_cmpR op_lt (pv 2) pe_int (nomark _))))) pss_never pss_nil)
        (pss_cons (ps_if (pt_cmpR op_lt (pv 2) pe_int (nomark _)) (pss_one (ps_ret (C8.pe_c cP hr (by decide) (by rfl) (pa_cons (pv 0) (pa_cons
            (pe_lst (pa_cons pe_int (pa_cons pe_int (pa_cons (pe_un un_neg pe_int) (pa_cons pe_int (pa_cons (pe_op op_pow pe_int pe_int) (pa_cons pe_bl (pa_cons pe_bl (pa_cons pe_non pa_nil))))))))) pa_nil))))) pss_nil)
        (pss_one (ps_ret (C8.pe_c cP hr (by decide) (by rfl) (pa_cons (pv 0) (pa_cons
            (pe_lst (pa_cons pe_str (pa_cons pe_str (pa_cons pe_str (pa_cons pe_str (pa_cons pe_str (pa_cons pe_str (pa_cons pe_str (pa_cons pe_str (pa_cons pe_str (pa_cons pe_str pa_nil))))))))))) pa_nil))))))), ?_⟩
      refine ⟨_, rfl, D, L, 11, rfl, dl, by decide, by decide, fun fm H1 f0 f1 W1 => ?_⟩
      refine ⟨_, rfl, _, _, rfl, rfl, _, rfl, iteF (iteF ?_)⟩
      refine ⟨_, rfl, _, _, rfl, rfl, _, rfl, ?_⟩
      refine ite2 (fun _ => ?_) (fun _ => ?_)
      · refine ⟨_, rfl, _, rfl, _, _, rfl, rfl, ⟨by decide, by decide, by decide⟩, (by show 8 ≤ sizeLine; decide), fun l nl => ?_⟩
        exact fin D L H1 H1 _ _ (by decide) W1.d (Same.refl _) (by decide) (by decide) l nl fun v H' g W => k v H' g (W1.trans W)
      · refine ⟨_, rfl, (by show 10 ≤ sizeLine; decide), fun l nl => ?_⟩
        exact fin D L H1 H1 _ _ (by decide +kernel) W1.d (Same.refl _) (by decide) (by decide) l nl fun v H' g W => k v H' g (W1.trans W)
  | succ n ih =>
    refine C8.cal0 F (C8.Fun.binds F.fn df (ps := ["_law_deal_here", "_law_deep"]) fun _ _ _ _ _ _ us hl => match us, hl with | [_, _], _ => rfl) .nil sc_any (fun vs H Q E h => ?_) (fun cdv A outer s H vs Q E hr h => ?_)
    · obtain ⟨D, L, n, rfl, _⟩ := h
      rfl
    · obtain ⟨D, L, deep, rfl, dl, d0, d1, k⟩ := h
      refine ⟨_, pss_cons (ps_set (i := 2) sc_any.nd rfl (Or.inl rfl) (C8.pe_c cD hr (by omega) (by rfl) (pa_cons (pv 0) (pa_cons pe_int pa_nil))))
        (pss_cons (ps_if (PW.pt (pw_and (pt_cmpR op_gt (pv 1) pe_int (nomark _)) (pw_and1 (pt_cmpR op_lt (pv 2) pe_int (nomark _)))))
            (pss_cons (ps_setLc (i := 3) (own := [("_law_k", 4)]) (g := gName 4) (by rfl) sc_any.nd rfl rfl (sw_true rfl rfl rfl (by decide +kernel)) (pi_range1 (by rfl) mRange (pa_cons (C8.pe_c cD hr (by omega) (by rfl) (pa_cons (pv 0) (pa_cons pe_int pa_nil))) pa_nil))
                (blkOk_by (own := [("_law_k", 4)]) (N := nAny) (sc := C8.fnScope sAny) (by decide +kernel)) (fun _ _ _ _ _ => pg_name (i := 4) sc_any.nd rfl (Or.inl rfl)) (fun _ _ _ _ _ => pts_nil)
                (fun _ _ _ _ _ => C8.pe_c ih hr (by omega) (by rfl) (pa_cons (pv 0) (pa_cons (pe_op op_sub (pv 1) pe_int) pa_nil))))
            (pss_one (ps_ret (pe_ifExp (pt_cmpR op_lt (pv 2) pe_int (nomark _)) (pe_callTy call_tuple_of (by rfl) mTup PyProof.Rows.boot_tuple (pa_cons (pv 3) pa_nil)) (pv 3))))) pss_nil)
        (pss_cons (ps_if (pt_cmpR op_lt (pv 2) pe_int (nomark _)) (pss_one (ps_ret (C8.pe_c cP hr (by omega) (by rfl) (pa_cons (pv 0) (pa_cons
            (pe_lst (pa_cons pe_int (pa_cons pe_int (pa_cons (pe_un un_neg pe_int) (pa_cons pe_int (pa_cons (pe_op op_pow pe_int pe_int) (pa_cons pe_bl (pa_cons pe_bl (pa_cons pe_non pa_nil))))))))) pa_nil))))) pss_nil)
        (pss_one (ps_ret (C8.pe_c cP hr (by omega) (by rfl) (pa_cons (pv 0) (pa_cons
            (pe_lst (pa_cons pe_str (pa_cons pe_str (pa_cons pe_str (pa_cons pe_str (pa_cons pe_str (pa_cons pe_str (pa_cons pe_str (pa_cons pe_str (pa_cons pe_str (pa_cons pe_str pa_nil))))))))))) pa_nil))))))), ?_⟩
      refine ⟨_, rfl, D, L, 11, rfl, dl, by decide, by decide, fun fm H1 f0 f1 W1 => ?_⟩
      have tail : (tTest (tOp (rI0 fun i j => V.bl (decide (i < j))) (tVar 2) (tC (V.int 7)))) [some (V.ref D), some (V.int deep), some (V.int fm), none, none] H1 fun b H2 => if b = true then tRet (tCall (spPick K) [] C8.E0 (tCons (tVar 0) (tCons (tLst (tCons (tC (V.int 0)) (tCons (tC (V.int 1)) (tCons (tUn (rU fun i => .int (-i)) (tC (V.int 1))) (tCons (tC (V.int 7)) (tCons (tOp (rI CPow fun i j => V.int (i ^ j.toNat)) (tC (V.int 10)) (tC (V.int 18))) (tCons (tC (V.bl true)) (tCons (tC (V.bl false)) (tCons (tC V.non) tNil))))))))) tNil)))
          { nx := fun _ H' => Q .non H', rt := Q } [some (V.ref D), some (V.int deep), some (V.int fm), none, none] H2
        else tRet (tCall (spPick K) [] C8.E0 (tCons (tVar 0) (tCons (tLst (tCons (tC (V.str "")) (tCons (tC (V.str "any")) (tCons (tC (V.str "none")) (tCons (tC (V.str "anew")) (tCons (tC (V.str "lift")) (tCons (tC (V.str "term")) (tCons (tC (V.str "still")) (tCons (tC (V.str "Talk")) (tCons (tC (V.str " ")) (tCons (tC (V.str "still talk 0 1")) tNil))))))))))) tNil)))
          { nx := fun _ H' => Q .non H', rt := Q } [some (V.ref D), some (V.int deep), some (V.int fm), none, none] H2 := by
        refine ⟨_, rfl, _, _, rfl, rfl, _, rfl, ?_⟩
        refine ite2 (fun _ => ?_) (fun _ => ?_)
        · refine ⟨_, rfl, _, rfl, _, _, rfl, rfl, ⟨by decide, by decide, by decide⟩, (by show 8 ≤ sizeLine; decide), fun l nl => ?_⟩
          exact fin D L H1 H1 _ _ (by decide) W1.d (Same.refl _) (by decide) (by decide) l nl fun v H' g W => k v H' g (W1.trans W)
        · refine ⟨_, rfl, (by show 10 ≤ sizeLine; decide), fun l nl => ?_⟩
          exact fin D L H1 H1 _ _ (by decide +kernel) W1.d (Same.refl _) (by decide) (by decide) l nl fun v H' g W => k v H' g (W1.trans W)
      refine ⟨_, rfl, _, _, rfl, rfl, _, rfl, ?_⟩
      by_cases e1 : 0 < deep
      · rw [decide_eq_true e1]
        refine iteT ⟨_, rfl, _, _, rfl, rfl, _, rfl, ?_⟩
        by_cases e2 : fm < 4
        · rw [decide_eq_true e2]
          refine iteT ?_
          refine ⟨_, rfl, D, L, 4, rfl, W1.d, by decide, by decide, fun m H2 m0 m1 W2 => ⟨m, rfl, by omega, by omega, fun d hd => lc_range (lo := 0) (n := m.toNat)
            (fun i H' => ∃ xs, H' d = some (.lst xs) ∧ xs.length ≤ i ∧ Went D L H2 H') ⟨[], upd_same, Nat.le_refl _, (Went.refl W2.d).new hd⟩ ?_ ?_⟩⟩
          · rintro i H3 hi ⟨xs, h1, h2, W3⟩
            have od := off_new W2.d hd
            refine ⟨rfl, yes_ ⟨_, rfl, _, rfl, _, _, rfl, rfl, D, L, deep - 1, rfl, W3.d, by omega, by omega, fun v H4 g W4 => ?_⟩⟩
            exact ⟨xs, W4.k _ _ od.1 od.2 h1, small1000 (by omega), xs ++ [v], upd_same, by rw [List.length_append, List.length_singleton]; omega, (W3.trans W4).mut hd od.1 od.2⟩
          · rintro H3 ⟨xs, h1, h2, W3⟩
            have W := (W1.trans W2).trans W3
            refine ⟨_, rfl, _, _, rfl, rfl, _, rfl, ?_⟩
            refine ite2 (fun _ => ?_) (fun _ => ?_)
            · exact ⟨_, rfl, d, _, rfl, .inl ⟨SqL.of h1, fun t nt => k _ _ (goodTup (SqT.of upd_same)) (W.new nt)⟩⟩
            · exact ⟨_, rfl, k _ _ (goodList (SqL.of h1)) W⟩
        · rw [decide_eq_false e2]
          exact iteF tail
      · rw [decide_eq_false e1]
        exact iteF (iteF tail)
end
end Ts

namespace Ts
open PySem L2
section
variable {P : Program} {w : World} {K : PySem.W.Frag} {mg : Str → Option Value} {base : Heap}
abbrev sNames : Stmt := (top 31)
theorem sc_names : FnScope ["_law_deal_here", "_law_many"] ["_law_deal_here", "_law_many"] (C8.fnScope sNames) := C8.fnScope_by (by decide +kernel)
theorem cal_names {f : Addr} {fd : FuncData} (F : C8.Def K mg "_law_names" sNames f fd) (df : fd.defaults = .none) (cM : C8.Cal P w K mg base 2 "_law_mixed" (spMixed K) []) : C8.Cal P w K mg base 3 "_law_names" spNames [] := by
  refine C8.cal0 F (C8.Fun.binds F.fn df (ps := ["_law_deal_here", "_law_many"]) fun _ _ _ _ _ _ us hl => match us, hl with | [_, _], _ => rfl) .nil sc_names (fun vs H Q E h => ?_) (fun cdv A outer s H vs Q E hr h => ?_)
  · obtain ⟨D, L, m, rfl, _⟩ := h
    rfl
  · obtain ⟨D, L, m, rfl, dl, m0, m1, k⟩ := h
    refine ⟨_, pss_one (ps_ret (pe_slice sl_list (C8.pe_c cM hr (by decide) (by rfl) (pa_cons (pv 0) (pa_cons (pe_lst (pa_cons pe_str (pa_cons pe_str (pa_cons pe_str (pa_cons pe_str (pa_cons pe_str (pa_cons pe_str (pa_cons pe_str (pa_cons pe_str (pa_cons pe_str (pa_cons pe_str pa_nil))))))))))) pa_nil))) po_none (po_some (pv 1)))), ?_⟩
    refine ⟨_, rfl, (by show 10 ≤ sizeLine; decide), fun l nl => ?_⟩
    have ol := off_new dl nl
    refine ⟨D, L, l, nameVs, rfl, dl.same (Same.new (Same.refl _) nl), SqL.of upd_same, ol.1, ol.2, by decide +kernel, by decide, fun p zs H1 hz W np hp => ⟨_, rfl, _, rfl, p, _, rfl, SqL.of hp, fun q nq => ?_⟩⟩
    obtain ⟨j, rfl⟩ := Int.eq_ofNat_of_zero_le m0
    rw [cut_toV]
    have W' := ((Went.refl dl).new nl).trans W
    refine k q zs _ hz (W'.new nq) ?_ upd_same
    by_cases e : q = l
    · rw [e]
      exact nl
    · cases z : H q with
      | none => rfl
      | some o =>
        by_cases hD : q = D
        · obtain ⟨o2, h2⟩ := W'.d.someD
          rw [hD, h2] at nq
          cases nq
        · by_cases hL : q = L
          · obtain ⟨o2, h2⟩ := W'.d.someL
            rw [hL, h2] at nq
            cases nq
          · rw [W'.k _ _ hD hL z] at nq
            cases nq
abbrev sKindD : Stmt := (top 32)
theorem sc_kindD : FnScope ["_law_deal_here", "_law_word", "_law_most", "_law_form", "_law_many"] ["_law_deal_here", "_law_word", "_law_most"] (C8.fnScope sKindD) := C8.fnScope_by (by decide +kernel)
theorem cal_kindD {f : Addr} {fd : FuncData} (F : C8.Def K mg "_law_kind" sKindD f fd) (df : fd.defaults = .none) (cD : C8.Cal P w K mg base 1 "_law_draw" spDraw []) (cP : C8.Cal P w K mg base 2 "_law_pick" (spPick K) []) : C8.Cal P w K mg base 3 "_law_kind" spKindD [] := by
  refine C8.cal0 F (C8.Fun.binds F.fn df (ps := ["_law_deal_here", "_law_word", "_law_most"]) fun _ _ _ _ _ _ us hl => match us, hl with | [_, _, _], _ => rfl) .nil sc_kindD (fun vs H Q E h => ?_) (fun cdv A outer s H vs Q E hr h => ?_)
  · obtain ⟨D, L, wd, most, rfl, _⟩ := h
    rfl
  · obtain ⟨D, L, wd, most, rfl, dl, m0, m1, k⟩ := h
    have back : ∀ {H' : Hp} {q : Addr}, Went D L H H' → H' q = none → H q = none := fun {H' q} W nq => by
      cases z : H q with
      | none => rfl
      | some o =>
        by_cases hD : q = D
        · obtain ⟨o2, h2⟩ := W.d.someD
          rw [hD, h2] at nq
          cases nq
        · by_cases hL : q = L
          · obtain ⟨o2, h2⟩ := W.d.someL
            rw [hL, h2] at nq
            cases nq
          · rw [W.k _ _ hD hL z] at nq
            cases nq
    refine ⟨_, pss_cons (ps_par (i := 3) (j := 4) (by rfl) sc_kindD.nd rfl rfl (by decide) rfl rfl
        (pa_cons (C8.pe_c cP hr (by decide) (by rfl) (pa_cons (pv 0) (pa_cons (pe_lst (pa_cons pe_str (pa_cons pe_str (pa_cons pe_str pa_nil)))) pa_nil)))
        (pa_cons (C8.pe_c cP hr (by decide) (by rfl) (pa_cons (pv 0) (pa_cons (pe_lst (pa_cons pe_int (pa_cons pe_int (pa_cons pe_int (pa_cons pe_int (pa_cons pe_non pa_nil)))))) pa_nil))) pa_nil)) (by rfl))
      (pss_one (ps_ret (pe_tup (pa_cons (pv 3) (pa_cons (pv 1) (pa_cons (pe_op op_add pe_int (C8.pe_c cD hr (by decide) (by rfl) (pa_cons (pv 0) (pa_cons (pv 2) pa_nil))))
        (pa_cons (pe_ifExp (pt_cmpR op_eq (pv 3) pe_str (nomark _)) (pe_op op_add pe_int (C8.pe_c cD hr (by decide) (by rfl) (pa_cons (pv 0) (pa_cons (pv 2) pa_nil)))) pe_int) (pa_cons (pv 4) pa_nil)))))))), ?_⟩
    refine ⟨_, rfl, (by show 3 ≤ sizeLine; decide), fun l nl => ?_⟩
    have ol := off_new dl nl
    refine ⟨D, L, l, formVs, rfl, dl.same (Same.new (Same.refl _) nl), SqL.of upd_same, ol.1, ol.2, by decide, by decide, fun fv H1 hf W1 => ?_⟩
    have W1' := ((Went.refl dl).new nl).trans W1
    refine ⟨_, rfl, (by show 5 ≤ sizeLine; decide), fun l2 nl2 => ?_⟩
    have ol2 := off_new W1.d nl2
    refine ⟨D, L, l2, manyVs, rfl, W1.d.same (Same.new (Same.refl _) nl2), SqL.of upd_same, ol2.1, ol2.2, by decide, by decide, fun mn H2 hm W2 => ?_⟩
    have W2' := (W1'.new nl2).trans W2
    obtain ⟨fm, rfl⟩ : ∃ fm, fv = .str fm := by
      simp only [formVs, List.mem_cons, List.not_mem_nil, or_false] at hf
      rcases hf with rfl | rfl | rfl <;> exact ⟨_, rfl⟩
    refine ⟨_, _, rfl, ?_⟩
    refine ⟨_, rfl, _, rfl, _, rfl, _, rfl, D, L, most, rfl, W2'.d, m0, m1, fun a H3 a0 a1 W3 => ?_⟩
    refine ⟨_, _, rfl, rfl, _, rfl, rfl, _, rfl, ?_⟩
    by_cases e : fm = "lift"
    · rw [decide_eq_true (show V.str fm = V.str "lift" by rw [e])]
      refine iteT ⟨_, rfl, _, rfl, D, L, most, rfl, W3.d, m0, m1, fun b H4 b0 b1 W4 => ?_⟩
      refine ⟨_, _, rfl, rfl, _, rfl, (by show 5 ≤ sizeLine; decide), fun t nt => ?_⟩
      have W := (W2'.trans W3).trans W4
      exact k t fm (1 + a) (1 + b) mn _ ⟨hf, by omega, by omega, fun _ => by omega, fun _ => by omega, fun z => absurd e z, hm⟩ (W.new nt) (back W nt) upd_same
    · rw [decide_eq_false (fun z => e (V.str.inj z))]
      refine iteF ⟨_, rfl, (by show 5 ≤ sizeLine; decide), fun t nt => ?_⟩
      have W := W2'.trans W3
      exact k t fm (1 + a) 0 mn _ ⟨hf, by omega, by omega, fun z => absurd z e, fun z => absurd z e, fun _ => rfl, hm⟩ (W.new nt) (back W nt) upd_same
end
end Ts

namespace Ts
open PySem L2
section
variable {P : Program} {w : World} {K : PySem.W.Frag} {mg : Str → Option Value} {base : Heap}
abbrev sTitle : Stmt := (top 33)
theorem sc_title : FnScope ["_law_value", "_law_letter"] ["_law_value"] (C8.fnScope sTitle) := C8.fnScope_by (by decide +kernel)
theorem cal_title {f : Addr} {fd : FuncData} (F : C8.Def K mg "_law_is_title" sTitle f fd) (df : fd.defaults = .none) (mIsi : mg "isinstance" = none) (mStr : mg "str" = none) (mLen : mg "len" = none) : C8.Cal P w K mg base 1 "_law_is_title" (spIsName K) [] := by
  refine C8.cal0 F (C8.Fun.binds F.fn df (ps := ["_law_value"]) fun _ _ _ _ _ _ us hl => match us, hl with | [_], _ => rfl) .nil sc_title (fun vs H Q E h => ?_) (fun cdv A outer s H vs Q E hr h => ?_)
  · obtain ⟨v, rfl, _⟩ := h
    rfl
  · obtain ⟨v, rfl, ⟨k, ty, hlen⟩, q⟩ := h
    have hu := hr.units
    refine ⟨_, pss_cons (ps_if (PW.pt (pw_or (pt_not (pt_val (pe_callB call_isi (by rfl) mIsi PyProof.Rows.boot_isinstance (pa_cons (pv 0) (pa_cons (pe_bltn (v := .ty "str") (by rfl) mStr PyProof.Rows.boot_str rfl) pa_nil)))))
        (pw_or (pt_cmpR op_in_seq (pv 0) (pe_tup (pa_cons pe_str (pa_cons pe_str (pa_cons pe_str (pa_cons pe_str (pa_cons pe_str pa_nil)))))) (by rfl))
        (pw_or1 (pt_not (pt_chain op_lt op_lt pe_int (pe_callB call_len_str (by rfl) mLen PySem.boot_len (pa_cons (pv 0) pa_nil)) pe_int)))))) (pss_one (ps_ret pe_bl)) pss_nil)
      (pss_one (ps_ret (pe_cmpR (op_eqD hu) (pe_lc (own := [("_law_letter", 1)]) (g := gName 1) (by rfl) sc_title.nd (pi_str (pv 0)) (blkOk_by (own := [("_law_letter", 1)]) (N := ["_law_value", "_law_letter"]) (sc := C8.fnScope sTitle) (by decide +kernel)) (fun _ _ _ _ _ => pg_name (i := 1) sc_title.nd rfl (Or.inl rfl))
              (fun _ _ _ _ _ => pts_one (pt_cmpR op_notIn_sign (pv 1) pe_str (by rfl))) (fun _ _ _ _ _ => pv 1)) (pe_lst pa_nil) (nomark _)))), ?_⟩
    obtain ⟨⟨t, tx, t1, t2, t3, t4, t5⟩, _, hs⟩ := id ty
    refine ⟨_, rfl, _, _, t, _, _, rfl, .ty _, tx, t3, _, rfl, ?_⟩
    by_cases e : k = .str
    · obtain ⟨x, rfl⟩ := hs e
      subst e
      obtain ⟨hx, hok⟩ := hlen x rfl
      refine iteF ⟨_, rfl, (by show 5 ≤ sizeLine; decide), fun p hp => ⟨p, _, rfl, .inr (SqT.of upd_same), rfl, (by decide), _, rfl, ?_⟩⟩
      have s1 : Same H (upd H p (.tup noNames)) := Same.new (Same.refl _) hp
      show (if inV (.str x) noNames = true then _ else _)
      cases e1 : inV (.str x) noNames with
      | true =>
        have : nameV (.str x) = false := by simp [nameV, nameB, e1]
        rw [this] at q
        exact iteT (iteT (q _ s1))
      | false =>
        refine iteF ⟨_, rfl, x, rfl, Nat.le_trans hx (by decide), _, _, rfl, rfl, _, rfl, ?_⟩
        have e23 : (decide ((0 : Int) < (x.length : Int)) && decide ((x.length : Int) < 5)) = (decide (1 ≤ (x.length : Int)) && decide ((x.length : Int) ≤ 4)) := by
          rw [decide_eq_decide.mpr (show (0 : Int) < (x.length : Int) ↔ 1 ≤ (x.length : Int) by omega), decide_eq_decide.mpr (show (x.length : Int) < 5 ↔ (x.length : Int) ≤ 4 by omega)]
        by_cases e2 : (0 : Int) < (x.length : Int)
        · rw [decide_eq_true e2] at e23 ⊢
          refine iteT ⟨_, _, rfl, rfl, _, rfl, ?_⟩
          by_cases e3 : (x.length : Int) < 5
          · rw [decide_eq_true e3] at e23 ⊢
            refine iteF ⟨_, rfl, x, rfl, fun d hd => lc_it (walk_str (z := x)) (fun i H' => H' d = some (.lst (((x.cps.toList.take i).filter fun c => !decide (c ∈ letters.cps.toList)).map fun c => V.str ⟨#[c]⟩)) ∧ Same (upd H p (.tup noNames)) H') ⟨upd_same, Same.new (Same.refl _) hd⟩ (fun _ _ _ _ => trivial) ?_ ?_⟩
            · rintro i y H1 H2 hi ⟨g1, g2⟩ ⟨rfl, c, hc, rfl⟩
              have hc' : x.cps.toList[i]? = some c := by simpa using hc
              refine ⟨rfl, _, rfl, c, letters, rfl, rfl, _, rfl, ?_⟩
              have hl : (List.filter (fun c => !decide (c ∈ letters.cps.toList)) (x.cps.toList.take i)).length ≤ 1000 := by
                have h1 := List.length_filter_le (fun c => !decide (c ∈ letters.cps.toList)) (x.cps.toList.take i)
                have h2 : x.cps.toList.length = x.length := rfl
                rw [List.length_take] at h1
                omega
              cases ec : (!decide (c ∈ letters.cps.toList)) with
              | true =>
                refine iteT ⟨_, rfl, _, g1, small1000 (by rw [List.length_map]; exact hl), ?_, same_upd_new g2 hd⟩
                rw [upd_same, filter_snoc hc', if_pos ec, List.map_append]
                rfl
              | false =>
                refine iteF ⟨?_, g2⟩
                rw [filter_snoc hc', if_neg (by rw [ec]; exact Bool.false_ne_true)]
                exact g1
            · rintro H' ⟨g1, g2⟩
              rw [show x.cps.size = x.cps.toList.length from rfl, List.take_length] at g1
              refine ⟨Nat.zero_le _, fun l nl => ?_⟩
              have g1' : upd H' l (.lst []) d = some (.lst ((x.cps.toList.filter fun c => !decide (c ∈ letters.cps.toList)).map fun c => V.str ⟨#[c]⟩)) := by
                rw [upd_ne (ne_of_none g1 nl)]
                exact g1
              refine ⟨_, _, .lst (ds := (x.cps.toList.filter fun c => !decide (c ∈ letters.cps.toList)).map fun c => PyData.str ⟨#[c]⟩) (SqL.of g1') ?_, .lst (SqL.of upd_same) .nil, ?_, PySem.W.ke_shaped_ints [], ?_⟩
              · exact dp_signs _
              · exact shaped_signs fun c hc => strOk_mem hok (List.mem_filter.mp hc).1
              · have := q _ (s1.trans (g2.trans (Same.new (Same.refl _) nl (o := .lst []))))
                rw [show nameV (.str x) = PyData.eqv (.list ((x.cps.toList.filter fun c => !decide (c ∈ letters.cps.toList)).map fun c => PyData.str ⟨#[c]⟩)) (.list []) by
                  show (!inV (.str x) noNames && ((decide (1 ≤ (x.length : Int)) && decide ((x.length : Int) ≤ 4)) && x.cps.toList.all fun c => decide (c ∈ letters.cps.toList))) = _
                  rw [e1, ← e23, all_filter]
                  rfl] at this
                exact this
          · rw [decide_eq_false e3] at e23 ⊢
            have : nameV (.str x) = false := by simp [nameV, nameB, ← e23]
            rw [this] at q
            exact iteT (q _ s1)
        · rw [decide_eq_false e2] at e23 ⊢
          have : nameV (.str x) = false := by simp [nameV, nameB, ← e23]
          rw [this] at q
          exact iteF ⟨_, rfl, iteT (q _ s1)⟩
    · have hk : k.inS = false := by cases k <;> first | rfl | exact absurd rfl e
      rw [hk]
      refine iteT (iteT ?_)
      have := q H (Same.refl _)
      rw [nameV_not ty e] at this
      exact this
abbrev sSize : Stmt := (top 34)
theorem sc_size : FnScope ["_law_value"] ["_law_value"] (C8.fnScope sSize) := C8.fnScope_by (by decide +kernel)
theorem cal_size {f : Addr} {fd : FuncData} (F : C8.Def K mg "_law_is_size" sSize f fd) (df : fd.defaults = .none) (mIsi : mg "isinstance" = none) (mInt : mg "int" = none) (mBool : mg "bool" = none) : C8.Cal P w K mg base 1 "_law_is_size" (spSize K) [] := by
  refine C8.cal0 F (C8.Fun.binds F.fn df (ps := ["_law_value"]) fun _ _ _ _ _ _ us hl => match us, hl with | [_], _ => rfl) .nil sc_size (fun vs H Q E h => ?_) (fun cdv A outer s H vs Q E hr h => ?_)
  · obtain ⟨v, rfl, _⟩ := h
    rfl
  · obtain ⟨v, rfl, ⟨k, ty, _⟩, q⟩ := h
    refine ⟨_, pss_one (ps_ret (pe_and (pe_callB call_isi (by rfl) mIsi PyProof.Rows.boot_isinstance (pa_cons (pv 0) (pa_cons (pe_bltn (v := .ty "int") (by rfl) mInt PyProof.Rows.boot_int rfl) pa_nil)))
      (pe_and (pe_not (pe_callB call_isi (by rfl) mIsi PyProof.Rows.boot_isinstance (pa_cons (pv 0) (pa_cons (pe_bltn (v := .ty "bool") (by rfl) mBool PyProof.Rows.boot_bool rfl) pa_nil))))
      (pe_one (pe_cmpR op_ge (pv 0) pe_int (nomark _)))))), ?_⟩
    rw [← cnt_eq ty] at q
    obtain ⟨⟨t, tx, t1, t2, t3, t4, t5⟩, hi, _⟩ := id ty
    refine ⟨_, rfl, _, _, t, _, _, rfl, .ty _, tx, t1, _, rfl, ?_⟩
    by_cases e : k = .int
    · obtain ⟨i, rfl⟩ := hi e
      subst e
      refine iteT ⟨_, rfl, _, _, t, _, _, rfl, .ty _, tx, t2, _, rfl, _, rfl, iteT ⟨_, rfl, _, _, rfl, rfl, ?_⟩⟩
      exact q
    · rw [decide_eq_false e] at q
      cases k <;> first | exact absurd rfl e | exact iteF q | exact iteT ⟨_, rfl, _, _, t, _, _, rfl, .ty _, tx, t2, _, rfl, _, rfl, iteF q⟩
end
end Ts

namespace Ts
open PySem L2
section
variable {P : Program} {w : World} {K : PySem.W.Frag} {mg : Str → Option Value} {base : Heap}
abbrev sDue : Stmt := (top 35)
abbrev nDue : List Str := ["_law_form", "_law_given", "_law_some", "_law_word", "_law_value"]
theorem sc_due : FnScope nDue ["_law_form", "_law_given"] (C8.fnScope sDue) := C8.fnScope_by (by decide +kernel)
theorem cal_due {f : Addr} {fd : FuncData} (F : C8.Def K mg "_law_due" sDue f fd) (df : fd.defaults = .none) (mZip : mg "zip" = none) (cT : C8.Cal P w K mg base 1 "_law_is_title" (spIsName K) []) (cS : C8.Cal P w K mg base 1 "_law_is_size" (spSize K) []) : C8.Cal P w K mg base 2 "_law_due" (spHeard K) [] := by
  refine C8.cal0 F (C8.Fun.binds F.fn df (ps := ["_law_form", "_law_given"]) fun _ _ _ _ _ _ us hl => match us, hl with | [_, _], _ => rfl) .nil sc_due (fun vs H Q E h => ?_) (fun cdv A outer s H vs Q E hr h => ?_)
  · obtain ⟨fm, g, ws, rfl, _⟩ := h
    rfl
  · obtain ⟨fm, g, ws, rfl, hS, hsh, hg, k⟩ := h
    have hu : (A.deeper (PyProof.Rows.envOfC "_law_due" (C8.fnScope sDue) s.heap.objs.size f cdv)).units + 1 < cLine := by
      have := hr.units
      omega
    obtain ⟨nm, wl, vals, tm, hws, hlen, hdue, hwl⟩ : ∃ (nm : V) (wl : List Str) (vals : List V) (tm : V), ws = nm :: (vals ++ [tm]) ∧ vals.length = wl.length ∧ dueK fm ws = dueC nm (wl.zip vals) tm ∧ ((fm = "still" ∧ wl = ([("days" : Str)] : List Str)) ∨ (fm = "anew" ∧ wl = ([("left" : Str)] : List Str)) ∨ (fm = "lift" ∧ wl = ([("by" : Str), ("top" : Str)] : List Str))) := by
      rcases hsh with ⟨e, h⟩ | ⟨e, h⟩ | ⟨e, h⟩
      · obtain ⟨a, b, c, d, rfl⟩ := len4 h
        exact ⟨a, ["by", "top"], [b, c], d, rfl, rfl, by rw [dueK, if_pos e]; rfl, .inr (.inr ⟨e, rfl⟩)⟩
      · obtain ⟨a, b, c, rfl⟩ := len3 h
        exact ⟨a, ["days"], [b], c, rfl, rfl, by rw [dueK, if_neg (by rw [e]; exact nsl), if_pos e]; rfl, .inl ⟨e, rfl⟩⟩
      · obtain ⟨a, b, c, rfl⟩ := len3 h
        exact ⟨a, ["left"], [b], c, rfl, rfl, by rw [dueK, if_neg (by rw [e]; exact nal), if_neg (by rw [e]; exact nas)]; rfl, .inr (.inl ⟨e, rfl⟩)⟩
    have hv2 : vals.length ≤ 2 := by
      rw [hlen]
      rcases hwl with ⟨_, e⟩ | ⟨_, e⟩ | ⟨_, e⟩ <;> rw [e] <;> decide
    refine ⟨_, pss_cons (ps_if (pt_not (pt_val (C8.pe_c cT hr (by decide) (by rfl) (pa_cons (pe_ix ix_list (pv 1) pe_int (fun _ _ => rfl)) pa_nil)))) (pss_one (ps_ret pe_str)) pss_nil)
      (pss_cons (ps_set (i := 2) sc_due.nd rfl (Or.inl rfl) (pe_dget hu (pe_disp (pps_cons pe_str (pe_lst (pa_cons pe_str pa_nil)) (pps_cons pe_str (pe_lst (pa_cons pe_str pa_nil)) (pps_cons pe_str (pe_lst (pa_cons pe_str (pa_cons pe_str pa_nil))) pps_nil))) (by rfl) (by rfl) (fun z => by cases z) (by decide)) (pv 0) (fun _ _ => rfl)))
      (pss_cons (ps_for PassesOwn.never rfl (pi_zip (by rfl) mZip (pa_cons (pv 2) (pa_cons (pe_slice sl_list (pv 1) (po_some pe_int) po_none) pa_nil))) (pg_tup rfl (pgs_cons (pg_name (i := 3) sc_due.nd rfl (Or.inl rfl)) (pgs_cons (pg_name (i := 4) sc_due.nd rfl (Or.inl rfl)) pgs_nil)))
        (pss_one (ps_if (pt_not (pt_val (C8.pe_c cS hr (by decide) (by rfl) (pa_cons (pv 4) pa_nil)))) (pss_one (ps_ret (pv 3))) pss_nil)))
      (pss_one (ps_ret (pe_ifExp (PW.pt (pw_or (pt_cmpR op_isN (pe_ix ix_list (pv 1) (pe_un un_neg pe_int) (fun _ _ => rfl)) pe_non (nomark _)) (pw_or1 (pt_val (C8.pe_c cS hr (by decide) (by rfl) (pa_cons (pe_ix ix_list (pv 1) (pe_un un_neg pe_int) (fun _ _ => rfl)) pa_nil)))))) pe_non pe_str))))), ?_⟩
    have g0 : atI ws 0 = some nm := by
      rw [hws]
      exact atI_nat (xs := nm :: (vals ++ [tm])) (j := 0) rfl
    have gl : atI ws (-1) = some tm := by
      rw [hws, show nm :: (vals ++ [tm]) = (nm :: vals) ++ [tm] from rfl]
      exact atI_last _ _
    have gn : GoodV K H nm := hg nm (by rw [hws]; exact List.mem_cons_self ..)
    have gt : GoodV K H tm := hg tm (by rw [hws]; simp)
    refine ⟨_, rfl, g, ws, 0, nm, rfl, rfl, hS, g0, nm, rfl, gn, fun H1 s1 => ⟨_, rfl, ?_⟩⟩
    rw [hdue] at k
    cases en : nameV nm with
    | false =>
      have := k H1 s1
      rw [dueC, if_pos en] at this
      exact iteT this
    | true =>
      refine iteF ?_
      -- the words
      refine fun p np => ⟨(by show 1 ≤ sizeLine; decide), fun l1 n1 => ⟨(by show 1 ≤ sizeLine; decide), fun l2 n2 => ⟨(by show 2 ≤ sizeLine; decide), fun l3 n3 => ?_⟩⟩⟩
      have sA : Same (upd H1 p (.dK [])) (upd (upd (upd (upd H1 p (.dK [])) l1 (.lst [.str "days"])) l2 (.lst [.str "left"])) l3 (.lst [.str "by", .str "top"])) := Same.new (Same.new (Same.new (Same.refl _) n1) n2) n3
      refine ⟨sA _ _ upd_same, [(Sum.inr "still", .ref l1), (Sum.inr "anew", .ref l2), (Sum.inr "lift", .ref l3)], rfl, (by show 3 ≤ 15; decide), ?_⟩
      have k1 : l1 ≠ p := fun z => by rw [z, upd_same] at n1; cases n1
      have k2 : l2 ≠ p := fun z => by
        rw [z, upd_ne k1.symm, upd_same] at n2
        cases n2
      have k3 : l3 ≠ p := fun z => by
        rw [z, upd_ne k2.symm, upd_ne k1.symm, upd_same] at n3
        cases n3
      have k12 : l1 ≠ l2 := fun z => by
        rw [← z, upd_same] at n2
        cases n2
      have k13 : l1 ≠ l3 := fun z => by
        rw [← z, upd_ne k12, upd_same] at n3
        cases n3
      have k23 : l2 ≠ l3 := fun z => by
        rw [← z, upd_same] at n3
        cases n3
      generalize hH2 : upd (upd (upd (upd (upd H1 p (.dK [])) l1 (.lst [.str "days"])) l2 (.lst [.str "left"])) l3 (.lst [.str "by", .str "top"])) p (.dK (mergeK [] [(Sum.inr "still", .ref l1), (Sum.inr "anew", .ref l2), (Sum.inr "lift", .ref l3)])) = H2
      have s2 : Same H1 H2 := fun b o hb => by
        have bp := ne_of_none hb np
        rw [← hH2, upd_ne bp]
        exact sA _ _ (by rw [upd_ne bp]; exact hb)
      have e1 : H2 l1 = some (.lst [.str "days"]) := by rw [← hH2, upd_ne k1, upd_ne k13, upd_ne k12, upd_same]
      have e2 : H2 l2 = some (.lst [.str "left"]) := by rw [← hH2, upd_ne k2, upd_ne k23, upd_same]
      have e3 : H2 l3 = some (.lst [.str "by", .str "top"]) := by rw [← hH2, upd_ne k3, upd_same]
      have ep : H2 p = some (.dK (mergeK [] [(Sum.inr "still", .ref l1), (Sum.inr "anew", .ref l2), (Sum.inr "lift", .ref l3)])) := by rw [← hH2, upd_same]
      obtain ⟨lw, hlw, hget⟩ : ∃ lw, H2 lw = some (.lst (wl.map V.str)) ∧ valV (mergeK [] [(Sum.inr "still", .ref l1), (Sum.inr "anew", .ref l2), (Sum.inr "lift", .ref l3)]) (Sum.inr fm : Key) = some (.ref lw) := by
        rcases hwl with ⟨e, rfl⟩ | ⟨e, rfl⟩ | ⟨e, rfl⟩
        · exact ⟨l1, e1, by rw [e]; exact (due3 _ _ _).1⟩
        · exact ⟨l2, e2, by rw [e]; exact (due3 _ _ _).2.1⟩
        · exact ⟨l3, e3, by rw [e]; exact (due3 _ _ _).2.2⟩
      have sH2 := s1.trans s2
      refine ⟨_, rfl, p, _, rfl, hget ▸ DGet.k (k := Sum.inr fm) ep, ?_⟩
      refine ⟨_, rfl, _, rfl, _, rfl, g, ws, rfl, sH2.seq hS, fun q nq => ?_⟩
      rw [show cutV ws (some 1) none = ws.drop 1 from cut_fromV ws 1]
      have hdr : ws.drop 1 = vals ++ [tm] := by rw [hws]; rfl
      rw [hdr]
      have hq2 : upd H2 q (.lst (vals ++ [tm])) lw = some (.lst (wl.map V.str)) := by rw [upd_ne (ne_of_none hlw nq)]; exact hlw
      have s3 : Same H2 (upd H2 q (.lst (vals ++ [tm]))) := Same.new (Same.refl _) nq
      have hn : wl.length = min (wl.map V.str).length (vals ++ [tm]).length := by
        rw [List.length_map, List.length_append, hlen]
        simp
      refine ⟨lw, q, wl.map V.str, vals ++ [tm], rfl, SqL.of hq2, SqL.of upd_same, for_it (walk_zip (K := K) hn) (fun i σ H' => ∃ (v3 v4 : Option V), σ = [some (.str fm), some (.ref g), some (.ref lw), v3, v4] ∧ Same (upd H2 q (.lst (vals ++ [tm]))) H' ∧ ∀ p ∈ (wl.zip vals).take i, cntV p.2 = true)
        ⟨_, _, rfl, Same.refl _, fun p hp => by simp at hp⟩ (fun i σ H' _ ⟨_, _, _, s4, _⟩ => ⟨SqL.of (s4 _ _ hq2), SqL.of (s4 _ _ upd_same)⟩) ?_ ?_⟩
      · rintro i y σ H3 H4 hi ⟨v3, v4, rfl, s4, hp⟩ ⟨T, x, v, rfl, nT, rfl, hx, hv⟩
        obtain ⟨wd, rfl, hwd⟩ := map_at hx
        have hvi : vals[i]? = some v := by
          have hv2 : (vals ++ [tm])[i]? = some v := hv
          rw [List.getElem?_append_left (by omega)] at hv2
          exact hv2
        have hz := find_zip hwd hvi
        have s5 : Same H (upd H3 T (.tup [.str wd, v])) := Same.new (sH2.trans (s3.trans s4)) nT
        have gv : GoodV K H v := hg v (by rw [hws]; exact List.mem_cons_of_mem _ (List.mem_append_left _ (at_mem hvi)))
        refine ⟨T, _, rfl, SqT.of upd_same, rfl, _, _, rfl, _, _, rfl, rfl, ?_⟩
        refine ⟨_, rfl, v, rfl, gv.same s5, _, rfl, ?_⟩
        cases ec : cntV v with
        | true =>
          refine iteF ⟨_, _, rfl, Same.new s4 nT, fun p hp' => ?_⟩
          rw [List.take_add_one, hz] at hp'
          rcases List.mem_append.mp hp' with h | h
          · exact hp p h
          · rw [List.mem_singleton.mp h]
            exact ec
        | false =>
          refine iteT ⟨_, rfl, ?_⟩
          have := k _ s5
          rw [dueC, if_neg (by rw [en]; exact Bool.noConfusion), find_pre hz (fun y hy => by rw [hp y hy]; rfl) (by rw [ec]; rfl)] at this
          exact this
      · rintro σ H3 ⟨v3, v4, rfl, s4, hp⟩
        have hall : (wl.zip vals).find? (fun p => !cntV p.2) = none := List.find?_eq_none.mpr fun p hp' => by
          rw [hp p (by rw [List.take_of_length_le (by rw [List.length_zip]; omega)]; exact hp')]
          exact Bool.false_ne_true
        have s5 : Same H H3 := sH2.trans (s3.trans s4)
        have fin := k _ s5
        rw [dueC, if_neg (by rw [en]; exact Bool.noConfusion), hall] at fin
        refine ⟨_, rfl, _, rfl, g, ws, -1, tm, rfl, rfl, s5.seq hS, gl, rfl, _, rfl, ?_⟩
        by_cases et : tm = .non
        · rw [decide_eq_true et]
          refine iteT (iteT ?_)
          rw [show (if tm ≠ .non ∧ cntV tm = false then some ("times" : Str) else none) = none by rw [if_neg (fun z => z.1 et)]] at fin
          exact fin
        · rw [decide_eq_false et]
          refine iteF ⟨_, rfl, _, rfl, g, ws, -1, tm, rfl, rfl, s5.seq hS, gl, tm, rfl, gt.same s5, _, rfl, ?_⟩
          cases ec : cntV tm with
          | true =>
            rw [show (if tm ≠ .non ∧ cntV tm = false then some ("times" : Str) else none) = none from if_neg (fun z => by simp [ec] at z)] at fin
            exact iteT fin
          | false =>
            rw [show (if tm ≠ .non ∧ cntV tm = false then some ("times" : Str) else none) = some "times" from if_pos ⟨et, ec⟩] at fin
            exact iteF fin
end
end Ts

namespace Ts
open PySem L2
/-- what the text says of the errors of kinds -/
structure ErrT (K : PySem.W.Frag) (mg : Str → Option Value) (CI CT CR : Addr) : Prop where
  ec : ExcC K CI
  xf : XfC K CI
  no : PySem.W.findIn K (.ref CI) "word" = some none
  te : PySem.W.exmOne K (.ref CI) (.ref CI) = some true
  k1 : PySem.W.kitOne K (.ref CI) (.ref CT) = some true
  k2 : PySem.W.kitOne K (.ref CI) (.ref CR) = some false
  gI : mg "InvalidKind" = some (.ref CI)
  gT : mg "TermError" = some (.ref CT)
  gR : mg "InvalidRule" = some (.ref CR)
section
variable {P : Program} {w : World} {K : PySem.W.Frag} {mg : Str → Option Value} {base : Heap}
abbrev sHeard : Stmt := (top 36)
abbrev nHeard : List Str := ["_law_form", "_law_given", "_law_found", "e"]
theorem sc_heard : FnScope nHeard ["_law_form", "_law_given"] (C8.fnScope sHeard) := C8.fnScope_by (by decide +kernel)
theorem cal_heard {f CI CT CR CS CA CL : Addr} {fd : FuncData} (F : C8.Def K mg "_law_heard" sHeard f fd) (df : fd.defaults = .none) (T : ErrT K mg CI CT CR) (mIsi : mg "isinstance" = none)
    (mS : MakX P w K mg base 4 "Still" CS (spKind K CS CI 3 dueS fsS) []) (mA : MakX P w K mg base 4 "Anew" CA (spKind K CA CI 3 dueA fsA) []) (mL : MakX P w K mg base 4 "Lift" CL (spKind K CL CI 4 dueL fsL) []) : C8.Cal P w K mg base 6 "_law_heard" (spHeard K) [] := by
  refine C8.cal0 F (C8.Fun.binds F.fn df (ps := ["_law_form", "_law_given"]) fun _ _ _ _ _ _ us hl => match us, hl with | [_, _], _ => rfl) .nil sc_heard (fun vs H Q E h => ?_) (fun cdv A outer s H vs Q E hr h => ?_)
  · obtain ⟨fm, g, ws, rfl, _⟩ := h
    rfl
  · obtain ⟨fm, g, ws, rfl, hS, hsh, hg, k⟩ := h
    refine ⟨_, pss_cons (ps_set (i := 2) sc_heard.nd rfl (Or.inl rfl) pe_non)
      (pss_cons (ps_try_as (i := 3) rfl rfl sc_heard.nd rfl rfl ⟨rfl, by decide, .inl T.gI⟩ takes0
        (fun W pn xe tk _ => pss_one (ps_if (pt_cmpR op_eq (pv 0) pe_str (nomark _))
            (pss_one (ps_expr (pe_mkX mL hr (by decide) (passesN 4 tk rfl) (by rfl) (pa_cons (pe_ix (show IxR _ (rIxL K) from ix_list) (pv 1) pe_int (fun _ _ => rfl)) (pa_cons (pe_ix (show IxR _ (rIxL K) from ix_list) (pv 1) pe_int (fun _ _ => rfl)) (pa_cons (pe_ix (show IxR _ (rIxL K) from ix_list) (pv 1) pe_int (fun _ _ => rfl)) (pa_cons (pe_ix (show IxR _ (rIxL K) from ix_list) (pv 1) pe_int (fun _ _ => rfl)) pa_nil)))))))
            (pss_one (ps_if (pt_cmpR op_eq (pv 0) pe_str (nomark _))
              (pss_one (ps_expr (pe_mkX mS hr (by decide) (passesN 4 tk rfl) (by rfl) (pa_cons (pe_ix (show IxR _ (rIxL K) from ix_list) (pv 1) pe_int (fun _ _ => rfl)) (pa_cons (pe_ix (show IxR _ (rIxL K) from ix_list) (pv 1) pe_int (fun _ _ => rfl)) (pa_cons (pe_ix (show IxR _ (rIxL K) from ix_list) (pv 1) pe_int (fun _ _ => rfl)) pa_nil))))))
              (pss_one (ps_expr (pe_mkX mA hr (by decide) (passesN 4 tk rfl) (by rfl) (pa_cons (pe_ix (show IxR _ (rIxL K) from ix_list) (pv 1) pe_int (fun _ _ => rfl)) (pa_cons (pe_ix (show IxR _ (rIxL K) from ix_list) (pv 1) pe_int (fun _ _ => rfl)) (pa_cons (pe_ix (show IxR _ (rIxL K) from ix_list) (pv 1) pe_int (fun _ _ => rfl)) pa_nil))))))))))
        (fun a oe cls d pn hz hf => pss_one (ps_set (i := 2) sc_heard.nd rfl (Or.inl rfl) (pe_ifExp
            (PW.pt (pw_and (pt_val (pe_callB (r := rIsD K CI a cls d) (call_isD T.ec hz hf) (by rfl) mIsi PyProof.Rows.boot_isinstance (pa_cons (pv 3) (pa_cons (pe_glob (v := .ref CT) (by rfl) T.gT rfl) pa_nil))))
              (pw_and1 (pt_not (pt_val (pe_callB (r := rIsD K CI a cls d) (call_isD T.ec hz hf) (by rfl) mIsi PyProof.Rows.boot_isinstance (pa_cons (pv 3) (pa_cons (pe_glob (v := .ref CR) (by rfl) T.gR rfl) pa_nil))))))))
            (pe_xf T.xf T.no hz hf (pv 3)) pe_str))))
      (pss_one (ps_ret (pv 2)))), ?_⟩
    have suite : ∀ (σ : L2.St) (wd : Str) (H' : Hp) (d : Addr), σ.length = 4 → dueK fm ws = some wd → Same H H' → H' d = some (.xd [("word", .str wd)]) →
        wAs K (.ref CI) 3 (fun a cls d => tAsg (tIf (tAnd (tB (tCB (rIsD K CI a cls d) (tCons (tVar 3) (tCons (tC (.ref CT)) tNil)))) (tNot (tB (tCB (rIsD K CI a cls d) (tCons (tVar 3) (tCons (tC (.ref CR)) tNil)))))) (tXf a cls d CI "word" (tVar 3)) (tC (.str "other"))) (gName 2)) (fun _ _ _ _ => False)
          { nx := fun σ' H' => ∃ v, σ'[2]? = some (some v) ∧ Q v H', rt := Q } (.ref CI) (some d) σ H' := by
      intro σ wd H' d hσ hd s1 hx
      match σ, hσ with
      | [x0, x1, x2, x3], _ =>
        refine ⟨true, T.te, fun _ a na => ?_, fun z => nomatch z⟩
        refine ⟨_, rfl, _, _, true, d, _, rfl, (fun u r => r), rfl, rfl, hx, T.k1, _, rfl, iteT ?_⟩
        refine ⟨_, rfl, _, _, false, d, _, rfl, (fun u r => r), rfl, rfl, hx, T.k2, _, rfl, iteT ?_⟩
        refine ⟨_, rfl, rfl, rfl, d, _, .str wd, rfl, hx, ?_, ?_⟩
        · simp [List.lookup]
        · refine ⟨_, rfl, ?_⟩
          have := k H' s1
          rw [hd] at this
          exact this
    have made : ∀ (x dx C : Addr) (H' : Hp), H x = none → H dx = none → But x (upd (upd H dx (.own x)) x (.ins C dx [])) H' → Same H H' := fun x dx C H' nx ndx hb b o ho => by
      have bx := ne_of_none ho nx
      refine hb b o ?_ bx
      rw [upd_ne bx, upd_ne (ne_of_none ho ndx)]
      exact ho
    have s9 : ∀ (x dx C : Addr), H x = none → H dx = none → Same H (upd (upd H dx (.own x)) x (.ins C dx [])) := fun x dx C nx ndx b o ho => by
      rw [upd_ne (ne_of_none ho nx), upd_ne (ne_of_none ho ndx)]
      exact ho
    rcases hsh with ⟨e, h⟩ | ⟨e, h⟩ | ⟨e, h⟩
    · obtain ⟨a, b, c, d, rfl⟩ := len4 h
      have hk : dueK fm [a, b, c, d] = dueL [a, b, c, d] := by rw [dueK, if_pos e]
      refine ⟨_, rfl, rfl, _, rfl, ?_⟩
      rw [decide_eq_true (show V.str fm = V.str "lift" by rw [e])]
      refine iteT ⟨_, rfl, g, _, 0, a, rfl, rfl, hS, rfl, _, rfl, g, _, 1, b, rfl, rfl, hS, rfl, _, rfl, g, _, 2, c, rfl, rfl, hS, rfl, _, rfl, g, _, 3, d, rfl, rfl, hS, rfl, fun x dx nx ndx ne => ?_⟩
      refine ⟨x, dx, [a, b, c, d], rfl, rfl, upd_same, fun v hv => (hg v hv).same (s9 x dx CL nx ndx), fun hd H' hx hb => ⟨rfl, ?_⟩, fun wd hd H' dd s1 hx σ hσ => ?_⟩
      · refine ⟨_, rfl, ?_⟩
        have := k H' (made x dx CL H' nx ndx hb)
        rw [hk, hd] at this
        exact this
      · exact suite σ wd H' dd hσ (by rw [hk]; exact hd) ((s9 x dx CL nx ndx).trans s1) hx
    · obtain ⟨a, b, c, rfl⟩ := len3 h
      have hk : dueK fm [a, b, c] = dueS [a, b, c] := by rw [dueK, if_neg (by rw [e]; exact nsl), if_pos e]
      refine ⟨_, rfl, rfl, _, rfl, ?_⟩
      rw [decide_eq_false (fun z => nsl (by rw [← e]; exact V.str.inj z))]
      refine iteF ⟨_, rfl, rfl, _, rfl, ?_⟩
      rw [decide_eq_true (show V.str fm = V.str "still" by rw [e])]
      refine iteT ⟨_, rfl, g, _, 0, a, rfl, rfl, hS, rfl, _, rfl, g, _, 1, b, rfl, rfl, hS, rfl, _, rfl, g, _, 2, c, rfl, rfl, hS, rfl, fun x dx nx ndx ne => ?_⟩
      refine ⟨x, dx, [a, b, c], rfl, rfl, upd_same, fun v hv => (hg v hv).same (s9 x dx CS nx ndx), fun hd H' hx hb => ⟨rfl, ?_⟩, fun wd hd H' dd s1 hx σ hσ => ?_⟩
      · refine ⟨_, rfl, ?_⟩
        have := k H' (made x dx CS H' nx ndx hb)
        rw [hk, hd] at this
        exact this
      · exact suite σ wd H' dd hσ (by rw [hk]; exact hd) ((s9 x dx CS nx ndx).trans s1) hx
    · obtain ⟨a, b, c, rfl⟩ := len3 h
      have hk : dueK fm [a, b, c] = dueA [a, b, c] := by rw [dueK, if_neg (by rw [e]; exact nal), if_neg (by rw [e]; exact nas)]
      refine ⟨_, rfl, rfl, _, rfl, ?_⟩
      rw [decide_eq_false (fun z => nal (by rw [← e]; exact V.str.inj z))]
      refine iteF ⟨_, rfl, rfl, _, rfl, ?_⟩
      rw [decide_eq_false (fun z => nas (by rw [← e]; exact V.str.inj z))]
      refine iteF ⟨_, rfl, g, _, 0, a, rfl, rfl, hS, rfl, _, rfl, g, _, 1, b, rfl, rfl, hS, rfl, _, rfl, g, _, 2, c, rfl, rfl, hS, rfl, fun x dx nx ndx ne => ?_⟩
      refine ⟨x, dx, [a, b, c], rfl, rfl, upd_same, fun v hv => (hg v hv).same (s9 x dx CA nx ndx), fun hd H' hx hb => ⟨rfl, ?_⟩, fun wd hd H' dd s1 hx σ hσ => ?_⟩
      · refine ⟨_, rfl, ?_⟩
        have := k H' (made x dx CA H' nx ndx hb)
        rw [hk, hd] at this
        exact this
      · exact suite σ wd H' dd hσ (by rw [hk]; exact hd) ((s9 x dx CA nx ndx).trans s1) hx
end
end Ts

namespace Ts
open PySem L2
section
variable {P : Program} {w : World} {K : PySem.W.Frag} {mg : Str → Option Value} {base : Heap}
abbrev sLaw : Stmt := (top 37)
abbrev nLaw : List Str := ["_law_script", "_law_deal_here", "_law_odd", "_law_turn", "_law_told", "_law_given", "_law_more", "_law_bent", "_law_spot", "_law_word"]
theorem sc_law : FnScope nLaw ["_law_script"] (C8.fnScope sLaw) := C8.fnScope_by (by decide +kernel)
structure NoG (mg : Str → Option Value) : Prop where
  list : mg "list" = none
  range : mg "range" = none
  len : mg "len" = none
theorem fn_law {f CS CI : Addr} {fd : FuncData} (F : C8.Fun K "law" "law" sLaw f fd) (G : NoG mg) (TS : OwnT K CS) (cDeal : C8.Cal P w K mg base 1 "_law_deal" (spDeal K) []) (cDraw : C8.Cal P w K mg base 1 "_law_draw" spDraw []) (cPick : C8.Cal P w K mg base 2 "_law_pick" (spPick K) []) (cMix : C8.Cal P w K mg base 2 "_law_mixed" (spMixed K) [])
    (cN : C8.Cal P w K mg base 3 "_law_names" spNames []) (cK : C8.Cal P w K mg base 3 "_law_kind" spKindD []) (cA : C8.Cal P w K mg base 9 "_law_any" (spAny K 6) []) (cH : C8.Cal P w K mg base 6 "_law_heard" (spHeard K) []) (cU : C8.Cal P w K mg base 2 "_law_due" (spHeard K) [])
    (mS : MakX P w K mg base 4 "Still" CS (spKind K CS CI 3 dueS fsS) [.non]) : FnOk P w K mg base C8.CX0 10 f fd ["_law_script"] (spLaw K) := by
  refine C8.fn0 F sc_law (fun vs H Q E h => ?_) (fun cdv A outer s H vs Q E hr h => ?_)
  · obtain ⟨a, ns, rfl, _⟩ := h
    rfl
  · obtain ⟨a, ns, rfl, hS, hl, k⟩ := h
    refine ⟨_, pss_cons (ps_set (i := 1) sc_law.nd rfl (Or.inl rfl) (C8.pe_c cDeal hr (by decide) (by rfl) (pa_cons (pv 0) pa_nil)))
      (pss_cons (ps_set (i := 2) sc_law.nd rfl (Or.inl rfl) (pe_lst (pa_cons pe_int (pa_cons (pe_un un_neg pe_int) (pa_cons pe_bl (pa_cons pe_bl (pa_cons pe_non (pa_cons pe_str (pa_cons pe_str (pa_cons (pe_tup (pa_cons pe_int pa_nil)) (pa_cons (pe_lst (pa_cons pe_int pa_nil))
          (pa_cons pe_str (pa_cons pe_str (pa_cons pe_str (pa_cons pe_str (pa_cons pe_str (pa_cons (pe_mkX mS hr (by decide) passL (by rfl) (pa_cons pe_str (pa_cons pe_int pa_nil))) pa_nil)))))))))))))))))
      (pss_cons (ps_for PassesOwn.never rfl (pi_range1 (by rfl) G.range (pa_cons pe_int pa_nil)) (pg_name (i := 3) sc_law.nd rfl (Or.inl rfl))
        (pss_cons (ps_set (i := 4) sc_law.nd rfl (Or.inl rfl) (C8.pe_c cK hr (by decide) (by rfl) (pa_cons (pv 1) (pa_cons (pe_ix ix_list (C8.pe_c cN hr (by decide) (by rfl) (pa_cons (pv 1) (pa_cons pe_int pa_nil))) pe_int (fun _ _ => rfl)) (pa_cons pe_int pa_nil)))))
        (pss_cons (ps_set (i := 5) sc_law.nd rfl (Or.inl rfl) (pe_ifExp (pt_cmpR op_ne (pe_ix ix_tup (pv 4) pe_int (fun _ _ => rfl)) pe_str (nomark _))
            (pe_lst (pa_cons (pe_ix ix_tup (pv 4) pe_int (fun _ _ => rfl)) (pa_cons (pe_ix ix_tup (pv 4) pe_int (fun _ _ => rfl)) (pa_cons (pe_ix ix_tup (pv 4) pe_int (fun _ _ => rfl)) pa_nil))))
            (pe_lst (pa_cons (pe_ix ix_tup (pv 4) pe_int (fun _ _ => rfl)) (pa_cons (pe_ix ix_tup (pv 4) pe_int (fun _ _ => rfl)) (pa_cons (pe_ix ix_tup (pv 4) pe_int (fun _ _ => rfl)) (pa_cons (pe_ix ix_tup (pv 4) pe_int (fun _ _ => rfl)) pa_nil)))))))
        (pss_cons (ps_if (pt_cmpR op_notN (C8.pe_c cH hr (by decide) (by rfl) (pa_cons (pe_ix ix_tup (pv 4) pe_int (fun _ _ => rfl)) (pa_cons (pv 5) pa_nil))) pe_non (nomark _)) (pss_one (ps_ret pe_bl)) pss_nil)
        (pss_one (ps_for PassesOwn.never rfl (pi_range1 (by rfl) G.range (pa_cons pe_int pa_nil)) (pg_name (i := 6) sc_law.nd rfl (Or.inl rfl))
          (pss_cons (ps_set (i := 7) sc_law.nd rfl (Or.inl rfl) (pe_callTy call_list_of (by rfl) G.list PyProof.Rows.boot_list (pa_cons (pv 5) pa_nil)))
          (pss_cons (ps_for PassesOwn.never rfl (pi_list (pe_slice sl_list (C8.pe_c cMix hr (by decide) (by rfl) (pa_cons (pv 1) (pa_cons (pe_listRg (by rfl) (by rfl) G.list (prg_1 (by rfl) G.range (pe_callB call_len_seq (by rfl) G.len PySem.boot_len (pa_cons (pv 5) pa_nil)))) pa_nil)))
              po_none (po_some (pe_op op_add pe_int (C8.pe_c cDraw hr (by decide) (by rfl) (pa_cons (pv 1) (pa_cons pe_int pa_nil))))))) (pg_name (i := 8) sc_law.nd rfl (Or.inl rfl))
            (pss_one (ps_asg (pe_ifExp (pt_cmpR op_gt (C8.pe_c cDraw hr (by decide) (by rfl) (pa_cons (pv 1) (pa_cons pe_int pa_nil))) pe_int (nomark _)) (C8.pe_c cPick hr (by decide) (by rfl) (pa_cons (pv 1) (pa_cons (pv 2) pa_nil))) (C8.pe_c cA hr (by decide) (by rfl) (pa_cons (pv 1) (pa_cons pe_int pa_nil)))) (pg_sub (pv 7) (pv 8) set_list))))
          (pss_one (ps_if (pt_cmpR op_ne (C8.pe_c cH hr (by decide) (by rfl) (pa_cons (pe_ix ix_tup (pv 4) pe_int (fun _ _ => rfl)) (pa_cons (pv 7) pa_nil))) (C8.pe_c cU hr (by decide) (by rfl) (pa_cons (pe_ix ix_tup (pv 4) pe_int (fun _ _ => rfl)) (pa_cons (pv 7) pa_nil))) (nomark _)) (pss_one (ps_ret pe_bl)) pss_nil))))))))))
      (pss_cons (ps_for PassesOwn.never rfl (pi_tup (pe_tup (pa_cons pe_str (pa_cons pe_str (pa_cons pe_str (pa_cons pe_str (pa_cons pe_str (pa_cons pe_str (pa_cons pe_str (pa_cons pe_str pa_nil)))))))))) (pg_name (i := 9) sc_law.nd rfl (Or.inl rfl))
        (pss_one (ps_if (pt_cmpR op_ne (C8.pe_c cH hr (by decide) (by rfl) (pa_cons pe_str (pa_cons (pe_lst (pa_cons (pv 9) (pa_cons pe_int (pa_cons pe_int pa_nil)))) pa_nil))) pe_str (nomark _)) (pss_one (ps_ret pe_bl)) pss_nil)))
      (pss_one (ps_ret (pe_cmpR op_eq (C8.pe_c cH hr (by decide) (by rfl) (pa_cons pe_str (pa_cons (pe_lst (pa_cons pe_str (pa_cons pe_int (pa_cons pe_int (pa_cons pe_int pa_nil))))) pa_nil))) pe_str (nomark _))))))), ?_⟩
    refine ⟨_, rfl, a, ns, rfl, hS, hl, fun D L H1 dl s1 D0 L0 => ?_⟩
    -- the odd values
    refine ⟨_, rfl, (by show 1 ≤ sizeLine; decide), fun t0 nt0 => ⟨(by show 1 ≤ sizeLine; decide), fun l0 nl0 => fun x dx nx ndx ne => ?_⟩⟩
    have duN : dueS [.str "a", .int 1, .non] = none := by decide +kernel
    refine ⟨x, dx, [.str "a", .int 1, .non], rfl, rfl, upd_same, fun v hv => goodAll (xs := [.str "a", .int 1, .non]) (by decide +kernel) hv, fun _ H2 hx hb => ⟨rfl, (by show 15 ≤ sizeLine; decide), fun o no => ?_⟩, fun wd hd => by rw [duN] at hd; cases hd⟩
    have sA : Same H1 (upd (upd H1 t0 (.tup [.int 1])) l0 (.lst [.int 1])) := Same.new (Same.new (Same.refl _) nt0) nl0
    have sB : Same (upd (upd H1 t0 (.tup [.int 1])) l0 (.lst [.int 1])) H2 := fun b u hu => by
      have bx := ne_of_none hu nx
      refine hb b u ?_ bx
      rw [upd_ne bx, upd_ne (ne_of_none hu ndx)]
      exact hu
    have tl0 : t0 ≠ l0 := fun z => by
      rw [← z, upd_same] at nl0
      cases nl0
    have ht2 : H2 t0 = some (.tup [.int 1]) := sB _ _ (by rw [upd_ne tl0, upd_same])
    have hl2 : H2 l0 = some (.lst [.int 1]) := sB _ _ upd_same
    have d2 := (dl.same sA).same sB
    have oo := off_new d2 no
    have sO : ∀ u : HO, Same H2 (upd H2 o u) := fun u => Same.new (Same.refl _) no
    obtain ⟨odd, hodd⟩ : ∃ odd : List V, odd = [.int 0, .int (-1), .bl true, .bl false, .non, .str "1", .str "", .ref t0, .ref l0, .str "any", .str "Talk", .str "talks", .str "a b", .str "a1", .ref x] := ⟨_, rfl⟩
    have og : ∀ v ∈ odd, GoodV K (upd H2 o (.lst odd)) v := by
      rw [hodd]
      intro v hv
      simp only [List.mem_cons, List.not_mem_nil, or_false] at hv
      rcases hv with rfl | rfl | rfl | rfl | rfl | rfl | rfl | rfl | rfl | rfl | rfl | rfl | rfl | rfl | rfl
      case inr.inr.inr.inr.inr.inr.inr.inl => exact goodTup (SqT.of (sO _ _ _ ht2))
      case inr.inr.inr.inr.inr.inr.inr.inr.inl => exact goodList (SqL.of (sO _ _ _ hl2))
      case inr.inr.inr.inr.inr.inr.inr.inr.inr.inr.inr.inr.inr.inr => exact goodOwn TS (sO _ _ _ hx)
      all_goals exact goodFlat (by decide +kernel)
    have ol : 0 < odd.length ∧ odd.length ≤ 1000 := by rw [hodd]; exact ⟨by simp, by simp⟩
    rw [← hodd]
    generalize hHo : upd H2 o (.lst odd) = Ho at og
    have ho : Ho o = some (.lst odd) := by rw [← hHo, upd_same]
    have W0 : Went D L Ho Ho := Went.refl (by rw [← hHo]; exact d2.same (sO _))
    refine ⟨10, rfl, by decide, by decide, for_range (lo := 0) (n := 10) (fun i σ H' => ∃ (v3 v4 v5 v6 v7 v8 v9 : Option V), σ = [some (.ref a), some (.ref D), some (.ref o), v3, v4, v5, v6, v7, v8, v9] ∧ Went D L Ho H')
      ⟨_, _, _, _, _, _, _, rfl, W0⟩ ?_ ?_⟩
    · rintro i σ H3 hi ⟨v3, v4, v5, v6, v7, v8, v9, rfl, W⟩
      refine ⟨_, rfl, _, rfl, D, L, 1, rfl, W.d, by decide, by decide, fun p zs H4 hz W4 np hp => ?_⟩
      obtain ⟨z0, zr, rfl⟩ : ∃ z0 zr, zs = z0 :: zr := by
        cases zs with
        | nil => exact absurd hz.length_eq (by decide)
        | cons z0 zr => exact ⟨z0, zr, rfl⟩
      have hz0 : z0 ∈ nameVs := hz.mem_iff.mp (List.mem_cons_self ..)
      have okz : flatB z0 = true := List.all_eq_true.mp (show nameVs.all flatB = true by decide +kernel) z0 hz0
      refine ⟨p, _, 0, z0, rfl, rfl, SqL.of hp, rfl, D, L, z0, 9, rfl, W4.d, by decide, by decide, fun t fm ka kb mn H5 told W5 nt ht => ?_⟩
      have W5' := (W.trans W4).trans W5
      have okm : flatB mn = true := List.all_eq_true.mp (show manyVs.all flatB = true by decide) mn told.m
      refine ⟨_, rfl, t, _, 0, _, rfl, rfl, SqT.of ht, rfl, rfl, _, rfl, ite_list (P := fun ws => Shape fm ws ∧ dueK fm ws = none ∧ ws.all flatB = true) (fun g ws ng hws => ?_) (fun hb1 => ?_) (fun hb1 => ?_)⟩
      · obtain ⟨hsh, hdue, hfl⟩ := hws
        have og5 := off_new W5'.d ng
        have W6 := W5'.new ng (o := .lst ws)
        have ht6 : upd H5 g (.lst ws) t = some (.tup [.str fm, z0, .int ka, .int kb, mn]) := by rw [upd_ne (ne_of_none ht ng)]; exact ht
        have ot : t ≠ D ∧ t ≠ L := by
          obtain ⟨cs, m, f1, f2, _⟩ := W5.d.ex
          exact ⟨ne_of ht f1 (by intro z; cases z), ne_of ht f2 (by intro z; cases z)⟩
        -- a good one is made
        refine ⟨_, rfl, t, _, 0, _, rfl, rfl, SqT.of ht6, rfl, _, rfl, fm, g, ws, rfl, SqL.of upd_same, hsh, fun v hv => goodAll hfl hv, fun H7 s7 => ⟨rfl, _, rfl, ?_⟩⟩
        rw [hdue]
        refine iteNS rfl ?_
        have W7 := W6.same s7
        have ht7 := s7 _ _ ht6
        have hg7 : H7 g = some (.lst ws) := s7 _ _ upd_same
        refine ⟨4, rfl, by decide, by decide, for_range (lo := 0) (n := 4) (fun j σ H' => ∃ (v6 v7 v8 : Option V), σ = [some (.ref a), some (.ref D), some (.ref o), some (.int (0 + (i : Int))), some (.ref t), some (.ref g), v6, v7, v8, v9] ∧ Went D L H7 H')
          ⟨_, _, _, rfl, Went.refl W7.d⟩ ?_ ?_⟩
        · rintro j σ H8 hj ⟨v6, v7, v8, rfl, W8⟩
          have ht8 := W8.k _ _ ot.1 ot.2 ht7
          have hg8 := W8.k _ _ og5.1 og5.2 hg7
          refine ⟨_, rfl, g, _, rfl, .inl (SqL.of hg8), fun b nb => ?_⟩
          have ob := off_new W8.d nb
          have W9 : Went D L H8 (upd H8 b (.lst ws)) := (Went.refl W8.d).new nb
          have hg9 : upd H8 b (.lst ws) g = some (.lst ws) := by rw [upd_ne (ne_of_none hg8 nb)]; exact hg8
          refine ⟨_, rfl, _, rfl, g, _, rfl, .inl (SqL.of hg9), _, rfl, RgOk.of_le (by decide) (by have := hsh.le; omega) (by decide) (by omega), fun q nq => ?_⟩
          have oq := off_new W9.d nq
          have bq : b ≠ q := fun z => by
            rw [← z, upd_same] at nq
            cases nq
          have rl : (rgV 0 (ws.length : Int)).length ≤ 1000 := by
            rw [rgV_length]
            have := hsh.le
            omega
          refine ⟨D, L, q, rgV 0 (ws.length : Int), rfl, W9.d.same (Same.new (Same.refl _) nq), SqL.of upd_same, oq.1, oq.2, rg_ok _, rl, fun p2 ys H10 hys W10 np2 hp2 => ?_⟩
          have b10 : H10 b = some (.lst ws) := W10.k _ _ ob.1 ob.2 (by rw [upd_ne bq, upd_same])
          have op2 := off_new (W9.d.same (Same.new (Same.refl _) nq (o := .lst (rgV 0 (ws.length : Int))))) np2
          refine ⟨_, rfl, D, L, 2, rfl, W10.d, by decide, by decide, fun d H11 d0 d1 W11 => ⟨_, _, rfl, rfl, _, rfl, p2, ys, rfl, SqL.of (W11.k _ _ op2.1 op2.2 hp2), fun q2 nq2 => ?_⟩⟩
          have oq2 := off_new W11.d nq2
          have b11 := W11.k _ _ ob.1 ob.2 b10
          have bq2 := ne_of_none b11 nq2
          obtain ⟨cut, hcut⟩ : ∃ cut, cut = cutV ys none (some (1 + d)) := ⟨_, rfl⟩
          have hc : ∀ v ∈ cut, ∃ j : Nat, v = .int (j : Int) ∧ j < ws.length := fun v hv => rg_mem (hys.mem_iff.mp (mem_cut (hcut ▸ hv)))
          have W12 : Went D L H8 (upd H11 q2 (.lst cut)) := (((W9.new nq).trans W10).trans W11).new nq2
          show ∃ a_1, V.ref q2 = V.ref a_1 ∧ _
          rw [← hcut]
          refine ⟨q2, rfl, ⟨_, SqL.of upd_same⟩, ?_⟩
          obtain ⟨PV, hPV⟩ : ∃ PV : Nat → L2.St → Hp → Prop, PV = fun _ σ H' => ∃ (us : List V) (v8 : Option V), σ = [some (.ref a), some (.ref D), some (.ref o), some (.int (0 + (i : Int))), some (.ref t), some (.ref g), some (.int (0 + (j : Int))), some (.ref b), v8, v9] ∧
              H' b = some (.lst us) ∧ us.length = ws.length ∧ (∀ v ∈ us, GoodV K H' v) ∧ H' q2 = some (.lst cut) ∧ Went D L H8 H' := ⟨_, rfl⟩
          refine for_list (K := K) (a := q2) (xs := cut) PV ?_ ?_ ?_ ?_
          · rw [hPV]
            exact ⟨ws, _, rfl, by rw [upd_ne bq2]; exact b11, rfl, fun v hv => goodAll hfl hv, upd_same, W12⟩
          · rw [hPV]
            rintro _ _ H' _ ⟨_, _, _, _, _, _, hq2, _⟩
            exact SqL.of hq2
          · rw [hPV]
            rintro m y σ H13 hm ⟨us, v8, rfl, hb13, hus, hgu, hq13, W13⟩
            obtain ⟨sp, rfl, hsp⟩ := hc y (at_mem hm)
            have put : ∀ (v : V) (H14 : Hp), GoodV K H14 v → Went D L H13 H14 → gSub (tVar 7) (tVar 8) rSetL v [some (.ref a), some (.ref D), some (.ref o), some (.int (0 + (i : Int))), some (.ref t), some (.ref g), some (.int (0 + (j : Int))), some (.ref b), some (.int (sp : Int)), v9] H14 (PV (m + 1)) := by
              intro v H14 gv W14
              have hb14 := W14.k _ _ ob.1 ob.2 hb13
              refine ⟨_, rfl, _, rfl, b, us, sp, sp, rfl, rfl, hb14, ixN_of (by omega), ?_⟩
              rw [hPV]
              refine ⟨us.set sp v, _, rfl, upd_same, by rw [List.length_set]; exact hus, fun u hu => ?_, ?_, (W13.trans W14).mut nb ob.1 ob.2⟩
              · rcases List.mem_or_eq_of_mem_set hu with h | h
                · exact ((hgu u h).went W13.d W14).mutList hb14
                · rw [h]
                  exact gv.mutList hb14
              · rw [upd_ne bq2.symm]
                exact W14.k _ _ oq2.1 oq2.2 hq13
            rw [← hPV]
            refine ⟨_, rfl, D, L, 3, rfl, W13.d, by decide, by decide, fun d3 H14 e0 e1 W14 => ⟨_, _, rfl, rfl, _, rfl, ?_⟩⟩
            have Wo : Went D L Ho H14 := ((W7.trans W8).trans W13).trans W14
            refine ite2 (fun _ => ?_) (fun _ => ?_)
            · refine ⟨_, rfl, _, rfl, D, L, o, odd, rfl, W14.d, SqL.of (Wo.k _ _ oo.1 oo.2 ho), oo.1, oo.2, ol.1, ol.2, fun v H15 hv W15 => ?_⟩
              exact put v H15 ((og v hv).went W0.d (Wo.trans W15)) (W14.trans W15)
            · refine ⟨_, rfl, D, L, 6, rfl, W14.d, by decide, by decide, fun v H15 gv W15 => ?_⟩
              exact put v H15 gv (W14.trans W15)
          · rw [hPV]
            rintro σ H13 ⟨us, v8, rfl, hb13, hus, hgu, hq13, W13⟩
            have ht13 := W13.k _ _ ot.1 ot.2 ht8
            refine ⟨_, rfl, t, _, 0, _, rfl, rfl, SqT.of ht13, rfl, _, rfl, fm, b, us, rfl, SqL.of hb13, hsh.len hus, hgu, fun H14 s14 => ?_⟩
            refine ⟨_, rfl, t, _, 0, _, rfl, rfl, SqT.of (s14 _ _ ht13), rfl, _, rfl, fm, b, us, rfl, SqL.of (s14 _ _ hb13), hsh.len hus, fun v hv => (hgu v hv).same s14, fun H15 s15 => ?_⟩
            exact ⟨scal_opt _, _, rfl, iteNS rfl ⟨_, _, _, rfl, (W8.trans W13).same (s14.trans s15)⟩⟩
        · rintro σ H8 ⟨v6, v7, v8, rfl, W8⟩
          exact ⟨_, _, _, _, _, _, _, rfl, W7.trans W8⟩
      · -- not a lift
        have nl : fm ≠ "lift" := fun z => by
          rw [z] at hb1
          exact absurd hb1 (by decide +kernel)
        refine ⟨[z0, .int ka, mn], ⟨?_, ?_, (by show (flatB z0 && (true && (flatB mn && true))) = true; rw [okz, okm]; rfl)⟩, fun Q' kq => ?_⟩
        · rcases form_cases told.f with e | e | e
          · exact .inr (.inl ⟨e, rfl⟩)
          · exact .inr (.inr ⟨e, rfl⟩)
          · exact absurd e nl
        · have ok1 : dueS [z0, .int ka, mn] = none := dueC_ok (name_ok hz0) (fun p hp => by rw [List.mem_singleton.mp hp]; exact cnt_int told.a1) (many_ok told.m)
          have ok2 : dueA [z0, .int ka, mn] = none := dueC_ok (name_ok hz0) (fun p hp => by rw [List.mem_singleton.mp hp]; exact cnt_int told.a1) (many_ok told.m)
          rw [dueK, if_neg nl]
          split
          · exact ok1
          · exact ok2
        · exact ⟨_, rfl, t, _, 1, _, rfl, rfl, SqT.of ht, rfl, _, rfl, t, _, 2, _, rfl, rfl, SqT.of ht, rfl, _, rfl, t, _, 4, _, rfl, rfl, SqT.of ht, rfl, (by show 3 ≤ sizeLine; decide), fun g ng => kq g ng⟩
      · have el : fm = "lift" := by
          by_cases z : fm = "lift"
          · exact z
          · rw [decide_eq_false (fun q => z (V.str.inj q))] at hb1
            cases hb1
        refine ⟨[z0, .int ka, .int kb, mn], ⟨.inl ⟨el, rfl⟩, ?_, (by show (flatB z0 && (true && (true && (flatB mn && true)))) = true; rw [okz, okm]; rfl)⟩, fun Q' kq => ?_⟩
        · rw [dueK, if_pos el]
          refine dueC_ok (name_ok hz0) (fun p hp => ?_) (many_ok told.m)
          rcases List.mem_cons.mp hp with rfl | hp
          · exact cnt_int told.a1
          · rw [List.mem_singleton.mp hp]
            exact cnt_int (told.b1 el)
        · exact ⟨_, rfl, t, _, 1, _, rfl, rfl, SqT.of ht, rfl, _, rfl, t, _, 2, _, rfl, rfl, SqT.of ht, rfl, _, rfl, t, _, 3, _, rfl, rfl, SqT.of ht, rfl, _, rfl, t, _, 4, _, rfl, rfl, SqT.of ht, rfl, (by show 4 ≤ sizeLine; decide), fun g ng => kq g ng⟩
    · rintro σ H3 ⟨v3, v4, v5, v6, v7, v8, v9, rfl, W⟩
      obtain ⟨wds, hwds⟩ : ∃ wds : List V, wds = [.str "any", .str "none", .str "anew", .str "lift", .str "term", .str "still", .str "aaaaa", .str ""] := ⟨_, rfl⟩
      have hno : ∀ v ∈ wds, nameV v = false ∧ flatB v = true := by
        rw [hwds]
        have h1 : ([.str "any", .str "none", .str "anew", .str "lift", .str "term", .str "still", .str "aaaaa", .str ""] : List V).all (fun v => !nameV v && flatB v) = true := by decide +kernel
        intro v hv
        have := List.all_eq_true.mp h1 v hv
        rw [Bool.and_eq_true, Bool.not_eq_true'] at this
        exact this
      refine ⟨(by show 8 ≤ sizeLine; decide), fun q nq => ?_⟩
      show ∃ a_1, V.ref q = V.ref a_1 ∧ _
      rw [← hwds]
      refine ⟨q, rfl, ⟨_, SqT.of upd_same⟩, for_tup (K := K) (a := q) (xs := wds) (fun i σ H' => ∃ (v9 : Option V), σ = [some (.ref a), some (.ref D), some (.ref o), v3, v4, v5, v6, v7, v8, v9] ∧ H' q = some (.tup wds)) ⟨_, rfl, upd_same⟩ (fun i σ H' _ ⟨_, _, h⟩ => SqT.of h) ?_ ?_⟩
      · rintro i y σ H4 hy ⟨v9, rfl, hq⟩
        obtain ⟨n1, n2⟩ := hno y (at_mem hy)
        refine ⟨_, rfl, (by show 3 ≤ sizeLine; decide), fun g ng => ?_⟩
        refine ⟨"still", g, [y, .int 1, .int 1], rfl, SqL.of upd_same, .inr (.inl ⟨rfl, rfl⟩), fun v hv => goodAll (xs := [y, .int 1, .int 1]) (by show (flatB y && (true && (true && true))) = true; rw [n2]; rfl) hv, fun H5 s5 => ?_⟩
        have e : dueK "still" [y, .int 1, .int 1] = some ("name" : Str) := by
          rw [dueK, if_neg nsl, if_pos rfl]
          show dueC y [("days", .int 1)] (.int 1) = _
          rw [dueC, if_pos n1]
        rw [e]
        exact ⟨rfl, _, rfl, iteNS rfl ⟨_, rfl, s5 _ _ (by rw [upd_ne (ne_of_none hq ng)]; exact hq)⟩⟩
      · rintro σ H4 ⟨v9, rfl, hq⟩
        refine ⟨(by show 4 ≤ sizeLine; decide), fun g ng => ?_⟩
        refine ⟨"lift", g, [.str "tops", .int 1, .int 0, .int 0], rfl, SqL.of upd_same, .inl ⟨rfl, rfl⟩, fun v hv => goodAll (xs := [.str "tops", .int 1, .int 0, .int 0]) (by decide +kernel) hv, fun H5 s5 => ?_⟩
        rw [show dueK "lift" [.str "tops", .int 1, .int 0, .int 0] = some ("top" : Str) by decide +kernel]
        refine ⟨rfl, ?_⟩
        exact k _
end
end Ts

namespace Ts
open PySem L2
theorem all_mk {l : PySem.W.OpenLaw} {w : World} {K : PySem.W.Frag} {h : Heap} {mg : Str → Option Value} {fa f_draw f_deal f_pick f_mixed f_any f_names f_kindD f_title f_size f_due f_heard f_isInt f_isCount f_isName f_check f_law CS f_Still TdCS CA f_Anew TdCA CL f_Lift TdCL CT CR CI f_xkind TN : Addr} (X : K.In h) (G : h.Ns mainGlobals mg) (hfa : mg "law" = some (.ref fa))
    {od_draw an_draw od_deal an_deal od_pick an_pick od_mixed an_mixed od_any an_any od_names an_names od_kindD an_kindD od_title an_title od_size an_size od_due an_due od_heard an_heard od_isInt an_isInt od_isCount an_isCount od_isName an_isName od_check an_check od_law an_law od_Still an_Still od_TdCS od_Anew an_Anew od_TdCA od_Lift an_Lift od_TdCL od_xkind an_xkind od_TN : Option Addr} {sl_draw sl_deal sl_pick sl_mixed sl_any sl_names sl_kindD sl_title sl_size sl_due sl_heard sl_isInt sl_isCount sl_isName sl_check sl_law sl_Still sl_TdCS sl_Anew sl_TdCA sl_Lift sl_TdCL sl_xkind sl_TN : Array (Option Value)} {oc_draw kV_draw dc_draw pm_draw cd_draw ct_draw oc_deal kV_deal dc_deal pm_deal cd_deal ct_deal oc_pick kV_pick dc_pick pm_pick cd_pick ct_pick oc_mixed kV_mixed dc_mixed pm_mixed cd_mixed ct_mixed oc_any kV_any dc_any pm_any cd_any ct_any oc_names kV_names dc_names pm_names cd_names ct_names oc_kindD kV_kindD dc_kindD pm_kindD cd_kindD ct_kindD oc_title kV_title dc_title pm_title cd_title ct_title oc_size kV_size dc_size pm_size cd_size ct_size oc_due kV_due dc_due pm_due cd_due ct_due oc_heard kV_heard dc_heard pm_heard cd_heard ct_heard oc_isInt kV_isInt dc_isInt pm_isInt cd_isInt ct_isInt oc_isCount kV_isCount dc_isCount pm_isCount cd_isCount ct_isCount oc_isName kV_isName dc_isName pm_isName cd_isName ct_isName oc_check kV_check dc_check pm_check cd_check ct_check oc_law kV_law dc_law pm_law cd_law ct_law oc_Still kV_Still dc_Still pm_Still cd_Still ct_Still oc_TdCS oc_Anew kV_Anew dc_Anew pm_Anew cd_Anew ct_Anew oc_TdCA oc_Lift kV_Lift dc_Lift pm_Lift cd_Lift ct_Lift oc_TdCL oc_xkind kV_xkind dc_xkind pm_xkind cd_xkind ct_xkind : Value} {n_TdCS n_TdCA n_TdCL n_TN : Nat} {tk_TN_0 tk_TN_1 tk_TN_2 tk_TN_3 tk_TN_4 tk_MOST_LETTERS tk_LETTERS : Tok} {nm_CI q_CI : Str} {N_CI : Addr} {bs_CI sub_CI : List Value} {sn_CI : List Str} {ab_CI : Bool} {col_CI : Option Bool} {dd_CI : Option Addr} {k0_CI k1_CI k2_CI k3_CI k5_CI : Option Value}
    (a_draw : PySem.W.nsIn K mainGlobals "_law_draw" = some (some (.ref f_draw)))
    (l_draw : K.lookup f_draw = some ⟨oc_draw, od_draw, .func (PySem.W.fnOf "_law_draw" "_law_draw" (C8.fnArgs sDraw) (C8.fnBody sDraw) (C8.fnScope sDraw) .none kV_draw dc_draw pm_draw an_draw cd_draw ct_draw), sl_draw⟩)
    (c_draw : PySem.W.codeIn K cd_draw "_law_draw" = true)
    (k_draw : PySem.W.keepIn K (.ref f_draw) = true)
    (a_deal : PySem.W.nsIn K mainGlobals "_law_deal" = some (some (.ref f_deal)))
    (l_deal : K.lookup f_deal = some ⟨oc_deal, od_deal, .func (PySem.W.fnOf "_law_deal" "_law_deal" (C8.fnArgs sDeal) (C8.fnBody sDeal) (C8.fnScope sDeal) .none kV_deal dc_deal pm_deal an_deal cd_deal ct_deal), sl_deal⟩)
    (c_deal : PySem.W.codeIn K cd_deal "_law_deal" = true)
    (k_deal : PySem.W.keepIn K (.ref f_deal) = true)
    (a_pick : PySem.W.nsIn K mainGlobals "_law_pick" = some (some (.ref f_pick)))
    (l_pick : K.lookup f_pick = some ⟨oc_pick, od_pick, .func (PySem.W.fnOf "_law_pick" "_law_pick" (C8.fnArgs sPick) (C8.fnBody sPick) (C8.fnScope sPick) .none kV_pick dc_pick pm_pick an_pick cd_pick ct_pick), sl_pick⟩)
    (c_pick : PySem.W.codeIn K cd_pick "_law_pick" = true)
    (k_pick : PySem.W.keepIn K (.ref f_pick) = true)
    (a_mixed : PySem.W.nsIn K mainGlobals "_law_mixed" = some (some (.ref f_mixed)))
    (l_mixed : K.lookup f_mixed = some ⟨oc_mixed, od_mixed, .func (PySem.W.fnOf "_law_mixed" "_law_mixed" (C8.fnArgs sMixed) (C8.fnBody sMixed) (C8.fnScope sMixed) .none kV_mixed dc_mixed pm_mixed an_mixed cd_mixed ct_mixed), sl_mixed⟩)
    (c_mixed : PySem.W.codeIn K cd_mixed "_law_mixed" = true)
    (k_mixed : PySem.W.keepIn K (.ref f_mixed) = true)
    (a_any : PySem.W.nsIn K mainGlobals "_law_any" = some (some (.ref f_any)))
    (l_any : K.lookup f_any = some ⟨oc_any, od_any, .func (PySem.W.fnOf "_law_any" "_law_any" (C8.fnArgs sAny) (C8.fnBody sAny) (C8.fnScope sAny) .none kV_any dc_any pm_any an_any cd_any ct_any), sl_any⟩)
    (c_any : PySem.W.codeIn K cd_any "_law_any" = true)
    (k_any : PySem.W.keepIn K (.ref f_any) = true)
    (a_names : PySem.W.nsIn K mainGlobals "_law_names" = some (some (.ref f_names)))
    (l_names : K.lookup f_names = some ⟨oc_names, od_names, .func (PySem.W.fnOf "_law_names" "_law_names" (C8.fnArgs sNames) (C8.fnBody sNames) (C8.fnScope sNames) .none kV_names dc_names pm_names an_names cd_names ct_names), sl_names⟩)
    (c_names : PySem.W.codeIn K cd_names "_law_names" = true)
    (k_names : PySem.W.keepIn K (.ref f_names) = true)
    (a_kindD : PySem.W.nsIn K mainGlobals "_law_kind" = some (some (.ref f_kindD)))
    (l_kindD : K.lookup f_kindD = some ⟨oc_kindD, od_kindD, .func (PySem.W.fnOf "_law_kind" "_law_kind" (C8.fnArgs sKindD) (C8.fnBody sKindD) (C8.fnScope sKindD) .none kV_kindD dc_kindD pm_kindD an_kindD cd_kindD ct_kindD), sl_kindD⟩)
    (c_kindD : PySem.W.codeIn K cd_kindD "_law_kind" = true)
    (k_kindD : PySem.W.keepIn K (.ref f_kindD) = true)
    (a_title : PySem.W.nsIn K mainGlobals "_law_is_title" = some (some (.ref f_title)))
    (l_title : K.lookup f_title = some ⟨oc_title, od_title, .func (PySem.W.fnOf "_law_is_title" "_law_is_title" (C8.fnArgs sTitle) (C8.fnBody sTitle) (C8.fnScope sTitle) .none kV_title dc_title pm_title an_title cd_title ct_title), sl_title⟩)
    (c_title : PySem.W.codeIn K cd_title "_law_is_title" = true)
    (k_title : PySem.W.keepIn K (.ref f_title) = true)
    (a_size : PySem.W.nsIn K mainGlobals "_law_is_size" = some (some (.ref f_size)))
    (l_size : K.lookup f_size = some ⟨oc_size, od_size, .func (PySem.W.fnOf "_law_is_size" "_law_is_size" (C8.fnArgs sSize) (C8.fnBody sSize) (C8.fnScope sSize) .none kV_size dc_size pm_size an_size cd_size ct_size), sl_size⟩)
    (c_size : PySem.W.codeIn K cd_size "_law_is_size" = true)
    (k_size : PySem.W.keepIn K (.ref f_size) = true)
    (a_due : PySem.W.nsIn K mainGlobals "_law_due" = some (some (.ref f_due)))
    (l_due : K.lookup f_due = some ⟨oc_due, od_due, .func (PySem.W.fnOf "_law_due" "_law_due" (C8.fnArgs sDue) (C8.fnBody sDue) (C8.fnScope sDue) .none kV_due dc_due pm_due an_due cd_due ct_due), sl_due⟩)
    (c_due : PySem.W.codeIn K cd_due "_law_due" = true)
    (k_due : PySem.W.keepIn K (.ref f_due) = true)
    (a_heard : PySem.W.nsIn K mainGlobals "_law_heard" = some (some (.ref f_heard)))
    (l_heard : K.lookup f_heard = some ⟨oc_heard, od_heard, .func (PySem.W.fnOf "_law_heard" "_law_heard" (C8.fnArgs sHeard) (C8.fnBody sHeard) (C8.fnScope sHeard) .none kV_heard dc_heard pm_heard an_heard cd_heard ct_heard), sl_heard⟩)
    (c_heard : PySem.W.codeIn K cd_heard "_law_heard" = true)
    (k_heard : PySem.W.keepIn K (.ref f_heard) = true)
    (a_isInt : PySem.W.nsIn K mainGlobals "is_integer" = some (some (.ref f_isInt)))
    (l_isInt : K.lookup f_isInt = some ⟨oc_isInt, od_isInt, .func (PySem.W.fnOf "is_integer" "is_integer" (C8.fnArgs sIsInt) (C8.fnBody sIsInt) (C8.fnScope sIsInt) .none kV_isInt dc_isInt pm_isInt an_isInt cd_isInt ct_isInt), sl_isInt⟩)
    (c_isInt : PySem.W.codeIn K cd_isInt "is_integer" = true)
    (k_isInt : PySem.W.keepIn K (.ref f_isInt) = true)
    (a_isCount : PySem.W.nsIn K mainGlobals "is_count" = some (some (.ref f_isCount)))
    (l_isCount : K.lookup f_isCount = some ⟨oc_isCount, od_isCount, .func (PySem.W.fnOf "is_count" "is_count" (C8.fnArgs sIsCount) (C8.fnBody sIsCount) (C8.fnScope sIsCount) .none kV_isCount dc_isCount pm_isCount an_isCount cd_isCount ct_isCount), sl_isCount⟩)
    (c_isCount : PySem.W.codeIn K cd_isCount "is_count" = true)
    (k_isCount : PySem.W.keepIn K (.ref f_isCount) = true)
    (a_isName : PySem.W.nsIn K mainGlobals "is_name" = some (some (.ref f_isName)))
    (l_isName : K.lookup f_isName = some ⟨oc_isName, od_isName, .func (PySem.W.fnOf "is_name" "is_name" (C8.fnArgs sIsName) (C8.fnBody sIsName) (C8.fnScope sIsName) .none kV_isName dc_isName pm_isName an_isName cd_isName ct_isName), sl_isName⟩)
    (c_isName : PySem.W.codeIn K cd_isName "is_name" = true)
    (k_isName : PySem.W.keepIn K (.ref f_isName) = true)
    (a_check : PySem.W.nsIn K mainGlobals "check_arguments" = some (some (.ref f_check)))
    (l_check : K.lookup f_check = some ⟨oc_check, od_check, .func (PySem.W.fnOf "check_arguments" "check_arguments" (C8.fnArgs sCheck) (C8.fnBody sCheck) (C8.fnScope sCheck) .none kV_check dc_check pm_check an_check cd_check ct_check), sl_check⟩)
    (c_check : PySem.W.codeIn K cd_check "check_arguments" = true)
    (k_check : PySem.W.keepIn K (.ref f_check) = true)
    (a_law : PySem.W.nsIn K mainGlobals "law" = some (some (.ref f_law)))
    (l_law : K.lookup f_law = some ⟨oc_law, od_law, .func (PySem.W.fnOf "law" "law" (C8.fnArgs sLaw) (C8.fnBody sLaw) (C8.fnScope sLaw) .none kV_law dc_law pm_law an_law cd_law ct_law), sl_law⟩)
    (c_law : PySem.W.codeIn K cd_law "law" = true)
    (k_law : PySem.W.keepIn K (.ref f_law) = true)
    (g_CS : PySem.W.nsIn K mainGlobals "Still" = some (some (.ref CS)))
    (pg_CS : PySem.W.plainGet K CS Str.empty = true)
    (hd_CS : PySem.W.hasDictIn K CS = true)
    (po_CS : PySem.W.plainOver K CS = true)
    (sa_CS : PySem.W.findIn K (.ref CS) "__setattr__" = some (some (.builtin "object.__setattr__")))
    (mk_CS : PySem.W.makesIn K CS = true)
    (kc_CS : PySem.W.keepIn K (.ref CS) = true)
    (n_CS_name : PySem.W.findIn K (.ref CS) "name" = some none)
    (n_CS_days : PySem.W.findIn K (.ref CS) "days" = some none)
    (n_CS_times : PySem.W.findIn K (.ref CS) "times" = some none)
    (ha_CS : PySem.W.findIn K (.ref CS) "__class__" = some (some (.builtin "object.__class__")))
    (hn_cls : PySem.W.specialIn K (.builtin "object.__class__") "__get__" = some (some (.builtin "getset_descriptor.__get__")))
    (ht_cls : PySem.W.takesIn K (.builtin "object.__class__") = some true)
    (hm_CS : PySem.W.mroIn K CS (.type "object") = some true)
    (k0_CS : PySem.W.kitOne K (.ref CS) (.type "int") = some false)
    (k1_CS : PySem.W.kitOne K (.ref CS) (.type "bool") = some false)
    (k2_CS : PySem.W.kitOne K (.ref CS) (.type "str") = some false)
    (k3_CS : PySem.W.kitOne K (.ref CS) (.type "list") = some false)
    (k4_CS : PySem.W.kitOne K (.ref CS) (.type "tuple") = some false)
    (a_Still : PySem.W.findIn K (.ref CS) "__init__" = some (some (.ref f_Still)))
    (i_Still : PySem.W.isFn K (.ref f_Still) = true)
    (l_Still : K.lookup f_Still = some ⟨oc_Still, od_Still, .func (PySem.W.fnOf "__init__" "Still.__init__" (C8.fnArgs sStill) (C8.fnBody sStill) (C8.fnScope sStill) (.ref TdCS) kV_Still dc_Still pm_Still an_Still cd_Still ct_Still), sl_Still⟩)
    (c_Still : PySem.W.codeIn K cd_Still "Still.__init__" = true)
    (k_Still : PySem.W.keepIn K (.ref f_Still) = true)
    (l_TdCS : K.lookup TdCS = some ⟨oc_TdCS, od_TdCS, .seq #[.none] n_TdCS, sl_TdCS⟩)
    (g_CA : PySem.W.nsIn K mainGlobals "Anew" = some (some (.ref CA)))
    (pg_CA : PySem.W.plainGet K CA Str.empty = true)
    (hd_CA : PySem.W.hasDictIn K CA = true)
    (po_CA : PySem.W.plainOver K CA = true)
    (sa_CA : PySem.W.findIn K (.ref CA) "__setattr__" = some (some (.builtin "object.__setattr__")))
    (mk_CA : PySem.W.makesIn K CA = true)
    (kc_CA : PySem.W.keepIn K (.ref CA) = true)
    (n_CA_name : PySem.W.findIn K (.ref CA) "name" = some none)
    (n_CA_left : PySem.W.findIn K (.ref CA) "left" = some none)
    (n_CA_times : PySem.W.findIn K (.ref CA) "times" = some none)
    (a_Anew : PySem.W.findIn K (.ref CA) "__init__" = some (some (.ref f_Anew)))
    (i_Anew : PySem.W.isFn K (.ref f_Anew) = true)
    (l_Anew : K.lookup f_Anew = some ⟨oc_Anew, od_Anew, .func (PySem.W.fnOf "__init__" "Anew.__init__" (C8.fnArgs sAnew) (C8.fnBody sAnew) (C8.fnScope sAnew) (.ref TdCA) kV_Anew dc_Anew pm_Anew an_Anew cd_Anew ct_Anew), sl_Anew⟩)
    (c_Anew : PySem.W.codeIn K cd_Anew "Anew.__init__" = true)
    (k_Anew : PySem.W.keepIn K (.ref f_Anew) = true)
    (l_TdCA : K.lookup TdCA = some ⟨oc_TdCA, od_TdCA, .seq #[.none] n_TdCA, sl_TdCA⟩)
    (g_CL : PySem.W.nsIn K mainGlobals "Lift" = some (some (.ref CL)))
    (pg_CL : PySem.W.plainGet K CL Str.empty = true)
    (hd_CL : PySem.W.hasDictIn K CL = true)
    (po_CL : PySem.W.plainOver K CL = true)
    (sa_CL : PySem.W.findIn K (.ref CL) "__setattr__" = some (some (.builtin "object.__setattr__")))
    (mk_CL : PySem.W.makesIn K CL = true)
    (kc_CL : PySem.W.keepIn K (.ref CL) = true)
    (n_CL_name : PySem.W.findIn K (.ref CL) "name" = some none)
    (n_CL_by : PySem.W.findIn K (.ref CL) "by" = some none)
    (n_CL_top : PySem.W.findIn K (.ref CL) "top" = some none)
    (n_CL_times : PySem.W.findIn K (.ref CL) "times" = some none)
    (a_Lift : PySem.W.findIn K (.ref CL) "__init__" = some (some (.ref f_Lift)))
    (i_Lift : PySem.W.isFn K (.ref f_Lift) = true)
    (l_Lift : K.lookup f_Lift = some ⟨oc_Lift, od_Lift, .func (PySem.W.fnOf "__init__" "Lift.__init__" (C8.fnArgs sLift) (C8.fnBody sLift) (C8.fnScope sLift) (.ref TdCL) kV_Lift dc_Lift pm_Lift an_Lift cd_Lift ct_Lift), sl_Lift⟩)
    (c_Lift : PySem.W.codeIn K cd_Lift "Lift.__init__" = true)
    (k_Lift : PySem.W.keepIn K (.ref f_Lift) = true)
    (l_TdCL : K.lookup TdCL = some ⟨oc_TdCL, od_TdCL, .seq #[.none] n_TdCL, sl_TdCL⟩)
    (g_CT : PySem.W.nsIn K mainGlobals "TermError" = some (some (.ref CT)))
    (g_CR : PySem.W.nsIn K mainGlobals "InvalidRule" = some (some (.ref CR)))
    (g_CI : PySem.W.nsIn K mainGlobals "InvalidKind" = some (some (.ref CI)))
    (l_CI : K.lookup CI = some (excClassObj nm_CI q_CI CI N_CI bs_CI [.ref CT, .type "ValueError", .type "Exception", .type "BaseException", .type "object"] true sn_CI sub_CI ab_CI col_CI dd_CI k0_CI k1_CI k2_CI k3_CI k5_CI "ValueError.__new__"))
    (sa_CI : PySem.W.findIn K (.ref CI) "__setattr__" = some (some (.builtin "object.__setattr__")))
    (ex_CI : PySem.W.subIn K (.ref CI) (.type "BaseException") = some true)
    (ty_CI : PySem.W.typeIn K (.ref CI) = some (.type "type"))
    (kc_CI : PySem.W.keepIn K (.ref CI) = true)
    (a_xkind : PySem.W.findIn K (.ref CI) "__init__" = some (some (.ref f_xkind)))
    (t_xkind : PySem.W.typeIn K (.ref f_xkind) = some (.type "function"))
    (l_xkind : K.lookup f_xkind = some ⟨oc_xkind, od_xkind, .func (PySem.W.fnOf "__init__" "InvalidKind.__init__" (C8.fnArgs sXKind) (C8.fnBody sXKind) (C8.fnScope sXKind) .none kV_xkind dc_xkind pm_xkind an_xkind cd_xkind ct_xkind), sl_xkind⟩)
    (c_xkind : PySem.W.codeIn K cd_xkind "InvalidKind.__init__" = true)
    (no_CI : PySem.W.findIn K (.ref CI) "word" = some none)
    (ga_CI : PySem.W.findIn K (.ref CI) "__getattribute__" = some (some (.builtin "BaseException.__getattribute__")))
    (gg_CI : PySem.W.findIn K (.ref CI) "__getattr__" = some none)
    (hd_CI : PySem.W.hasDictIn K CI = true)
    (ha_CI : PySem.W.findIn K (.ref CI) "__class__" = some (some (.builtin "object.__class__")))
    (hm_CI : PySem.W.mroIn K CI (.type "object") = some true)
    (su_CI : PySem.W.subIn K (.ref CI) (.ref CI) = some true)
    (is_CI_CT : PySem.W.kitOne K (.ref CI) (.ref CT) = some true)
    (is_CI_CR : PySem.W.kitOne K (.ref CI) (.ref CR) = some false)
    (z_int : PySem.W.nsIn K mainGlobals "int" = some none)
    (z_bool : PySem.W.nsIn K mainGlobals "bool" = some none)
    (z_str : PySem.W.nsIn K mainGlobals "str" = some none)
    (z_list : PySem.W.nsIn K mainGlobals "list" = some none)
    (z_range : PySem.W.nsIn K mainGlobals "range" = some none)
    (z_isinstance : PySem.W.nsIn K mainGlobals "isinstance" = some none)
    (z_len : PySem.W.nsIn K mainGlobals "len" = some none)
    (z_abs : PySem.W.nsIn K mainGlobals "abs" = some none)
    (z_tuple : PySem.W.nsIn K mainGlobals "tuple" = some none)
    (z_all : PySem.W.nsIn K mainGlobals "all" = some none)
    (z_zip : PySem.W.nsIn K mainGlobals "zip" = some none)
    (g_TN : PySem.W.nsIn K mainGlobals "NO_NAMES" = some (some (.ref TN)))
    (l_TN : K.lookup TN = some ⟨.type "tuple", od_TN, .seq #[.str "any" tk_TN_0, .str "none" tk_TN_1, .str "anew" tk_TN_2, .str "lift" tk_TN_3, .str "term" tk_TN_4] n_TN, sl_TN⟩)
    (z_MOST_LETTERS : PySem.W.nsIn K mainGlobals "MOST_LETTERS" = some (some (.int 4 tk_MOST_LETTERS)))
    (z_LETTERS : PySem.W.nsIn K mainGlobals "LETTERS" = some (some (.str "abcdefghijklmnopqrstuvwxyz" tk_LETTERS))) :
    ∃ fd : FuncData, (∀ (s : Shared) (v : Value), BindsTo s fd ⟨[v], []⟩ [("_law_script", v)]) ∧ ∀ base : Heap, K.In base → base.Ns mainGlobals mg → FnOk l.prog w K mg base C8.CX0 10 fa fd ["_law_script"] (spLaw K) := by
  have e := hfa.symm.trans (PySem.W.mg_of X G a_law)
  cases e
  have N : ∀ {x : Str}, PySem.W.nsIn K mainGlobals x = some none → mg x = none := fun z => PySem.W.mg_none_of X G z
  have D_draw : C8.Def K mg "_law_draw" sDraw f_draw _ := ⟨⟨oc_draw, od_draw, .none, kV_draw, dc_draw, pm_draw, an_draw, cd_draw, ct_draw, sl_draw, rfl, l_draw, c_draw⟩, PySem.W.mg_of X G a_draw, k_draw⟩
  have D_deal : C8.Def K mg "_law_deal" sDeal f_deal _ := ⟨⟨oc_deal, od_deal, .none, kV_deal, dc_deal, pm_deal, an_deal, cd_deal, ct_deal, sl_deal, rfl, l_deal, c_deal⟩, PySem.W.mg_of X G a_deal, k_deal⟩
  have D_pick : C8.Def K mg "_law_pick" sPick f_pick _ := ⟨⟨oc_pick, od_pick, .none, kV_pick, dc_pick, pm_pick, an_pick, cd_pick, ct_pick, sl_pick, rfl, l_pick, c_pick⟩, PySem.W.mg_of X G a_pick, k_pick⟩
  have D_mixed : C8.Def K mg "_law_mixed" sMixed f_mixed _ := ⟨⟨oc_mixed, od_mixed, .none, kV_mixed, dc_mixed, pm_mixed, an_mixed, cd_mixed, ct_mixed, sl_mixed, rfl, l_mixed, c_mixed⟩, PySem.W.mg_of X G a_mixed, k_mixed⟩
  have D_any : C8.Def K mg "_law_any" sAny f_any _ := ⟨⟨oc_any, od_any, .none, kV_any, dc_any, pm_any, an_any, cd_any, ct_any, sl_any, rfl, l_any, c_any⟩, PySem.W.mg_of X G a_any, k_any⟩
  have D_names : C8.Def K mg "_law_names" sNames f_names _ := ⟨⟨oc_names, od_names, .none, kV_names, dc_names, pm_names, an_names, cd_names, ct_names, sl_names, rfl, l_names, c_names⟩, PySem.W.mg_of X G a_names, k_names⟩
  have D_kindD : C8.Def K mg "_law_kind" sKindD f_kindD _ := ⟨⟨oc_kindD, od_kindD, .none, kV_kindD, dc_kindD, pm_kindD, an_kindD, cd_kindD, ct_kindD, sl_kindD, rfl, l_kindD, c_kindD⟩, PySem.W.mg_of X G a_kindD, k_kindD⟩
  have D_title : C8.Def K mg "_law_is_title" sTitle f_title _ := ⟨⟨oc_title, od_title, .none, kV_title, dc_title, pm_title, an_title, cd_title, ct_title, sl_title, rfl, l_title, c_title⟩, PySem.W.mg_of X G a_title, k_title⟩
  have D_size : C8.Def K mg "_law_is_size" sSize f_size _ := ⟨⟨oc_size, od_size, .none, kV_size, dc_size, pm_size, an_size, cd_size, ct_size, sl_size, rfl, l_size, c_size⟩, PySem.W.mg_of X G a_size, k_size⟩
  have D_due : C8.Def K mg "_law_due" sDue f_due _ := ⟨⟨oc_due, od_due, .none, kV_due, dc_due, pm_due, an_due, cd_due, ct_due, sl_due, rfl, l_due, c_due⟩, PySem.W.mg_of X G a_due, k_due⟩
  have D_heard : C8.Def K mg "_law_heard" sHeard f_heard _ := ⟨⟨oc_heard, od_heard, .none, kV_heard, dc_heard, pm_heard, an_heard, cd_heard, ct_heard, sl_heard, rfl, l_heard, c_heard⟩, PySem.W.mg_of X G a_heard, k_heard⟩
  have D_isInt : C8.Def K mg "is_integer" sIsInt f_isInt _ := ⟨⟨oc_isInt, od_isInt, .none, kV_isInt, dc_isInt, pm_isInt, an_isInt, cd_isInt, ct_isInt, sl_isInt, rfl, l_isInt, c_isInt⟩, PySem.W.mg_of X G a_isInt, k_isInt⟩
  have D_isCount : C8.Def K mg "is_count" sIsCount f_isCount _ := ⟨⟨oc_isCount, od_isCount, .none, kV_isCount, dc_isCount, pm_isCount, an_isCount, cd_isCount, ct_isCount, sl_isCount, rfl, l_isCount, c_isCount⟩, PySem.W.mg_of X G a_isCount, k_isCount⟩
  have D_isName : C8.Def K mg "is_name" sIsName f_isName _ := ⟨⟨oc_isName, od_isName, .none, kV_isName, dc_isName, pm_isName, an_isName, cd_isName, ct_isName, sl_isName, rfl, l_isName, c_isName⟩, PySem.W.mg_of X G a_isName, k_isName⟩
  have D_check : C8.Def K mg "check_arguments" sCheck f_check _ := ⟨⟨oc_check, od_check, .none, kV_check, dc_check, pm_check, an_check, cd_check, ct_check, sl_check, rfl, l_check, c_check⟩, PySem.W.mg_of X G a_check, k_check⟩
  have F_law : C8.Fun K "law" "law" sLaw fa _ := ⟨oc_law, od_law, .none, kV_law, dc_law, pm_law, an_law, cd_law, ct_law, sl_law, rfl, l_law, c_law⟩
  have c_CS : Cls K CS := ⟨pg_CS, hd_CS, po_CS, sa_CS⟩
  have N_CS : ClsN K CS ["name", "days", "times"] := ⟨c_CS, fun n hn => by
    simp only [List.mem_cons, List.not_mem_nil, or_false] at hn
    rcases hn with rfl | rfl | rfl
    · exact n_CS_name
    · exact n_CS_days
    · exact n_CS_times⟩
  have O_CS : OwnT K CS := ⟨c_CS, ha_CS, hn_cls, ht_cls, hm_CS, k0_CS, k1_CS, k2_CS, k3_CS, k4_CS⟩
  have F_Still : C8.Fun K "__init__" "Still.__init__" sStill f_Still _ := ⟨oc_Still, od_Still, (.ref TdCS), kV_Still, dc_Still, pm_Still, an_Still, cd_Still, ct_Still, sl_Still, rfl, l_Still, c_Still⟩
  have FD_Still : FunD K "__init__" "Still.__init__" (C8.fnArgs sStill) (C8.fnBody sStill) (C8.fnScope sStill) [.non] [] f_Still _ := ⟨⟨oc_Still, od_Still, .ref TdCS, kV_Still, dc_Still, pm_Still, an_Still, cd_Still, ct_Still, sl_Still, rfl, l_Still, c_Still, .inr ⟨by simp, TdCS, _, [.none], n_TdCS, rfl, l_TdCS, rfl, .cons rfl (.nil)⟩, .inl rfl⟩, k_Still⟩
  have c_CA : Cls K CA := ⟨pg_CA, hd_CA, po_CA, sa_CA⟩
  have N_CA : ClsN K CA ["name", "left", "times"] := ⟨c_CA, fun n hn => by
    simp only [List.mem_cons, List.not_mem_nil, or_false] at hn
    rcases hn with rfl | rfl | rfl
    · exact n_CA_name
    · exact n_CA_left
    · exact n_CA_times⟩
  have F_Anew : C8.Fun K "__init__" "Anew.__init__" sAnew f_Anew _ := ⟨oc_Anew, od_Anew, (.ref TdCA), kV_Anew, dc_Anew, pm_Anew, an_Anew, cd_Anew, ct_Anew, sl_Anew, rfl, l_Anew, c_Anew⟩
  have FD_Anew : FunD K "__init__" "Anew.__init__" (C8.fnArgs sAnew) (C8.fnBody sAnew) (C8.fnScope sAnew) [.non] [] f_Anew _ := ⟨⟨oc_Anew, od_Anew, .ref TdCA, kV_Anew, dc_Anew, pm_Anew, an_Anew, cd_Anew, ct_Anew, sl_Anew, rfl, l_Anew, c_Anew, .inr ⟨by simp, TdCA, _, [.none], n_TdCA, rfl, l_TdCA, rfl, .cons rfl (.nil)⟩, .inl rfl⟩, k_Anew⟩
  have c_CL : Cls K CL := ⟨pg_CL, hd_CL, po_CL, sa_CL⟩
  have N_CL : ClsN K CL ["name", "by", "top", "times"] := ⟨c_CL, fun n hn => by
    simp only [List.mem_cons, List.not_mem_nil, or_false] at hn
    rcases hn with rfl | rfl | rfl | rfl
    · exact n_CL_name
    · exact n_CL_by
    · exact n_CL_top
    · exact n_CL_times⟩
  have F_Lift : C8.Fun K "__init__" "Lift.__init__" sLift f_Lift _ := ⟨oc_Lift, od_Lift, (.ref TdCL), kV_Lift, dc_Lift, pm_Lift, an_Lift, cd_Lift, ct_Lift, sl_Lift, rfl, l_Lift, c_Lift⟩
  have FD_Lift : FunD K "__init__" "Lift.__init__" (C8.fnArgs sLift) (C8.fnBody sLift) (C8.fnScope sLift) [.non] [] f_Lift _ := ⟨⟨oc_Lift, od_Lift, .ref TdCL, kV_Lift, dc_Lift, pm_Lift, an_Lift, cd_Lift, ct_Lift, sl_Lift, rfl, l_Lift, c_Lift, .inr ⟨by simp, TdCL, _, [.none], n_TdCL, rfl, l_TdCL, rfl, .cons rfl (.nil)⟩, .inl rfl⟩, k_Lift⟩
  have F_xkind : C8.Fun K "__init__" "InvalidKind.__init__" sXKind f_xkind _ := ⟨oc_xkind, od_xkind, .none, kV_xkind, dc_xkind, pm_xkind, an_xkind, cd_xkind, ct_xkind, sl_xkind, rfl, l_xkind, c_xkind⟩
  have X_CI : OexC K CI := ⟨⟨_, _, _, _, _, _, _, _, _, _, _, _, _, _, _, l_CI, rfl⟩, sa_CI, ex_CI, ty_CI, kc_CI⟩
  have te_CI : PySem.W.exmOne K (.ref CI) (.ref CI) = some true := PySem.W.exm_ref ex_CI hd_CI ty_CI su_CI
  have EC_CI : ExcC K CI := ⟨ga_CI, gg_CI, ex_CI, hd_CI, ha_CI, hn_cls, ht_cls, hm_CI⟩
  have XF_CI : XfC K CI := ⟨ga_CI, gg_CI, ex_CI, hd_CI⟩
  have T_TN : ∀ H, SqT K H TN noNames := fun H => .inr ⟨_, _, n_TN, l_TN, rfl, rfl, (by show 5 ≤ sizeLine; decide), .cons ⟨_, rfl⟩ (.cons ⟨_, rfl⟩ (.cons ⟨_, rfl⟩ (.cons ⟨_, rfl⟩ (.cons ⟨_, rfl⟩ (.nil)))))⟩
  have m_MOST_LETTERS : ∃ u, mg "MOST_LETTERS" = some u ∧ RelV (.int 4) u := ⟨_, PySem.W.mg_of X G z_MOST_LETTERS, _, rfl⟩
  have m_LETTERS : ∃ u, mg "LETTERS" = some u ∧ RelV (.str letters) u := ⟨_, PySem.W.mg_of X G z_LETTERS, _, rfl⟩
  obtain ⟨dsS, vS, bS⟩ := FD_Still.binds1 (ps := ["self", "name", "days", "times"]) 4 1 (by simp) rfl fun T kV doc pm an cdv ct us its h1 h2 => match us, h1, its, h2 with | [_, _, _, _], _, [_], _ => ⟨_, rfl, rfl⟩
  obtain ⟨dsA, vA, bA⟩ := FD_Anew.binds1 (ps := ["self", "name", "left", "times"]) 4 1 (by simp) rfl fun T kV doc pm an cdv ct us its h1 h2 => match us, h1, its, h2 with | [_, _, _, _], _, [_], _ => ⟨_, rfl, rfl⟩
  obtain ⟨dsL, vL, bL⟩ := FD_Lift.binds1 (ps := ["self", "name", "by", "top", "times"]) 5 1 (by simp) rfl fun T kV doc pm an cdv ct us its h1 h2 => match us, h1, its, h2 with | [_, _, _, _, _], _, [_], _ => ⟨_, rfl, rfl⟩
  obtain ⟨dsT, vT, bT⟩ := FD_Still.binds1 (ps := ["self", "name", "days", "times"]) 3 0 (by simp) rfl fun T kV doc pm an cdv ct us its h1 h2 => match us, h1, its, h2 with | [_, _, _], _, [_], _ => ⟨_, rfl, rfl⟩
  refine ⟨PySem.W.fnOf "law" "law" (C8.fnArgs sLaw) (C8.fnBody sLaw) (C8.fnScope sLaw) .none kV_law dc_law pm_law an_law cd_law ct_law, fun s v => .of_eq rfl, fun base _ _ => ?_⟩
  have gI := PySem.W.mg_of X G g_CI
  have cI := cal_isInt (P := l.prog) (w := w) (base := base) D_isInt rfl (N z_isinstance) (N z_int) (N z_bool)
  have cC := cal_isCount D_isCount rfl cI
  have cN := cal_isName (P := l.prog) (w := w) (base := base) D_isName rfl (N z_isinstance) (N z_str) (N z_len) (N z_all) (PySem.W.mg_of X G g_TN) T_TN m_MOST_LETTERS m_LETTERS
  have eK := err_kind (P := l.prog) (w := w) (base := base) F_xkind rfl X_CI a_xkind t_xkind no_CI gI
  have cX := cal_check D_check rfl eK cN cC
  have fS := fn_Still F_Still N_CS cX
  have fA := fn_Anew F_Anew N_CA cX
  have fL := fn_Lift F_Lift N_CL cX
  have mS : MakX l.prog w K mg base 4 "Still" CS (spKind K CS CI 3 dueS fsS) [] := ⟨f_Still, _, _, dsS, ⟨mk_CS, a_Still, i_Still, kc_CS⟩, fS, PySem.W.mg_of X G g_CS, bS, vS⟩
  have mT : MakX l.prog w K mg base 4 "Still" CS (spKind K CS CI 3 dueS fsS) [.non] := ⟨f_Still, _, _, dsT, ⟨mk_CS, a_Still, i_Still, kc_CS⟩, fS, PySem.W.mg_of X G g_CS, bT, vT⟩
  have mA : MakX l.prog w K mg base 4 "Anew" CA (spKind K CA CI 3 dueA fsA) [] := ⟨f_Anew, _, _, dsA, ⟨mk_CA, a_Anew, i_Anew, kc_CA⟩, fA, PySem.W.mg_of X G g_CA, bA, vA⟩
  have mL : MakX l.prog w K mg base 4 "Lift" CL (spKind K CL CI 4 dueL fsL) [] := ⟨f_Lift, _, _, dsL, ⟨mk_CL, a_Lift, i_Lift, kc_CL⟩, fL, PySem.W.mg_of X G g_CL, bL, vL⟩
  have cDraw := cal_draw (P := l.prog) (w := w) (base := base) D_draw rfl (N z_int)
  have cPick := cal_pick D_pick rfl (N z_len) cDraw
  have cMix := cal_mixed D_mixed rfl (N z_len) (N z_list) cDraw
  have cT := cal_title (P := l.prog) (w := w) (base := base) D_title rfl (N z_isinstance) (N z_str) (N z_len)
  have cZ := cal_size (P := l.prog) (w := w) (base := base) D_size rfl (N z_isinstance) (N z_int) (N z_bool)
  exact fn_law (CI := CI) F_law ⟨N z_list, N z_range, N z_len⟩ O_CS (cal_deal D_deal rfl (N z_int) (N z_abs)) cDraw cPick cMix (cal_names D_names rfl cMix) (cal_kindD D_kindD rfl cDraw cPick) (cal_any D_any rfl (N z_range) (N z_tuple) cDraw cPick 6)
    (cal_heard D_heard rfl ⟨EC_CI, XF_CI, no_CI, te_CI, is_CI_CT, is_CI_CR, gI, PySem.W.mg_of X G g_CT, PySem.W.mg_of X G g_CR⟩ (N z_isinstance) mS mA mL) (cal_due D_due rfl (N z_zip) cT cZ) mT
theorem walk {l : PySem.W.OpenLaw} {q : Program} {loose : List Str} {XP : (Str → Option Value) → Heap → Prop} {YP : World → Heap → Prop} {d : DefRec} {K : Params → PySem.W.Frag} (hn : l.most = some 63) (hdf : d.params.defaults = [])
    (hY : ∀ (w : World) (h : Heap), YP w h → (K w.params).In h)
    (F : ∀ (w : World) (mg : Str → Option Value) (fa : Addr) (h : Heap), (K w.params).In h → h.Ns mainGlobals mg → mg d.name = some (.ref fa) →
      ∃ fd : FuncData, (∀ (s : Shared) (u : Value), BindsTo s fd ⟨[u], []⟩ [("_law_script", u)]) ∧ ∀ base : Heap, (K w.params).In base → base.Ns mainGlobals mg → FnOk l.prog w (K w.params) mg base C8.CX0 10 fa fd ["_law_script"] (spLaw (K w.params))) :
    PySem.W.WalkO q loose XP YP l.row.toRowW d [] (fun f vs => PySem.call f vs) :=
  L2.walk_of (n := 63) (k := 10) (x := "_law_script") (CX := fun _ => C8.CX0) (sp := fun w => spLaw (K w.params)) hn (by decide) hdf ⟨rfl, by decide, by decide⟩ hY F (fun _ _ a ns hl _ hS => ⟨a, ns, rfl, hS, hl, fun _ => rfl⟩) fun _ _ _ _ _ z => z
end Ts
open PySem PySem.W PyProof.Rows
set_option maxRecDepth 100000 in
set_option maxHeartbeats 0 in
theorem PySem.Challenge.cw_termstill_k03_kinds_refused_holds : PySem.Challenge.rw_termstill_k03_kinds_refused.Holds := by
  w_on; o_law; k_head; (case hw => w_witness2)
  k_fill
  refine Ts.walk (l := PySem.Challenge.rw_termstill_k03_kinds_refused) rfl rfl (fun w h Y => PySem.W.kIn_of Y) ?F
  case F =>
    intro w mg fa h KX G hmg
    refine' Ts.all_mk KX G hmg ?a_draw ?l_draw ?c_draw ?k_draw ?a_deal ?l_deal ?c_deal ?k_deal ?a_pick ?l_pick ?c_pick ?k_pick ?a_mixed ?l_mixed ?c_mixed ?k_mixed ?a_any ?l_any ?c_any ?k_any ?a_names ?l_names ?c_names ?k_names ?a_kindD ?l_kindD ?c_kindD ?k_kindD ?a_title ?l_title ?c_title ?k_title ?a_size ?l_size ?c_size ?k_size ?a_due ?l_due ?c_due ?k_due ?a_heard ?l_heard ?c_heard ?k_heard ?a_isInt ?l_isInt ?c_isInt ?k_isInt ?a_isCount ?l_isCount ?c_isCount ?k_isCount ?a_isName ?l_isName ?c_isName ?k_isName ?a_check ?l_check ?c_check ?k_check ?a_law ?l_law ?c_law ?k_law ?g_CS ?pg_CS ?hd_CS ?po_CS ?sa_CS ?mk_CS ?kc_CS ?n_CS_name ?n_CS_days ?n_CS_times ?ha_CS ?hn_cls ?ht_cls ?hm_CS ?k0_CS ?k1_CS ?k2_CS ?k3_CS ?k4_CS ?a_Still ?i_Still ?l_Still ?c_Still ?k_Still ?l_TdCS ?g_CA ?pg_CA ?hd_CA ?po_CA ?sa_CA ?mk_CA ?kc_CA ?n_CA_name ?n_CA_left ?n_CA_times ?a_Anew ?i_Anew ?l_Anew ?c_Anew ?k_Anew ?l_TdCA ?g_CL ?pg_CL ?hd_CL ?po_CL ?sa_CL ?mk_CL ?kc_CL ?n_CL_name ?n_CL_by ?n_CL_top ?n_CL_times ?a_Lift ?i_Lift ?l_Lift ?c_Lift ?k_Lift ?l_TdCL ?g_CT ?g_CR ?g_CI ?l_CI ?sa_CI ?ex_CI ?ty_CI ?kc_CI ?a_xkind ?t_xkind ?l_xkind ?c_xkind ?no_CI ?ga_CI ?gg_CI ?hd_CI ?ha_CI ?hm_CI ?su_CI ?is_CI_CT ?is_CI_CR ?z_int ?z_bool ?z_str ?z_list ?z_range ?z_isinstance ?z_len ?z_abs ?z_tuple ?z_all ?z_zip ?g_TN ?l_TN ?z_MOST_LETTERS ?z_LETTERS
    (case a_draw => k_is)
    (case l_draw => k_is)
    (case c_draw => k_is)
    (case k_draw => k_is)
    (case a_deal => k_is)
    (case l_deal => k_is)
    (case c_deal => k_is)
    (case k_deal => k_is)
    (case a_pick => k_is)
    (case l_pick => k_is)
    (case c_pick => k_is)
    (case k_pick => k_is)
    (case a_mixed => k_is)
    (case l_mixed => k_is)
    (case c_mixed => k_is)
    (case k_mixed => k_is)
    (case a_any => k_is)
    (case l_any => k_is)
    (case c_any => k_is)
    (case k_any => k_is)
    (case a_names => k_is)
    (case l_names => k_is)
    (case c_names => k_is)
    (case k_names => k_is)
    (case a_kindD => k_is)
    (case l_kindD => k_is)
    (case c_kindD => k_is)
    (case k_kindD => k_is)
    (case a_title => k_is)
    (case l_title => k_is)
    (case c_title => k_is)
    (case k_title => k_is)
    (case a_size => k_is)
    (case l_size => k_is)
    (case c_size => k_is)
    (case k_size => k_is)
    (case a_due => k_is)
    (case l_due => k_is)
    (case c_due => k_is)
    (case k_due => k_is)
    (case a_heard => k_is)
    (case l_heard => k_is)
    (case c_heard => k_is)
    (case k_heard => k_is)
    (case a_isInt => k_is)
    (case l_isInt => k_is)
    (case c_isInt => k_is)
    (case k_isInt => k_is)
    (case a_isCount => k_is)
    (case l_isCount => k_is)
    (case c_isCount => k_is)
    (case k_isCount => k_is)
    (case a_isName => k_is)
    (case l_isName => k_is)
    (case c_isName => k_is)
    (case k_isName => k_is)
    (case a_check => k_is)
    (case l_check => k_is)
    (case c_check => k_is)
    (case k_check => k_is)
    (case a_law => k_is)
    (case l_law => k_is)
    (case c_law => k_is)
    (case k_law => k_is)
    (case g_CS => k_is)
    (case pg_CS => k_is)
    (case hd_CS => k_is)
    (case po_CS => k_is)
    (case sa_CS => k_is)
    (case mk_CS => k_is)
    (case kc_CS => k_is)
    (case n_CS_name => k_is)
    (case n_CS_days => k_is)
    (case n_CS_times => k_is)
    (case ha_CS => k_is)
    (case hn_cls => k_is)
    (case ht_cls => k_is)
    (case hm_CS => k_is)
    (case k0_CS => (first | kit_is | k_is))
    (case k1_CS => (first | kit_is | k_is))
    (case k2_CS => (first | kit_is | k_is))
    (case k3_CS => (first | kit_is | k_is))
    (case k4_CS => (first | kit_is | k_is))
    (case a_Still => k_is)
    (case i_Still => k_is)
    (case l_Still => k_is)
    (case c_Still => k_is)
    (case k_Still => k_is)
    (case l_TdCS => k_is)
    (case g_CA => k_is)
    (case pg_CA => k_is)
    (case hd_CA => k_is)
    (case po_CA => k_is)
    (case sa_CA => k_is)
    (case mk_CA => k_is)
    (case kc_CA => k_is)
    (case n_CA_name => k_is)
    (case n_CA_left => k_is)
    (case n_CA_times => k_is)
    (case a_Anew => k_is)
    (case i_Anew => k_is)
    (case l_Anew => k_is)
    (case c_Anew => k_is)
    (case k_Anew => k_is)
    (case l_TdCA => k_is)
    (case g_CL => k_is)
    (case pg_CL => k_is)
    (case hd_CL => k_is)
    (case po_CL => k_is)
    (case sa_CL => k_is)
    (case mk_CL => k_is)
    (case kc_CL => k_is)
    (case n_CL_name => k_is)
    (case n_CL_by => k_is)
    (case n_CL_top => k_is)
    (case n_CL_times => k_is)
    (case a_Lift => k_is)
    (case i_Lift => k_is)
    (case l_Lift => k_is)
    (case c_Lift => k_is)
    (case k_Lift => k_is)
    (case l_TdCL => k_is)
    (case g_CT => k_is)
    (case g_CR => k_is)
    (case g_CI => k_is)
    (case l_CI => k_is)
    (case sa_CI => k_is)
    (case ex_CI => k_is)
    (case ty_CI => k_is)
    (case kc_CI => k_is)
    (case a_xkind => k_is)
    (case t_xkind => k_is)
    (case l_xkind => k_is)
    (case c_xkind => k_is)
    (case no_CI => k_is)
    (case ga_CI => k_is)
    (case gg_CI => k_is)
    (case hd_CI => k_is)
    (case ha_CI => k_is)
    (case hm_CI => k_is)
    (case su_CI => k_is)
    (case is_CI_CT => (first | kit_is | k_is))
    (case is_CI_CR => (first | kit_is | k_is))
    (case z_int => k_is)
    (case z_bool => k_is)
    (case z_str => k_is)
    (case z_list => k_is)
    (case z_range => k_is)
    (case z_isinstance => k_is)
    (case z_len => k_is)
    (case z_abs => k_is)
    (case z_tuple => k_is)
    (case z_all => k_is)
    (case z_zip => k_is)
    (case g_TN => k_is)
    (case l_TN => k_is)
    (case z_MOST_LETTERS => k_is)
    (case z_LETTERS => k_is)

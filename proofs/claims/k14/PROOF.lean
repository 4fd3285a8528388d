import PyProof.Rows.All
import Wide.All
import OpenK.AllK
import Wide.FinOn
import HandS.ForMost
import HandS.ForExc
import HandS.Wide
import HandS.Codes
import HandS.IsInst
import HandS.SortInts
import HandS.Conv
import HandS.Style
import HandS.Defaults
import HandS.Strs
import HandS.Zip
import HandS.ExcInit
import HandS.ExcField
import HandS.ExcIs
import HandS.TryOnly
import HandS.Walk
import KE.GoesMore
import PyProof.Draws
import HandS.Star
import PySem.Challenge.RW_termstill_k14_stories_refused
set_option Elab.async false
set_option maxRecDepth 100000
namespace Ts
open PySem L2

/-! ### heaps -/
/-- all but two places stay -/
def Kept (D L : Addr) (H H' : Hp) : Prop := ∀ b o, b ≠ D → b ≠ L → H b = some o → H' b = some o
theorem Kept.refl {D L : Addr} {H : Hp} : Kept D L H H := fun _ _ _ _ h => h
theorem Kept.trans {D L : Addr} {H H1 H2 : Hp} (a : Kept D L H H1) (b : Kept D L H1 H2) : Kept D L H H2 := fun c o h1 h2 h => b c o h1 h2 (a c o h1 h2 h)
theorem Kept.new {D L p : Addr} {o : HO} {H H1 : Hp} (a : Kept D L H H1) (h : H1 p = none) : Kept D L H (upd H1 p o) := fun b u h1 h2 e => by
  rw [upd_ne (ne_of_none (a b u h1 h2 e) h)]
  exact a b u h1 h2 e
theorem Kept.atD {D L : Addr} {o : HO} {H H1 : Hp} (a : Kept D L H H1) : Kept D L H (upd H1 D o) := fun b u h1 h2 e => by
  rw [upd_ne h1]
  exact a b u h1 h2 e
theorem Kept.atL {D L : Addr} {o : HO} {H H1 : Hp} (a : Kept D L H H1) : Kept D L H (upd H1 L o) := fun b u h1 h2 e => by
  rw [upd_ne h2]
  exact a b u h1 h2 e
theorem Same.kept {D L : Addr} {H H' : Hp} (s : Same H H') : Kept D L H H' := fun b o _ _ h => s b o h
theorem Same.new {H H1 : Hp} {p : Addr} {o : HO} (s : Same H H1) (h : H1 p = none) : Same H (upd H1 p o) := fun b u e => by
  rw [upd_ne (ne_of_none (s b u e) h)]
  exact s b u e

/-! ### lists of ints compared with the empty list -/
theorem dpAll_ints {K : PySem.W.Frag} {H : Hp} : ∀ cs : List Int, DpAll K H (cs.map V.int) (cs.map PyData.int)
  | [] => .nil
  | c :: cs => .cons (.int c) (dpAll_ints cs)
theorem eqv_nil (cs : List Int) : PyData.eqv (.list (cs.map PyData.int)) (.list []) = cs.isEmpty := by
  cases cs with
  | nil => rfl
  | cons c cs => rfl
theorem ne_nil {K : PySem.W.Frag} {H : Hp} {L p : Addr} {cs : List Int} (hL : SqL K H L (cs.map V.int)) (hp : H p = some (.lst [])) {Q : VK} (q : Q (.bl (!cs.isEmpty)) H) : rNeD K (.ref L) (.ref p) H Q := by
  refine ⟨.list (cs.map .int), .list [], .lst hL (dpAll_ints cs), .lst (SqL.of hp) .nil, PySem.W.ke_shaped_ints cs, PySem.W.ke_shaped_ints [], ?_⟩
  rw [eqv_nil]
  exact q

/-! ### what the law draws from -/
/-- at D the pair (list of the great cells, a small number), the list at L -/
structure DealAt (H : Hp) (D L : Addr) : Prop where
  ex : ∃ (cs : List Int) (m : Int), H D = some (.lst [.ref L, .int m]) ∧ H L = some (.lst (cs.map V.int)) ∧ cs.length ≤ 60 ∧ (∀ c ∈ cs, 0 ≤ c) ∧ 0 ≤ m ∧ m < 2147483647
theorem deal_ne {H : Hp} {D L : Addr} {m : Int} {cs : List Int} (h1 : H D = some (.lst [.ref L, .int m])) (h2 : H L = some (.lst (cs.map V.int))) : D ≠ L := by
  intro e
  subst e
  rw [h1] at h2
  cases cs with
  | nil => cases h2
  | cons c cs => cases h2
theorem DealAt.ne {H : Hp} {D L : Addr} (d : DealAt H D L) : D ≠ L := by
  obtain ⟨cs, m, h1, h2, _⟩ := d.ex
  exact deal_ne h1 h2
theorem DealAt.someD {H : Hp} {D L : Addr} (d : DealAt H D L) : ∃ o, H D = some o := by
  obtain ⟨cs, m, h1, h2, _⟩ := d.ex
  exact ⟨_, h1⟩
theorem DealAt.someL {H : Hp} {D L : Addr} (d : DealAt H D L) : ∃ o, H L = some o := by
  obtain ⟨cs, m, h1, h2, _⟩ := d.ex
  exact ⟨_, h2⟩
theorem DealAt.same {H H' : Hp} {D L : Addr} (d : DealAt H D L) (s : Same H H') : DealAt H' D L := by
  obtain ⟨cs, m, h1, h2, r⟩ := d.ex
  exact ⟨cs, m, s _ _ h1, s _ _ h2, r⟩
/-- a draw, or several: the deal goes on, all else stays -/
structure Went (D L : Addr) (H H' : Hp) : Prop where
  d : DealAt H' D L
  k : Kept D L H H'
theorem Went.trans {D L : Addr} {H H1 H2 : Hp} (a : Went D L H H1) (b : Went D L H1 H2) : Went D L H H2 := ⟨b.d, a.k.trans b.k⟩
theorem Went.same {D L : Addr} {H H1 H2 : Hp} (a : Went D L H H1) (s : Same H1 H2) : Went D L H H2 := ⟨a.d.same s, a.k.trans (Same.kept s)⟩
theorem Went.new {D L p : Addr} {o : HO} {H H1 : Hp} (a : Went D L H H1) (h : H1 p = none) : Went D L H (upd H1 p o) := a.same (Same.new (Same.refl _) h)

/-! ### the promise of a draw -/
def spDraw : Sp := fun vs H Q _ => ∃ (D L : Addr) (n : Int), vs = [.ref D, .int n] ∧ DealAt H D L ∧ 0 < n ∧ n < 2 ^ 64 ∧
  ∀ (d : Int) (H' : Hp), 0 ≤ d → d < n → Went D L H H' → Q (.int d) H'
theorem fdiv_nonneg {a b : Int} (h1 : 0 ≤ a) (h2 : 0 < b) : 0 ≤ a / b := Int.ediv_nonneg h1 (Int.le_of_lt h2)

theorem cs_last {cs : List Int} (h : cs.isEmpty = false) : ∃ ds d, cs = ds ++ [d] := by
  cases cs with
  | nil => cases h
  | cons c cs => exact ⟨(c :: cs).dropLast, (c :: cs).getLast (by simp), (List.dropLast_concat_getLast (by simp)).symm⟩

theorem cut_to {α : Type} (f : α → V) (xs : List α) (k : Nat) : cutV (xs.map f) none (some (k : Int)) = (xs.take k).map f := by
  unfold cutV
  rw [HT.sIx_none, HT.sIx_nat, List.drop_zero, Nat.sub_zero, List.map_take, List.length_map]
  by_cases h : k ≤ xs.length
  · rw [Nat.min_eq_left h]
  · rw [Nat.min_eq_right (by omega), List.take_of_length_le (by rw [List.length_map]; exact Nat.le_refl _), List.take_of_length_le (by rw [List.length_map]; omega)]
/-- the item of a mapped list -/
theorem map_at {α : Type} {f : α → V} {xs : List α} {i : Nat} {y : V} (h : (xs.map f)[i]? = some y) : ∃ x, y = f x ∧ xs[i]? = some x := by
  rw [List.getElem?_map] at h
  cases e : xs[i]? with
  | none => rw [e] at h; cases h
  | some x => rw [e] at h; exact ⟨x, (Option.some.inj h).symm, rfl⟩
theorem at_lt {α : Type} {xs : List α} {i : Nat} {x : α} (h : xs[i]? = some x) : i < xs.length := (List.getElem?_eq_some_iff.mp h).1
theorem at_mem {α : Type} {xs : List α} {i : Nat} {x : α} (h : xs[i]? = some x) : x ∈ xs := List.mem_of_getElem? h
theorem abs_nn (i : Int) : 0 ≤ (if i < 0 then -i else i) := by split <;> omega
theorem same_upd_new {H H1 : Hp} {p : Addr} {o : HO} (s : Same H H1) (hp : H p = none) : Same H (upd H1 p o) := fun b u e => by
  rw [upd_ne (ne_of_none e hp)]
  exact s b u e
theorem yes_ {σ : L2.St} {H : Hp} {A : Hp → Prop} {B : Hp → Prop} (h : A H) : tYes σ H (fun b H3 => if b = true then A H3 else B H3) := by
  show (if true = true then A H else B H)
  exact iteT h
def spDeal (K : PySem.W.Frag) : Sp := fun vs H Q _ => ∃ (a : Addr) (ns : List Int), vs = [.ref a] ∧ SqL K H a (ns.map V.int) ∧ ns.length ≤ 63 ∧
  ∀ (D L : Addr) (H' : Hp), DealAt H' D L → Same H H' → H D = none → H L = none → Q (.ref D) H'

/-! ### flat values -/
def okV : V → Bool
  | .non => true
  | .bl _ => true
  | .int _ => true
  | .str x => PySem.PyData.strOk x
  | _ => false
def toD : V → PyData
  | .non => .none
  | .bl b => .bool b
  | .int i => .int i
  | .str x => .str x
  | _ => .none
theorem dp_ok {K : PySem.W.Frag} {H : Hp} {v : V} (h : okV v = true) : Dp K H v (toD v) := by
  cases v with
  | non => exact .non
  | bl b => exact .bl b
  | int i => exact .int i
  | str x => exact .str x
  | byt b => cases h
  | flt b => cases h
  | ref a => cases h
  | ty n => cases h
theorem dpAll_ok {K : PySem.W.Frag} {H : Hp} : ∀ {xs : List V}, xs.all okV = true → DpAll K H xs (xs.map toD)
  | [], _ => .nil
  | x :: xs, h => by
    rw [List.all_cons, Bool.and_eq_true] at h
    exact .cons (dp_ok h.1) (dpAll_ok h.2)
theorem lay_ok {v : V} (h : okV v = true) : PyData.canLay0 (toD v) = true := by
  cases v <;> first | rfl | exact h | cases h
theorem layAll_ok : ∀ {xs : List V}, xs.all okV = true → PyData.canLayAll0 (xs.map toD) = true
  | [], _ => rfl
  | x :: xs, h => by
    rw [List.all_cons, Bool.and_eq_true] at h
    simp [PyData.canLayAll0, lay_ok h.1, layAll_ok h.2]
theorem depth_ok (v : V) : PyData.depth (toD v) = 0 := by cases v <;> rfl
theorem depthAll_ok : ∀ xs : List V, PyData.depthAll (xs.map toD) = 0
  | [] => rfl
  | x :: xs => by simp [PyData.depthAll, depth_ok, depthAll_ok xs]
theorem shaped_ok {xs : List V} (h : xs.all okV = true) : SeqAt.shaped (.list (xs.map toD)) = true := by
  simp [SeqAt.shaped, PyData.canLay0, PyData.depth, layAll_ok h, depthAll_ok]
theorem eqv_nilF (xs : List V) : PyData.eqv (.list (xs.map toD)) (.list []) = xs.isEmpty := by
  cases xs with
  | nil => rfl
  | cons c cs => rfl
theorem ne_nilF {K : PySem.W.Frag} {H : Hp} {L p : Addr} {xs : List V} (hL : SqL K H L xs) (ho : xs.all okV = true) (hp : H p = some (.lst [])) {Q : VK} (q : Q (.bl (!xs.isEmpty)) H) : rNeD K (.ref L) (.ref p) H Q := by
  refine ⟨.list (xs.map toD), .list [], .lst hL (dpAll_ok ho), .lst (SqL.of hp) .nil, shaped_ok ho, PySem.W.ke_shaped_ints [], ?_⟩
  rw [eqv_nilF]
  exact q
theorem okV_flat {v : V} (h : okV v = true) : flatV v = true := by
  cases v <;> first | rfl | cases h
theorem Kept.seq {K : PySem.W.Frag} {D L a : Addr} {xs : List V} {H H' : Hp} (k : Kept D L H H') (h1 : a ≠ D) (h2 : a ≠ L) (h : SqL K H a xs) : SqL K H' a xs := by
  rcases h with (h | ⟨o, h⟩) | h
  · exact .inl (.inl (k _ _ h1 h2 h))
  · exact .inl (.inr ⟨o, k _ _ h1 h2 h⟩)
  · exact .inr h
/-- not one of the deal's two lists -/
def Off (H : Hp) (D L a : Addr) : Prop := a ≠ D ∧ a ≠ L
theorem off_new {H : Hp} {D L a : Addr} (d : DealAt H D L) (h : H a = none) : a ≠ D ∧ a ≠ L := by
  obtain ⟨o, hD⟩ := d.someD
  obtain ⟨o', hL⟩ := d.someL
  exact ⟨(ne_of_none hD h).symm, (ne_of_none hL h).symm⟩

/-! ### picking, mixing -/
def spPick (K : PySem.W.Frag) : Sp := fun vs H Q _ => ∃ (D L a : Addr) (xs : List V), vs = [.ref D, .ref a] ∧ DealAt H D L ∧ SqL K H a xs ∧ a ≠ D ∧ a ≠ L ∧ 0 < xs.length ∧ xs.length ≤ 1000 ∧
  ∀ (v : V) (H' : Hp), v ∈ xs → Went D L H H' → Q v H'
def spMixed (K : PySem.W.Frag) : Sp := fun vs H Q _ => ∃ (D L a : Addr) (xs : List V), vs = [.ref D, .ref a] ∧ DealAt H D L ∧ SqL K H a xs ∧ a ≠ D ∧ a ≠ L ∧ xs.all okV = true ∧ xs.length ≤ 1000 ∧
  ∀ (p : Addr) (ys : List V) (H' : Hp), ys.Perm xs → Went D L H H' → H p = none → H' p = some (.lst ys) → Q (.ref p) H'
theorem seqIndex_nat {j n : Nat} (h : j < n) : seqIndex? (j : Int) n = some j := by
  unfold seqIndex?
  simp only [show ¬ ((j : Int) < 0) by omega, if_false]
  rw [show (decide (0 ≤ (j : Int)) && decide ((j : Int) < (n : Int))) = true by simp; omega]
  simp
theorem erase_perm {α : Type} : ∀ {xs : List α} {j : Nat} {y : α}, xs[j]? = some y → (y :: xs.eraseIdx j).Perm xs
  | [], j, y, h => by simp at h
  | x :: xs, 0, y, h => by
    have e : x = y := Option.some.inj h
    rw [e]
    exact List.Perm.refl _
  | x :: xs, j + 1, y, h => by
    have ih := erase_perm (xs := xs) (j := j) (y := y) h
    exact (List.Perm.swap x y _).trans (ih.cons x)
end Ts

namespace Ts
open PySem L2
open PySem.Builtin in
/-- sorted(xs), xs a list or a tuple of ints -/
def rSortedQ (K : PySem.W.Frag) : List V → Hp → VK → Prop := fun vs H Q => ∃ (a : Addr) (ns : List Int), vs = [V.ref a] ∧ (SqL K H a (ns.map V.int) ∨ SqT K H a (ns.map V.int)) ∧
  ∀ (ys : List Int) (p : Addr), ys.Perm ns → ys.Pairwise (· ≤ ·) → H p = none → Q (.ref p) (upd H p (.lst (ys.map V.int)))
section
variable {X : Cx}
open PyProof.Rows in
theorem cr_sortedQ : CallR X (.builtin "sorted") (rSortedQ X.K) := by
  intro pins s σ H vs us Q I r h
  obtain ⟨a, ns, rfl, hs, q⟩ := h
  rw [Vals.ref1 r]
  have hob : ∃ (T : String) (o : Obj) (its : List Value) (n : Nat), (T = "list" ∨ T = "tuple") ∧ s.heap.get? a = some o ∧ o.cls = .type T ∧ o.data = .seq its.toArray n ∧ Vals (ns.map V.int) its ∧ (ns.map V.int).length ≤ sizeLine := by
    rcases hs with hs | hs
    · obtain ⟨its, rv, ⟨o, n, e1, e2, _, e3⟩, hz⟩ := I.list hs
      exact ⟨_, o, its, n, .inl rfl, e1, e2, e3, rv, hz⟩
    · obtain ⟨its, rv, ⟨o, e1, e2, n, e3⟩, hz⟩ := I.tuple hs
      exact ⟨_, o, its, n, .inr rfl, e1, e2, e3, rv, hz⟩
  obtain ⟨T, o, its, n, hT, e1, e2, e3, rv, hz⟩ := hob
  have hi := rv.ints
  have hl : its.length ≤ sizeLine := by rw [← rv.length]; exact hz
  refine Calls.call_function_entry kind_sorted (prog := X.prog) (w := X.w) plain_sorted entry_sorted (args_sorted1 _) ?_
  unfold PySem.Builtin.«sorted»
  refine wpAny_bind (m := PySem.checkCount "sorted" 1 1 _) (wpAny_pure (wpAny_bind ?_))
  refine wpAny_collect_seq a hT e1 e2 e3 (fun h1 keep => wpAny_bind (wpAny_newList ?_ (by simpa using hl))) (by rw [List.size_toArray]; exact hl)
  have I1 : Inv X pins σ H { s with heap := h1 } := I.kept (t' := s.toks) keep
  have hnew : (h1.push (seqObj "list" its.toArray 0)).get? h1.objs.size = some (seqObj "list" its.toArray 0) := Heap.get?_push_size _ rfl
  refine wpAny_bind (wpAny_holding (wpAny_call_entry slot_list_sort ⟨_, hnew, rfl⟩ entry_list_sort (SrtO.list_sort_ord SrtO.swo_int hnew hl (fun h2 => SrtO.ints_sortable hi h2) fun out o1 o2 => ⟨_, rfl, wpAny_pure ⟨_, rfl, ?_⟩⟩) (args_list_sort _)))
  obtain ⟨k1, k2, k3⟩ := SrtO.ints_out hi o1 o2
  obtain ⟨ep, hat⟩ := PyProof.Rows.sortedHeap_at (vs := its) (out := out.toArray) hnew
  have hlen : ((out.map SrtO.iv).map V.int).length ≤ sizeLine := by
    rw [List.length_map, k2.length_eq, ← List.length_map (f := V.int)]
    exact hz
  refine ⟨.ref _, upd H h1.objs.size (.lst ((out.map SrtO.iv).map V.int)), I1.laid (t' := s.toks) (fun b u e => ?_) (Nat.le_refl _) ⟨hlen, out, ep, vals_of_ints k1, hat⟩, rfl, q _ _ k2 k3 (I1.hok.fresh (Nat.le_refl _))⟩
  have hb : b < h1.objs.size := Heap.lt_size e
  rw [PyProof.Rows.sortedHeap_old (Nat.ne_of_lt hb) (Heap.lt_size (Heap.get?_push_of_some (seqObj "list" its.toArray 0) e))]
  exact Heap.get?_push_of_some _ e
end
end Ts

namespace Ts
open PySem L2
/-! ### values and their types -/
inductive Kd where
  | non | bl | int | str | lst | tup | own
  deriving DecidableEq
def Kd.inI : Kd → Bool | .int => true | .bl => true | _ => false
def Kd.inB : Kd → Bool | .bl => true | _ => false
def Kd.inS : Kd → Bool | .str => true | _ => false
def Kd.inL : Kd → Bool | .lst => true | _ => false
def Kd.inT : Kd → Bool | .tup => true | _ => false
structure TyV (K : PySem.W.Frag) (H : Hp) (v : V) (k : Kd) : Prop where
  ex : ∃ t, TyX K H v t ∧ PySem.W.kitOne K t (.type "int") = some k.inI ∧ PySem.W.kitOne K t (.type "bool") = some k.inB ∧ PySem.W.kitOne K t (.type "str") = some k.inS ∧ PySem.W.kitOne K t (.type "list") = some k.inL ∧ PySem.W.kitOne K t (.type "tuple") = some k.inT
  i1 : k = .int → ∃ i, v = .int i
  s1 : k = .str → ∃ x, v = .str x
theorem tyV_int {K : PySem.W.Frag} {H : Hp} {i : Int} : TyV K H (.int i) .int :=
  ⟨⟨_, .base (.int i), kit_ty (by decide +kernel), kit_ty (by decide +kernel), kit_ty (by decide +kernel), kit_ty (by decide +kernel), kit_ty (by decide +kernel)⟩, fun _ => ⟨i, rfl⟩, fun h => (by cases h)⟩
theorem tyV_bl {K : PySem.W.Frag} {H : Hp} {b : Bool} : TyV K H (.bl b) .bl :=
  ⟨⟨_, .base (.bl b), kit_ty (by decide +kernel), kit_ty (by decide +kernel), kit_ty (by decide +kernel), kit_ty (by decide +kernel), kit_ty (by decide +kernel)⟩, fun h => (by cases h), fun h => (by cases h)⟩
theorem tyV_non {K : PySem.W.Frag} {H : Hp} : TyV K H .non .non :=
  ⟨⟨_, .base .non, kit_ty (by decide +kernel), kit_ty (by decide +kernel), kit_ty (by decide +kernel), kit_ty (by decide +kernel), kit_ty (by decide +kernel)⟩, fun h => (by cases h), fun h => (by cases h)⟩
theorem tyV_str {K : PySem.W.Frag} {H : Hp} {x : Str} : TyV K H (.str x) .str :=
  ⟨⟨_, .base (.str x), kit_ty (by decide +kernel), kit_ty (by decide +kernel), kit_ty (by decide +kernel), kit_ty (by decide +kernel), kit_ty (by decide +kernel)⟩, fun h => (by cases h), fun _ => ⟨x, rfl⟩⟩
theorem tyV_list {K : PySem.W.Frag} {H : Hp} {a : Addr} {xs : List V} (h : SqL K H a xs) : TyV K H (.ref a) .lst := by
  refine ⟨?_, fun h => (by cases h), fun h => (by cases h)⟩
  have e : TyX K H (.ref a) (.type "list") := by
    rcases h with (h | ⟨o, h⟩) | ⟨o, its, n, h1, h2, _⟩
    · exact .base (.lst h)
    · exact .base (.frz h)
    · exact .kList h1 h2
  exact ⟨_, e, kit_ty (by decide +kernel), kit_ty (by decide +kernel), kit_ty (by decide +kernel), kit_ty (by decide +kernel), kit_ty (by decide +kernel)⟩
theorem tyV_tup {K : PySem.W.Frag} {H : Hp} {a : Addr} {xs : List V} (h : SqT K H a xs) : TyV K H (.ref a) .tup := by
  refine ⟨?_, fun h => (by cases h), fun h => (by cases h)⟩
  have e : TyX K H (.ref a) (.type "tuple") := by
    rcases h with (h | ⟨o, h⟩) | ⟨o, its, n, h1, h2, _⟩
    · exact .base (.tup h)
    · exact .fTuple h
    · exact .kTuple h1 h2
  exact ⟨_, e, kit_ty (by decide +kernel), kit_ty (by decide +kernel), kit_ty (by decide +kernel), kit_ty (by decide +kernel), kit_ty (by decide +kernel)⟩
theorem TyX.same {K : PySem.W.Frag} {H H' : Hp} {v : V} {t : Value} (h : TyX K H v t) (s : Same H H') : TyX K H' v t := by
  cases h with
  | base h =>
    refine .base ?_
    cases h with
    | non => exact .non
    | bl x => exact .bl x
    | int i => exact .int i
    | str x => exact .str x
    | flt x => exact .flt x
    | lst e => exact .lst (s _ _ e)
    | frz e => exact .frz (s _ _ e)
    | tup e => exact .tup (s _ _ e)
    | dK e => exact .dK (s _ _ e)
    | dT e => exact .dT (s _ _ e)
    | ins e cl ha hn htk hm => exact .ins (s _ _ e) cl ha hn htk hm
  | byt b => exact .byt b
  | set e => exact .set (s _ _ e)
  | kList e c => exact .kList e c
  | kTuple e c => exact .kTuple e c
  | kDict e c => exact .kDict e c
  | fTuple e => exact .fTuple (s _ _ e)
  | fDict e => exact .fDict (s _ _ e)
theorem TyV.same {K : PySem.W.Frag} {H H' : Hp} {v : V} {k : Kd} (h : TyV K H v k) (s : Same H H') : TyV K H' v k := by
  obtain ⟨⟨t, h1, h2⟩, h3, h4⟩ := h
  exact ⟨⟨t, TyX.same h1 s, h2⟩, h3, h4⟩
theorem Same.sqt {K : PySem.W.Frag} {H H' : Hp} {a : Addr} {xs : List V} (e : Same H H') (h : SqT K H a xs) : SqT K H' a xs := by
  rcases h with (h | ⟨o, h⟩) | h
  · exact .inl (.inl (e _ _ h))
  · exact .inl (.inr ⟨o, e _ _ h⟩)
  · exact .inr h
/-- the answer of is_count -/
def cntV : V → Bool
  | .int i => decide (1 ≤ i)
  | _ => false
def spIsInt (K : PySem.W.Frag) : Sp := fun vs H Q _ => ∃ (v : V) (k : Kd), vs = [v] ∧ TyV K H v k ∧ Q (.bl (decide (k = .int))) H
def spIsCount (K : PySem.W.Frag) : Sp := fun vs H Q _ => ∃ (v : V) (k : Kd), vs = [v] ∧ TyV K H v k ∧ Q (.bl (decide (k = .int) && cntV v)) H
def spIsSeq (K : PySem.W.Frag) : Sp := fun vs H Q _ => ∃ (v : V) (k : Kd), vs = [v] ∧ TyV K H v k ∧ ∀ H', Same H H' → Q (.bl (k.inL || k.inT)) H'
end Ts

namespace Ts
open PySem L2
/-! ### isinstance of a caught error that keeps something -/
section
variable {prog : Program} {w : World} {A : Around} {E : Value → Shared → Prop} {s : Shared} {K : PySem.W.Frag} {x D : Addr} {ox od : Obj}
open PySem.W PySem.Calls PyProof.Rows
theorem class_of_err {Q : Option Value → Shared → Prop} (c : ExcC K D) (X : K.In s.heap) (I : InstAt s.heap x ox D (some od)) (h : Q (some (.ref D)) { s with toks := s.toks + 1 }) :
    wpAny (model prog w) A (getAttr? (.ref x) "__class__") Q E s := by
  have some_cls : (clsIn K D).isSome = true := by
    obtain ⟨cd, e, _⟩ := any_some c.hd
    rw [e]
    rfl
  have found : findObj K D (some od) "__class__" = _ := findObj_data some_cls c.ha c.hn c.ht
  have n2 : (Value.builtin "BaseException.__getattribute__" == Value.builtin "object.__getattribute__") = false := by decide +kernel
  have n1 : (onTheHeap (Value.ref D) && Value.builtin "BaseException.__getattribute__" == Value.builtin "object.__getattribute__") = false := by
    rw [n2]
    rfl
  have n0 : (false && onTheHeap (Value.builtin "BaseException.__getattribute__")) = false := rfl
  obtain ⟨hp, gs, dr, tk, os⟩ := s
  have ty := I.type (M := model prog w)
  have l3 := looks_find (M := model prog w) X I found
  unfold getAttr? getAttrBy? getAttrBy
  refine wpAny_bind (wpAny_mkText (wpAny_bind (wpAny_attempt (wpAny_holding (wpAny_bind (ty.at (wpAny_bind ((looks_findIn (M := model prog w) X c.hg).at ?_))))))))
  refine (show wpAny _ _ (if (onTheHeap (Value.ref D) && Value.builtin "BaseException.__getattribute__" == Value.builtin "object.__getattribute__") = true then _ else _) _ _ _ from ?_)
  rw [n1, if_neg Bool.false_ne_true]
  unfold getAttrByItsOwn hookBefore
  refine wpAny_bind ?_
  rw [if_pos (show onTheHeap (Value.ref D) = true by rfl)]
  refine (looks_findIn (M := model prog w) X c.hk).at (wpAny_bind (wpAny_attempt (wpAny_holding ?_)))
  unfold callGetattribute
  rw [n0, if_neg Bool.false_ne_true]
  unfold boundAndCalled
  rw [PySem.F.excAttr_ValueError.ga.bind (.ref x)]
  refine wpAny_bind (wpAny_pure (show wpAny _ _ (call (.builtin "BaseException.__getattribute__") [.ref x, .str "__class__" tk]) _ _ _ from ?_))
  refine wpAny_call (codeAny_call_builtin PySem.F.excAttr_ValueError.ga.plain PySem.F.entry_bexc_ga ?_)
  refine @check_slot (model prog w) _ _ ⟨hp, gs, dr, tk + 1, os⟩ "BaseException.__getattribute__" "BaseException" "__getattribute__" (.ref x) [.str "__class__" tk] [] _ (by decide +kernel) (by decide +kernel) (ty.andThen (looks_subIn X c.hs)) (PySem.F.args_bexc_ga (.ref x) (.str "__class__" tk)) ?_
  unfold Builtin.«object.__getattribute__»
  refine wpAny_bind (wpAny_of_eq (a := ((Value.ref x : Value), [Value.str "__class__" tk])) (by first | rfl | (simp only [slotArgs]; rfl)) (wpAny_bind (wpAny_pure (wpAny_bind (ty.at (wpAny_bind (l3.at ?_)))))))
  refine (show wpAny _ _ (holding [Value.builtin "object.__class__"] (call (.builtin "getset_descriptor.__get__") [.builtin "object.__class__", .ref x, .ref D]) >>= ret) _ _ _ from ?_)
  refine wpAny_bind (wpAny_holding (wpAny_call (class_get (s := ⟨hp, gs, dr, tk + 1, os⟩) (ox := ox) (od := some od) X I c.hm (wpAny_pure ?_))))
  refine (show wpAny _ _ (handedOut (.ref D)) _ _ _ from ?_)
  rw [handedOut_of (v := .ref D) rfl]
  first
    | exact wpAny_pure (wpAny_pure h)
    | exact wpAny_pure h
    | exact wpAny_pure (wpAny_bind (wpAny_pure (wpAny_pure h)))
theorem kit_err (c : ExcC K D) : KitX K (.ref x) (.ref D) (fun h => InstAt h x ox D (some od)) where
  ty := fun _ _ _ I => I.type
  it := fun _ _ X _ => by
    obtain ⟨cd, e, _⟩ := any_some c.hd
    unfold clsIn at e
    split at e
    · rename_i a1 a2 a3 a4 ho
      intro A' Q' E' s' kk q
      unfold isType loadHead
      exact wpAny_bind (wpAny_loadPart (kk _ _ (X _ _ ho)) (wpAny_pure q))
    · cases e
  ne := fun h tp dd its n sl X htp => Bool.eq_false_iff.mpr fun q => by
    obtain ⟨cd, e, _⟩ := any_some c.hd
    have e2 : D = tp := Value.ref.inj (beq_iff_eq.mp q)
    subst e2
    unfold clsIn at e
    split at e
    · rename_i a1 a2 a3 a4 ho
      cases (X _ _ ho).symm.trans htp
    · cases e
  ca := fun X I k => class_of_err c X I k
end

def rIsD (K : PySem.W.Frag) (D a : Addr) (cls : Value) (d : Option Addr) : List V → Hp → VK → Prop := fun xs H Q => ∃ (c : V) (cv : Value) (b : Bool) (dd : Addr) (fs : List (Str × V)), xs = [.ref a, c] ∧ (∀ u, RelV c u → u = cv) ∧ cls = .ref D ∧ d = some dd ∧ H dd = some (.xd fs) ∧ PySem.W.kitOne K (.ref D) cv = some b ∧ Q (.bl b) H
theorem call_isD {X : Cx} {a D : Addr} {cls : Value} {d : Option Addr} {oe : Obj} {pn : List (Addr × Obj)} (C : ExcC X.K D) (hz : Zc cls d oe) (hf : ∃ vs, oe.data = .fields vs) : CallR (X.suite a ((a, oe) :: pn)) (.builtin "isinstance") (rIsD X.K D a cls d) := by
  intro pins s σ H xs us Q I r h
  obtain ⟨c, cv, b, dd, fs, rfl, hcv, rfl, rfl, hd, e, q⟩ := h
  obtain ⟨u1, u2, rfl, r1, r2⟩ := vals2 r
  cases r1
  have ec := hcv _ r2
  subst ec
  obtain ⟨hget, _⟩ := I.pin (a, oe) (List.mem_append.mpr (.inl List.mem_cons_self))
  obtain ⟨vs, hv⟩ := hf
  have hx : ObjOk X.prog X.w H s.heap dd (.xd fs) := I.hok dd _ hd
  obtain ⟨mA, hns, _⟩ := hx
  obtain ⟨od, ho, _⟩ := lookIn_ns hns
  have J : PySem.W.InstAt s.heap a oe D (some od) := ⟨hget, hz.1, by unfold PySem.W.notCls; rw [hv] <;> rfl, by rw [hz.2]; exact ho⟩
  exact PySem.W.kia_one (kit_err C) I.kIn J e (fun z => nomatch z) fun tk => ⟨.bl b, H, I.kept (t' := tk) fun _ _ z => z, rfl, q⟩
/-! ### errors with one thing kept -/
def spExc (C : Addr) (f : Str) : Sp := fun vs H Q _ => ∃ (a : Addr) (v : V), vs = [.ref a, v] ∧ H a = some (exo a C none) ∧ ∀ dx, H dx = none → dx ≠ a → Q .non (upd (upd H dx (exd dx [(f, v)])) a (exo a C (some dx)))
theorem mk_ex {C : Addr} {f : Str} {v : V} {H1 : Hp} {Q : XK} (h : ∀ d, H1 d = none → Q (.ref C) (some d) (upd H1 d (.xd [(f, v)]))) :
    [v].length ≤ 1000 ∧ ∀ a, H1 a = none → spExc C f (.ref a :: ([v] ++ [])) (upd H1 a (exo a C none))
      (fun u H2 => u = .non ∧ ∃ (d : Addr) (fs : List (Str × V)), H2 a = some (exo a C (some d)) ∧ H2 d = some (exd d fs) ∧ H1 d = none ∧ Q (.ref C) (some d) (upd (del H2 a) d (.xd fs))) (fun _ _ _ => False) := by
  refine ⟨(by show 1 ≤ 1000; decide), fun a na => ⟨a, v, rfl, upd_same, fun dx n ne => ⟨rfl, dx, _, upd_same, by rw [upd_ne ne, upd_same], ?_, ?_⟩⟩⟩
  · rw [upd_ne ne] at n
    exact n
  · have n1 : H1 dx = none := by
      rw [upd_ne ne] at n
      exact n
    have e : upd (del (upd (upd (upd H1 a (exo a C none)) dx (exd dx [(f, v)])) a (exo a C (some dx))) a) dx (.xd [(f, v)]) = upd H1 dx (.xd [(f, v)]) := by
      funext b
      by_cases h1 : b = dx
      · rw [h1, upd_same, upd_same]
      · rw [upd_ne h1, upd_ne h1]
        by_cases h2 : b = a
        · rw [h2, del_same, na]
        · rw [del_ne h2, upd_ne h2, upd_ne h1, upd_ne h2]
    rw [e]
    exact h dx n1
theorem passesLen {X : Cx} {W : WX} (tk : Takes X W) : Passes (L2.CX X.prog X.w) X (fun cls d H => ∀ σ : L2.St, σ.length = X.N.length → W cls d σ H) := fun pins σ H s e s' I c =>
  tk e s' (XE.of_call I (fun _ _ _ h => h σ I.len) c)
theorem passesN {X : Cx} {W : WX} (n : Nat) (tk : Takes X W) (hn : X.N.length = n) : Passes (L2.CX X.prog X.w) X (fun cls d H => ∀ σ : L2.St, σ.length = n → W cls d σ H) := fun pins σ H s e s' I c =>
  tk e s' (XE.of_call I (fun _ _ _ h => h σ (I.len.trans hn)) c)
theorem passesUp {X : Cx} {E : XK} (tk : Takes X (fun cls d _ H => E cls d H)) : Passes (L2.CX X.prog X.w) X E := fun pins σ H s e s' I c =>
  tk e s' (XE.of_call I (fun _ _ _ h => h) c)
end Ts

namespace Ts
open PySem L2
def noNames : List V := [.str "any", .str "none", .str "anew", .str "lift", .str "term"]
def letters : Str := "abcdefghijklmnopqrstuvwxyz"
def nameB (x : Str) : Bool := !inV (.str x) noNames && ((decide (1 ≤ (x.length : Int)) && decide ((x.length : Int) ≤ 4)) && x.cps.toList.all fun c => decide (c ∈ letters.cps.toList))
def nameV : V → Bool
  | .str x => nameB x
  | _ => false
/-- a value of which the type is known, a text not too long -/
def GoodV (K : PySem.W.Frag) (H : Hp) (v : V) : Prop := ∃ k, TyV K H v k ∧ ∀ x, v = .str x → x.length ≤ 1000 ∧ PyData.strOk x = true
theorem GoodV.same {K : PySem.W.Frag} {H H' : Hp} {v : V} (g : GoodV K H v) (s : Same H H') : GoodV K H' v := by
  obtain ⟨k, t, h⟩ := g
  exact ⟨k, t.same s, h⟩
theorem TyX.went {K : PySem.W.Frag} {D L : Addr} {H H' : Hp} {v : V} {t : Value} (h : TyX K H v t) (d : DealAt H D L) (w : Went D L H H') : TyX K H' v t := by
  have key : ∀ {a : Addr} {o : HO}, H a = some o → (∀ xs, o ≠ .lst xs) → H' a = some o := fun {a o} e n => by
    refine w.k _ _ (fun z => ?_) (fun z => ?_) e
    · obtain ⟨cs, m, h1, _⟩ := d.ex
      rw [z, h1] at e
      exact n _ (Option.some.inj e).symm
    · obtain ⟨cs, m, _, h1, _⟩ := d.ex
      rw [z, h1] at e
      exact n _ (Option.some.inj e).symm
  cases h with
  | base h =>
    cases h with
    | non => exact .base .non
    | bl x => exact .base (.bl x)
    | int i => exact .base (.int i)
    | str x => exact .base (.str x)
    | flt x => exact .base (.flt x)
    | @lst a xs e =>
      by_cases hD : a = D
      · obtain ⟨cs, m, h1, _⟩ := w.d.ex
        rw [hD]
        exact .base (.lst h1)
      · by_cases hL : a = L
        · obtain ⟨cs, m, _, h1, _⟩ := w.d.ex
          rw [hL]
          exact .base (.lst h1)
        · exact .base (.lst (w.k _ _ hD hL e))
    | frz e => exact .base (.frz (key e fun _ z => by cases z))
    | tup e => exact .base (.tup (key e fun _ z => by cases z))
    | dK e => exact .base (.dK (key e fun _ z => by cases z))
    | dT e => exact .base (.dT (key e fun _ z => by cases z))
    | ins e cl ha hn htk hm => exact .base (.ins (key e fun _ z => by cases z) cl ha hn htk hm)
  | byt b => exact .byt b
  | set e => exact .set (key e fun _ z => by cases z)
  | kList e c => exact .kList e c
  | kTuple e c => exact .kTuple e c
  | kDict e c => exact .kDict e c
  | fTuple e => exact .fTuple (key e fun _ z => by cases z)
  | fDict e => exact .fDict (key e fun _ z => by cases z)
theorem TyV.went {K : PySem.W.Frag} {D L : Addr} {H H' : Hp} {v : V} {k : Kd} (h : TyV K H v k) (d : DealAt H D L) (w : Went D L H H') : TyV K H' v k := by
  obtain ⟨⟨t, h1, h2⟩, h3, h4⟩ := h
  exact ⟨⟨t, TyX.went h1 d w, h2⟩, h3, h4⟩
theorem GoodV.went {K : PySem.W.Frag} {D L : Addr} {H H' : Hp} {v : V} (g : GoodV K H v) (d : DealAt H D L) (w : Went D L H H') : GoodV K H' v := by
  obtain ⟨k, t, h⟩ := g
  exact ⟨k, t.went d w, h⟩
def spIsName (K : PySem.W.Frag) : Sp := fun vs H Q _ => ∃ v, vs = [v] ∧ GoodV K H v ∧ ∀ H', Same H H' → Q (.bl (nameV v)) H'
/-- all(..) over the signs of a text -/
theorem all_take {α : Type} {p : α → Bool} {xs : List α} : ∀ {i : Nat} {x : α}, xs[i]? = some x → (xs.take (i + 1)).all p = ((xs.take i).all p && p x) := by
  intro i x h
  rw [List.take_add_one, h]
  simp [List.all_append]
end Ts

namespace Ts
open PySem L2
theorem cnt_eq {K : PySem.W.Frag} {H : Hp} {v : V} {k : Kd} (h : TyV K H v k) : (decide (k = .int) && cntV v) = cntV v := by
  obtain ⟨⟨t, tx, t1, t2, t3, t4, t5⟩, i1, _⟩ := h
  by_cases e : k = .int
  · rw [decide_eq_true e]
    rfl
  · rw [decide_eq_false e]
    cases v with
    | int i =>
      cases tx with
      | base hb =>
        cases hb
        rw [kit_ty (a := "int") (b := "int") (r := true) (by decide +kernel)] at t1
        rw [kit_ty (a := "int") (b := "bool") (r := false) (by decide +kernel)] at t2
        cases k <;> first | exact absurd rfl e | exact absurd t1 (by decide) | exact absurd t2 (by decide)
    | _ => rfl
/-- a def that may raise, by its body -/
theorem fnX {P : Program} {w : World} {K : PySem.W.Frag} {mg : Str → Option Value} {base : Heap} {x qual : Str} {st : Stmt} {f : Addr} {fd : FuncData} {N ps : List Str} {k : Nat} {sp : Sp} (F : C8.Fun K x qual st f fd) (S : FnScope N ps (C8.fnScope st)) (len : ∀ vs H Q E, sp vs H Q E → vs.length = ps.length)
    (hbody : ∀ (cdv : Value) (A : Around) (outer : List Env) (s : Shared) (H : Hp) (vs : List V) (Q : VK) (E : XK), Room k (A.deeper (PyProof.Rows.envOfC qual (C8.fnScope st) s.heap.objs.size f cdv)) → sp vs H Q E →
      ∃ t, PSs (cxOf (L2.CX P w) P w K mg base N qual (C8.fnScope st) f cdv A outer s H E) (C8.fnBody st) t ∧ t { nx := fun _ H' => Q .non H', rt := Q } (start N vs) H) : FnOk P w K mg base (L2.CX P w) (k + 1) f fd ps sp := by
  obtain ⟨oc, od, dV, kV, doc, pm, an, cdv, ct, osl, rfl, lk, hcd⟩ := F.ex
  exact fn_of lk hcd S len fun A outer s H vs Q E hr hsp => hbody cdv A outer s H vs Q E hr hsp
/-- a def that may raise, called by its name -/
structure CalX (P : Program) (w : World) (K : PySem.W.Frag) (mg : Str → Option Value) (base : Heap) (k : Nat) (x : Str) (sp : Sp) (dvs : List V) : Prop where
  ex : ∃ (f : Addr) (fd : FuncData) (ps : List Str) (ds : List Value), FnOk P w K mg base (L2.CX P w) k f fd ps sp ∧ mg x = some (.ref f) ∧ PySem.W.keepIn K (.ref f) = true ∧ Binds K fd ps ds ∧ Vals dvs ds
/-- a class whose __init__ may raise -/
structure MakX (P : Program) (w : World) (K : PySem.W.Frag) (mg : Str → Option Value) (base : Heap) (k : Nat) (x : Str) (C : Addr) (sp : Sp) (dvs : List V) : Prop where
  ex : ∃ (f : Addr) (fd : FuncData) (ps : List Str) (ds : List Value), Mk K C f ∧ FnOk P w K mg base (L2.CX P w) k f fd ps sp ∧ mg x = some (.ref C) ∧ Binds K fd ps ds ∧ Vals dvs ds
/-- an error class that keeps one thing -/
structure Err (P : Program) (w : World) (K : PySem.W.Frag) (mg : Str → Option Value) (base : Heap) (x : Str) (C : Addr) (fl : Str) : Prop where
  ex : ∃ (fI : Addr) (fd : FuncData) (ps : List Str), OexC K C ∧ PySem.W.findIn K (.ref C) "__init__" = some (some (.ref fI)) ∧ PySem.W.typeIn K (.ref fI) = some (.type "function") ∧ FnOk P w K mg base C8.CX0 1 fI fd ps (spExc C fl) ∧ Binds K fd ps [] ∧ mg x = some (.ref C)
section
variable {X : Cx} {k j : Nat} {C : Addr} {x : Str} {sp : Sp} {dvs : List V} {E : XK} {p pos : Pos} {e : Expr} {es : List Expr} {ta : TA} {fl : Str}
theorem pe_cX (c : CalX X.prog X.w X.K X.mg X.base k x sp dvs) (hr : Room j X.A) (hk : k ≤ j) (hx : Passes (L2.CX X.prog X.w) X E) (hg : Gl X x) (ha : PA X (e :: es) ta)
    (hdb : (x == ("__debug__" : Str)) = false := by decide) (he : starEach (e :: es) X.env = (false, eval e X.env) :: starEach es X.env := by rfl) (hpl : (backTo pos (starEach es X.env)).any (·.1) = false := by rfl) :
    PE X (.Call (.Name x p) (e :: es) [] pos) (tCall sp dvs E ta) := by
  obtain ⟨f, fd, ps, ds, F, hm, kp, b, d⟩ := c.ex
  exact pe_call F (hr.mono hk) hg hm kp b d hx ha hdb he hpl
theorem pe_mkX (c : MakX X.prog X.w X.K X.mg X.base k x C sp dvs) (hr : Room j X.A) (hk : k + 1 ≤ j) (hx : Passes (L2.CX X.prog X.w) X E) (hg : Gl X x) (ha : PA X (e :: es) ta)
    (hdb : (x == ("__debug__" : Str)) = false := by decide) (he : starEach (e :: es) X.env = (false, eval e X.env) :: starEach es X.env := by rfl) (hpl : (backTo pos (starEach es X.env)).any (·.1) = false := by rfl) :
    PE X (.Call (.Name x p) (e :: es) [] pos) (tMake C sp dvs E ta) := by
  obtain ⟨f, fd, ps, ds, M, F, hm, b, d⟩ := c.ex
  exact pe_make M F (hr.mono hk) hg hm b d hx ha hdb he hpl
theorem pmk_err (c : Err X.prog X.w X.K X.mg X.base x C fl) (hr : Room j X.A) (hk : 2 ≤ j) (hg : Gl X x) (ha : PA X (e :: es) ta)
    (hdb : (x == ("__debug__" : Str)) = false := by decide) (he : starEach (e :: es) X.env = (false, eval e X.env) :: starEach es X.env := by rfl) (hpl : (backTo pos (starEach es X.env)).any (·.1) = false := by rfl) :
    PMk X (.Call (.Name x p) (e :: es) [] pos) (tMkO C (spExc C fl) [] ta) := by
  obtain ⟨fI, fd, ps, T, iC, tI, F, b, hm⟩ := c.ex
  exact pmk_oex T iC tI F (hr.mono hk) b .nil C8.pass0 hg hm ha hdb he hpl
end
/-! ### the arguments of kinds -/
def dueC (nm : V) (prs : List (Str × V)) (tm : V) : Option Str :=
  if nameV nm = false then some "name" else match prs.find? fun p => !cntV p.2 with
    | some p => some p.1
    | none => if tm ≠ .non ∧ cntV tm = false then some "times" else none
/-- at a list of pairs (a word, a value) -/
def PrsAt (K : PySem.W.Frag) (H : Hp) (a : Addr) (prs : List (Str × V)) : Prop := ∃ ts : List Addr, H a = some (.lst (ts.map V.ref)) ∧ ts.length = prs.length ∧ ∀ (i : Nat) (t : Addr) (p : Str × V), ts[i]? = some t → prs[i]? = some p → H t = some (.tup [.str p.1, p.2])
theorem PrsAt.same {K : PySem.W.Frag} {H H' : Hp} {a : Addr} {prs : List (Str × V)} (h : PrsAt K H a prs) (s : Same H H') : PrsAt K H' a prs := by
  obtain ⟨ts, h1, h2, h3⟩ := h
  exact ⟨ts, s _ _ h1, h2, fun i t p a b => s _ _ (h3 i t p a b)⟩
def spCheck (K : PySem.W.Frag) (CI : Addr) : Sp := fun vs H Q E => ∃ (nm : V) (a : Addr) (prs : List (Str × V)) (tm : V), vs = [nm, .ref a, tm] ∧ PrsAt K H a prs ∧ GoodV K H nm ∧ GoodV K H tm ∧ (∀ p ∈ prs, GoodV K H p.2) ∧
  (dueC nm prs tm = none → ∀ H', Same H H' → Q .non H') ∧
  ∀ wd, dueC nm prs tm = some wd → ∀ (H' : Hp) (d : Addr), Same H H' → H' d = some (.xd [("word", .str wd)]) → E (.ref CI) (some d) H'
theorem find_pre {α : Type} {p : α → Bool} {xs : List α} {i : Nat} {x : α} (hx : xs[i]? = some x) (h0 : ∀ y ∈ xs.take i, p y = false) (h1 : p x = true) : xs.find? p = some x := by
  have e : xs = xs.take i ++ x :: xs.drop (i + 1) := by
    obtain ⟨hi, rfl⟩ := List.getElem?_eq_some_iff.mp hx
    rw [← List.drop_eq_getElem_cons hi, List.take_append_drop]
  rw [e, List.find?_append, List.find?_eq_none.mpr (fun y hy => by rw [h0 y hy]; exact Bool.false_ne_true), List.find?_cons, h1]
  rfl
end Ts

namespace Ts
open PySem L2
/-- all but one place stay -/
def But (x : Addr) (H H' : Hp) : Prop := ∀ b o, H b = some o → b ≠ x → H' b = some o
theorem But.refl {x : Addr} {H : Hp} : But x H H := fun _ _ h _ => h
theorem But.trans {x : Addr} {H H1 H2 : Hp} (a : But x H H1) (b : But x H1 H2) : But x H H2 := fun c o h n => b c o (a c o h n) n
theorem But.same {x : Addr} {H H1 H2 : Hp} (a : But x H H1) (s : Same H1 H2) : But x H H2 := fun c o h n => s c o (a c o h n)
theorem Same.but {x : Addr} {H H1 : Hp} (s : Same H H1) : But x H H1 := fun c o h _ => s c o h
theorem But.at {x : Addr} {H H1 : Hp} {o : HO} (a : But x H H1) : But x H (upd H1 x o) := fun c u h n => by
  rw [upd_ne n]
  exact a c u h n
theorem But.seq {K : PySem.W.Frag} {x a C dx : Addr} {fs : List (Str × V)} {xs : List V} {H H' : Hp} (b : But x H H') (hx : H x = some (.ins C dx fs)) (h : SqL K H a xs) : SqL K H' a xs := by
  rcases h with (h | ⟨o, h⟩) | h
  · exact .inl (.inl (b _ _ h (ne_of h hx (by intro z; cases z))))
  · exact .inl (.inr ⟨o, b _ _ h (ne_of h hx (by intro z; cases z))⟩)
  · exact .inr h
theorem But.sqt {K : PySem.W.Frag} {x a C dx : Addr} {fs : List (Str × V)} {xs : List V} {H H' : Hp} (b : But x H H') (hx : H x = some (.ins C dx fs)) (h : SqT K H a xs) : SqT K H' a xs := by
  rcases h with (h | ⟨o, h⟩) | h
  · exact .inl (.inl (b _ _ h (ne_of h hx (by intro z; cases z))))
  · exact .inl (.inr ⟨o, b _ _ h (ne_of h hx (by intro z; cases z))⟩)
  · exact .inr h
theorem few {f : Str} {v : V} {fs : List (Str × V)} {n : Nat} (h : fs.length ≤ n) : (putF f v fs).length ≤ n + 1 := Nat.le_trans (length_putF f v fs) (Nat.succ_le_succ h)
theorem few0 : ([] : List (Str × V)).length ≤ 0 := Nat.le_refl _
theorem few_lt {fs : List (Str × V)} {n : Nat} (h : fs.length ≤ n) (h2 : n < 1000) : fs.length < 1000 := Nat.lt_of_le_of_lt h h2
/-- what the text's class says: no class of it has these names -/
structure ClsN (K : PySem.W.Frag) (C : Addr) (ns : List Str) : Prop where
  cl : Cls K C
  no : ∀ n ∈ ns, NoAttr K C n
def stillF (nm d tm : V) : List (Str × V) := putF "times" tm (putF "days" d (putF "name" nm []))
def anewF (nm d tm : V) : List (Str × V) := putF "times" tm (putF "left" d (putF "name" nm []))
def liftF (nm b t tm : V) : List (Str × V) := putF "times" tm (putF "top" t (putF "by" b (putF "name" nm [])))
/-- the promise of a kind's __init__: due, what its arguments owe; fs, its attributes -/
def spKind (K : PySem.W.Frag) (C CI : Addr) (n : Nat) (due : List V → Option Str) (fs : List V → List (Str × V)) : Sp := fun vs H Q E => ∃ (x dx : Addr) (ws : List V), vs = .ref x :: ws ∧ ws.length = n ∧ H x = some (.ins C dx []) ∧ (∀ v ∈ ws, GoodV K H v) ∧
  (due ws = none → ∀ H', H' x = some (.ins C dx (fs ws)) → But x H H' → Q .non H') ∧
  ∀ wd, due ws = some wd → ∀ (H' : Hp) (d : Addr), Same H H' → H' d = some (.xd [("word", .str wd)]) → E (.ref CI) (some d) H'
def dueS : List V → Option Str | [a, b, c] => dueC a [("days", b)] c | _ => none
def dueA : List V → Option Str | [a, b, c] => dueC a [("left", b)] c | _ => none
def dueL : List V → Option Str | [a, b, c, d] => dueC a [("by", b), ("top", c)] d | _ => none
def fsS : List V → List (Str × V) | [a, b, c] => stillF a b c | _ => []
def fsA : List V → List (Str × V) | [a, b, c] => anewF a b c | _ => []
def fsL : List V → List (Str × V) | [a, b, c, d] => liftF a b c d | _ => []
theorem len3 {α : Type} {ws : List α} (h : ws.length = 3) : ∃ a b c, ws = [a, b, c] := by
  match ws, h with
  | [a, b, c], _ => exact ⟨a, b, c, rfl⟩
theorem len4 {α : Type} {ws : List α} (h : ws.length = 4) : ∃ a b c d, ws = [a, b, c, d] := by
  match ws, h with
  | [a, b, c, d], _ => exact ⟨a, b, c, d, rfl⟩
end Ts

namespace Ts
open PySem L2
theorem nodup_le : ∀ {xs ys : List Int}, xs.Nodup → (∀ x ∈ xs, x ∈ ys) → xs.length ≤ ys.length
  | [], _, _, _ => Nat.zero_le _
  | x :: xs, ys, h, hs => by
    rw [List.nodup_cons] at h
    have h1 : x ∈ ys := hs x (List.mem_cons_self ..)
    have h2 := nodup_le (xs := xs) (ys := ys.erase x) h.2 fun z hz => by
      have hne : z ≠ x := fun e => h.1 (e ▸ hz)
      exact (List.mem_erase_of_ne hne).mpr (hs z (List.mem_cons_of_mem _ hz))
    have h3 := List.length_erase_of_mem h1
    have h4 : 0 < ys.length := List.length_pos_of_mem h1
    rw [List.length_cons]
    omega
/-- at most six days of the week are off: one is on -/
theorem day_on {rs : List Int} (h : rs.length ≤ 6) : ∃ k : Int, 0 ≤ k ∧ k < 7 ∧ ¬ k ∈ rs := by
  by_cases e : ∃ k : Int, 0 ≤ k ∧ k < 7 ∧ ¬ k ∈ rs
  · exact e
  · have h1 : ∀ x ∈ ([0, 1, 2, 3, 4, 5, 6] : List Int), x ∈ rs := fun x hx => by
      by_cases hm : x ∈ rs
      · exact hm
      · refine absurd ⟨x, ?_, ?_, hm⟩ e
        · simp only [List.mem_cons, List.not_mem_nil, or_false] at hx
          omega
        · simp only [List.mem_cons, List.not_mem_nil, or_false] at hx
          omega
    have h2 := nodup_le (by decide) h1
    simp only [List.length_cons, List.length_nil] at h2
    omega
theorem least_day {rs : List Int} (t : Int) : ∀ n : Nat, (∃ c, t ≤ c ∧ c < t + n ∧ ¬ c % 7 ∈ rs) → ∃ e, t ≤ e ∧ e < t + n ∧ ¬ e % 7 ∈ rs ∧ ∀ c, t ≤ c → c < e → c % 7 ∈ rs
  | 0, ⟨c, h1, h2, _⟩ => by omega
  | n + 1, ⟨c, h1, h2, h3⟩ => by
    by_cases h : ∃ c, t ≤ c ∧ c < t + (n : Int) ∧ ¬ c % 7 ∈ rs
    · obtain ⟨e, e1, e2, e3, e4⟩ := least_day t n h
      exact ⟨e, e1, by omega, e3, e4⟩
    · refine ⟨c, h1, h2, h3, fun d d1 d2 => ?_⟩
      by_cases hd : d % 7 ∈ rs
      · exact hd
      · exact absurd ⟨d, d1, by omega, hd⟩ h
/-- the first working day from t on -/
theorem next_work {rs : List Int} (h : rs.length ≤ 6) (t : Int) : ∃ e, t ≤ e ∧ e < t + 7 ∧ ¬ e % 7 ∈ rs ∧ ∀ c, t ≤ c → c < e → c % 7 ∈ rs := by
  obtain ⟨k, k0, k1, hk⟩ := day_on h
  refine least_day t 7 ⟨t + (k - t) % 7, ?_, ?_, ?_⟩
  · omega
  · omega
  · have : (t + (k - t) % 7) % 7 = k := by omega
    rw [this]
    exact hk
theorem perm_ints {ys : List V} {ns : List Int} (h : ys.Perm (ns.map V.int)) : ∃ ms : List Int, ys = ms.map V.int ∧ ms.Perm ns := by
  have hall : ∀ y ∈ ys, ∃ i, y = V.int i := fun y hy => by
    obtain ⟨i, _, e⟩ := List.mem_map.mp (h.mem_iff.mp hy)
    exact ⟨i, e.symm⟩
  have hg : ∀ {zs : List V}, (∀ y ∈ zs, ∃ i, y = V.int i) → zs = (zs.map fun v => match v with | .int i => i | _ => 0).map V.int := by
    intro zs hz
    rw [List.map_map]
    conv => lhs; rw [← List.map_id zs]
    refine List.map_congr_left fun y hy => ?_
    obtain ⟨i, rfl⟩ := hz y hy
    rfl
  refine ⟨_, hg hall, ?_⟩
  have := h.map (fun v => match v with | V.int i => i | _ => (0 : Int))
  rw [List.map_map] at this
  have e : (ns.map ((fun v => match v with | V.int i => i | _ => (0 : Int)) ∘ V.int)) = ns := by
    conv => rhs; rw [← List.map_id ns]
    rfl
  rw [e] at this
  exact this
end Ts

namespace Ts
open PySem L2
theorem Went.refl {D L : Addr} {H : Hp} (d : DealAt H D L) : Went D L H H := ⟨d, Kept.refl⟩
/-- an object that is new since H1 is written -/
theorem Went.mut {D L p : Addr} {o : HO} {H1 H' : Hp} (w : Went D L H1 H') (n : H1 p = none) (h1 : p ≠ D) (h2 : p ≠ L) : Went D L H1 (upd H' p o) := by
  refine ⟨?_, fun b u b1 b2 hb => ?_⟩
  · obtain ⟨cs, m, e1, e2, r⟩ := w.d.ex
    exact ⟨cs, m, by rw [upd_ne h1.symm]; exact e1, by rw [upd_ne h2.symm]; exact e2, r⟩
  · rw [upd_ne (ne_of_none hb n)]
    exact w.k _ _ b1 b2 hb
def flatB : V → Bool
  | .non => true
  | .bl _ => true
  | .int _ => true
  | .str x => decide (x.length ≤ 1000) && PyData.strOk x
  | _ => false
theorem goodFlat {K : PySem.W.Frag} {H : Hp} {v : V} (h : flatB v = true) : GoodV K H v := by
  cases v with
  | non => exact ⟨_, tyV_non, fun x z => by cases z⟩
  | bl b => exact ⟨_, tyV_bl, fun x z => by cases z⟩
  | int i => exact ⟨_, tyV_int, fun x z => by cases z⟩
  | str x => exact ⟨_, tyV_str, fun y z => by cases z; exact ⟨of_decide_eq_true (Bool.and_eq_true_iff.mp h).1, (Bool.and_eq_true_iff.mp h).2⟩⟩
  | byt b => cases h
  | flt b => cases h
  | ref a => cases h
  | ty n => cases h
theorem goodAll {K : PySem.W.Frag} {H : Hp} {xs : List V} {v : V} (h : xs.all flatB = true) (hv : v ∈ xs) : GoodV K H v := goodFlat (List.all_eq_true.mp h v hv)
theorem goodList {K : PySem.W.Frag} {H : Hp} {a : Addr} {xs : List V} (h : SqL K H a xs) : GoodV K H (.ref a) := ⟨_, tyV_list h, fun x z => by cases z⟩
theorem goodTup {K : PySem.W.Frag} {H : Hp} {a : Addr} {xs : List V} (h : SqT K H a xs) : GoodV K H (.ref a) := ⟨_, tyV_tup h, fun x z => by cases z⟩
def spAny (K : PySem.W.Frag) (n : Nat) : Sp := fun vs H Q _ => ∃ (D L : Addr) (deep : Int), vs = [.ref D, .int deep] ∧ DealAt H D L ∧ 0 ≤ deep ∧ deep ≤ n ∧
  ∀ (v : V) (H' : Hp), GoodV K H' v → Went D L H H' → Q v H'
def nameVs : List V := [.str "talk", .str "owe", .str "plea", .str "a", .str "b", .str "zz", .str "x", .str "suit", .str "rest", .str "cap"]
def spNames : Sp := fun vs H Q _ => ∃ (D L : Addr) (m : Int), vs = [.ref D, .int m] ∧ DealAt H D L ∧ 0 ≤ m ∧ m ≤ 10 ∧
  ∀ (p : Addr) (zs : List V) (H' : Hp), zs.Perm nameVs → Went D L H H' → H p = none → H' p = some (.lst (zs.take m.toNat)) → Q (.ref p) H'
def formVs : List V := [.str "still", .str "anew", .str "lift"]
def manyVs : List V := [.int 1, .int 1, .int 2, .int 3, .non]
/-- what is drawn of a kind: (form, name, a number, another one or 0, times) -/
structure Told (most : Int) (fm : Str) (a b : Int) (mn : V) : Prop where
  f : V.str fm ∈ formVs
  a1 : 1 ≤ a
  a2 : a ≤ most
  b1 : fm = "lift" → 1 ≤ b
  b2 : fm = "lift" → b ≤ most
  b0 : fm ≠ "lift" → b = 0
  m : mn ∈ manyVs
def spKindD : Sp := fun vs H Q _ => ∃ (D L : Addr) (wd : V) (most : Int), vs = [.ref D, wd, .int most] ∧ DealAt H D L ∧ 0 < most ∧ most < 2 ^ 64 ∧
  ∀ (t : Addr) (fm : Str) (a b : Int) (mn : V) (H' : Hp), Told most fm a b mn → Went D L H H' → H t = none → H' t = some (.tup [.str fm, wd, .int a, .int b, mn]) → Q (.ref t) H'
end Ts

namespace Ts
open PySem L2
theorem cut_toV (xs : List V) (k : Nat) : cutV xs none (some (k : Int)) = xs.take k := by
  have h := cut_to (fun v => v) xs k
  rw [List.map_id', List.map_id'] at h
  exact h
theorem cut_fromV (xs : List V) (k : Nat) : cutV xs (some (k : Int)) none = xs.drop k := by
  unfold cutV
  rw [HT.sIx_nat, HT.sIx_none]
  by_cases h : k ≤ xs.length
  · rw [Nat.min_eq_left h, List.take_of_length_le (by rw [List.length_drop]; exact Nat.le_refl _)]
  · rw [Nat.min_eq_right (by omega), Nat.sub_self, List.take_zero, List.drop_eq_nil_of_le (by omega)]
theorem nameV_not {K : PySem.W.Frag} {H : Hp} {v : V} {k : Kd} (h : TyV K H v k) (e : k ≠ .str) : nameV v = false := by
  obtain ⟨⟨t, tx, t1, t2, t3, t4, t5⟩, _, _⟩ := h
  cases v with
  | str x =>
    cases tx with
    | base hb =>
      cases hb
      rw [kit_ty (a := "str") (b := "str") (r := true) (by decide +kernel)] at t3
      cases k <;> first | exact absurd rfl e | exact absurd t3 (by decide)
  | _ => rfl
theorem dp_signs {K : PySem.W.Frag} {H : Hp} : ∀ cs : List Nat, DpAll K H (cs.map fun c => V.str ⟨#[c]⟩) (cs.map fun c => PyData.str ⟨#[c]⟩)
  | [] => .nil
  | c :: cs => .cons (.str _) (dp_signs cs)
theorem filter_snoc {α : Type} {p : α → Bool} {xs : List α} {i : Nat} {c : α} (h : xs[i]? = some c) : (xs.take (i + 1)).filter p = if p c = true then (xs.take i).filter p ++ [c] else (xs.take i).filter p := by
  rw [List.take_add_one, h, List.filter_append]
  by_cases e : p c = true
  · rw [if_pos e]
    show _ ++ List.filter p [c] = _
    rw [List.filter_cons, if_pos e]
    rfl
  · rw [if_neg e]
    show _ ++ List.filter p [c] = _
    rw [List.filter_cons, if_neg e]
    exact List.append_nil _
theorem shaped_signs {cs : List Nat} (h : ∀ c ∈ cs, c < 0x110000) : SeqAt.shaped (.list (cs.map fun c => PyData.str ⟨#[c]⟩)) = true := by
  have h1 : PyData.canLayAll0 (cs.map fun c => PyData.str ⟨#[c]⟩) = true := by
    induction cs with
    | nil => rfl
    | cons c cs ih =>
      have := ih fun d hd => h d (List.mem_cons_of_mem _ hd)
      simp only [List.map_cons, PyData.canLayAll0, PyData.canLay0, this, Bool.and_true]
      have := h c (List.mem_cons_self ..)
      simp [PyData.strOk, this]
  have h2 : ∀ ds : List Nat, PyData.depthAll (ds.map fun c => PyData.str ⟨#[c]⟩) = 0 := by
    intro ds
    induction ds with
    | nil => rfl
    | cons c ds ih => simp [PyData.depthAll, PyData.depth, ih]
  simp [SeqAt.shaped, PyData.canLay0, PyData.depth, h1, h2]
theorem strOk_mem {x : Str} (h : PyData.strOk x = true) {c : Nat} (hc : c ∈ x.cps.toList) : c < 0x110000 := by
  unfold PyData.strOk at h
  rw [← Array.all_toList] at h
  exact of_decide_eq_true (List.all_eq_true.mp h c hc)
theorem all_filter (cs : List Nat) (p : Nat → Bool) : cs.all p = PyData.eqv (.list ((cs.filter fun c => !p c).map fun c => PyData.str ⟨#[c]⟩)) (.list []) := by
  induction cs with
  | nil => rfl
  | cons c cs ih =>
    rw [List.all_cons, List.filter_cons]
    cases e : p c with
    | true =>
      rw [ih]
      simp
    | false =>
      simp
      rfl
def optV : Option Str → V
  | some x => .str x
  | none => .non
def dueK (fm : Str) (ws : List V) : Option Str := if fm = "lift" then dueL ws else if fm = "still" then dueS ws else dueA ws
def Shape (fm : Str) (ws : List V) : Prop := (fm = "lift" ∧ ws.length = 4) ∨ (fm = "still" ∧ ws.length = 3) ∨ (fm = "anew" ∧ ws.length = 3)
def spHeard (K : PySem.W.Frag) : Sp := fun vs H Q _ => ∃ (fm : Str) (g : Addr) (ws : List V), vs = [.str fm, .ref g] ∧ SqL K H g ws ∧ Shape fm ws ∧ (∀ v ∈ ws, GoodV K H v) ∧ ∀ H', Same H H' → Q (optV (dueK fm ws)) H'
def spSize (K : PySem.W.Frag) : Sp := fun vs H Q _ => ∃ v, vs = [v] ∧ GoodV K H v ∧ Q (.bl (cntV v)) H
theorem nsl : ¬ (("still" : Str) = "lift") := by decide +kernel
theorem nal : ¬ (("anew" : Str) = "lift") := by decide +kernel
theorem nas : ¬ (("anew" : Str) = "still") := by decide +kernel
theorem nsa : ¬ (("still" : Str) = "anew") := by decide +kernel
theorem nls : ¬ (("lift" : Str) = "still") := by decide +kernel
theorem nla : ¬ (("lift" : Str) = "anew") := by decide +kernel
theorem due3 (a b c : V) : valV (mergeK [] [(Sum.inr "still", a), (Sum.inr "anew", b), (Sum.inr "lift", c)]) (Sum.inr ("still" : Str) : Key) = some a ∧
    valV (mergeK [] [(Sum.inr "still", a), (Sum.inr "anew", b), (Sum.inr "lift", c)]) (Sum.inr ("anew" : Str) : Key) = some b ∧
    valV (mergeK [] [(Sum.inr "still", a), (Sum.inr "anew", b), (Sum.inr "lift", c)]) (Sum.inr ("lift" : Str) : Key) = some c := by
  have i : ∀ {x y : Str}, ((Sum.inr x : Key) = Sum.inr y) = (x = y) := fun {x y} => by simp
  refine ⟨?_, ?_, ?_⟩ <;> simp [mergeK, putK, valV, i, nsl, nal, nas, nsa, nls, nla]
/-- the pairs are looked through -/
theorem find_zip {wl : List Str} {vals : List V} : ∀ {i : Nat} {x : Str} {y : V}, wl[i]? = some x → vals[i]? = some y → (wl.zip vals)[i]? = some (x, y) := by
  intro i x y h1 h2
  rw [List.getElem?_zip_eq_some]
  exact ⟨h1, h2⟩
end Ts

namespace Ts
open PySem L2
theorem TyX.mutList {K : PySem.W.Frag} {H : Hp} {b : Addr} {xs ys : List V} {v : V} {t : Value} (h : TyX K H v t) (hb : H b = some (.lst xs)) : TyX K (upd H b (.lst ys)) v t := by
  have key : ∀ {a : Addr} {o : HO}, H a = some o → (∀ xs, o ≠ .lst xs) → upd H b (.lst ys) a = some o := fun {a o} e n => by
    rw [upd_ne (fun z => by rw [z, hb] at e; exact n _ (Option.some.inj e).symm)]
    exact e
  cases h with
  | base h =>
    cases h with
    | non => exact .base .non
    | bl x => exact .base (.bl x)
    | int i => exact .base (.int i)
    | str x => exact .base (.str x)
    | flt x => exact .base (.flt x)
    | @lst a zs e =>
      by_cases hD : a = b
      · rw [hD]
        exact .base (.lst upd_same)
      · exact .base (.lst (by rw [upd_ne hD]; exact e))
    | frz e => exact .base (.frz (key e fun _ z => by cases z))
    | tup e => exact .base (.tup (key e fun _ z => by cases z))
    | dK e => exact .base (.dK (key e fun _ z => by cases z))
    | dT e => exact .base (.dT (key e fun _ z => by cases z))
    | ins e cl ha hn htk hm => exact .base (.ins (key e fun _ z => by cases z) cl ha hn htk hm)
  | byt b => exact .byt b
  | set e => exact .set (key e fun _ z => by cases z)
  | kList e c => exact .kList e c
  | kTuple e c => exact .kTuple e c
  | kDict e c => exact .kDict e c
  | fTuple e => exact .fTuple (key e fun _ z => by cases z)
  | fDict e => exact .fDict (key e fun _ z => by cases z)
theorem GoodV.mutList {K : PySem.W.Frag} {H : Hp} {b : Addr} {xs ys : List V} {v : V} (g : GoodV K H v) (hb : H b = some (.lst xs)) : GoodV K (upd H b (.lst ys)) v := by
  obtain ⟨k, ⟨⟨t, h1, h2⟩, h3, h4⟩, h⟩ := g
  exact ⟨k, ⟨⟨t, TyX.mutList h1 hb, h2⟩, h3, h4⟩, h⟩
theorem rg_mem {n : Nat} {v : V} (h : v ∈ rgV 0 (n : Int)) : ∃ j : Nat, v = .int (j : Int) ∧ j < n := by
  unfold rgV at h
  obtain ⟨j, hj, e⟩ := List.mem_map.mp h
  rw [List.mem_range] at hj
  exact ⟨j, by rw [← e]; simp, by omega⟩
theorem rg_ok (n : Nat) : (rgV 0 (n : Int)).all okV = true := List.all_eq_true.mpr fun v hv => by
  obtain ⟨j, rfl, _⟩ := rg_mem hv
  rfl
theorem ixN_of {n j : Nat} (hj : j < n) : ixN n (j : Int) = some j := by
  unfold ixN
  rw [if_pos (by omega), if_pos (by omega)]
  simp
theorem name_ok {v : V} (h : v ∈ nameVs) : nameV v = true := by
  have hall : nameVs.all nameV = true := by decide +kernel
  exact List.all_eq_true.mp hall v h
theorem many_ok {v : V} (h : v ∈ manyVs) : v = .non ∨ cntV v = true := by
  simp only [manyVs, List.mem_cons, List.not_mem_nil, or_false] at h
  rcases h with rfl | rfl | rfl | rfl | rfl
  · exact .inr rfl
  · exact .inr rfl
  · exact .inr rfl
  · exact .inr rfl
  · exact .inl rfl
theorem dueC_ok {nm tm : V} {prs : List (Str × V)} (h1 : nameV nm = true) (h2 : ∀ p ∈ prs, cntV p.2 = true) (h3 : tm = .non ∨ cntV tm = true) : dueC nm prs tm = none := by
  have hall : prs.find? (fun p => !cntV p.2) = none := List.find?_eq_none.mpr fun p hp => by
    rw [h2 p hp]
    exact Bool.false_ne_true
  rw [dueC, if_neg (by rw [h1]; exact Bool.noConfusion), hall]
  refine if_neg fun z => ?_
  rcases h3 with h | h
  · exact z.1 h
  · rw [h] at z
    exact Bool.noConfusion z.2
theorem cnt_int {i : Int} (h : 1 ≤ i) : cntV (.int i) = true := decide_eq_true h
theorem form_cases {fm : Str} (h : V.str fm ∈ formVs) : fm = "still" ∨ fm = "anew" ∨ fm = "lift" := by
  simp only [formVs, List.mem_cons, List.not_mem_nil, or_false, V.str.injEq] at h
  exact h
theorem scal_opt (o : Option Str) : scal (optV o) (optV o) = true := by cases o <;> rfl
/-- an instance of an own class, as a value -/
structure OwnT (K : PySem.W.Frag) (C : Addr) : Prop where
  cl : Cls K C
  ha : PySem.W.findIn K (.ref C) "__class__" = some (some (.builtin "object.__class__"))
  hn : PySem.W.specialIn K (.builtin "object.__class__") "__get__" = some (some (.builtin "getset_descriptor.__get__"))
  ht : PySem.W.takesIn K (.builtin "object.__class__") = some true
  hm : PySem.W.mroIn K C (.type "object") = some true
  k1 : PySem.W.kitOne K (.ref C) (.type "int") = some false
  k2 : PySem.W.kitOne K (.ref C) (.type "bool") = some false
  k3 : PySem.W.kitOne K (.ref C) (.type "str") = some false
  k4 : PySem.W.kitOne K (.ref C) (.type "list") = some false
  k5 : PySem.W.kitOne K (.ref C) (.type "tuple") = some false
theorem tyV_own {K : PySem.W.Frag} {H : Hp} {a C dx : Addr} {fs : List (Str × V)} (T : OwnT K C) (h : H a = some (.ins C dx fs)) : TyV K H (.ref a) .own :=
  ⟨⟨_, .base (.ins h T.cl T.ha T.hn T.ht T.hm), T.k1, T.k2, T.k3, T.k4, T.k5⟩, fun z => (by cases z), fun z => (by cases z)⟩
theorem goodOwn {K : PySem.W.Frag} {H : Hp} {a C dx : Addr} {fs : List (Str × V)} (T : OwnT K C) (h : H a = some (.ins C dx fs)) : GoodV K H (.ref a) := ⟨_, tyV_own T h, fun x z => by cases z⟩
theorem ite_list {H : Hp} {P : List V → Prop} {b : Bool} {te1 te2 : TE} {σ : L2.St} {Q : VK} (k : ∀ g ws, H g = none → P ws → Q (.ref g) (upd H g (.lst ws)))
    (h1 : b = true → ∃ ws, P ws ∧ ∀ Q' : VK, (∀ g, H g = none → Q' (.ref g) (upd H g (.lst ws))) → te1 σ H Q')
    (h2 : b = false → ∃ ws, P ws ∧ ∀ Q' : VK, (∀ g, H g = none → Q' (.ref g) (upd H g (.lst ws))) → te2 σ H Q') : if b = true then te1 σ H Q else te2 σ H Q := by
  cases b with
  | true =>
    obtain ⟨ws, p, h⟩ := h1 rfl
    exact iteT (h Q fun g ng => k g ws ng p)
  | false =>
    obtain ⟨ws, p, h⟩ := h2 rfl
    exact iteF (h Q fun g ng => k g ws ng p)
theorem Shape.len {fm : Str} {ws us : List V} (h : Shape fm ws) (e : us.length = ws.length) : Shape fm us := by
  rcases h with ⟨a, b⟩ | ⟨a, b⟩ | ⟨a, b⟩
  · exact .inl ⟨a, e.trans b⟩
  · exact .inr (.inl ⟨a, e.trans b⟩)
  · exact .inr (.inr ⟨a, e.trans b⟩)
theorem Shape.le {fm : Str} {ws : List V} (h : Shape fm ws) : ws.length ≤ 4 := by
  rcases h with ⟨_, b⟩ | ⟨_, b⟩ | ⟨_, b⟩ <;> omega
theorem mem_cut {xs : List V} {lo hi : Option Int} {v : V} (h : v ∈ cutV xs lo hi) : v ∈ xs := by
  unfold cutV at h
  exact List.mem_of_mem_drop (List.mem_of_mem_take h)
theorem cut_le {xs : List V} {lo hi : Option Int} : (cutV xs lo hi).length ≤ xs.length := cutV_length xs lo hi
/-- the law's: a list of at most 63 ints is handed in, True comes out -/
def spLaw (K : PySem.W.Frag) : Sp := fun vs H Q _ => ∃ (a : Addr) (ns : List Int), vs = [.ref a] ∧ SqL K H a (ns.map V.int) ∧ ns.length ≤ 63 ∧ ∀ H', Q (.bl true) H'
end Ts

/-! enumerate(tuple) -/
namespace TsE
open PySem
set_option maxHeartbeats 1000000 in
theorem meets_new (l : Addr) (items : Array Value) :
    Meets (Builtin.«enumerate.__new__» ⟨[.type "enumerate", .ref l], []⟩) (fun _ R s => s.heap.IsTuple l items ∧
      R (.ok (.ret (.ref (s.heap.push { cls := .type "tuple_iterator", data := .fields #[.ref l, .int 0 0] }).objs.size)))
        { s with heap := (s.heap.push { cls := .type "tuple_iterator", data := .fields #[.ref l, .int 0 0] }).push { cls := .type "enumerate", data := .fields #[.none, .bool false, .ref s.heap.objs.size, rawInt 0, .none, .none] } }) :=
  .of_wp fun prog w A R s h => by
    obtain ⟨hp, g, d, tk, os⟩ := s; obtain ⟨hl, h⟩ := h
    have hsub := sub_enumerate
    have q1 : ∀ {A' : Around} {E : Value → Shared → Prop} {Q : Value → Shared → Prop}, Q (.ref hp.objs.size) ⟨hp.push { cls := .type "tuple_iterator", data := .fields #[.ref l, .int 0 0] }, g, d, tk, os⟩ → wpAny (model prog w) A' (pyIter (.ref l)) Q E ⟨hp, g, d, tk, os⟩ :=
      fun q => wpAny_pyIter_tuple hl q
    wp_walk using q1
    refine wpAny_stack_any fun st => wpAny_pure ?_
    split
    · rename_i c _ _ _ _ _
      cases (c == Value.type "enumerate")
      · wp_walk using q1
        exact ⟨_, rfl, h⟩
      · wp_walk using q1
        exact ⟨_, rfl, h⟩
    · wp_walk using q1
      exact ⟨_, rfl, h⟩
section
variable {prog : Program} {w : World} {A : Around} {E : Value → Shared → Prop} {s : Shared}
theorem call_enum {l : Addr} {items : Array Value} {Q : Value → Shared → Prop} (hL : s.heap.IsTuple l items)
    (h : ∀ h', IsEnum h' (s.heap.objs.size + 1) s.heap.objs.size 0 .none → h'.IsTupleIter s.heap.objs.size l 0 → h'.objs.size = s.heap.objs.size + 2 →
      (∀ b o, s.heap.get? b = some o → h'.get? b = some o) → Q (.ref (s.heap.objs.size + 1)) { s with heap := h' }) :
    wpAny (model prog w) A (call (.type "enumerate") [.ref l]) Q E s := by
  refine callType_new F.called_enumerate (by decide) (F.typeCall_enumerate_1 _) (F.newCall_enumerate_1 _) (fun obj => F.args_object_init_2 obj _) F.entry_enumerate_new
    (meets_new l items) ⟨hL, ?_⟩
  have hz : (s.heap.push { cls := .type "tuple_iterator", data := .fields #[.ref l, .int 0 0] }).objs.size = s.heap.objs.size + 1 := Heap.size_push ..
  show _ ∧ _
  rw [hz]
  have he : IsEnum ((s.heap.push { cls := .type "tuple_iterator", data := .fields #[.ref l, .int 0 0] }).push
      { cls := .type "enumerate", data := .fields #[.none, .bool false, .ref s.heap.objs.size, rawInt 0, .none, .none] }) (s.heap.objs.size + 1) s.heap.objs.size 0 .none := by
    have := Heap.get?_push_size (s.heap.push { cls := .type "tuple_iterator", data := .fields #[.ref l, .int 0 0] })
      (o := { cls := .type "enumerate", data := .fields #[.none, .bool false, .ref s.heap.objs.size, rawInt 0, .none, .none] }) rfl
    rw [hz] at this; exact this
  refine ⟨⟨_, he, rfl⟩, h _ he ⟨_, Heap.get?_push_of_some _ (Heap.get?_push_size _ rfl), rfl, rfl⟩ (by rw [Heap.size_push, hz]) fun b o x => Heap.get?_push_of_some _ (Heap.get?_push_of_some _ x)⟩
end
end TsE
namespace Ts
open PySem PySem.Spec PyProof.Rows L2
/-- the tuple at a, each item in a new pair -/
def IteT (K : PySem.W.Frag) (a : Addr) : It :=
  ⟨fun i H => ∃ (xs : List V) (x : V), SqT K H a xs ∧ xs[i]? = some x, fun i H v H' => ∃ T x, v = .ref T ∧ H T = none ∧ H' = upd H T (.tup [.int (i : Nat), x]) ∧ ∀ xs, SqT K H a xs → xs[i]? = some x, fun i H => ∃ xs : List V, SqT K H a xs ∧ xs.length = i⟩
theorem en_ne {h : Heap} {e it a : Addr} {i : Int} {old : Value} {its : Array Value} (he : IsEnum h e it i old) (p : h.IsTuple a its) : e ≠ a := by
  intro z
  obtain ⟨o, ho, hc, n, hd⟩ := p
  subst z
  have := he.symm.trans ho
  have e2 := Option.some.inj this
  subst e2
  exact absurd hc (by intro z; injection z with z; exact absurd z (by decide))
theorem it_ne {h : Heap} {it a : Addr} {i : Nat} {its : Array Value} (hi : h.IsTupleIter it a i) (p : h.IsTuple a its) : a ≠ it := by
  intro z
  obtain ⟨o, ho, hc, n, hd⟩ := p
  obtain ⟨o', ho', hc', _⟩ := hi
  subst z
  have e2 := Option.some.inj (ho.symm.trans ho')
  subst e2
  rw [hc] at hc'
  exact absurd hc' (by intro z; injection z with z; exact absurd z (by decide))
theorem turn_enumT {P : Program} {w : World} {K : PySem.W.Frag} {elts : List Expr} {kk : Nat} {tpos : Pos} (a e it : Addr) :
    Turn P w K (.Tuple elts kk tpos) (IteT K a) [e, it] e (fun i h => (∃ old, IsEnum h e it ((i : Nat) : Int) old) ∧ h.IsTupleIter it a i ∧ e ≠ it) where
  mem := by simp
  obj := fun i h st b hb => by
    obtain ⟨⟨old, he⟩, ⟨o, ho, hc, hd⟩, _⟩ := st
    have e' : b = e ∨ b = it := by simpa using hb
    rcases e' with z | z
    · rw [z]; exact ⟨_, he, fun v q => nomatch q⟩
    · rw [z]; exact ⟨o, ho, fun v q => by rw [hd] at q; cases q⟩
  keep := fun i h h' st k => let ⟨⟨old, he⟩, hi, hne⟩ := st; ⟨⟨old, k e (by simp) _ he⟩, hi.at fun o q => k it (by simp) o q, hne⟩
  item := by
    intro X hP hw hK hc i pins s σ H E I hf st hg
    subst hP hw hK
    obtain ⟨⟨old, he⟩, hit, hne⟩ := st
    obtain ⟨xs, x, hq, hx⟩ := hg
    obtain ⟨its, rv, p, hz⟩ := I.tuple hq
    have p : s.heap.IsTuple a its.toArray := p
    obtain ⟨u, hu, ru⟩ := rv.get hx
    have hel : e < s.heap.objs.size := Heap.lt_size he
    have hil : it < s.heap.objs.size := by obtain ⟨_, q, _⟩ := hit; exact Heap.lt_size q
    have hh : X.A.in1.handled = none := by rw [show X.A.in1.handled = X.A.handled from rfl]; exact I.ok.hd hc
    have hlt : i < its.toArray.size := by
      have := (List.getElem?_eq_some_iff.mp hu).1
      simpa using this
    refine wpAny_pyNext_enum_itemD (Draws.tuple hh it a (it_ne hit p) its.toArray) he ⟨hit, p⟩ hlt hne (by simp [en_ne he p, hne]) fun u' h' tk hu' ho hst' hT hsz hk => ?_
    have eu : u' = u := by
      have h1 : its[i]? = some u' := by simpa using hu'
      rw [hu] at h1
      exact (Option.some.inj h1).symm
    subst eu
    refine ⟨_, rfl, wpAny_letOwnedTupleGo_enum (s := { s with heap := h', toks := tk + 1 }) ho fun h'' he' sb => ?_⟩
    have hT2 : h''.get? s.heap.objs.size = some { cls := .type "tuple", data := .seq #[.int i tk, u'] } := (sb.2 _ (Nat.ne_of_gt hel)).trans hT
    have new : ObjOk X.prog X.w (upd H s.heap.objs.size (.tup [.int (i : Nat), x])) h'' s.heap.objs.size (.tup [.int (i : Nat), x]) :=
      ⟨by show 2 ≤ sizeLine; decide, [.int i tk, u'], .cons ⟨_, rfl⟩ (.cons ru .nil), ⟨_, hT2, rfl, _, rfl⟩⟩
    have I1 : Inv X pins σ (upd H s.heap.objs.size (.tup [.int (i : Nat), x])) { s with heap := h'', toks := tk + 1 } :=
      I.turnedNew (ch := [e, it]) (fun b ob hb q => (sb.2 b (fun z => hb (by simp [z]))).trans (hk b ob (fun z => hb (by simp [z])) (fun z => hb (by simp [z])) q)) hf (Nat.le_refl _) new
    refine ⟨.ref s.heap.objs.size, _, I1, rfl, ⟨_, x, rfl, I.hok.fresh (Nat.le_refl _), rfl, fun ys hy => by rw [I.tuple_inj hy hq]; exact hx⟩, ⟨⟨u', ?_⟩, hst'.1.at fun o q => (sb.2 it (Ne.symm hne)).trans q, hne⟩, fun b hb => ?_⟩
    · have e1 : ((i + 1 : Nat) : Int) = (i : Int) + 1 := by omega
      rw [e1]; exact he'
    · have hb' : b < s.heap.objs.size := by
        have e' : b = e ∨ b = it := by simpa using hb
        rcases e' with z | z
        · rw [z]; exact hel
        · rw [z]; exact hil
      rw [upd_ne (Nat.ne_of_lt hb')]
      exact (hf b hb).1
  done := by
    intro X hP hw hK hc i pins s σ H E I hf st hg
    subst hP hw hK
    obtain ⟨⟨old, he⟩, hit, hne⟩ := st
    obtain ⟨xs, hq, hx⟩ := hg
    obtain ⟨its, rv, p, hz⟩ := I.tuple hq
    have p : s.heap.IsTuple a its.toArray := p
    obtain ⟨f0, f1, f2, f3, f4, f5⟩ := hf it (by simp)
    have hl := rv.length
    have hh : X.A.in1.handled = none := by rw [show X.A.in1.handled = X.A.handled from rfl]; exact I.ok.hd hc
    have ei : i = its.toArray.size := by
      rw [← hx]
      simp [hl]
    subst ei
    exact wpAny_pyNext_enum_endD (Draws.tuple hh it a (it_ne hit p) its.toArray) he ⟨hit, p⟩ fun h' eb => ⟨rfl, I.turned (t' := s.toks) (fun b o hb q => eb b o hb q) f0 f1 f3 f4 f5⟩
  self := fun A i s Q E st h => let ⟨⟨_, he⟩, _⟩ := st; wpAny_pyIter_enum he h
theorem walk_enumT {K : PySem.W.Frag} {a : Addr} {xs : List V} : Walk (IteT K a) xs.length (fun H => SqT K H a xs) (YPair (fun i => some (.int (i : Nat))) (fun i => xs[i]?)) := by
  refine ⟨fun i _ hi q => ⟨xs, xs[i], q, by simp [hi]⟩, fun _ q => ⟨xs, q, rfl⟩, fun i H v H' _ q y => ?_⟩
  obtain ⟨T, x, h1, h2, h3, h4⟩ := y
  exact ⟨T, .int (i : Nat), x, h1, h2, h3, rfl, h4 xs q⟩
/-- a list or a tuple -/
def SqQ (K : PySem.W.Frag) (H : Hp) (a : Addr) (xs : List V) : Prop := SqL K H a xs ∨ SqT K H a xs
/-- enumerate of a list or a tuple -/
def iEnumQ (K : PySem.W.Frag) (ta : TA) : TI := fun σ H R => ta σ H fun vs H1 => ∃ a xs, vs = [.ref a] ∧ SqQ K H1 a xs ∧ ∀ (J : It) (G : Hp → Prop), Walk J xs.length G (YPair (fun i => some (.int (i : Nat))) (fun i => xs[i]?)) →
  (∀ H2, (SqL K H1 a xs → SqL K H2 a xs) → (SqT K H1 a xs → SqT K H2 a xs) → G H2) → R J H1
theorem pi_enumQ {X : Cx} {e : Expr} {ta : TA} {p pos tpos : Pos} {elts : List Expr} {kk : Nat} (hg : Gl X "enumerate") (hm : X.mg "enumerate" = none) (ha : PA X [e] ta) (hs : starEach [e] X.env = [(false, eval e X.env)] := by rfl) :
    PI X (.Tuple elts kk tpos) (.Call (.Name "enumerate" p) [e] [] pos) (iEnumQ X.K ta) := by
  refine ⟨fun pins s σ H R I h => ?_⟩
  refine Call_ (ld_blt I hg hm boot_enumerate (PyProof.Rows.callWith_type1 (thn (ha.run pos pins s σ H _ I h) fun us s1 ⟨vs, H1, I1, r1, q1⟩ => ?_) hs rfl))
  obtain ⟨a, xs, ex, hq, q⟩ := q1
  subst ex
  cases r1 with
  | cons r rr =>
    cases rr
    cases r
    have fin : ∀ {h' : Heap}, (∀ b o, s1.heap.get? b = some o → h'.get? b = some o) → ∀ b ∈ [s1.heap.objs.size + 1, s1.heap.objs.size], FpOk X pins H1 b := fun {h'} hk b hb => by
      have e' : b = s1.heap.objs.size + 1 ∨ b = s1.heap.objs.size := by simpa using hb
      have hle : s1.heap.objs.size ≤ b := by
        rcases e' with z | z
        · rw [z]; exact Nat.le_add_right _ _
        · rw [z]; exact Nat.le_refl _
      exact I1.fpOk hle (I1.hok.fresh hle)
    rcases hq with hq | hq
    · obtain ⟨its, rv, p', hz⟩ := I1.list hq
      refine call_enumerate_list p'.isList fun h' he hit hsz hk => wpAny_pyIter_enum he ?_
      have I2 : Inv X pins σ H1 { s1 with heap := h' } := I1.kept (t' := s1.toks) hk
      exact ⟨s1.heap.objs.size + 1, [s1.heap.objs.size + 1, s1.heap.objs.size], _, _, H1, rfl, I2, turn_enum a (s1.heap.objs.size + 1) s1.heap.objs.size, ⟨⟨.none, he⟩, hit, Nat.succ_ne_self _⟩, fin hk, q _ _ walk_enum fun H2 h _ => h hq⟩
    · obtain ⟨its, rv, p', hz⟩ := I1.tuple hq
      refine TsE.call_enum (show s1.heap.IsTuple a its.toArray from p') fun h' he hit hsz hk => wpAny_pyIter_enum he ?_
      have I2 : Inv X pins σ H1 { s1 with heap := h' } := I1.kept (t' := s1.toks) hk
      exact ⟨s1.heap.objs.size + 1, [s1.heap.objs.size + 1, s1.heap.objs.size], _, _, H1, rfl, I2, turn_enumT a (s1.heap.objs.size + 1) s1.heap.objs.size, ⟨⟨.none, he⟩, hit, Nat.succ_ne_self _⟩, fin hk, q _ _ walk_enumT fun H2 _ h => h hq⟩
end Ts

namespace Ts
open PySem L2
/-! ### what other laws draw from: a list of two numbers at B -/
def BoxAt (H : Hp) (B : Addr) : Prop := ∃ g m : Int, H B = some (.lst [.int g, .int m]) ∧ 0 ≤ g ∧ 0 ≤ m ∧ m < 2147483648
/-- all but one place stay -/
def KeptB (B : Addr) (H H' : Hp) : Prop := ∀ b o, b ≠ B → H b = some o → H' b = some o
structure GoB (B : Addr) (H H' : Hp) : Prop where
  d : BoxAt H' B
  k : KeptB B H H'
theorem BoxAt.some {H : Hp} {B : Addr} (d : BoxAt H B) : ∃ o, H B = some o := by
  obtain ⟨g, m, h, _⟩ := d
  exact ⟨_, h⟩
theorem BoxAt.ne {H : Hp} {B p : Addr} (d : BoxAt H B) (hp : H p = none) : p ≠ B := by
  obtain ⟨o, h⟩ := d.some
  exact (ne_of_none h hp).symm
theorem BoxAt.same {H H' : Hp} {B : Addr} (d : BoxAt H B) (s : Same H H') : BoxAt H' B := by
  obtain ⟨g, m, h, r⟩ := d
  exact ⟨g, m, s _ _ h, r⟩
theorem GoB.refl {B : Addr} {H : Hp} (d : BoxAt H B) : GoB B H H := ⟨d, fun _ _ _ h => h⟩
theorem GoB.trans {B : Addr} {H H1 H2 : Hp} (a : GoB B H H1) (b : GoB B H1 H2) : GoB B H H2 := ⟨b.d, fun c o n h => b.k c o n (a.k c o n h)⟩
theorem GoB.same {B : Addr} {H H1 H2 : Hp} (a : GoB B H H1) (s : Same H1 H2) : GoB B H H2 := ⟨a.d.same s, fun c o n h => s c o (a.k c o n h)⟩
theorem GoB.new {B p : Addr} {o : HO} {H H1 : Hp} (a : GoB B H H1) (h : H1 p = none) : GoB B H (upd H1 p o) := a.same (Same.new (Same.refl _) h)
theorem GoB.mut {B p : Addr} {o : HO} {H H1 : Hp} (a : GoB B H H1) (n : H p = none) (h : p ≠ B) : GoB B H (upd H1 p o) := by
  refine ⟨?_, fun c u hc hu => ?_⟩
  · obtain ⟨g, m, e, r⟩ := a.d
    exact ⟨g, m, by rw [upd_ne h.symm]; exact e, r⟩
  · rw [upd_ne (ne_of_none hu n)]
    exact a.k c u hc hu
theorem GoB.free {B p : Addr} {H H1 : Hp} (a : GoB B H H1) (d : BoxAt H B) (h : H1 p = none) : H p = none := by
  cases e : H p with
  | none => rfl
  | some o =>
    by_cases z : p = B
    · obtain ⟨o', h'⟩ := a.d.some
      rw [z] at h
      rw [h] at h'
      cases h'
    · rw [a.k _ _ z e] at h
      cases h
theorem KeptB.sqt {K : PySem.W.Frag} {B a : Addr} {xs : List V} {H H' : Hp} (k : KeptB B H H') (d : BoxAt H B) (h : SqT K H a xs) : SqT K H' a xs := by
  obtain ⟨g, m, e, _⟩ := d
  rcases h with (h | ⟨o, h⟩) | h
  · exact .inl (.inl (k _ _ (ne_of h e (by intro z; cases z)) h))
  · exact .inl (.inr ⟨o, k _ _ (ne_of h e (by intro z; cases z)) h⟩)
  · exact .inr h
theorem KeptB.sql {K : PySem.W.Frag} {B a : Addr} {xs : List V} {H H' : Hp} (k : KeptB B H H') (n : a ≠ B) (h : SqL K H a xs) : SqL K H' a xs := by
  rcases h with (h | ⟨o, h⟩) | h
  · exact .inl (.inl (k _ _ n h))
  · exact .inl (.inr ⟨o, k _ _ n h⟩)
  · exact .inr h
theorem TyX.gob {K : PySem.W.Frag} {B : Addr} {H H' : Hp} {v : V} {t : Value} (h : TyX K H v t) (d : BoxAt H B) (w : GoB B H H') : TyX K H' v t := by
  have key : ∀ {a : Addr} {o : HO}, H a = some o → (∀ xs, o ≠ .lst xs) → H' a = some o := fun {a o} e n => by
    refine w.k _ _ (fun z => ?_) e
    obtain ⟨g, m, h1, _⟩ := d
    rw [z, h1] at e
    exact n _ (Option.some.inj e).symm
  cases h with
  | base h =>
    cases h with
    | non => exact .base .non
    | bl x => exact .base (.bl x)
    | int i => exact .base (.int i)
    | str x => exact .base (.str x)
    | flt x => exact .base (.flt x)
    | @lst a xs e =>
      by_cases hD : a = B
      · obtain ⟨g, m, h1, _⟩ := w.d
        rw [hD]
        exact .base (.lst h1)
      · exact .base (.lst (w.k _ _ hD e))
    | frz e => exact .base (.frz (key e fun _ z => by cases z))
    | tup e => exact .base (.tup (key e fun _ z => by cases z))
    | dK e => exact .base (.dK (key e fun _ z => by cases z))
    | dT e => exact .base (.dT (key e fun _ z => by cases z))
    | ins e cl ha hn htk hm => exact .base (.ins (key e fun _ z => by cases z) cl ha hn htk hm)
  | byt b => exact .byt b
  | set e => exact .set (key e fun _ z => by cases z)
  | kList e c => exact .kList e c
  | kTuple e c => exact .kTuple e c
  | kDict e c => exact .kDict e c
  | fTuple e => exact .fTuple (key e fun _ z => by cases z)
  | fDict e => exact .fDict (key e fun _ z => by cases z)
theorem TyV.gob {K : PySem.W.Frag} {B : Addr} {H H' : Hp} {v : V} {k : Kd} (h : TyV K H v k) (d : BoxAt H B) (w : GoB B H H') : TyV K H' v k := by
  obtain ⟨⟨t, h1, h2⟩, h3, h4⟩ := h
  exact ⟨⟨t, TyX.gob h1 d w, h2⟩, h3, h4⟩
theorem GoodV.gob {K : PySem.W.Frag} {B : Addr} {H H' : Hp} {v : V} (g : GoodV K H v) (d : BoxAt H B) (w : GoB B H H') : GoodV K H' v := by
  obtain ⟨k, t, h⟩ := g
  exact ⟨k, t.gob d w, h⟩
def spSeed (K : PySem.W.Frag) : Sp := fun vs H Q _ => ∃ (a : Addr) (ns : List Int) (k : Int), vs = [.ref a, .int k] ∧ SqL K H a (ns.map V.int) ∧ 0 ≤ k ∧ k < 100 ∧
  ∀ (B : Addr) (H' : Hp), BoxAt H' B → Same H H' → H B = none → Q (.ref B) H'
def spChoose : Sp := fun vs H Q _ => ∃ (B : Addr) (n : Int), vs = [.ref B, .int n] ∧ BoxAt H B ∧ 0 < n ∧ n < 2 ^ 64 ∧
  ∀ (d : Int) (H' : Hp), 0 ≤ d → d < n → GoB B H H' → Q (.int d) H'
def spOneOf (K : PySem.W.Frag) : Sp := fun vs H Q _ => ∃ (B a : Addr) (xs : List V), vs = [.ref B, .ref a] ∧ BoxAt H B ∧ SqL K H a xs ∧ a ≠ B ∧ 0 < xs.length ∧ xs.length ≤ 1000 ∧
  ∀ (v : V) (H' : Hp), v ∈ xs → GoB B H H' → Q v H'
end Ts

namespace Ts
open PySem L2
def numV : V → Bool
  | .int i => decide (0 ≤ i)
  | _ => false
def spIsNum (K : PySem.W.Frag) : Sp := fun vs H Q _ => ∃ (v : V) (k : Kd), vs = [v] ∧ TyV K H v k ∧ Q (.bl (decide (k = .int) && numV v)) H
theorem num_eq {K : PySem.W.Frag} {H : Hp} {v : V} {k : Kd} (h : TyV K H v k) : (decide (k = .int) && numV v) = numV v := by
  obtain ⟨⟨t, tx, t1, t2, t3, t4, t5⟩, i1, _⟩ := h
  by_cases e : k = .int
  · rw [decide_eq_true e]
    rfl
  · rw [decide_eq_false e]
    cases v with
    | int i =>
      cases tx with
      | base hb =>
        cases hb
        rw [kit_ty (a := "int") (b := "int") (r := true) (by decide +kernel)] at t1
        rw [kit_ty (a := "int") (b := "bool") (r := false) (by decide +kernel)] at t2
        cases k <;> first | exact absurd rfl e | exact absurd t1 (by decide) | exact absurd t2 (by decide)
    | _ => rfl
/-! ### what may be an occasion -/
/-- the three things of a triple, or none -/
abbrev Th := Option (V × V × V)
def occO : Th → Bool
  | some (d, n, l) => numV d && (nameV n && cntV l)
  | none => false
def dayO : Th → Int
  | some (.int d, _, _) => d
  | _ => 0
def AnyV (K : PySem.W.Frag) (H : Hp) (v : V) : Prop := ∃ k, TyV K H v k
theorem GoodV.any {K : PySem.W.Frag} {H : Hp} {v : V} (g : GoodV K H v) : AnyV K H v := ⟨g.choose, g.choose_spec.1⟩
theorem AnyV.same {K : PySem.W.Frag} {H H' : Hp} {v : V} (g : AnyV K H v) (s : Same H H') : AnyV K H' v := ⟨g.choose, g.choose_spec.same s⟩
theorem AnyV.gob {K : PySem.W.Frag} {B : Addr} {H H' : Hp} {v : V} (g : AnyV K H v) (d : BoxAt H B) (w : GoB B H H') : AnyV K H' v := ⟨g.choose, g.choose_spec.gob d w⟩
inductive ThV (K : PySem.W.Frag) (H : Hp) : V → Th → Prop
  | no {v : V} {k : Kd} : TyV K H v k → k ≠ .tup → ThV K H v none
  | tup {a : Addr} {xs : List V} : SqT K H a xs → xs.length ≠ 3 → ThV K H (.ref a) none
  | occ {a : Addr} {d n l : V} : SqT K H a [d, n, l] → AnyV K H d → GoodV K H n → AnyV K H l → ThV K H (.ref a) (some (d, n, l))
theorem ThV.same {K : PySem.W.Frag} {H H' : Hp} {v : V} {o : Th} (t : ThV K H v o) (s : Same H H') : ThV K H' v o := by
  cases t with
  | no h n => exact .no (h.same s) n
  | tup h n => exact .tup (Same.sqt s h) n
  | occ h a b c => exact .occ (Same.sqt s h) (a.same s) (b.same s) (c.same s)
theorem ThV.gob {K : PySem.W.Frag} {B : Addr} {H H' : Hp} {v : V} {o : Th} (t : ThV K H v o) (d : BoxAt H B) (w : GoB B H H') : ThV K H' v o := by
  cases t with
  | no h n => exact .no (h.gob d w) n
  | tup h n => exact .tup (w.k.sqt d h) n
  | occ h a b c => exact .occ (w.k.sqt d h) (a.gob d w) (b.gob d w) (c.gob d w)
def ThAll (K : PySem.W.Frag) (H : Hp) (xs : List V) (os : List Th) : Prop := xs.length = os.length ∧ ∀ (i : Nat) (v : V) (o : Th), xs[i]? = some v → os[i]? = some o → ThV K H v o
theorem ThAll.same {K : PySem.W.Frag} {H H' : Hp} {xs : List V} {os : List Th} (t : ThAll K H xs os) (s : Same H H') : ThAll K H' xs os := ⟨t.1, fun i v o h1 h2 => (t.2 i v o h1 h2).same s⟩
theorem ThAll.gob {K : PySem.W.Frag} {B : Addr} {H H' : Hp} {xs : List V} {os : List Th} (t : ThAll K H xs os) (d : BoxAt H B) (w : GoB B H H') : ThAll K H' xs os := ⟨t.1, fun i v o h1 h2 => (t.2 i v o h1 h2).gob d w⟩
theorem ThAll.nil {K : PySem.W.Frag} {H : Hp} : ThAll K H [] [] := ⟨rfl, fun i v o h => by simp at h⟩
theorem ThAll.append {K : PySem.W.Frag} {H : Hp} {xs ys : List V} {os ps : List Th} (t : ThAll K H xs os) (u : ThAll K H ys ps) : ThAll K H (xs ++ ys) (os ++ ps) := by
  refine ⟨by rw [List.length_append, List.length_append, t.1, u.1], fun i v o h1 h2 => ?_⟩
  by_cases hi : i < xs.length
  · rw [List.getElem?_append_left hi] at h1
    rw [List.getElem?_append_left (by rw [← t.1]; exact hi)] at h2
    exact t.2 i v o h1 h2
  · rw [List.getElem?_append_right (by omega)] at h1
    rw [List.getElem?_append_right (by rw [← t.1]; omega), ← t.1] at h2
    exact u.2 _ v o h1 h2
theorem ThAll.one {K : PySem.W.Frag} {H : Hp} {v : V} {o : Th} (t : ThV K H v o) : ThAll K H [v] [o] := ⟨rfl, fun i v' o' h1 h2 => by
  match i, h1, h2 with
  | 0, h1, h2 =>
    cases h1
    cases h2
    exact t
  | i + 1, h1, _ => simp at h1⟩
theorem ThAll.take {K : PySem.W.Frag} {H : Hp} {xs : List V} {os : List Th} (t : ThAll K H xs os) (k : Nat) : ThAll K H (xs.take k) (os.take k) := by
  refine ⟨by rw [List.length_take, List.length_take, t.1], fun i v o h1 h2 => ?_⟩
  rw [List.getElem?_take] at h1 h2
  split at h1
  · rename_i hi
    rw [if_pos hi] at h2
    exact t.2 i v o h1 h2
  · cases h1
theorem ThAll.drop {K : PySem.W.Frag} {H : Hp} {xs : List V} {os : List Th} (t : ThAll K H xs os) (k : Nat) : ThAll K H (xs.drop k) (os.drop k) := by
  refine ⟨by rw [List.length_drop, List.length_drop, t.1], fun i v o h1 h2 => ?_⟩
  rw [List.getElem?_drop] at h1 h2
  exact t.2 _ v o h1 h2
def spIsOcc (K : PySem.W.Frag) : Sp := fun vs H Q _ => ∃ (v : V) (o : Th), vs = [v] ∧ ThV K H v o ∧ ∀ H', Same H H' → Q (.bl (occO o)) H'
/-- whether an occasion may stand there -/
def stands (e : Int) (o : Th) : Bool := occO o && decide (e ≤ dayO o)
/-- the last day behind all of these, none if one can't stand there -/
def runT : Int → List Th → Option Int
  | e, [] => some e
  | e, o :: os => if stands e o = true then runT (dayO o) os else none
/-- the number of the first one that can't stand there -/
def dueT : Int → List Th → Option Nat
  | _, [] => none
  | e, o :: os => if stands e o = true then (dueT (dayO o) os).map (· + 1) else some 0
theorem runT_append : ∀ (os ps : List Th) (e : Int), runT e (os ++ ps) = (runT e os).bind fun f => runT f ps
  | [], ps, e => rfl
  | o :: os, ps, e => by
    rw [List.cons_append, runT, runT]
    split
    · exact runT_append os ps _
    · rfl
theorem dueT_ok : ∀ {os : List Th} {e f : Int}, runT e os = some f → dueT e os = none
  | [], e, f, _ => rfl
  | o :: os, e, f, h => by
    rw [runT] at h
    rw [dueT]
    split at h
    · rename_i hs
      rw [if_pos hs, dueT_ok h]
      rfl
    · cases h
theorem dueT_bad : ∀ {os ps : List Th} {o : Th} {e f : Int}, runT e os = some f → stands f o = false → dueT e (os ++ o :: ps) = some os.length
  | [], ps, o, e, f, h, hb => by
    cases h
    show dueT e (o :: ps) = some 0
    rw [dueT, if_neg (by rw [hb]; exact Bool.false_ne_true)]
  | p :: os, ps, o, e, f, h, hb => by
    rw [runT] at h
    split at h
    · rename_i hs
      show dueT e (p :: (os ++ o :: ps)) = _
      rw [dueT, if_pos hs, dueT_bad h hb]
      rfl
    · cases h
theorem runT_snoc {os : List Th} {e f : Int} {o : Th} (h : runT e os = some f) (hs : stands f o = true) : runT e (os ++ [o]) = some (dayO o) := by
  rw [runT_append, h]
  show runT f [o] = _
  rw [runT, if_pos hs]
  rfl
theorem take_snoc {α : Type} {xs : List α} {i : Nat} {x : α} (h : xs[i]? = some x) : xs.take (i + 1) = xs.take i ++ [x] := by
  rw [List.take_add_one, h]
  rfl
/-- an argument that should be a sequence of occasions: the things in it, none if it is no sequence -/
inductive ArgV (K : PySem.W.Frag) (H : Hp) : V → Option (List V × List Th) → Prop
  | no {v : V} {k : Kd} : TyV K H v k → k.inL = false → k.inT = false → ArgV K H v none
  | seq {a : Addr} {xs : List V} {os : List Th} : SqQ K H a xs → ThAll K H xs os → xs.length ≤ 1000 → ArgV K H (.ref a) (some (xs, os))
theorem SqQ.same {K : PySem.W.Frag} {H H' : Hp} {a : Addr} {xs : List V} (h : SqQ K H a xs) (s : Same H H') : SqQ K H' a xs := h.elim (fun h => .inl (s.seq h)) fun h => .inr (Same.sqt s h)
theorem ArgV.same {K : PySem.W.Frag} {H H' : Hp} {v : V} {r : Option (List V × List Th)} (t : ArgV K H v r) (s : Same H H') : ArgV K H' v r := by
  cases t with
  | no h a b => exact .no (h.same s) a b
  | seq h a b => exact .seq (h.same s) (a.same s) b
/-- a story's attributes -/
def occF (t : Addr) : List (Str × V) := putF "occasions" (.ref t) []
/-- a story stands at s: its things -/
def StoryAt (K : PySem.W.Frag) (H : Hp) (C s : Addr) (os : List Th) : Prop := ∃ (dx t : Addr) (xs : List V), H s = some (.ins C dx (occF t)) ∧ SqT K H t xs ∧ ThAll K H xs os ∧ xs.length ≤ 1000
theorem StoryAt.same {K : PySem.W.Frag} {H H' : Hp} {C s : Addr} {os : List Th} (t : StoryAt K H C s os) (u : Same H H') : StoryAt K H' C s os := by
  obtain ⟨dx, t, xs, h1, h2, h3, h4⟩ := t
  exact ⟨dx, t, xs, u _ _ h1, Same.sqt u h2, h3.same u, h4⟩
/-- the promise of a story's __init__ -/
def spStory (K : PySem.W.Frag) (C CI : Addr) : Sp := fun vs H Q E => ∃ (x dx : Addr) (v : V) (r : Option (List V × List Th)), vs = [.ref x, v] ∧ H x = some (.ins C dx []) ∧ ArgV K H v r ∧
  (∀ xs os, r = some (xs, os) → dueT 0 os = none → ∀ (H' : Hp) (t : Addr), H' x = some (.ins C dx (occF t)) → SqT K H' t xs → But x H H' → Q .non H') ∧
  ∀ i : Nat, (match r with | none => some 0 | some p => dueT 0 p.2) = some i → ∀ (H' : Hp) (d : Addr), Same H H' → H' d = some (.xd [("at", .int i)]) → E (.ref CI) (some d) H'
def lenR : Option (List V × List Th) → Nat
  | none => 0
  | some p => p.1.length
/-- the promise of further, what it makes left out -/
def spFurther (K : PySem.W.Frag) (C CI : Addr) : Sp := fun vs H Q E => ∃ (s : Addr) (os0 : List Th) (v : V) (r : Option (List V × List Th)), vs = [.ref s, v] ∧ StoryAt K H C s os0 ∧ ArgV K H v r ∧ os0.length + lenR r ≤ 1000 ∧
  (∀ xs os, r = some (xs, os) → dueT 0 (os0 ++ os) = none → ∀ (y : Addr) (H' : Hp), Same H H' → StoryAt K H' C y (os0 ++ os) → Q (.ref y) H') ∧
  ∀ i : Nat, (match r with | none => some os0.length | some p => dueT 0 (os0 ++ p.2)) = some i → ∀ (H' : Hp) (d : Addr), Same H H' → H' d = some (.xd [("at", .int i)]) → E (.ref CI) (some d) H'
/-- a method that may raise -/
structure MetX (P : Program) (w : World) (K : PySem.W.Frag) (mg : Str → Option Value) (base : Heap) (k : Nat) (C : Addr) (m : Str) (sp : Sp) (dvs : List V) : Prop where
  ex : ∃ (f : Addr) (fd : FuncData) (ps : List Str) (ds : List Value), Cls K C ∧ Meth K C m f ∧ FnOk P w K mg base (L2.CX P w) k f fd ps sp ∧ Binds K fd ps ds ∧ Vals dvs ds
def optI : Option Nat → V
  | some i => .int i
  | none => .non
/-- the number that is due -/
def dueG (os0 : List Th) : Option (List V × List Th) → Option Nat
  | none => some os0.length
  | some p => dueT 0 (os0 ++ p.2)
def spTried (K : PySem.W.Frag) (C : Addr) : Sp := fun vs H Q _ => ∃ (v z : V) (r : Option (List V × List Th)) (os0 : List Th), vs = [v, z] ∧ ArgV K H v r ∧ os0.length + lenR r ≤ 1000 ∧ ((z = .non ∧ os0 = []) ∨ ∃ s, z = .ref s ∧ StoryAt K H C s os0) ∧
  ∀ H', Same H H' → Q (optI (dueG os0 r)) H'
theorem But.made {x dx C : Addr} {H H' : Hp} (nx : H x = none) (ndx : H dx = none) (hb : But x (upd (upd H dx (.own x)) x (.ins C dx [])) H') : Same H H' := fun b o ho => by
  have bx := ne_of_none ho nx
  refine hb b o ?_ bx
  rw [upd_ne bx, upd_ne (ne_of_none ho ndx)]
  exact ho
theorem Same.made {x dx C : Addr} {H : Hp} (nx : H x = none) (ndx : H dx = none) : Same H (upd (upd H dx (.own x)) x (.ins C dx [])) := fun b o ho => by
  rw [upd_ne (ne_of_none ho nx), upd_ne (ne_of_none ho ndx)]
  exact ho
end Ts

namespace Ts
open PySem L2
def intB (lo hi : Int) : V → Bool
  | .int i => decide (lo ≤ i) && decide (i ≤ hi)
  | _ => false
theorem intB_of {lo hi : Int} {xs : List V} {v : V} (h : xs.all (intB lo hi) = true) (hv : v ∈ xs) : ∃ i : Int, v = .int i ∧ lo ≤ i ∧ i ≤ hi := by
  have := List.all_eq_true.mp h v hv
  cases v with
  | int i =>
    have h2 := Bool.and_eq_true_iff.mp this
    exact ⟨i, rfl, of_decide_eq_true h2.1, of_decide_eq_true h2.2⟩
  | _ => cases this
def nameG (v : V) : Bool := nameV v && flatB v
/-- a drawn row of occasions -/
structure Row (K : PySem.W.Frag) (H : Hp) (xs : List V) (os : List Th) (e : Int) : Prop where
  all : ThAll K H xs os
  run : runT 0 os = some e
  hi : ∀ o ∈ os, dayO o ≤ 10 ^ 17
  top : e ≤ 10 ^ 17
theorem Row.same {K : PySem.W.Frag} {H H' : Hp} {xs : List V} {os : List Th} {e : Int} (r : Row K H xs os e) (s : Same H H') : Row K H' xs os e := ⟨r.all.same s, r.run, r.hi, r.top⟩
theorem Row.gob {K : PySem.W.Frag} {B : Addr} {H H' : Hp} {xs : List V} {os : List Th} {e : Int} (r : Row K H xs os e) (d : BoxAt H B) (w : GoB B H H') : Row K H' xs os e := ⟨r.all.gob d w, r.run, r.hi, r.top⟩
def spDrawn (K : PySem.W.Frag) : Sp := fun vs H Q _ => ∃ (B : Addr) (m : Int), vs = [.ref B, .int m] ∧ BoxAt H B ∧ 0 ≤ m ∧ m ≤ 100 ∧
  ∀ (p : Addr) (xs : List V) (os : List Th) (e : Int) (H' : Hp), Row K H' xs os e → os.length = m.toNat → GoB B H H' → H p = none → H' p = some (.lst xs) → Q (.ref p) H'
def spAnything (K : PySem.W.Frag) (n : Nat) : Sp := fun vs H Q _ => ∃ (B : Addr) (deep : Int), vs = [.ref B, .int deep] ∧ BoxAt H B ∧ 0 ≤ deep ∧ deep ≤ n ∧
  ∀ (v : V) (H' : Hp), ThV K H' v none → GoB B H H' → Q v H'
theorem ThV.flat {K : PySem.W.Frag} {H : Hp} {v : V} (h : flatB v = true) : ThV K H v none := by
  cases v with
  | non => exact .no tyV_non (by decide)
  | bl b => exact .no tyV_bl (by decide)
  | int i => exact .no tyV_int (by decide)
  | str x => exact .no tyV_str (by decide)
  | byt b => cases h
  | flt b => cases h
  | ref a => cases h
  | ty n => cases h
theorem ThAll.mut {K : PySem.W.Frag} {H : Hp} {p : Addr} {xs ys : List V} {us : List V} {os : List Th} (t : ThAll K H xs os) (hp : H p = some (.lst us)) (hocc : ∀ o ∈ os, occO o = true) : ThAll K (upd H p (.lst ys)) xs os := by
  refine ⟨t.1, fun i v o h1 h2 => ?_⟩
  have ho := hocc o (at_mem h2)
  have th := t.2 i v o h1 h2
  have key : ∀ {a : Addr} {zs : List V}, SqT K H a zs → SqT K (upd H p (.lst ys)) a zs := fun {a zs} h => by
    rcases h with (h | ⟨o, h⟩) | h
    · exact .inl (.inl (by rw [upd_ne (ne_of h hp (by intro z; cases z))]; exact h))
    · exact .inl (.inr ⟨o, by rw [upd_ne (ne_of h hp (by intro z; cases z))]; exact h⟩)
    · exact .inr h
  cases th with
  | no => cases ho
  | tup => cases ho
  | @occ a d n l hT gd gn gl =>
    have tm : ∀ {v : V}, AnyV K H v → AnyV K (upd H p (.lst ys)) v := fun {v} g => by
      obtain ⟨k, ⟨t, h1, h2⟩, h3, h4⟩ := g
      exact ⟨k, ⟨t, TyX.mutList h1 hp, h2⟩, h3, h4⟩
    exact .occ (key hT) (tm gd) (gn.mutList hp) (tm gl)
theorem run_le : ∀ {os : List Th} {e f : Int}, runT e os = some f → e ≤ f
  | [], e, f, h => by
    cases h
    exact Int.le_refl _
  | p :: os, e, f, h => by
    rw [runT] at h
    split at h
    · rename_i hs
      have h1 := of_decide_eq_true (Bool.and_eq_true_iff.mp hs).2
      have h2 := run_le h
      omega
    · cases h
theorem run_occ : ∀ {os : List Th} {e f : Int}, runT e os = some f → ∀ o ∈ os, occO o = true
  | [], _, _, _, o, ho => by cases ho
  | p :: os, e, f, h, o, ho => by
    rw [runT] at h
    split at h
    · rename_i hs
      rcases List.mem_cons.mp ho with rfl | ho
      · exact (Bool.and_eq_true_iff.mp hs).1
      · exact run_occ h o ho
    · cases h
end Ts

namespace Ts
open PySem L2
theorem ThV.mutL {K : PySem.W.Frag} {H : Hp} {p : Addr} {us ys : List V} {v : V} {o : Th} (th : ThV K H v o) (hp : H p = some (.lst us)) : ThV K (upd H p (.lst ys)) v o := by
  have key : ∀ {a : Addr} {zs : List V}, SqT K H a zs → SqT K (upd H p (.lst ys)) a zs := fun {a zs} h => by
    rcases h with (h | ⟨o, h⟩) | h
    · exact .inl (.inl (by rw [upd_ne (ne_of h hp (by intro z; cases z))]; exact h))
    · exact .inl (.inr ⟨o, by rw [upd_ne (ne_of h hp (by intro z; cases z))]; exact h⟩)
    · exact .inr h
  have ty : ∀ {v : V} {k : Kd}, TyV K H v k → TyV K (upd H p (.lst ys)) v k := fun {v k} g => by
    obtain ⟨⟨t, h1, h2⟩, h3, h4⟩ := g
    exact ⟨⟨t, TyX.mutList h1 hp, h2⟩, h3, h4⟩
  cases th with
  | no h n => exact .no (ty h) n
  | tup h n => exact .tup (key h) n
  | occ hT gd gn gl => exact .occ (key hT) ⟨_, ty gd.choose_spec⟩ (gn.mutList hp) ⟨_, ty gl.choose_spec⟩
theorem ThAll.mutL {K : PySem.W.Frag} {H : Hp} {p : Addr} {us ys xs : List V} {os : List Th} (t : ThAll K H xs os) (hp : H p = some (.lst us)) : ThAll K (upd H p (.lst ys)) xs os := ⟨t.1, fun i v o h1 h2 => (t.2 i v o h1 h2).mutL hp⟩
/-- it is no occasion -/
def ThBad (K : PySem.W.Frag) (H : Hp) (v : V) : Prop := ∃ o, ThV K H v o ∧ occO o = false
theorem ThBad.same {K : PySem.W.Frag} {H H' : Hp} {v : V} (t : ThBad K H v) (s : Same H H') : ThBad K H' v := ⟨t.choose, t.choose_spec.1.same s, t.choose_spec.2⟩
theorem ThBad.gob {K : PySem.W.Frag} {B : Addr} {H H' : Hp} {v : V} (t : ThBad K H v) (d : BoxAt H B) (w : GoB B H H') : ThBad K H' v := ⟨t.choose, t.choose_spec.1.gob d w, t.choose_spec.2⟩
theorem ThBad.mutL {K : PySem.W.Frag} {H : Hp} {p : Addr} {us ys : List V} {v : V} (t : ThBad K H v) (hp : H p = some (.lst us)) : ThBad K (upd H p (.lst ys)) v := ⟨t.choose, t.choose_spec.1.mutL hp, t.choose_spec.2⟩
theorem ThBad.flat {K : PySem.W.Frag} {H : Hp} {v : V} (h : flatB v = true) : ThBad K H v := ⟨none, .flat h, rfl⟩
theorem ThBad.tup {K : PySem.W.Frag} {H : Hp} {t : Addr} {xs : List V} (h : H t = some (.tup xs)) (n : xs.length ≠ 3) : ThBad K H (.ref t) := ⟨none, .tup (SqT.of h) n, rfl⟩
theorem ThBad.lst {K : PySem.W.Frag} {H : Hp} {t : Addr} {xs : List V} (h : H t = some (.lst xs)) : ThBad K H (.ref t) := ⟨none, .no (tyV_list (SqL.of h)) (by decide), rfl⟩
theorem ThBad.occ {K : PySem.W.Frag} {H : Hp} {t : Addr} {d n l : V} (h : H t = some (.tup [d, n, l])) (h1 : AnyV K H d) (h2 : GoodV K H n) (h3 : AnyV K H l) (b : occO (some (d, n, l)) = false) : ThBad K H (.ref t) := ⟨_, .occ (SqT.of h) h1 h2 h3, b⟩
def AllBad (K : PySem.W.Frag) (H : Hp) (ys : List V) : Prop := ∀ v ∈ ys, ThBad K H v
theorem AllBad.same {K : PySem.W.Frag} {H H' : Hp} {ys : List V} (t : AllBad K H ys) (s : Same H H') : AllBad K H' ys := fun v hv => (t v hv).same s
theorem AllBad.gob {K : PySem.W.Frag} {B : Addr} {H H' : Hp} {ys : List V} (t : AllBad K H ys) (d : BoxAt H B) (w : GoB B H H') : AllBad K H' ys := fun v hv => (t v hv).gob d w
theorem AllBad.append {K : PySem.W.Frag} {H : Hp} {ys zs : List V} (t : AllBad K H ys) (u : AllBad K H zs) : AllBad K H (ys ++ zs) := fun v hv => (List.mem_append.mp hv).elim (t v) (u v)
theorem AllBad.nil {K : PySem.W.Frag} {H : Hp} : AllBad K H [] := fun v hv => by cases hv
theorem AllBad.cons {K : PySem.W.Frag} {H : Hp} {v : V} {ys : List V} (t : ThBad K H v) (u : AllBad K H ys) : AllBad K H (v :: ys) := fun w hw => by
  rcases List.mem_cons.mp hw with rfl | h
  · exact t
  · exact u w h
/-- the box and the row, as they stand -/
structure Hold (K : PySem.W.Frag) (H : Hp) (B p : Addr) (xs : List V) (os : List Th) (e : Int) : Prop where
  bx : BoxAt H B
  hp : H p = some (.lst xs)
  ne : p ≠ B
  row : Row K H xs os e
  len : xs.length ≤ 100
theorem Hold.same {K : PySem.W.Frag} {H H' : Hp} {B p : Addr} {xs : List V} {os : List Th} {e : Int} (h : Hold K H B p xs os e) (s : Same H H') : Hold K H' B p xs os e := ⟨h.bx.same s, s _ _ h.hp, h.ne, h.row.same s, h.len⟩
theorem Hold.gob {K : PySem.W.Frag} {H H' : Hp} {B p : Addr} {xs : List V} {os : List Th} {e : Int} (h : Hold K H B p xs os e) (w : GoB B H H') : Hold K H' B p xs os e := ⟨w.d, w.k _ _ h.ne h.hp, h.ne, h.row.gob h.bx w, h.len⟩
theorem Hold.mutL {K : PySem.W.Frag} {H : Hp} {B p q : Addr} {us ys xs : List V} {os : List Th} {e : Int} (h : Hold K H B p xs os e) (hq : H q = some (.lst us)) (n1 : q ≠ B) (n2 : q ≠ p) : Hold K (upd H q (.lst ys)) B p xs os e := by
  obtain ⟨g, m, hb, r⟩ := h.bx
  exact ⟨⟨g, m, by rw [upd_ne n1.symm]; exact hb, r⟩, by rw [upd_ne n2.symm]; exact h.hp, h.ne, ⟨h.row.all.mutL hq, h.row.run, h.row.hi, h.row.top⟩, h.len⟩
theorem grown {H : Hp} {t : Addr} (o : HO) (n : H t = none) : ∃ H', upd H t o = H' ∧ Same H H' ∧ H' t = some o := ⟨_, rfl, Same.new (Same.refl _) n, upd_same⟩
theorem story_made {K : PySem.W.Frag} {C CI x dx : Addr} {E : XK} {v : V} {xs : List V} {os : List Th} {H : Hp} {Q : Hp → Prop} (nx : H x = none) (ndx : H dx = none) (ha : ArgV K H v (some (xs, os))) (hd : dueT 0 os = none)
    (k : ∀ (H' : Hp), Same H H' → StoryAt K H' C x os → Q H') : spStory K C CI [.ref x, v] (upd (upd H dx (.own x)) x (.ins C dx [])) (fun u H' => u = .non ∧ Q H') E := by
  have sm := Same.made (C := C) nx ndx
  refine ⟨x, dx, v, some (xs, os), rfl, upd_same, ha.same sm, fun xs' os' e hd' H' t hx hS hb => ⟨rfl, ?_⟩, fun i hi => ?_⟩
  · cases e
    have sH := But.made nx ndx hb
    refine k H' sH ⟨dx, t, xs, hx, hS, ?_, ?_⟩
    · cases ha with
      | seq h1 h2 h3 => exact h2.same sH
    · cases ha with
      | seq h1 h2 h3 => exact h3
  · have hi : dueT 0 os = some i := hi
    rw [hd] at hi
    cases hi
theorem run_take {os : List Th} {e : Int} (h : runT 0 os = some e) (k : Nat) : ∃ f, runT 0 (os.take k) = some f := by
  have h2 : runT 0 (os.take k ++ os.drop k) = some e := by rw [List.take_append_drop]; exact h
  rw [runT_append] at h2
  cases hf : runT 0 (os.take k) with
  | none => rw [hf] at h2; cases h2
  | some f => exact ⟨f, rfl⟩
theorem due_take {os : List Th} {e : Int} (h : runT 0 os = some e) (k : Nat) : dueT 0 (os.take k) = none := dueT_ok (run_take h k).choose_spec
theorem due_bent {os : List Th} {e : Int} {o : Th} {k : Nat} (h : runT 0 os = some e) (hb : occO o = false) (hk : k ≤ os.length) : dueT 0 (os.take k ++ ([o] ++ os.drop k)) = some k := by
  obtain ⟨f, hf⟩ := run_take h k
  have := dueT_bad (ps := os.drop k) hf (show stands f o = false by rw [stands, hb]; rfl)
  rw [List.length_take, Nat.min_eq_left hk] at this
  exact this
theorem cut_bent {α : Type} {os us : List α} {c k : Nat} (hc : c ≤ k) (hk : k ≤ os.length) : os.take c ++ (os.take k ++ us).drop c = os.take k ++ us := by
  have e : (os.take k ++ us).take c = os.take c := by
    rw [List.take_append_of_le_length (by rw [List.length_take]; omega), List.take_take, Nat.min_eq_left hc]
  rw [← e, List.take_append_drop]
theorem run_last : ∀ {os : List Th} {e f : Int} (h : runT e os = some f) (n : os ≠ []), dayO (os.getLast n) = f
  | [], _, _, _, n => absurd rfl n
  | [o], e, f, h, _ => by
    rw [runT] at h
    split at h
    · cases h
      rfl
    · cases h
  | o :: p :: os, e, f, h, _ => by
    rw [runT] at h
    split at h
    · rw [List.getLast_cons (by simp)]
      exact run_last h (by simp)
    · cases h
theorem occ_int {d n l : V} (h : occO (some (d, n, l)) = true) : ∃ i : Int, d = .int i ∧ 0 ≤ i := by
  cases d with
  | int i => exact ⟨i, rfl, by simpa [occO, numV] using (Bool.and_eq_true_iff.mp h).1⟩
  | _ => simp [occO, numV] at h
/-- the day of an occasion of a row -/
theorem Row.day {K : PySem.W.Frag} {H : Hp} {xs : List V} {os : List Th} {e : Int} (r : Row K H xs os e) {i : Nat} {v : V} {o : Th} (hv : xs[i]? = some v) (ho : os[i]? = some o) : ∃ (t : Addr) (d : Int) (n l : V), v = .ref t ∧ SqT K H t [.int d, n, l] ∧ d = dayO o ∧ 0 ≤ d ∧ d ≤ 10 ^ 17 := by
  have th := r.all.2 i v o hv ho
  have oc := run_occ r.run o (at_mem ho)
  have hh := r.hi o (at_mem ho)
  cases th with
  | no => cases oc
  | tup => cases oc
  | occ hT gd gn gl =>
    obtain ⟨d, rfl, d0⟩ := occ_int oc
    exact ⟨_, d, _, _, rfl, hT, rfl, d0, hh⟩
theorem due_late {os : List Th} {e : Int} (h : runT 0 os = some e) (he : 0 ≤ e) : dueT 0 (os ++ [some (V.int (e + 1), V.str "a", V.int 1), some (V.int e, V.str "a", V.int 1), none]) = some (os.length + 1) := by
  have h1 : stands e (some (V.int (e + 1), V.str "a", V.int 1)) = true := by
    have a1 : numV (.int (e + 1)) = true := decide_eq_true (by omega)
    have a2 : nameV (.str "a") = true := by decide +kernel
    have a3 : cntV (.int 1) = true := by decide
    rw [stands, show dayO (some (V.int (e + 1), V.str "a", V.int 1)) = e + 1 from rfl]
    simp [occO, a1, a2, a3]
    omega
  have h2 := runT_snoc h h1
  have h3 : stands (e + 1) (some (V.int e, V.str "a", V.int 1)) = false := by
    rw [stands, show dayO (some (V.int e, V.str "a", V.int 1)) = e from rfl, decide_eq_false (show ¬ e + 1 ≤ e by omega), Bool.and_false]
  have := dueT_bad (ps := [none]) h2 h3
  rw [List.length_append, List.append_assoc] at this
  exact this
theorem bad_name {d n l : V} (h : nameV n = false) : occO (some (d, n, l)) = false := by simp [occO, h]
theorem bad_num {d n l : V} (h : numV d = false) : occO (some (d, n, l)) = false := by simp [occO, h]
theorem bad_cnt {d n l : V} (h : cntV l = false) : occO (some (d, n, l)) = false := by simp [occO, h]
theorem ThAll.sq {K : PySem.W.Frag} {H : Hp} {p : Addr} {xs : List V} {os : List Th} (t : ThAll K H xs os) (hp : H p = some (.lst xs)) (hl : xs.length ≤ 1000) : ArgV K H (.ref p) (some (xs, os)) := .seq (.inl (SqL.of hp)) t hl
theorem ThAll.sqT {K : PySem.W.Frag} {H : Hp} {p : Addr} {xs : List V} {os : List Th} (t : ThAll K H xs os) (hp : H p = some (.tup xs)) (hl : xs.length ≤ 1000) : ArgV K H (.ref p) (some (xs, os)) := .seq (.inr (SqT.of hp)) t hl
theorem ite_int {H : Hp} {Pd : Int → Prop} {b : Bool} {te1 te2 : TE} {σ : L2.St} {Q : VK} (k : ∀ d, Pd d → Q (.int d) H)
    (h1 : b = true → ∃ d, Pd d ∧ ∀ Q' : VK, Q' (.int d) H → te1 σ H Q') (h2 : b = false → ∃ d, Pd d ∧ ∀ Q' : VK, Q' (.int d) H → te2 σ H Q') : if b = true then te1 σ H Q else te2 σ H Q := by
  cases b with
  | true =>
    obtain ⟨d, p, h⟩ := h1 rfl
    exact iteT (h Q (k d p))
  | false =>
    obtain ⟨d, p, h⟩ := h2 rfl
    exact iteF (h Q (k d p))
theorem log_small {i : Int} (h0 : 0 ≤ i) (h1 : i ≤ 10 ^ 17) : i.natAbs.log2 < 1920 := by
  have h : i.natAbs < 2 ^ 60 := by
    have : (2 : Nat) ^ 60 = 1152921504606846976 := by decide
    omega
  exact Nat.lt_trans (PySem.Flt.log2_lt_of (by decide) h) (by decide)
theorem GoB.toSame {B : Addr} {H H1 H2 H' : Hp} (w : GoB B H2 H') (s : Same H H1) (s2 : Same H1 H2) (n : H1 B = none) : Same H H' := fun b o ho => w.k b o (ne_of_none (s b o ho) n) (s2 b o (s b o ho))
theorem Row.last {K : PySem.W.Frag} {H : Hp} {xs : List V} {os : List Th} {e : Int} (r : Row K H xs os e) (hn : 0 < xs.length) : ∃ (t : Addr) (n l : V), atI xs (-1) = some (.ref t) ∧ SqT K H t [.int e, n, l] := by
  have hno : os ≠ [] := fun z => by
    have := r.all.1
    rw [z] at this
    simp at this
    rw [this] at hn
    exact absurd hn (by decide)
  have hnx : xs ≠ [] := fun z => by
    rw [z] at hn
    exact absurd hn (by decide)
  have e1 : xs[xs.length - 1]? = some (xs.getLast hnx) := by rw [← List.getLast?_eq_getElem?, List.getLast?_eq_some_getLast hnx]
  have e2 : os[xs.length - 1]? = some (os.getLast hno) := by rw [r.all.1, ← List.getLast?_eq_getElem?, List.getLast?_eq_some_getLast hno]
  obtain ⟨t, d, n, l, ev, hT, hd, _⟩ := r.day e1 e2
  rw [run_last r.run hno] at hd
  subst hd
  refine ⟨t, n, l, ?_, hT⟩
  rw [← ev]
  have := atI_last xs.dropLast (xs.getLast hnx)
  rw [List.dropLast_concat_getLast hnx] at this
  exact this
/-- no sequence -/
def NoSeq (K : PySem.W.Frag) (H : Hp) (v : V) : Prop := ∃ k, TyV K H v k ∧ k.inL = false ∧ k.inT = false
theorem NoSeq.arg {K : PySem.W.Frag} {H : Hp} {v : V} (h : NoSeq K H v) : ArgV K H v none := .no h.choose_spec.1 h.choose_spec.2.1 h.choose_spec.2.2
theorem NoSeq.same {K : PySem.W.Frag} {H H' : Hp} {v : V} (h : NoSeq K H v) (s : Same H H') : NoSeq K H' v := ⟨_, h.choose_spec.1.same s, h.choose_spec.2⟩
theorem NoSeq.gob {K : PySem.W.Frag} {B : Addr} {H H' : Hp} {v : V} (h : NoSeq K H v) (d : BoxAt H B) (w : GoB B H H') : NoSeq K H' v := ⟨_, h.choose_spec.1.gob d w, h.choose_spec.2⟩
theorem NoSeq.flat {K : PySem.W.Frag} {H : Hp} {v : V} (h : flatB v = true) : NoSeq K H v := by
  cases v with
  | non => exact ⟨_, tyV_non, rfl, rfl⟩
  | bl b => exact ⟨_, tyV_bl, rfl, rfl⟩
  | int i => exact ⟨_, tyV_int, rfl, rfl⟩
  | str x => exact ⟨_, tyV_str, rfl, rfl⟩
  | byt b => cases h
  | flt b => cases h
  | ref a => cases h
  | ty n => cases h
end Ts

namespace Ts
open PySem L2
def top (i : Nat) : Stmt := PySem.Challenge.pw_termstill_k14_stories_refused.main.body.getD i (.Pass ⟨0, 0, 0, 0⟩)
section
variable {P : Program} {w : World} {K : PySem.W.Frag} {mg : Str → Option Value} {base : Heap}
abbrev sSeed : Stmt := (top 22)
theorem sc_seed : FnScope ["_law_script", "_law_k", "_law_cell", "_law_great"] ["_law_script", "_law_k"] (C8.fnScope sSeed) := C8.fnScope_by (by decide +kernel)
theorem cal_seed {f : Addr} {fd : FuncData} (F : C8.Def K mg "_law_seed" sSeed f fd) (df : fd.defaults = .none) (mInt : mg "int" = none) (mAbs : mg "abs" = none) (mLen : mg "len" = none) : C8.Cal P w K mg base 1 "_law_seed" (spSeed K) [] := by
  refine C8.cal0 F (C8.Fun.binds F.fn df (ps := ["_law_script", "_law_k"]) fun _ _ _ _ _ _ us hl => match us, hl with | [_, _], _ => rfl) .nil sc_seed (fun vs H Q E h => ?_) (fun cdv A outer s H vs Q E hr h => ?_)
  · obtain ⟨a, ns, k, rfl, _⟩ := h
    rfl
  · obtain ⟨a, ns, kk, rfl, hS, k0, k1, k⟩ := h
    refine ⟨_, pss_cons (ps_set (i := 2) sc_seed.nd rfl (Or.inl rfl) (pe_op op_add (pe_op op_mul pe_int (pv 1)) pe_int))
      (pss_cons (ps_if (pt_cmpR op_lt (pv 1) (pe_callB call_len_seq (by rfl) mLen PySem.boot_len (pa_cons (pv 0) pa_nil)) (nomark _))
        (pss_one (ps_set (i := 2) sc_seed.nd rfl (Or.inl rfl) (pe_callB call_abs (by rfl) mAbs PyProof.Rows.boot_abs (pa_cons (pe_ix ix_list (pv 0) (pv 1) (fun _ _ => rfl)) pa_nil))))
        (pss_one (ps_if (pt_cmpR op_gt (pe_callB call_len_seq (by rfl) mLen PySem.boot_len (pa_cons (pv 0) pa_nil)) pe_int (nomark _))
          (pss_one (ps_set (i := 2) sc_seed.nd rfl (Or.inl rfl) (pe_op op_add (pv 2) (pe_op op_mulW (pe_op op_mod (pe_callTy call_int1 (by rfl) mInt PyProof.Rows.boot_int (pa_cons (pe_callB call_abs (by rfl) mAbs PyProof.Rows.boot_abs (pa_cons
            (pe_ix ix_list (pv 0) (pe_op op_mod (pe_callTy call_int1 (by rfl) mInt PyProof.Rows.boot_int (pa_cons (pv 1) pa_nil)) (pe_callB call_len_seq (by rfl) mLen PySem.boot_len (pa_cons (pv 0) pa_nil))) (fun _ _ => rfl)) pa_nil)) pa_nil)) pe_int) pe_int)))) pss_nil)))
      (pss_cons (ps_set (i := 3) sc_seed.nd rfl (Or.inl rfl) (pe_ifExp (pt_cmpR op_ge (pv 2) (pe_op op_pow pe_int pe_int) (nomark _)) (pv 2) pe_int))
      (pss_one (ps_ret (pe_lst (pa_cons (pv 3) (pa_cons (pe_op op_add (pe_op op_mod (pe_callTy call_int1 (by rfl) mInt PyProof.Rows.boot_int (pa_cons (pe_op op_add (pe_op op_mul (pe_op op_mod (pe_callTy call_int1 (by rfl) mInt PyProof.Rows.boot_int (pa_cons (pv 2) pa_nil)) pe_int) pe_int) (pe_op op_mul pe_int (pv 1))) pa_nil)) pe_int) pe_int) pa_nil))))))), ?_⟩
    have tail : ∀ c : Int, 0 ≤ c → (tAsg (tIf (tTest (tOp (rI0 fun i j => V.bl (decide (i ≥ j))) (tVar 2) (tOp (rI CPow fun i j => V.int (i ^ j.toNat)) (tC (V.int 10)) (tC (V.int 18))))) (tVar 2) (tC (V.int 0))) (gName 3)) { nx := fun σ' H' => tRet (tLst (tCons (tVar 3) (tCons (tOp (rI0 fun i j => V.int (i + j)) (tOp (rI (fun _ j => 0 < j) fun i j => V.int (i % j)) (tCB (fun xs H Q => (∃ i, xs = [V.int i] ∧ Q (V.int i) H) ∨ ∃ k, xs = [V.bl k] ∧ Q (V.int (if k = true then 1 else 0)) H) (tCons (tOp (rI0 fun i j => V.int (i + j)) (tOp (rI CMul fun i j => V.int (i * j)) (tOp (rI (fun _ j => 0 < j) fun i j => V.int (i % j)) (tCB (fun xs H Q => (∃ i, xs = [V.int i] ∧ Q (V.int i) H) ∨ ∃ k, xs = [V.bl k] ∧ Q (V.int (if k = true then 1 else 0)) H) (tCons (tVar 2) tNil)) (tC (V.int 2147483629))) (tC (V.int 48271))) (tOp (rI CMul fun i j => V.int (i * j)) (tC (V.int 30211)) (tVar 1))) tNil)) (tC (V.int 2147483629))) (tC (V.int 1))) tNil))) { nx := fun _ H' => Q .non H', rt := Q } σ' H', rt := Q } [some (V.ref a), some (V.int kk), some (V.int c), none] H := by
      intro c c0
      have m0 : 0 ≤ (c % 2147483629 * 48271 + 30211 * kk) % 2147483629 := Int.emod_nonneg _ (by decide)
      have m1 : (c % 2147483629 * 48271 + 30211 * kk) % 2147483629 < 2147483629 := Int.emod_lt_of_pos _ (by decide)
      have n0 : 0 ≤ c % 2147483629 := Int.emod_nonneg _ (by decide)
      have n1 : c % 2147483629 < 2147483629 := Int.emod_lt_of_pos _ (by decide)
      have fin : ∀ g : Int, 0 ≤ g → tRet (tLst (tCons (tVar 3) (tCons (tOp (rI0 fun i j => V.int (i + j)) (tOp (rI (fun _ j => 0 < j) fun i j => V.int (i % j)) (tCB (fun xs H Q => (∃ i, xs = [V.int i] ∧ Q (V.int i) H) ∨ ∃ k, xs = [V.bl k] ∧ Q (V.int (if k = true then 1 else 0)) H) (tCons (tOp (rI0 fun i j => V.int (i + j)) (tOp (rI CMul fun i j => V.int (i * j)) (tOp (rI (fun _ j => 0 < j) fun i j => V.int (i % j)) (tCB (fun xs H Q => (∃ i, xs = [V.int i] ∧ Q (V.int i) H) ∨ ∃ k, xs = [V.bl k] ∧ Q (V.int (if k = true then 1 else 0)) H) (tCons (tVar 2) tNil)) (tC (V.int 2147483629))) (tC (V.int 48271))) (tOp (rI CMul fun i j => V.int (i * j)) (tC (V.int 30211)) (tVar 1))) tNil)) (tC (V.int 2147483629))) (tC (V.int 1))) tNil))) { nx := fun _ H' => Q .non H', rt := Q } [some (V.ref a), some (V.int kk), some (V.int c), some (V.int g)] H := by
        intro g g0
        refine ⟨_, rfl, _, rfl, Or.inl ⟨_, rfl, _, _, rfl, rfl, (by show (0 : Int) < 2147483629; decide), _, _, rfl, rfl, Or.inl ⟨by omega, by omega⟩, _, rfl, _, _, rfl, rfl, Or.inl ⟨by decide, by decide⟩, _, _, rfl, rfl, Or.inl ⟨_, rfl, _, _, rfl, rfl, (by show (0 : Int) < 2147483629; decide), _, _, rfl, rfl, (by show 2 ≤ sizeLine; decide), fun l nl => ?_⟩⟩⟩
        exact k l _ ⟨g, _, upd_same, g0, by omega, by omega⟩ (Same.new (Same.refl _) nl) nl
      refine ⟨_, rfl, _, _, rfl, rfl, ⟨by decide, by decide, by decide⟩, _, _, rfl, rfl, _, rfl, ?_⟩
      refine ite2 (fun _ => ?_) (fun _ => ?_)
      · exact ⟨_, rfl, fin c c0⟩
      · exact fin 0 (by decide)
    refine ⟨_, rfl, _, _, rfl, rfl, Or.inl ⟨by decide, by decide⟩, _, _, rfl, rfl, ?_⟩
    refine ⟨_, rfl, _, rfl, a, _, rfl, .inl hS, _, _, rfl, rfl, _, rfl, ?_⟩
    have ln : ((ns.map V.int).length : Int) = (ns.length : Int) := by rw [List.length_map]
    rw [ln]
    refine ite2 (fun e1 => ?_) (fun e1 => ?_)
    · obtain ⟨j, rfl⟩ := Int.eq_ofNat_of_zero_le k0
      have hj : j < ns.length := by
        have := of_decide_eq_true e1
        omega
      refine ⟨_, rfl, _, rfl, a, _, _, .int ns[j], rfl, rfl, hS, atI_nat (by rw [List.getElem?_map, List.getElem?_eq_getElem hj]; rfl), _, rfl, ?_⟩
      exact tail _ (abs_nn _)
    · refine ⟨_, rfl, a, _, rfl, .inl hS, _, _, rfl, rfl, _, rfl, ?_⟩
      rw [ln]
      refine ite2 (fun e2 => ?_) (fun _ => tail _ (by omega))
      have hpos : 0 < ns.length := by
        have := of_decide_eq_true e2
        omega
      have j0 : 0 ≤ kk % (ns.length : Int) := Int.emod_nonneg _ (by omega)
      have j1 : kk % (ns.length : Int) < (ns.length : Int) := Int.emod_lt_of_pos _ (by omega)
      obtain ⟨j, hjj⟩ := Int.eq_ofNat_of_zero_le j0
      have hj : j < ns.length := by omega
      refine ⟨_, rfl, _, rfl, _, rfl, Or.inl ⟨_, rfl, _, rfl, a, _, rfl, .inl hS, _, _, rfl, rfl, (by rw [ln]; omega), a, _, _, .int ns[j], rfl, rfl, hS, ?_, _, rfl, Or.inl ⟨_, rfl, _, _, rfl, rfl, (by show (0 : Int) < 2147483629; decide), _, _, rfl, rfl, ?_, _, _, rfl, rfl, ?_⟩⟩⟩
      · rw [ln, hjj]
        exact atI_nat (by rw [List.getElem?_map, List.getElem?_eq_getElem hj]; rfl)
      · refine wide_mul (a := 40) (b := 40) ?_ (by decide) (by decide) (by decide) (by decide)
        have h0 : 0 ≤ (if ns[j] < 0 then -ns[j] else ns[j]) % 2147483629 := Int.emod_nonneg _ (by decide)
        have h1 : (if ns[j] < 0 then -ns[j] else ns[j]) % 2147483629 < 2147483629 := Int.emod_lt_of_pos _ (by decide)
        have : (2 : Nat) ^ 40 = 1099511627776 := by decide
        omega
      · refine tail _ ?_
        have h0 : 0 ≤ (if ns[j] < 0 then -ns[j] else ns[j]) % 2147483629 := Int.emod_nonneg _ (by decide)
        omega
abbrev sChoose : Stmt := (top 23)
theorem sc_choose : FnScope ["_law_box", "_law_many", "_law_digit", "_law_raw"] ["_law_box", "_law_many"] (C8.fnScope sChoose) := C8.fnScope_by (by decide +kernel)
theorem cal_choose {f : Addr} {fd : FuncData} (F : C8.Def K mg "_law_choose" sChoose f fd) (df : fd.defaults = .none) (mInt : mg "int" = none) : C8.Cal P w K mg base 1 "_law_choose" spChoose [] := by
  refine C8.cal0 F (C8.Fun.binds F.fn df (ps := ["_law_box", "_law_many"]) fun _ _ _ _ _ _ us hl => match us, hl with | [_, _], _ => rfl) .nil sc_choose (fun vs H Q E h => ?_) (fun cdv A outer s H vs Q E hr h => ?_)
  · obtain ⟨B, n, rfl, _⟩ := h
    rfl
  · obtain ⟨B, n, rfl, bx, n0, n1, k⟩ := h
    refine ⟨_, pss_cons (ps_if (pt_cmpR op_gt (pe_ix ix_list (pv 0) pe_int (fun _ _ => rfl)) pe_int (nomark _))
        (pss_cons (ps_set (i := 2) sc_choose.nd rfl (Or.inl rfl) (pe_op op_mod (pe_callTy call_int1 (by rfl) mInt PyProof.Rows.boot_int (pa_cons (pe_ix ix_list (pv 0) pe_int (fun _ _ => rfl)) pa_nil)) (pv 1)))
        (pss_cons (ps_asg (pe_op op_fdivW (pe_ix ix_list (pv 0) pe_int (fun _ _ => rfl)) (pv 1)) (pg_sub (pv 0) pe_int set_list))
        (pss_one (ps_ret (pv 2))))) pss_nil)
      (pss_cons (ps_set (i := 3) sc_choose.nd rfl (Or.inl rfl) (pe_op op_mod (pe_callTy call_int1 (by rfl) mInt PyProof.Rows.boot_int (pa_cons (pe_op op_add (pe_op op_mul (pe_ix ix_list (pv 0) pe_int (fun _ _ => rfl)) pe_int) pe_int) pa_nil)) pe_int))
      (pss_cons (ps_asg (pe_op op_add (pe_op op_mod (pe_callTy call_int1 (by rfl) mInt PyProof.Rows.boot_int (pa_cons (pe_op op_add (pe_op op_mul (pv 3) pe_int) pe_int) pa_nil)) pe_int) pe_int) (pg_sub (pv 0) pe_int set_list))
      (pss_one (ps_ret (pe_op op_mod (pe_callTy call_int1 (by rfl) mInt PyProof.Rows.boot_int (pa_cons (pe_op op_fdivW (pe_op op_add (pe_op op_mul (pv 3) pe_int) (pe_ix ix_list (pv 0) pe_int (fun _ _ => rfl))) pe_int) pa_nil)) (pv 1)))))), ?_⟩
    obtain ⟨g, m, hB, g0, m0, m1⟩ := bx
    refine ⟨_, rfl, B, _, 0, _, rfl, rfl, SqL.of hB, rfl, _, _, rfl, rfl, _, rfl, ?_⟩
    refine ite2 (fun e => ?_) (fun _ => ?_)
    · refine ⟨_, rfl, B, _, 0, _, rfl, rfl, SqL.of hB, rfl, Or.inl ⟨_, rfl, _, rfl, _, _, rfl, rfl, n0, ?_⟩⟩
      refine ⟨_, rfl, B, _, 0, _, rfl, rfl, SqL.of hB, rfl, _, rfl, _, _, rfl, rfl, wide_div (b := 64) n0 (by omega) (by decide) (by decide), ?_⟩
      refine ⟨_, rfl, B, _, 0, 0, rfl, rfl, hB, rfl, _, rfl, ?_⟩
      refine k _ _ (Int.emod_nonneg _ (by omega)) (Int.emod_lt_of_pos _ n0) ⟨⟨_, _, upd_same, fdiv_nonneg g0 n0, m0, m1⟩, fun b o hb ho => ?_⟩
      rw [upd_ne hb]
      exact ho
    · have r0 : 0 ≤ (m * 40014 + 47) % 2147483563 := Int.emod_nonneg _ (by decide)
      have r1 : (m * 40014 + 47) % 2147483563 < 2147483563 := Int.emod_lt_of_pos _ (by decide)
      refine ⟨_, rfl, B, _, 1, _, rfl, rfl, SqL.of hB, rfl, _, _, rfl, rfl, Or.inl ⟨by omega, by omega⟩, _, _, rfl, rfl, Or.inl ⟨_, rfl, _, _, rfl, rfl, (by show (0 : Int) < 2147483563; decide), ?_⟩⟩
      generalize hraw : (m * 40014 + 47) % 2147483563 = raw at r0 r1
      have t0 : 0 ≤ (raw * 40692 + 3581) % 2147483629 := Int.emod_nonneg _ (by decide)
      have t1 : (raw * 40692 + 3581) % 2147483629 < 2147483629 := Int.emod_lt_of_pos _ (by decide)
      refine ⟨_, rfl, _, _, rfl, rfl, Or.inl ⟨by omega, by omega⟩, _, _, rfl, rfl, Or.inl ⟨_, rfl, _, _, rfl, rfl, (by show (0 : Int) < 2147483629; decide), _, _, rfl, rfl, ?_⟩⟩
      refine ⟨_, rfl, B, _, 1, 1, rfl, rfl, hB, rfl, ?_⟩
      refine ⟨_, rfl, _, _, rfl, rfl, Or.inl ⟨by omega, by omega⟩, _, rfl, B, _, 1, _, rfl, rfl, SqL.of upd_same, rfl, _, _, rfl, rfl, _, _, rfl, rfl, wide_div (b := 60) (by decide) (by decide) (by decide) (by decide), Or.inl ⟨_, rfl, _, rfl, _, _, rfl, rfl, n0, ?_⟩⟩
      refine k _ _ (Int.emod_nonneg _ (by omega)) (Int.emod_lt_of_pos _ n0) ⟨⟨g, _, upd_same, g0, by omega, by omega⟩, fun b o hb ho => ?_⟩
      rw [upd_ne hb]
      exact ho
abbrev sOneOf : Stmt := (top 24)
theorem sc_oneOf : FnScope ["_law_box", "_law_some"] ["_law_box", "_law_some"] (C8.fnScope sOneOf) := C8.fnScope_by (by decide +kernel)
theorem cal_oneOf {f : Addr} {fd : FuncData} (F : C8.Def K mg "_law_one_of" sOneOf f fd) (df : fd.defaults = .none) (mLen : mg "len" = none) (cD : C8.Cal P w K mg base 1 "_law_choose" spChoose []) : C8.Cal P w K mg base 2 "_law_one_of" (spOneOf K) [] := by
  refine C8.cal0 F (C8.Fun.binds F.fn df (ps := ["_law_box", "_law_some"]) fun _ _ _ _ _ _ us hl => match us, hl with | [_, _], _ => rfl) .nil sc_oneOf (fun vs H Q E h => ?_) (fun cdv A outer s H vs Q E hr h => ?_)
  · obtain ⟨B, a, xs, rfl, _⟩ := h
    rfl
  · obtain ⟨B, a, xs, rfl, bx, hS, a1, l1, l2, k⟩ := h
    refine ⟨_, pss_one (ps_ret (pe_ix ix_list (pv 1) (C8.pe_c cD hr (by decide) (by rfl) (pa_cons (pv 0) (pa_cons (pe_callB call_len_seq (by rfl) mLen PySem.boot_len (pa_cons (pv 1) pa_nil)) pa_nil))) (fun _ _ => rfl))), ?_⟩
    refine ⟨_, rfl, _, rfl, _, rfl, a, _, rfl, .inl hS, B, _, rfl, bx, by omega, by omega, fun d H' d0 d1 W => ?_⟩
    obtain ⟨j, rfl⟩ := Int.eq_ofNat_of_zero_le d0
    have hj : j < xs.length := by omega
    exact ⟨a, xs, _, xs[j], rfl, rfl, W.k.sql a1 hS, atI_nat (List.getElem?_eq_getElem hj), k _ _ (List.getElem_mem hj) W⟩
end
end Ts


namespace Ts
open PySem L2
section
variable {P : Program} {w : World} {K : PySem.W.Frag} {mg : Str → Option Value} {base : Heap}
abbrev sIsInt : Stmt := (top 7)
theorem sc_isInt : FnScope ["value"] ["value"] (C8.fnScope sIsInt) := C8.fnScope_by (by decide +kernel)
theorem cal_isInt {f : Addr} {fd : FuncData} (F : C8.Def K mg "is_integer" sIsInt f fd) (df : fd.defaults = .none) (mIsi : mg "isinstance" = none) (mInt : mg "int" = none) (mBool : mg "bool" = none) : C8.Cal P w K mg base 1 "is_integer" (spIsInt K) [] := by
  refine C8.cal0 F (C8.Fun.binds F.fn df (ps := ["value"]) fun _ _ _ _ _ _ us hl => match us, hl with | [_], _ => rfl) .nil sc_isInt (fun vs H Q E h => ?_) (fun cdv A outer s H vs Q E hr h => ?_)
  · obtain ⟨v, k, rfl, _⟩ := h
    rfl
  · obtain ⟨v, k, rfl, ⟨⟨t, tx, t1, t2, t3, t4, t5⟩, _, _⟩, q⟩ := h
    refine ⟨_, pss_one (ps_ret (pe_and (pe_callB call_isi (by rfl) mIsi PyProof.Rows.boot_isinstance (pa_cons (pv 0) (pa_cons (pe_bltn (v := .ty "int") (by rfl) mInt PyProof.Rows.boot_int rfl) pa_nil)))
      (pe_one (pe_not (pe_callB call_isi (by rfl) mIsi PyProof.Rows.boot_isinstance (pa_cons (pv 0) (pa_cons (pe_bltn (v := .ty "bool") (by rfl) mBool PyProof.Rows.boot_bool rfl) pa_nil))))))), ?_⟩
    refine ⟨_, rfl, _, _, t, _, _, rfl, .ty _, tx, t1, _, rfl, ?_⟩
    cases k <;> first | exact iteF q | (refine iteT ⟨_, rfl, _, _, t, _, _, rfl, .ty _, tx, t2, _, rfl, ?_⟩; exact q)
abbrev sIsCount : Stmt := (top 9)
theorem sc_isCount : FnScope ["value"] ["value"] (C8.fnScope sIsCount) := C8.fnScope_by (by decide +kernel)
theorem cal_isCount {f : Addr} {fd : FuncData} (F : C8.Def K mg "is_count" sIsCount f fd) (df : fd.defaults = .none) (cI : C8.Cal P w K mg base 1 "is_integer" (spIsInt K) []) : C8.Cal P w K mg base 2 "is_count" (spIsCount K) [] := by
  refine C8.cal0 F (C8.Fun.binds F.fn df (ps := ["value"]) fun _ _ _ _ _ _ us hl => match us, hl with | [_], _ => rfl) .nil sc_isCount (fun vs H Q E h => ?_) (fun cdv A outer s H vs Q E hr h => ?_)
  · obtain ⟨v, k, rfl, _⟩ := h
    rfl
  · obtain ⟨v, k, rfl, ty, q⟩ := h
    refine ⟨_, pss_one (ps_ret (pe_and (C8.pe_c cI hr (by decide) (by rfl) (pa_cons (pv 0) pa_nil)) (pe_one (pe_cmpR op_ge (pv 0) pe_int (nomark _))))), ?_⟩
    refine ⟨_, rfl, v, k, rfl, ty, _, rfl, ?_⟩
    by_cases e : k = .int
    · obtain ⟨i, rfl⟩ := ty.i1 e
      rw [decide_eq_true e] at q ⊢
      refine iteT ⟨_, rfl, _, _, rfl, rfl, ?_⟩
      exact q
    · rw [decide_eq_false e] at q ⊢
      exact iteF q
end
end Ts

namespace Ts
open PySem L2
section
variable {P : Program} {w : World} {K : PySem.W.Frag} {mg : Str → Option Value} {base : Heap}
abbrev sIsSeq : Stmt := (top 11)
theorem sc_isSeq : FnScope ["value"] ["value"] (C8.fnScope sIsSeq) := C8.fnScope_by (by decide +kernel)
theorem cal_isSeq {f : Addr} {fd : FuncData} (F : C8.Def K mg "is_sequence" sIsSeq f fd) (df : fd.defaults = .none) (mIsi : mg "isinstance" = none) (mList : mg "list" = none) (mTup : mg "tuple" = none) : C8.Cal P w K mg base 1 "is_sequence" (spIsSeq K) [] := by
  refine C8.cal0 F (C8.Fun.binds F.fn df (ps := ["value"]) fun _ _ _ _ _ _ us hl => match us, hl with | [_], _ => rfl) .nil sc_isSeq (fun vs H Q E h => ?_) (fun cdv A outer s H vs Q E hr h => ?_)
  · obtain ⟨v, k, rfl, _⟩ := h
    rfl
  · obtain ⟨v, k, rfl, ty, q⟩ := h
    refine ⟨_, pss_one (ps_ret (pe_callB call_isiT (by rfl) mIsi PyProof.Rows.boot_isinstance (pa_cons (pv 0) (pa_cons (pe_tup (pa_cons (pe_bltn (v := .ty "list") (by rfl) mList PyProof.Rows.boot_list rfl) (pa_cons (pe_bltn (v := .ty "tuple") (by rfl) mTup PyProof.Rows.boot_tuple rfl) pa_nil))) pa_nil)))), ?_⟩
    refine ⟨_, rfl, (by show 2 ≤ sizeLine; decide), fun p hp => ?_⟩
    have S : Same H (upd H p (.tup [.ty "list", .ty "tuple"])) := Same.new (Same.refl _) hp
    obtain ⟨⟨t, tx, t1, t2, t3, t4, t5⟩, _, _⟩ := ty.same S
    have ka : PySem.W.kitAny K t [.type "list", .type "tuple"] = some (k.inL || k.inT) := by
      simp only [PySem.W.kitAny, t4, t5]
      cases k <;> rfl
    exact ⟨v, p, _, t, [.type "list", .type "tuple"], _, rfl, upd_same, .cons (.ty _) (.cons (.ty _) .nil), tx, ka, q _ S⟩
end
end Ts

namespace Ts
open PySem L2
section
variable {P : Program} {w : World} {K : PySem.W.Frag} {mg : Str → Option Value} {base : Heap}
abbrev sIsName : Stmt := (top 10)
theorem sc_isName : FnScope ["value", "sign"] ["value"] (C8.fnScope sIsName) := C8.fnScope_by (by decide +kernel)
theorem cal_isName {f TN : Addr} {fd : FuncData} (F : C8.Def K mg "is_name" sIsName f fd) (df : fd.defaults = .none) (mIsi : mg "isinstance" = none) (mStr : mg "str" = none) (mLen : mg "len" = none) (mAll : mg "all" = none)
    (mNo : mg "NO_NAMES" = some (.ref TN)) (hNo : ∀ H, SqT K H TN noNames) (mMost : ∃ u, mg "MOST_LETTERS" = some u ∧ RelV (.int 4) u) (mLet : ∃ u, mg "LETTERS" = some u ∧ RelV (.str letters) u) : C8.Cal P w K mg base 1 "is_name" (spIsName K) [] := by
  refine C8.cal0 F (C8.Fun.binds F.fn df (ps := ["value"]) fun _ _ _ _ _ _ us hl => match us, hl with | [_], _ => rfl) .nil sc_isName (fun vs H Q E h => ?_) (fun cdv A outer s H vs Q E hr h => ?_)
  · obtain ⟨v, rfl, _⟩ := h
    rfl
  · obtain ⟨v, rfl, ⟨k, ⟨⟨t, tx, t1, t2, t3, t4, t5⟩, _, hs⟩, hlen⟩, q⟩ := h
    refine ⟨_, pss_cons (ps_if (PW.pt (pw_or (pt_not (pt_val (pe_callB call_isi (by rfl) mIsi PyProof.Rows.boot_isinstance (pa_cons (pv 0) (pa_cons (pe_bltn (v := .ty "str") (by rfl) mStr PyProof.Rows.boot_str rfl) pa_nil)))))
        (pw_or1 (pt_cmpR op_in_seq (pv 0) (pe_glob (v := .ref TN) (by rfl) mNo rfl) (by rfl))))) (pss_one (ps_ret pe_bl)) pss_nil)
      (pss_one (ps_ret (pe_and (pe_chain op_le op_le pe_int (pe_callB call_len_str (by rfl) mLen PySem.boot_len (pa_cons (pv 0) pa_nil)) (C8.pe_gc (v := .int 4) (by rfl) mMost))
        (pe_one (pe_callB (cr_all (by rfl)) (by rfl) mAll PyProof.Rows.boot_all (pa_cons
            (pe_lc (own := [("sign", 1)]) (g := gName 1) (by rfl) sc_isName.nd (pi_str (pv 0)) (blkOk_by (own := [("sign", 1)]) (N := ["value", "sign"]) (sc := C8.fnScope sIsName) (by decide +kernel)) (fun _ _ _ _ _ => pg_name (i := 1) sc_isName.nd rfl (Or.inl rfl)) (fun _ _ _ _ _ => pts_nil)
              (fun _ _ _ _ _ => pe_cmpR op_in_sign (pv 1) (C8.pe_gc (v := .str letters) (by rfl) mLet) (by rfl))) pa_nil)))))), ?_⟩
    refine ⟨_, rfl, _, _, t, _, _, rfl, .ty _, tx, t3, _, rfl, ?_⟩
    by_cases e : k = .str
    · obtain ⟨x, rfl⟩ := hs e
      subst e
      have hx := (hlen x rfl).1
      refine iteF ⟨_, rfl, TN, _, rfl, .inr (hNo H), rfl, (by decide), _, rfl, ?_⟩
      have fin := q
      show (if inV (.str x) noNames = true then _ else _)
      cases e1 : inV (.str x) noNames with
      | true =>
        have : nameV (.str x) = false := by simp [nameV, nameB, e1]
        rw [this] at q
        exact iteT (q H (Same.refl _))
      | false =>
        refine iteF ⟨_, rfl, x, rfl, Nat.le_trans hx (by decide), _, _, rfl, rfl, _, rfl, ?_⟩
        by_cases e2 : 1 ≤ (x.length : Int)
        · rw [decide_eq_true e2]
          refine iteT ⟨_, _, rfl, rfl, _, rfl, ?_⟩
          by_cases e3 : (x.length : Int) ≤ 4
          · rw [decide_eq_true e3]
            refine iteT ⟨_, rfl, x, rfl, fun d hd => lc_it (walk_str (z := x)) (fun i H' => H' d = some (.lst (((x.cps.toList.take i).map fun c => decide (c ∈ letters.cps.toList)).map V.bl)) ∧ Same H H') ⟨upd_same, Same.new (Same.refl _) hd⟩ (fun _ _ _ _ => trivial) ?_ ?_⟩
            · rintro i y H1 H2 hi ⟨g1, g2⟩ ⟨rfl, c, hc, rfl⟩
              have hc' : x.cps.toList[i]? = some c := by simpa using hc
              refine ⟨rfl, yes_ ⟨_, rfl, c, letters, rfl, rfl, _, g1, small1000 (by rw [List.length_map, List.length_map, List.length_take]; have : x.cps.toList.length = x.length := rfl; omega), ?_, same_upd_new g2 hd⟩⟩
              rw [upd_same, List.take_add_one, hc', List.map_append, List.map_append]
              rfl
            · rintro H' ⟨g1, g2⟩
              rw [show x.cps.size = x.cps.toList.length from rfl, List.take_length] at g1
              refine ⟨d, _, rfl, SqL.of g1, ?_⟩
              have := q H' g2
              rw [show nameV (.str x) = ((x.cps.toList.map fun c => decide (c ∈ letters.cps.toList)).all id) by
                simp [nameV, nameB, e1, e2, e3, List.all_map]] at this
              exact this
          · rw [decide_eq_false e3]
            have : nameV (.str x) = false := by simp [nameV, nameB, e3]
            rw [this] at q
            exact iteF (q H (Same.refl _))
        · rw [decide_eq_false e2]
          have : nameV (.str x) = false := by simp [nameV, nameB, e2]
          rw [this] at q
          exact iteF ⟨_, rfl, iteF (q H (Same.refl _))⟩
    · have hk : k.inS = false := by cases k <;> first | rfl | exact absurd rfl e
      rw [hk]
      refine iteT (iteT ?_)
      have : nameV v = false := by
        cases v with
        | str x =>
          obtain ⟨t', tx', u1, u2, u3, u4, u5⟩ : ∃ t', TyX K H (.str x) t' ∧ PySem.W.kitOne K t' (.type "int") = some false ∧ PySem.W.kitOne K t' (.type "bool") = some false ∧ PySem.W.kitOne K t' (.type "str") = some true ∧ True ∧ True :=
            ⟨_, .base (.str x), kit_ty (by decide +kernel), kit_ty (by decide +kernel), kit_ty (by decide +kernel), trivial, trivial⟩
          cases tx with
          | base hb =>
            cases hb
            rw [kit_ty (a := "str") (b := "str") (r := true) (by decide +kernel)] at t3
            rw [hk] at t3
            cases t3
        | _ => rfl
      rw [this] at q
      exact q H (Same.refl _)
end
end Ts

namespace Ts
open PySem L2
section
variable {P : Program} {w : World} {K : PySem.W.Frag} {mg : Str → Option Value} {base : Heap}
abbrev sIsNum : Stmt := (top 8)
theorem sc_isNum : FnScope ["value"] ["value"] (C8.fnScope sIsNum) := C8.fnScope_by (by decide +kernel)
theorem cal_isNum {f : Addr} {fd : FuncData} (F : C8.Def K mg "is_number" sIsNum f fd) (df : fd.defaults = .none) (cI : C8.Cal P w K mg base 1 "is_integer" (spIsInt K) []) : C8.Cal P w K mg base 2 "is_number" (spIsNum K) [] := by
  refine C8.cal0 F (C8.Fun.binds F.fn df (ps := ["value"]) fun _ _ _ _ _ _ us hl => match us, hl with | [_], _ => rfl) .nil sc_isNum (fun vs H Q E h => ?_) (fun cdv A outer s H vs Q E hr h => ?_)
  · obtain ⟨v, k, rfl, _⟩ := h
    rfl
  · obtain ⟨v, k, rfl, ty, q⟩ := h
    refine ⟨_, pss_one (ps_ret (pe_and (C8.pe_c cI hr (by decide) (by rfl) (pa_cons (pv 0) pa_nil)) (pe_one (pe_cmpR op_ge (pv 0) pe_int (nomark _))))), ?_⟩
    refine ⟨_, rfl, v, k, rfl, ty, _, rfl, ?_⟩
    by_cases e : k = .int
    · obtain ⟨i, rfl⟩ := ty.i1 e
      rw [decide_eq_true e] at q ⊢
      refine iteT ⟨_, rfl, _, _, rfl, rfl, ?_⟩
      exact q
    · rw [decide_eq_false e] at q ⊢
      exact iteF q
abbrev sIsOcc : Stmt := (top 19)
theorem sc_isOcc : FnScope ["value", "day", "name", "days"] ["value"] (C8.fnScope sIsOcc) := C8.fnScope_by (by decide +kernel)
theorem cal_isOcc {f : Addr} {fd : FuncData} (F : C8.Def K mg "is_occasion" sIsOcc f fd) (df : fd.defaults = .none) (mIsi : mg "isinstance" = none) (mTup : mg "tuple" = none) (mLen : mg "len" = none) (cN : C8.Cal P w K mg base 2 "is_number" (spIsNum K) []) (cNm : C8.Cal P w K mg base 1 "is_name" (spIsName K) [])
    (cC : C8.Cal P w K mg base 2 "is_count" (spIsCount K) []) : C8.Cal P w K mg base 3 "is_occasion" (spIsOcc K) [] := by
  refine C8.cal0 F (C8.Fun.binds F.fn df (ps := ["value"]) fun _ _ _ _ _ _ us hl => match us, hl with | [_], _ => rfl) .nil sc_isOcc (fun vs H Q E h => ?_) (fun cdv A outer s H vs Q E hr h => ?_)
  · obtain ⟨v, o, rfl, _⟩ := h
    rfl
  · obtain ⟨v, o, rfl, th, q⟩ := h
    refine ⟨_, pss_cons (ps_if (PW.pt (pw_or (pt_not (pt_val (pe_callB call_isi (by rfl) mIsi PyProof.Rows.boot_isinstance (pa_cons (pv 0) (pa_cons (pe_bltn (v := .ty "tuple") (by rfl) mTup PyProof.Rows.boot_tuple rfl) pa_nil)))))
        (pw_or1 (pt_cmpR op_ne (pe_callB call_len_seq (by rfl) mLen PySem.boot_len (pa_cons (pv 0) pa_nil)) pe_int (nomark _))))) (pss_one (ps_ret pe_bl)) pss_nil)
      (pss_cons (ps_asg (pv 0) (pg_tup rfl (pgs_cons (pg_name (i := 1) sc_isOcc.nd rfl (Or.inl rfl)) (pgs_cons (pg_name (i := 2) sc_isOcc.nd rfl (Or.inl rfl)) (pgs_cons (pg_name (i := 3) sc_isOcc.nd rfl (Or.inl rfl)) pgs_nil)))))
      (pss_one (ps_ret (pe_and (C8.pe_c cN hr (by decide) (by rfl) (pa_cons (pv 1) pa_nil)) (pe_and (C8.pe_c cNm hr (by decide) (by rfl) (pa_cons (pv 2) pa_nil)) (pe_one (C8.pe_c cC hr (by decide) (by rfl) (pa_cons (pv 3) pa_nil)))))))), ?_⟩
    cases th with
    | @no _ k ty nt =>
      obtain ⟨⟨t, tx, t1, t2, t3, t4, t5⟩, _, _⟩ := id ty
      refine ⟨_, rfl, _, _, t, _, _, rfl, .ty _, tx, t5, _, rfl, ?_⟩
      have hk : k.inT = false := by cases k <;> first | rfl | exact absurd rfl nt
      rw [hk]
      exact iteT (iteT (q H (Same.refl _)))
    | @tup a xs hS n3 =>
      obtain ⟨⟨t, tx, t1, t2, t3, t4, t5⟩, _, _⟩ := id (tyV_tup hS)
      refine ⟨_, rfl, _, _, t, _, _, rfl, .ty _, tx, t5, _, rfl, iteF ⟨_, rfl, a, xs, rfl, .inr hS, rfl, _, rfl, ?_⟩⟩
      rw [show (!decide (V.int (xs.length : Int) = V.int 3)) = true by simp; omega]
      exact iteT (q H (Same.refl _))
    | @occ a d n l hS gd gn gl =>
      obtain ⟨⟨t, tx, t1, t2, t3, t4, t5⟩, _, _⟩ := id (tyV_tup hS)
      refine ⟨_, rfl, _, _, t, _, _, rfl, .ty _, tx, t5, _, rfl, iteF ⟨_, rfl, a, _, rfl, .inr hS, rfl, _, rfl, iteF ?_⟩⟩
      obtain ⟨kd, td⟩ := gd
      refine ⟨_, rfl, a, _, rfl, hS, rfl, _, _, rfl, _, _, rfl, _, _, rfl, rfl, ?_⟩
      refine ⟨_, rfl, d, kd, rfl, td, _, rfl, ?_⟩
      rw [num_eq td]
      cases e1 : numV d with
      | false =>
        have := q H (Same.refl _)
        rw [show occO (some (d, n, l)) = false by simp [occO, e1]] at this
        exact iteF this
      | true =>
        refine iteT ⟨_, rfl, n, rfl, gn, fun H1 s1 => ⟨_, rfl, ?_⟩⟩
        cases e2 : nameV n with
        | false =>
          have := q H1 s1
          rw [show occO (some (d, n, l)) = false by simp [occO, e2]] at this
          exact iteF this
        | true =>
          obtain ⟨kl, tl⟩ := gl.same s1
          refine iteT ⟨_, rfl, l, kl, rfl, tl, ?_⟩
          rw [cnt_eq tl]
          have := q H1 s1
          rw [show occO (some (d, n, l)) = cntV l by simp [occO, e1, e2]] at this
          exact this
abbrev sXStory : Stmt := (inClass (top 15) 0)
theorem sc_xStory : FnScope ["self", "at"] ["self", "at"] (C8.fnScope sXStory) := C8.fnScope_by (by decide +kernel)
theorem err_story {fI C : Addr} {fd : FuncData} (F : C8.Fun K "__init__" "InvalidStory.__init__" sXStory fI fd) (df : fd.defaults = .none) (T : OexC K C) (iC : PySem.W.findIn K (.ref C) "__init__" = some (some (.ref fI))) (tI : PySem.W.typeIn K (.ref fI) = some (.type "function"))
    (no : PySem.W.findIn K (.ref C) "at" = some none) (hm : mg "InvalidStory" = some (.ref C)) : Err P w K mg base "InvalidStory" C "at" := by
  refine ⟨fI, fd, ["self", "at"], T, iC, tI, ?_, C8.Fun.binds F df (ps := ["self", "at"]) fun _ _ _ _ _ _ us hl => match us, hl with | [_, _], _ => rfl, hm⟩
  refine C8.fn0 F sc_xStory (fun vs H Q E h => ?_) (fun cdv A outer s H vs Q E hr h => ?_)
  · obtain ⟨a, v, rfl, _⟩ := h
    rfl
  · obtain ⟨a, v, rfl, ha, k⟩ := h
    exact ⟨_, pss_one (ps_ost (pv 0) (pv 1) rfl), _, rfl, _, rfl, a, C, rfl, T, no, .inl ⟨ha, fun dx n ne => k dx n ne⟩⟩
abbrev sStoryI : Stmt := (inClass (top 18) 0)
abbrev nStoryI : List Str := ["self", "occasions", "earliest", "at", "occasion"]
theorem sc_storyI : FnScope nStoryI ["self", "occasions"] (C8.fnScope sStoryI) := C8.fnScope_by (by decide +kernel)
theorem fn_story {f C CI : Addr} {fd : FuncData} (F : C8.Fun K "__init__" "Story.__init__" sStoryI f fd) (T : ClsN K C ["occasions"]) (eS : Err P w K mg base "InvalidStory" CI "at") (mEnum : mg "enumerate" = none) (mTup : mg "tuple" = none) (cS : C8.Cal P w K mg base 1 "is_sequence" (spIsSeq K) [])
    (cO : C8.Cal P w K mg base 3 "is_occasion" (spIsOcc K) []) : FnOk P w K mg base (L2.CX P w) 4 f fd ["self", "occasions"] (spStory K C CI) := by
  refine fnX F sc_storyI (fun vs H Q E h => ?_) (fun cdv A outer s H vs Q E hr h => ?_)
  · obtain ⟨x, dx, v, r, rfl, _⟩ := h
    rfl
  · obtain ⟨x, dx, v, r, rfl, hx, ha, k0, k1⟩ := h
    refine ⟨_, pss_cons (ps_if (pt_not (pt_val (C8.pe_c cS hr (by decide) (by rfl) (pa_cons (pv 1) pa_nil)))) (pss_one (ps_raise rfl (takes_of rfl rfl rfl rfl) (pmk_err eS hr (by decide) (by rfl) (pa_cons pe_int pa_nil)))) pss_nil)
      (pss_cons (ps_set (i := 2) sc_storyI.nd rfl (Or.inl rfl) pe_int)
      (pss_cons (ps_for (passes_of rfl) rfl (pi_enumQ (by rfl) mEnum (pa_cons (pv 1) pa_nil)) (pg_tup rfl (pgs_cons (pg_name (i := 3) sc_storyI.nd rfl (Or.inl rfl)) (pgs_cons (pg_name (i := 4) sc_storyI.nd rfl (Or.inl rfl)) pgs_nil)))
        (pss_cons (ps_if (PW.pt (pw_or (pt_not (pt_val (C8.pe_c cO hr (by decide) (by rfl) (pa_cons (pv 4) pa_nil)))) (pw_or1 (pt_cmpR op_lt (pe_ix ix_tup (pv 4) pe_int (fun _ _ => rfl)) (pv 2) (nomark _)))))
          (pss_one (ps_raise rfl (takes_of rfl rfl rfl rfl) (pmk_err eS hr (by decide) (by rfl) (pa_cons (pv 3) pa_nil)))) pss_nil)
        (pss_one (ps_set (i := 2) sc_storyI.nd rfl (Or.inl rfl) (pe_ix ix_tup (pv 4) pe_int (fun _ _ => rfl))))))
      (pss_one (ps_fld (pv 0) (pe_callTy call_tuple_of (by rfl) mTup PyProof.Rows.boot_tuple (pa_cons (pv 1) pa_nil)) rfl)))), ?_⟩
    cases ha with
    | @no _ k ty nl nt =>
      refine ⟨_, rfl, v, k, rfl, ty, fun H1 s1 => ⟨_, rfl, ?_⟩⟩
      rw [nl, nt]
      refine iteT (mk_ex fun d hd => ?_)
      exact k1 0 rfl _ d (Same.new s1 hd) upd_same
    | @seq a xs os hS hA hl =>
      obtain ⟨k, ty, hk⟩ : ∃ k, TyV K H (.ref a) k ∧ (k.inL || k.inT) = true := by
        rcases hS with h | h
        · exact ⟨_, tyV_list h, rfl⟩
        · exact ⟨_, tyV_tup h, rfl⟩
      refine ⟨_, rfl, _, k, rfl, ty, fun H1 s1 => ⟨_, rfl, ?_⟩⟩
      rw [hk]
      refine iteF ?_
      refine ⟨_, rfl, a, xs, rfl, hS.same s1, fun J G w hG => ?_⟩
      refine for_it w (fun i σ H' => ∃ (v3 v4 : Option V) (e : Int), σ = [some (.ref x), some (.ref a), some (.int e), v3, v4] ∧ Same H1 H' ∧ runT 0 (os.take i) = some e) ⟨_, _, 0, rfl, Same.refl _, rfl⟩
        (fun i σ H' _ ⟨_, _, _, _, s2, _⟩ => hG _ (fun h => s2.seq h) (fun h => Same.sqt s2 h)) ?_ ?_
      · rintro i y σ H2 H3 hi ⟨v3, v4, e, rfl, s2, hrun⟩ ⟨T1, x1, y1, rfl, nT, rfl, e1, e2⟩
        cases e1
        have hio : i < os.length := by
          rw [← hA.1]
          exact hi
        have ho : os[i]? = some os[i] := List.getElem?_eq_getElem hio
        have th := hA.2 i y1 os[i] e2 ho
        have s3 : Same H (upd H2 T1 (.tup [.int (i : Int), y1])) := Same.new (s1.trans s2) nT
        have s4 : Same H1 (upd H2 T1 (.tup [.int (i : Int), y1])) := Same.new s2 nT
        refine ⟨T1, _, rfl, SqT.of upd_same, rfl, _, _, rfl, _, _, rfl, rfl, ?_⟩
        refine ⟨_, rfl, y1, os[i], rfl, th.same s3, fun H4 s5 => ⟨_, rfl, ?_⟩⟩
        have bad : stands e os[i] = false → ∀ (H' : Hp) (d : Addr), Same H H' → H' d = some (.xd [("at", .int (i : Int))]) → E (.ref CI) (some d) H' := fun hb H' d sd hd => by
          refine k1 i ?_ H' d sd hd
          show dueT 0 os = some i
          have e3 : os = os.take i ++ os[i] :: os.drop (i + 1) := by
            rw [← List.drop_eq_getElem_cons hio, List.take_append_drop]
          have := dueT_bad (ps := os.drop (i + 1)) hrun hb
          rw [← e3, List.length_take, Nat.min_eq_left (Nat.le_of_lt hio)] at this
          exact this
        cases eo : occO os[i] with
        | false =>
          refine iteT (iteT ⟨_, rfl, mk_ex fun d hd => ?_⟩)
          exact bad (by simp [stands, eo]) _ d (Same.new (s3.trans s5) hd) upd_same
        | true =>
          have th2 := th.same (s3.trans s5)
          generalize os[i] = oi at ho th th2 bad eo
          cases th2 with
          | no => cases eo
          | tup => cases eo
          | @occ t d n l hT gd gn gl =>
            obtain ⟨d0, rfl, hd0⟩ : ∃ d0 : Int, d = .int d0 ∧ 0 ≤ d0 := by
              cases d with
              | int d0 => exact ⟨d0, rfl, by simpa [occO, numV] using (Bool.and_eq_true_iff.mp eo).1⟩
              | _ => simp [occO, numV] at eo
            refine iteF ⟨_, rfl, t, _, 0, .int d0, rfl, rfl, hT, rfl, _, rfl, _, _, rfl, rfl, _, rfl, ?_⟩
            by_cases hlt : d0 < e
            · rw [decide_eq_true hlt]
              refine iteT ⟨_, rfl, mk_ex fun dd hd => ?_⟩
              exact bad (by rw [stands, eo, show dayO (some (V.int d0, n, l)) = d0 from rfl, Bool.true_and]; exact decide_eq_false (by omega)) _ dd (Same.new (s3.trans s5) hd) upd_same
            · rw [decide_eq_false hlt]
              refine iteF ⟨_, rfl, t, _, 0, .int d0, rfl, rfl, hT, rfl, ?_⟩
              refine ⟨_, _, d0, rfl, s4.trans s5, ?_⟩
              rw [take_snoc ho]
              exact runT_snoc hrun (by rw [stands, eo, show dayO (some (V.int d0, n, l)) = d0 from rfl, Bool.true_and]; exact decide_eq_true (by omega))
      · rintro σ H2 ⟨v3, v4, e, rfl, s2, hrun⟩
        rw [hA.1, List.take_length] at hrun
        have s3 := s1.trans s2
        have hx2 := s3 _ _ hx
        refine ⟨_, rfl, a, xs, rfl, ?_⟩
        rcases hS with hS | hS
        · refine .inl ⟨s3.seq hS, fun l nl => ?_⟩
          have s4 : Same H (upd H2 l (.tup xs)) := Same.new s3 nl
          have hx3 := s4 _ _ hx
          have lx : l ≠ x := (ne_of_none hx2 nl).symm
          refine ⟨_, rfl, x, C, dx, [], rfl, hx3, T.cl, T.no _ (by simp), by decide, ?_⟩
          refine k0 xs os rfl (dueT_ok hrun) _ l upd_same (SqT.of ?_) (Same.but s4).at
          rw [upd_ne lx, upd_same]
        · refine .inr ⟨Same.sqt s3 hS, ?_⟩
          refine ⟨_, rfl, x, C, dx, [], rfl, hx2, T.cl, T.no _ (by simp), by decide, ?_⟩
          exact k0 xs os rfl (dueT_ok hrun) _ a upd_same ((Same.but s3).at.sqt hx hS) (Same.but s3).at
abbrev sFurther : Stmt := (inClass (top 18) 3)
theorem sc_further : FnScope ["self", "occasions"] ["self", "occasions"] (C8.fnScope sFurther) := C8.fnScope_by (by decide +kernel)
theorem met_further {f C CI : Addr} {fd : FuncData} (F : C8.Fun K "further" "Story.further" sFurther f fd) (df : fd.defaults = .none) (T : ClsN K C ["occasions"]) (me : Meth K C "further" f) (eS : Err P w K mg base "InvalidStory" CI "at") (mLen : mg "len" = none) (cS : C8.Cal P w K mg base 1 "is_sequence" (spIsSeq K) [])
    (mS : MakX P w K mg base 4 "Story" C (spStory K C CI) []) : MetX P w K mg base 6 C "further" (spFurther K C CI) [] := by
  refine ⟨f, fd, ["self", "occasions"], [], T.cl, me, fnX F sc_further (fun vs H Q E h => ?_) (fun cdv A outer s H vs Q E hr h => ?_), C8.Fun.binds F df (ps := ["self", "occasions"]) fun _ _ _ _ _ _ us hl => match us, hl with | [_, _], _ => rfl, .nil⟩
  · obtain ⟨x, os0, v, r, rfl, _⟩ := h
    rfl
  · obtain ⟨x, os0, v, r, rfl, hx, ha, hlr, k0, k1⟩ := h
    refine ⟨_, pss_cons (ps_if (pt_not (pt_val (C8.pe_c cS hr (by decide) (by rfl) (pa_cons (pv 1) pa_nil)))) (pss_one (ps_raise rfl (takes_of rfl rfl rfl rfl) (pmk_err eS hr (by decide) (by rfl) (pa_cons (pe_callB call_len_seq (by rfl) mLen PySem.boot_len (pa_cons (pe_fld (pv 0) rfl) pa_nil)) pa_nil)))) pss_nil)
      (pss_one (ps_ret (pe_mkX mS hr (by decide) (passesUp (takes_of rfl rfl rfl rfl)) (by rfl) (pa_cons (pe_lst (StX.pa_star (pe_fld (pv 0) rfl) (StX.pa_star (pv 1) pa_nil))) pa_nil)))), ?_⟩
    cases ha with
    | @no _ k ty nl nt =>
      refine ⟨_, rfl, v, k, rfl, ty, fun H1 s1 => ⟨_, rfl, ?_⟩⟩
      rw [nl, nt]
      obtain ⟨dx, t, ys, g1, g2, g3, g4⟩ := hx.same s1
      refine iteT ⟨_, rfl, x, C, dx, _, .ref t, rfl, g1, T.cl, T.no _ (by simp), rfl, t, ys, rfl, .inr g2, mk_ex fun d hd => ?_⟩
      refine k1 os0.length rfl _ d (Same.new s1 hd) ?_
      rw [upd_same, g3.1]
    | @seq a xs os hS hA hl =>
      obtain ⟨k, ty, hk⟩ : ∃ k, TyV K H (.ref a) k ∧ (k.inL || k.inT) = true := by
        rcases hS with h | h
        · exact ⟨_, tyV_list h, rfl⟩
        · exact ⟨_, tyV_tup h, rfl⟩
      refine ⟨_, rfl, _, k, rfl, ty, fun H1 s1 => ⟨_, rfl, ?_⟩⟩
      rw [hk]
      obtain ⟨dx, t, ys, g1, g2, g3, g4⟩ := hx.same s1
      refine iteF ⟨_, rfl, x, C, dx, _, .ref t, rfl, g1, T.cl, T.no _ (by simp), rfl, t, ys, rfl, .inl g2, _, rfl, a, xs, rfl, ?_, ?_, fun l nl => ?_⟩
      · exact (hS.same s1).symm
      · rw [List.append_nil, List.length_append]
        exact Nat.le_of_lt (Nat.lt_of_le_of_lt (Nat.add_le_add g4 hl) (by decide))
      · rw [List.append_nil]
        have s2 : Same H (upd H1 l (.lst (ys ++ xs))) := Same.new s1 nl
        intro y dy ny ndy ne
        have sm := Same.made (C := C) ny ndy
        have s2 : Same H1 (upd H1 l (.lst (ys ++ xs))) := Same.new (Same.refl _) nl
        have hall : ThAll K (upd (upd (upd H1 l (.lst (ys ++ xs))) dy (.own y)) y (.ins C dy [])) (ys ++ xs) (os0 ++ os) := (g3.append (hA.same s1)).same (s2.trans sm)
        have hlen : (ys ++ xs).length ≤ 1000 := by
          have h1 := g3.1
          have h2 : os0.length + xs.length ≤ 1000 := hlr
          rw [List.length_append]
          omega
        refine ⟨y, dy, .ref l, some (ys ++ xs, os0 ++ os), rfl, upd_same, .seq (.inl (SqL.of (sm _ _ upd_same))) hall hlen, fun xs' os' e hd H' t hx' hS' hb => ?_, fun i hi H' d sd hd => k1 i hi H' d (s1.trans (s2.trans (sm.trans sd))) hd⟩
        cases e
        have sH := s2.trans (But.made ny ndy hb)
        exact ⟨rfl, k0 xs os rfl hd y H' (s1.trans sH) ⟨dy, t, _, hx', hS', (g3.append (hA.same s1)).same sH, hlen⟩⟩
end
end Ts

namespace Ts
open PySem L2
section
variable {P : Program} {w : World} {K : PySem.W.Frag} {mg : Str → Option Value} {base : Heap}
abbrev sDrawn : Stmt := (top 26)
theorem sc_drawn : FnScope ["_law_box", "_law_many", "_law_found", "_law_today", "_law_turn", "_law_long"] ["_law_box", "_law_many"] (C8.fnScope sDrawn) := C8.fnScope_by (by decide +kernel)
theorem cal_drawn {f : Addr} {fd : FuncData} (F : C8.Def K mg "_law_drawn" sDrawn f fd) (df : fd.defaults = .none) (mRange : mg "range" = none) (cO : C8.Cal P w K mg base 2 "_law_one_of" (spOneOf K) []) : C8.Cal P w K mg base 3 "_law_drawn" (spDrawn K) [] := by
  refine C8.cal0 F (C8.Fun.binds F.fn df (ps := ["_law_box", "_law_many"]) fun _ _ _ _ _ _ us hl => match us, hl with | [_, _], _ => rfl) .nil sc_drawn (fun vs H Q E h => ?_) (fun cdv A outer s H vs Q E hr h => ?_)
  · obtain ⟨B, m, rfl, _⟩ := h
    rfl
  · obtain ⟨B, m, rfl, bx, m0, m1, k⟩ := h
    refine ⟨_, pss_cons (ps_par (i := 2) (j := 3) (by rfl) sc_drawn.nd rfl rfl (by decide) rfl rfl (pa_cons (pe_lst pa_nil) (pa_cons pe_int pa_nil)) (by rfl))
      (pss_cons (ps_for PassesOwn.never rfl (pi_range1 (by rfl) mRange (pa_cons (pv 1) pa_nil)) (pg_name (i := 4) sc_drawn.nd rfl (Or.inl rfl))
        (pss_cons (ps_set (i := 3) sc_drawn.nd rfl (Or.inl rfl) (pe_op op_add (pv 3) (C8.pe_c cO hr (by decide) (by rfl) (pa_cons (pv 0) (pa_cons (pe_lst (pa_cons pe_int (pa_cons pe_int (pa_cons pe_int (pa_cons pe_int (pa_cons pe_int (pa_cons pe_int (pa_cons (pe_op op_pow pe_int pe_int) pa_nil)))))))) pa_nil)))))
        (pss_cons (ps_set (i := 5) sc_drawn.nd rfl (Or.inl rfl) (pe_op op_add pe_int (C8.pe_c cO hr (by decide) (by rfl) (pa_cons (pv 0) (pa_cons (pe_lst (pa_cons pe_int (pa_cons pe_int (pa_cons pe_int (pa_cons pe_int (pa_cons (pe_op op_pow pe_int pe_int) pa_nil)))))) pa_nil)))))
        (pss_one (ps_expr (pe_bm PySem.F.plainAttrs_list PySem.F.slot_list_append PySem.F.type_list_append mt_append (pv 2) (pa_cons (pe_tup (pa_cons (pv 3) (pa_cons (C8.pe_c cO hr (by decide) (by rfl) (pa_cons (pv 0) (pa_cons (pe_lst (pa_cons pe_str (pa_cons pe_str (pa_cons pe_str (pa_cons pe_str (pa_cons pe_str (pa_cons pe_str pa_nil))))))) pa_nil))) (pa_cons (pv 5) pa_nil)))) pa_nil)))))))
      (pss_one (ps_ret (pv 2)))), ?_⟩
    refine ⟨Nat.zero_le _, fun p np => ⟨_, _, rfl, ?_⟩⟩
    have pB := bx.ne np
    refine ⟨_, rfl, m, rfl, by omega, by omega, for_range (lo := 0) (n := m.toNat) (fun i σ H' => ∃ (v4 v5 : Option V) (xs : List V) (os : List Th) (e : Int), σ = [some (.ref B), some (.int m), some (.ref p), some (.int e), v4, v5] ∧ ThAll K H' xs os ∧ runT 0 os = some e ∧ (∀ o ∈ os, dayO o ≤ (i : Int) * 10 ^ 15) ∧ e ≤ (i : Int) * 10 ^ 15 ∧ os.length = i ∧ GoB B H H' ∧ H' p = some (.lst xs))
      ⟨_, _, [], [], 0, rfl, .nil, rfl, (fun o ho => by cases ho), by decide, rfl, (GoB.refl bx).new np, upd_same⟩ ?_ ?_⟩
    · rintro i σ H1 hi ⟨v4, v5, xs, os, e, rfl, hA, hrun, hhi, htop, hlen, W, hp⟩
      have he0 : 0 ≤ e := run_le hrun
      refine ⟨_, rfl, _, rfl, _, _, rfl, rfl, ⟨by decide, by decide, by decide⟩, (by show 7 ≤ sizeLine; decide), fun l nl => ?_⟩
      have lB := W.d.ne nl
      refine ⟨B, l, _, rfl, W.d.same (Same.new (Same.refl _) nl), SqL.of upd_same, lB, by decide, by decide, fun v H2 hv W2 => ?_⟩
      obtain ⟨d, rfl, d0, d1⟩ := intB_of (lo := 0) (hi := 10 ^ 15) (by decide) hv
      have W12 : GoB B H1 H2 := ((GoB.refl W.d).new nl).trans W2
      refine ⟨_, _, rfl, rfl, ?_⟩
      refine ⟨_, rfl, _, _, rfl, rfl, ⟨by decide, by decide, by decide⟩, (by show 5 ≤ sizeLine; decide), fun l2 nl2 => ?_⟩
      have lB2 := W2.d.ne nl2
      refine ⟨B, l2, _, rfl, W2.d.same (Same.new (Same.refl _) nl2), SqL.of upd_same, lB2, by decide, by decide, fun v2 H3 hv2 W3 => ?_⟩
      obtain ⟨g, rfl, g0, g1⟩ := intB_of (lo := 0) (hi := 10 ^ 16) (by decide) hv2
      have W13 : GoB B H1 H3 := W12.trans (((GoB.refl W2.d).new nl2).trans W3)
      refine ⟨_, _, rfl, rfl, ?_⟩
      have hp3 := W13.k _ _ pB hp
      refine ⟨_, rfl, .inl ⟨rfl, _, SqL.of hp3⟩, _, rfl, _, rfl, (by show 6 ≤ sizeLine; decide), fun l3 nl3 => ?_⟩
      have lB3 := W3.d.ne nl3
      refine ⟨B, l3, _, rfl, W3.d.same (Same.new (Same.refl _) nl3), SqL.of upd_same, lB3, by decide, by decide, fun v3 H4 hv3 W4 => ?_⟩
      have hn : nameV v3 = true ∧ flatB v3 = true := Bool.and_eq_true_iff.mp (List.all_eq_true.mp (show (List.all _ nameG = true) by decide +kernel) v3 hv3)
      have W14 : GoB B H1 H4 := W13.trans (((GoB.refl W3.d).new nl3).trans W4)
      refine ⟨_, rfl, (by show 3 ≤ sizeLine; decide), fun t nt => ?_⟩
      have hp4 := W14.k _ _ pB hp
      have tp : p ≠ t := ne_of_none hp4 nt
      have s5 : Same H4 (upd H4 t (.tup [.int (e + d), v3, .int (1 + g)])) := Same.new (Same.refl _) nt
      have W15 : GoB B H1 (upd H4 t (.tup [.int (e + d), v3, .int (1 + g)])) := W14.same s5
      refine ⟨p, xs, _, rfl, rfl, s5 _ _ hp4, small1000 (by rw [hA.1]; omega), ?_⟩
      have occ1 : occO (some (.int (e + d), v3, .int (1 + g))) = true := by
        have h1 : numV (.int (e + d)) = true := decide_eq_true (by omega)
        have h2 : cntV (.int (1 + g)) = true := decide_eq_true (by omega)
        simp [occO, h1, h2, hn.1]
      have allocc : ∀ o ∈ os ++ [some (V.int (e + d), v3, V.int (1 + g))], occO o = true := fun o ho => by
        rcases List.mem_append.mp ho with h | h
        · exact run_occ hrun o h
        · rw [List.mem_singleton.mp h]
          exact occ1
      have th1 : ThV K (upd H4 t (.tup [.int (e + d), v3, .int (1 + g)])) (.ref t) (some (.int (e + d), v3, .int (1 + g))) := .occ (SqT.of upd_same) ⟨_, tyV_int⟩ (goodFlat hn.2) ⟨_, tyV_int⟩
      refine ⟨_, _, xs ++ [.ref t], os ++ [some (.int (e + d), v3, .int (1 + g))], e + d, rfl, ((hA.gob W.d W15).append (.one th1)).mut (s5 _ _ hp4) allocc, runT_snoc hrun ?_, fun o ho => ?_, ?_, by rw [List.length_append, hlen]; rfl, ?_, upd_same⟩
      · rw [stands, occ1, Bool.true_and]
        exact decide_eq_true (show e ≤ e + d by omega)
      · rcases List.mem_append.mp ho with h | h
        · have := hhi o h
          omega
        · rw [List.mem_singleton.mp h]
          show e + d ≤ _
          omega
      · omega
      · exact (W.trans W15).mut np pB
    · rintro σ H1 ⟨v4, v5, xs, os, e, rfl, hA, hrun, hhi, htop, hlen, W, hp⟩
      refine ⟨_, rfl, k p xs os e H1 ⟨hA, hrun, fun o ho => ?_, ?_⟩ hlen W np hp⟩
      · have := hhi o ho
        omega
      · omega
end
end Ts

namespace Ts
open PySem L2
section
variable {P : Program} {w : World} {K : PySem.W.Frag} {mg : Str → Option Value} {base : Heap}
abbrev sAny : Stmt := (top 27)
abbrev nAny : List Str := ["_law_box", "_law_deep", "_law_form", "_law_some", "_law_inner", "_law_turn"]
theorem sc_any : FnScope nAny ["_law_box", "_law_deep"] (C8.fnScope sAny) := C8.fnScope_by (by decide +kernel)
theorem cal_any {f : Addr} {fd : FuncData} (F : C8.Def K mg "_law_anything" sAny f fd) (df : fd.defaults = .none) (mRange : mg "range" = none) (mTup : mg "tuple" = none) (cC : C8.Cal P w K mg base 1 "_law_choose" spChoose []) (cO : C8.Cal P w K mg base 2 "_law_one_of" (spOneOf K) []) :
    ∀ n : Nat, C8.Cal P w K mg base (n + 3) "_law_anything" (spAnything K n) [] := by
  intro n
  have flats : ([.non, .bl true, .bl false, .int 0, .int 1, .int (-3), .int (10 ^ 17), .str "", .str "any", .str "owe", .str "5 owe 1", .str "Owe"] : List V).all flatB = true := by decide +kernel
  have fin : ∀ (B : Addr) (H1 : Hp) (Q : VK), BoxAt H1 B → (∀ (v : V) (H' : Hp), ThV K H' v none → GoB B H1 H' → Q v H') → ∀ t1, H1 t1 = none → ∀ t2, upd H1 t1 (.tup [.int 3, .str "owe"]) t2 = none → ∀ l3, upd (upd H1 t1 (.tup [.int 3, .str "owe"])) t2 (.tup []) l3 = none →
      ∀ l, upd (upd (upd H1 t1 (.tup [.int 3, .str "owe"])) t2 (.tup [])) l3 (.lst []) l = none → spOneOf K [.ref B, .ref l] (upd (upd (upd (upd H1 t1 (.tup [.int 3, .str "owe"])) t2 (.tup [])) l3 (.lst [])) l (.lst [.non, .bl true, .bl false, .int 0, .int 1, .int (-3), .int (10 ^ 17), .str "", .str "any", .str "owe", .str "5 owe 1", .str "Owe", .ref t1, .ref t2, .ref l3])) Q C8.E0 := by
    intro B H1 Q bx k t1 n1 t2 n2 l3 n3 l nl
    have sA : Same H1 (upd H1 t1 (.tup [.int 3, .str "owe"])) := Same.new (Same.refl _) n1
    have sB : Same (upd H1 t1 (.tup [.int 3, .str "owe"])) (upd (upd H1 t1 (.tup [.int 3, .str "owe"])) t2 (.tup [])) := Same.new (Same.refl _) n2
    have sC : Same (upd (upd H1 t1 (.tup [.int 3, .str "owe"])) t2 (.tup [])) (upd (upd (upd H1 t1 (.tup [.int 3, .str "owe"])) t2 (.tup [])) l3 (.lst [])) := Same.new (Same.refl _) n3
    have h1 := sC _ _ (sB _ _ (upd_same (H := H1) (a := t1) (o := .tup [.int 3, .str "owe"])))
    have h2 := sC _ _ (upd_same (H := upd H1 t1 (.tup [.int 3, .str "owe"])) (a := t2) (o := .tup []))
    have h3 := upd_same (H := upd (upd H1 t1 (.tup [.int 3, .str "owe"])) t2 (.tup [])) (a := l3) (o := .lst [])
    have sH := sA.trans (sB.trans sC)
    generalize upd (upd (upd H1 t1 (.tup [.int 3, .str "owe"])) t2 (.tup [])) l3 (.lst []) = H2 at *
    have sD : ∀ o : HO, Same H2 (upd H2 l o) := fun o => Same.new (Same.refl _) nl
    have b2 := bx.same sH
    refine ⟨B, l, _, rfl, b2.same (sD _), SqL.of upd_same, b2.ne nl, (by show 0 < 15; decide), (by show 15 ≤ 1000; decide), fun v H' hv W => ?_⟩
    have W2 : GoB B H1 H' := ((GoB.refl bx).same (sH.trans (sD _))).trans W
    refine k v H' ?_ W2
    have : ThV K (upd H2 l (.lst [.non, .bl true, .bl false, .int 0, .int 1, .int (-3), .int (10 ^ 17), .str "", .str "any", .str "owe", .str "5 owe 1", .str "Owe", .ref t1, .ref t2, .ref l3])) v none := by
      rcases List.mem_append.mp (show v ∈ ([.non, .bl true, .bl false, .int 0, .int 1, .int (-3), .int (10 ^ 17), .str "", .str "any", .str "owe", .str "5 owe 1", .str "Owe"] : List V) ++ [.ref t1, .ref t2, .ref l3] from hv) with h | h
      · exact .flat (List.all_eq_true.mp flats v h)
      · simp only [List.mem_cons, List.not_mem_nil, or_false] at h
        rcases h with rfl | rfl | rfl
        · exact .tup (SqT.of (sD _ _ _ h1)) (by decide)
        · exact .tup (SqT.of (sD _ _ _ h2)) (by decide)
        · exact .no (tyV_list (SqL.of (sD _ _ _ h3))) (by decide)
    exact this.gob (b2.same (sD _)) W
  induction n with
  | zero =>
    refine C8.cal0 F (C8.Fun.binds F.fn df (ps := ["_law_box", "_law_deep"]) fun _ _ _ _ _ _ us hl => match us, hl with | [_, _], _ => rfl) .nil sc_any (fun vs H Q E h => ?_) (fun cdv A outer s H vs Q E hr h => ?_)
    · obtain ⟨B, n, rfl, _⟩ := h
      rfl
    · obtain ⟨B, deep, rfl, bx, d0, d1, k⟩ := h
      have hd : deep = 0 := by omega
      subst hd
      refine ⟨_, pss_cons (ps_set (i := 2) sc_any.nd rfl (Or.inl rfl) (C8.pe_c cC hr (by decide) (by rfl) (pa_cons (pv 0) (pa_cons pe_int pa_nil))))
        (pss_cons (ps_if (PW.pt (pw_or (pt_cmpR op_lt (pv 1) pe_int (nomark _)) (pw_or1 (pt_cmpR op_lt (pv 2) pe_int (nomark _)))))
          (pss_cons (ps_set (i := 3) sc_any.nd rfl (Or.inl rfl) (pe_lst (pa_cons pe_non (pa_cons pe_bl (pa_cons pe_bl (pa_cons pe_int (pa_cons pe_int (pa_cons (pe_un un_neg pe_int) (pa_cons (pe_op op_pow pe_int pe_int) (pa_cons pe_str (pa_cons pe_str (pa_cons pe_str (pa_cons pe_str (pa_cons pe_str
              (pa_cons (pe_tup (pa_cons pe_int (pa_cons pe_str pa_nil))) (pa_cons (pe_tup pa_nil) (pa_cons (pe_lst pa_nil) pa_nil)))))))))))))))))
          (pss_one (ps_ret (C8.pe_c cO hr (by decide) (by rfl) (pa_cons (pv 0) (pa_cons (pv 3) pa_nil)))))) pss_nil)
        pss_never), ?_⟩
      refine ⟨_, rfl, B, 9, rfl, bx, by decide, by decide, fun fm H1 f0 f1 W1 => ?_⟩
      refine ⟨_, rfl, _, _, rfl, rfl, _, rfl, iteT (iteT ?_)⟩
      refine ⟨_, rfl, _, _, rfl, rfl, ⟨by decide, by decide, by decide⟩, (by show 2 ≤ sizeLine; decide), fun t1 n1 => ⟨Nat.zero_le _, fun t2 n2 => ⟨Nat.zero_le _, fun l3 n3 => ⟨(by show 15 ≤ sizeLine; decide), fun l nl => ?_⟩⟩⟩⟩
      exact ⟨_, rfl, _, rfl, fin B H1 _ W1.d (fun v H' t W => k v H' t (W1.trans W)) t1 n1 t2 n2 l3 n3 l nl⟩
  | succ n ih =>
    refine C8.cal0 F (C8.Fun.binds F.fn df (ps := ["_law_box", "_law_deep"]) fun _ _ _ _ _ _ us hl => match us, hl with | [_, _], _ => rfl) .nil sc_any (fun vs H Q E h => ?_) (fun cdv A outer s H vs Q E hr h => ?_)
    · obtain ⟨B, n, rfl, _⟩ := h
      rfl
    · obtain ⟨B, deep, rfl, bx, d0, d1, k⟩ := h
      refine ⟨_, pss_cons (ps_set (i := 2) sc_any.nd rfl (Or.inl rfl) (C8.pe_c cC hr (by omega) (by rfl) (pa_cons (pv 0) (pa_cons pe_int pa_nil))))
        (pss_cons (ps_if (PW.pt (pw_or (pt_cmpR op_lt (pv 1) pe_int (nomark _)) (pw_or1 (pt_cmpR op_lt (pv 2) pe_int (nomark _)))))
          (pss_cons (ps_set (i := 3) sc_any.nd rfl (Or.inl rfl) (pe_lst (pa_cons pe_non (pa_cons pe_bl (pa_cons pe_bl (pa_cons pe_int (pa_cons pe_int (pa_cons (pe_un un_neg pe_int) (pa_cons (pe_op op_pow pe_int pe_int) (pa_cons pe_str (pa_cons pe_str (pa_cons pe_str (pa_cons pe_str (pa_cons pe_str
              (pa_cons (pe_tup (pa_cons pe_int (pa_cons pe_str pa_nil))) (pa_cons (pe_tup pa_nil) (pa_cons (pe_lst pa_nil) pa_nil)))))))))))))))))
          (pss_one (ps_ret (C8.pe_c cO hr (by omega) (by rfl) (pa_cons (pv 0) (pa_cons (pv 3) pa_nil)))))) pss_nil)
        (pss_cons (ps_setLc (i := 4) (own := [("_law_turn", 5)]) (g := gName 5) (by rfl) sc_any.nd rfl rfl (sw_true rfl rfl rfl (by decide +kernel)) (pi_range1 (by rfl) mRange (pa_cons (C8.pe_c cC hr (by omega) (by rfl) (pa_cons (pv 0) (pa_cons pe_int pa_nil))) pa_nil))
                (blkOk_by (own := [("_law_turn", 5)]) (N := nAny) (sc := C8.fnScope sAny) (by decide +kernel)) (fun _ _ _ _ _ => pg_name (i := 5) sc_any.nd rfl (Or.inl rfl)) (fun _ _ _ _ _ => pts_nil)
                (fun _ _ _ _ _ => C8.pe_c ih hr (by omega) (by rfl) (pa_cons (pv 0) (pa_cons (pe_op op_sub (pv 1) pe_int) pa_nil))))
        (pss_one (ps_ret (pe_ifExp (pt_cmpR op_lt (pv 2) pe_int (nomark _)) (pe_callTy call_tuple_of (by rfl) mTup PyProof.Rows.boot_tuple (pa_cons (pv 4) pa_nil)) (pv 4)))))), ?_⟩
      refine ⟨_, rfl, B, 9, rfl, bx, by decide, by decide, fun fm H1 f0 f1 W1 => ?_⟩
      refine ⟨_, rfl, _, _, rfl, rfl, _, rfl, ?_⟩
      by_cases e1 : deep < 1
      · rw [decide_eq_true e1]
        refine iteT (iteT ?_)
        refine ⟨_, rfl, _, _, rfl, rfl, ⟨by decide, by decide, by decide⟩, (by show 2 ≤ sizeLine; decide), fun t1 n1 => ⟨Nat.zero_le _, fun t2 n2 => ⟨Nat.zero_le _, fun l3 n3 => ⟨(by show 15 ≤ sizeLine; decide), fun l nl => ?_⟩⟩⟩⟩
        exact ⟨_, rfl, _, rfl, fin B H1 _ W1.d (fun v H' t W => k v H' t (W1.trans W)) t1 n1 t2 n2 l3 n3 l nl⟩
      · rw [decide_eq_false e1]
        refine iteF ⟨_, rfl, _, _, rfl, rfl, _, rfl, ?_⟩
        by_cases e2 : fm < 5
        · rw [decide_eq_true e2]
          refine iteT ?_
          refine ⟨_, rfl, _, _, rfl, rfl, ⟨by decide, by decide, by decide⟩, (by show 2 ≤ sizeLine; decide), fun t1 n1 => ⟨Nat.zero_le _, fun t2 n2 => ⟨Nat.zero_le _, fun l3 n3 => ⟨(by show 15 ≤ sizeLine; decide), fun l nl => ?_⟩⟩⟩⟩
          exact ⟨_, rfl, _, rfl, fin B H1 _ W1.d (fun v H' t W => k v H' t (W1.trans W)) t1 n1 t2 n2 l3 n3 l nl⟩
        · rw [decide_eq_false e2]
          refine iteF ?_
          refine ⟨_, rfl, B, 3, rfl, W1.d, by decide, by decide, fun m H2 m0 m1 W2 => ⟨m, rfl, by omega, by omega, fun d hd => lc_range (lo := 0) (n := m.toNat)
            (fun i H' => ∃ xs, H' d = some (.lst xs) ∧ xs.length = i ∧ GoB B H2 H') ⟨[], upd_same, rfl, (GoB.refl W2.d).new hd⟩ ?_ ?_⟩⟩
          · rintro i H3 hi ⟨xs, h1, h2, W3⟩
            have dB := W2.d.ne hd
            refine ⟨rfl, yes_ ⟨_, rfl, _, rfl, _, _, rfl, rfl, B, deep - 1, rfl, W3.d, by omega, by omega, fun v H4 t W4 => ?_⟩⟩
            exact ⟨xs, W4.k _ _ dB h1, small1000 (by omega), xs ++ [v], upd_same, by rw [List.length_append, List.length_singleton, h2], (W3.trans W4).mut hd dB⟩
          · rintro H3 ⟨xs, h1, h2, W3⟩
            have W := (W1.trans W2).trans W3
            refine ⟨_, rfl, _, _, rfl, rfl, _, rfl, ?_⟩
            refine ite2 (fun _ => ?_) (fun _ => ?_)
            · exact ⟨_, rfl, d, _, rfl, .inl ⟨SqL.of h1, fun t nt => k _ _ (.tup (SqT.of upd_same) (by omega)) (W.new nt)⟩⟩
            · exact ⟨_, rfl, k _ _ (.no (tyV_list (SqL.of h1)) (by decide)) W⟩
end
end Ts

namespace Ts
open PySem L2
/-- what the text says of the errors of stories -/
structure ErrT (K : PySem.W.Frag) (mg : Str → Option Value) (CI CT CR : Addr) : Prop where
  ec : ExcC K CI
  xf : XfC K CI
  no : PySem.W.findIn K (.ref CI) "at" = some none
  te : PySem.W.exmOne K (.ref CI) (.ref CI) = some true
  k1 : PySem.W.kitOne K (.ref CI) (.ref CT) = some true
  k2 : PySem.W.kitOne K (.ref CI) (.ref CR) = some false
  gI : mg "InvalidStory" = some (.ref CI)
  gT : mg "TermError" = some (.ref CT)
  gR : mg "InvalidText" = some (.ref CR)
section
variable {P : Program} {w : World} {K : PySem.W.Frag} {mg : Str → Option Value} {base : Heap}
abbrev sTried : Stmt := (top 28)
abbrev nTried : List Str := ["_law_value", "_law_ahead", "_law_found", "e"]
theorem sc_tried : FnScope nTried ["_law_value", "_law_ahead"] (C8.fnScope sTried) := C8.fnScope_by (by decide +kernel)
theorem cal_tried {f CI CT CR C g : Addr} {fd gd : FuncData} {ps : List Str} (F : C8.Def K mg "_law_tried" sTried f fd) (df : fd.defaults = .none) (T : ErrT K mg CI CT CR) (mIsi : mg "isinstance" = none)
    (mS : MakX P w K mg base 4 "Story" C (spStory K C CI) []) (cl : Cls K C) (meF : Meth K C "further" g) (fF : FnOk P w K mg base (L2.CX P w) 6 g gd ps (spFurther K C CI)) (bF : Binds K gd ps []) : C8.Cal P w K mg base 7 "_law_tried" (spTried K C) [] := by
  refine C8.cal0 F (C8.Fun.binds F.fn df (ps := ["_law_value", "_law_ahead"]) fun _ _ _ _ _ _ us hl => match us, hl with | [_, _], _ => rfl) .nil sc_tried (fun vs H Q E h => ?_) (fun cdv A outer s H vs Q E hr h => ?_)
  · obtain ⟨v, z, r, os0, rfl, _⟩ := h
    rfl
  · obtain ⟨v, z, r, os0, rfl, ha, hl, hz, k⟩ := h
    refine ⟨_, pss_cons (ps_set (i := 2) sc_tried.nd rfl (Or.inl rfl) pe_non)
      (pss_cons (ps_try_as (i := 3) rfl rfl sc_tried.nd rfl rfl ⟨rfl, by decide, .inl T.gI⟩ takes0
        (fun W pn xe tk _ => pss_one (ps_if (pt_cmpR op_isN (pv 1) pe_non (nomark _))
            (pss_one (ps_expr (pe_mkX mS hr (by decide) (passesN 4 tk rfl) (by rfl) (pa_cons (pv 0) pa_nil))))
            (pss_one (ps_expr (pe_meth (pv 1) cl meF fF (hr.mono (by decide)) bF .nil (passesN 4 tk rfl) (pa_cons (pv 0) pa_nil))))))
        (fun a oe cls d pn hz hf => pss_one (ps_set (i := 2) sc_tried.nd rfl (Or.inl rfl) (pe_ifExp
            (PW.pt (pw_and (pt_val (pe_callB (r := rIsD K CI a cls d) (call_isD T.ec hz hf) (by rfl) mIsi PyProof.Rows.boot_isinstance (pa_cons (pv 3) (pa_cons (pe_glob (v := .ref CT) (by rfl) T.gT rfl) pa_nil))))
              (pw_and1 (pt_not (pt_val (pe_callB (r := rIsD K CI a cls d) (call_isD T.ec hz hf) (by rfl) mIsi PyProof.Rows.boot_isinstance (pa_cons (pv 3) (pa_cons (pe_glob (v := .ref CR) (by rfl) T.gR rfl) pa_nil))))))))
            (pe_xf T.xf T.no hz hf (pv 3)) pe_str))))
      (pss_one (ps_ret (pv 2)))), ?_⟩
    have suite : ∀ (σ : L2.St) (i : Nat) (H' : Hp) (d : Addr), σ.length = 4 → dueG os0 r = some i → Same H H' → H' d = some (.xd [("at", .int i)]) →
        wAs K (.ref CI) 3 (fun a cls d => tAsg (tIf (tAnd (tB (tCB (rIsD K CI a cls d) (tCons (tVar 3) (tCons (tC (.ref CT)) tNil)))) (tNot (tB (tCB (rIsD K CI a cls d) (tCons (tVar 3) (tCons (tC (.ref CR)) tNil)))))) (tXf a cls d CI "at" (tVar 3)) (tC (.str "other"))) (gName 2)) (fun _ _ _ _ => False)
          { nx := fun σ' H' => ∃ v, σ'[2]? = some (some v) ∧ Q v H', rt := Q } (.ref CI) (some d) σ H' := by
      intro σ i H' d hσ hd s1 hx
      match σ, hσ with
      | [x0, x1, x2, x3], _ =>
        refine ⟨true, T.te, fun _ a na => ?_, fun z => nomatch z⟩
        refine ⟨_, rfl, _, _, true, d, _, rfl, (fun u r => r), rfl, rfl, hx, T.k1, _, rfl, iteT ?_⟩
        refine ⟨_, rfl, _, _, false, d, _, rfl, (fun u r => r), rfl, rfl, hx, T.k2, _, rfl, iteT ?_⟩
        refine ⟨_, rfl, rfl, rfl, d, _, .int i, rfl, hx, ?_, ?_⟩
        · simp [List.lookup]
        · refine ⟨_, rfl, ?_⟩
          have := k H' s1
          rw [hd] at this
          exact this
    rcases hz with ⟨rfl, rfl⟩ | ⟨s0, rfl, hs⟩
    · refine ⟨_, rfl, rfl, _, rfl, iteT ⟨_, rfl, fun x dx nx ndx ne => ?_⟩⟩
      have sm := Same.made (C := C) nx ndx
      refine ⟨x, dx, v, r, rfl, upd_same, ha.same sm, fun xs os e hd H' t hx hS hb => ⟨rfl, ?_⟩, fun i hi H' dd s1 hx σ hσ => ?_⟩
      · refine ⟨_, rfl, ?_⟩
        have := k H' (But.made nx ndx hb)
        rw [e] at this
        rw [show dueG [] (some (xs, os)) = dueT 0 os from rfl, hd] at this
        exact this
      · refine suite σ i H' dd hσ ?_ (sm.trans s1) hx
        cases r with
        | none => exact hi
        | some p => exact hi
    · refine ⟨_, rfl, rfl, _, rfl, iteF ⟨_, rfl, ?_⟩⟩
      obtain ⟨dx, t, xs0, g1, g2, g3, g4⟩ := id hs
      refine ⟨s0, dx, _, rfl, g1, rfl, _, rfl, ?_⟩
      refine ⟨s0, os0, v, r, rfl, hs, ha, hl, fun xs os e hd y H' s1 hy => ?_, fun i hi H' dd s1 hx σ hσ => ?_⟩
      · refine ⟨_, rfl, ?_⟩
        have := k H' s1
        rw [e] at this
        rw [show dueG os0 (some (xs, os)) = dueT 0 (os0 ++ os) from rfl, hd] at this
        exact this
      · refine suite σ i H' dd hσ ?_ s1 hx
        cases r with
        | none => exact hi
        | some p => exact hi
end
end Ts

namespace Ts
open PySem L2
section
variable {P : Program} {w : World} {K : PySem.W.Frag} {mg : Str → Option Value} {base : Heap}
abbrev sLaw : Stmt := (top 29)
abbrev nLaw : List Str := ["_law_script", "_law_k", "_law_box", "_law_turn", "_law_row", "_law_at", "_law_day", "_law_odd", "_law_bent", "_law_cut", "_law_late", "_law_thing"]
theorem sc_law : FnScope nLaw ["_law_script"] (C8.fnScope sLaw) := C8.fnScope_by (by decide +kernel)
structure NoG (mg : Str → Option Value) : Prop where
  range : mg "range" = none
  len : mg "len" = none
  max : mg "max" = none
  min : mg "min" = none
  str : mg "str" = none
  tuple : mg "tuple" = none
set_option maxHeartbeats 4000000 in
theorem fn_law {f CS CI g0 Te : Addr} {fd gd : FuncData} {ps : List Str} {dsS : List Value} (F : C8.Fun K "law" "law" sLaw f fd) (G : NoG mg) (TS : OwnT K CS) (cSeed : C8.Cal P w K mg base 1 "_law_seed" (spSeed K) []) (cC : C8.Cal P w K mg base 1 "_law_choose" spChoose []) (cO : C8.Cal P w K mg base 2 "_law_one_of" (spOneOf K) [])
    (cD : C8.Cal P w K mg base 3 "_law_drawn" (spDrawn K) []) (cA : C8.Cal P w K mg base 5 "_law_anything" (spAnything K 2) []) (cT : C8.Cal P w K mg base 7 "_law_tried" (spTried K CS) [])
    (mS : MakX P w K mg base 4 "Story" CS (spStory K CS CI) []) (hMk : Mk K CS g0) (hF : FnOk P w K mg base (L2.CX P w) 4 g0 gd ps (spStory K CS CI)) (hg : mg "Story" = some (.ref CS)) (hb : Binds K gd ps dsS) (hd : Vals [V.ref Te] dsS) (hTe : ∀ H, SqT K H Te []) : FnOk P w K mg base C8.CX0 8 f fd ["_law_script"] (spLaw K) := by
  refine C8.fn0 F sc_law (fun vs H Q E h => ?_) (fun cdv A outer s H vs Q E hr h => ?_)
  · obtain ⟨a, ns, rfl, _⟩ := h
    rfl
  · obtain ⟨a, ns, rfl, hS, hl, k⟩ := h
    refine ⟨_, (pss_cons (ps_for PassesOwn.never rfl (pi_range1 (by rfl) G.range (pa_cons (pe_callB (call_max2 rfl) (by rfl) G.max PyProof.Rows.boot_max (pa_cons pe_int (pa_cons (pe_callB (call_min2 rfl) (by rfl) G.min PyProof.Rows.boot_min (pa_cons pe_int (pa_cons (pe_callB call_len_seq (by rfl) G.len PySem.boot_len (pa_cons (pv 0) pa_nil)) pa_nil))) pa_nil))) pa_nil)) (pg_name (i := 1) sc_law.nd rfl (Or.inl rfl)) (pss_cons (ps_set (i := 2) sc_law.nd rfl (Or.inl rfl) (C8.pe_c cSeed hr (by decide) (by rfl) (pa_cons (pv 0) (pa_cons (pv 1) pa_nil))))
        (pss_one (ps_for PassesOwn.never rfl (pi_range1 (by rfl) G.range (pa_cons pe_int pa_nil)) (pg_name (i := 3) sc_law.nd rfl (Or.inl rfl)) (pss_cons (ps_set (i := 4) sc_law.nd rfl (Or.inl rfl) (C8.pe_c cD hr (by decide) (by rfl) (pa_cons (pv 2) (pa_cons (pe_op op_add pe_int (C8.pe_c cC hr (by decide) (by rfl) (pa_cons (pv 2) (pa_cons pe_int pa_nil)))) pa_nil))))
        (pss_cons (ps_if (PW.pt (pw_or (pt_cmpR op_notN (C8.pe_c cT hr (by decide) (by rfl) (pa_cons (pv 4) (pa_cons pe_non pa_nil))) pe_non (nomark _)) (pw_or1 (pt_cmpR op_notN (C8.pe_c cT hr (by decide) (by rfl) (pa_cons (pe_callTy call_tuple_of (by rfl) G.tuple PyProof.Rows.boot_tuple (pa_cons (pv 4) pa_nil)) (pa_cons (pe_make0 hMk hF (hr.mono (by decide)) (by rfl) hg hb hd passL) pa_nil))) pe_non (nomark _))))) (pss_one (ps_ret pe_bl)) pss_nil)
        (pss_cons (ps_set (i := 5) sc_law.nd rfl (Or.inl rfl) (C8.pe_c cC hr (by decide) (by rfl) (pa_cons (pv 2) (pa_cons (pe_op op_add (pe_callB call_len_seq (by rfl) G.len PySem.boot_len (pa_cons (pv 4) pa_nil)) pe_int) pa_nil))))
        (pss_cons (ps_set (i := 6) sc_law.nd rfl (Or.inl rfl) (pe_ifExp (pt_cmpR op_gt (pv 5) pe_int (nomark _)) (pe_ix ix_tup (pe_ix ix_list (pv 4) (pe_op op_sub (pv 5) pe_int) (fun _ _ => rfl)) pe_int (fun _ _ => rfl)) pe_int))
        (pss_cons (ps_set (i := 7) sc_law.nd rfl (Or.inl rfl) (pe_lst (pa_cons pe_non (pa_cons pe_int (pa_cons pe_str (pa_cons (pe_tup (pa_cons (pv 6) (pa_cons pe_str pa_nil))) (pa_cons (pe_tup (pa_cons (pv 6) (pa_cons pe_str (pa_cons pe_int (pa_cons pe_int pa_nil))))) (pa_cons (pe_lst (pa_cons (pv 6) (pa_cons pe_str (pa_cons pe_int pa_nil)))) (pa_cons (pe_tup (pa_cons (pv 6) (pa_cons pe_str (pa_cons pe_int pa_nil)))) pa_nil)))))))))
        (pss_cons (ps_set (i := 7) sc_law.nd rfl (Or.inl rfl) (pe_op op_cat (pv 7) (pe_lst (pa_cons (pe_tup (pa_cons pe_bl (pa_cons pe_str (pa_cons pe_int pa_nil)))) (pa_cons (pe_tup (pa_cons (pv 6) (pa_cons pe_str (pa_cons pe_int pa_nil)))) (pa_cons (pe_tup (pa_cons (pv 6) (pa_cons pe_str (pa_cons pe_non pa_nil)))) (pa_cons (pe_tup (pa_cons (pe_un un_neg pe_int) (pa_cons pe_str (pa_cons pe_int pa_nil)))) pa_nil)))))))
        (pss_cons (ps_set (i := 7) sc_law.nd rfl (Or.inl rfl) (pe_op op_cat (pv 7) (pe_lst (pa_cons (pe_tup (pa_cons (pv 6) (pa_cons pe_str (pa_cons pe_int pa_nil)))) (pa_cons (pe_tup (pa_cons (pv 6) (pa_cons pe_str (pa_cons pe_int pa_nil)))) pa_nil)))))
        (pss_cons (ps_set (i := 7) sc_law.nd rfl (Or.inl rfl) (pe_op op_cat (pv 7) (pe_lst (pa_cons (pe_tup (pa_cons (pv 6) (pa_cons pe_str (pa_cons pe_int pa_nil)))) (pa_cons (pe_tup (pa_cons (pv 6) (pa_cons pe_str (pa_cons pe_bl pa_nil)))) (pa_cons (pe_tup (pa_cons (pe_callTy call_str_int (by rfl) G.str (by decide +kernel) (pa_cons (pv 6) pa_nil)) (pa_cons pe_str (pa_cons pe_int pa_nil)))) (pa_cons (pe_tup (pa_cons (pv 6) (pa_cons pe_non (pa_cons pe_int pa_nil)))) pa_nil)))))))
        (pss_cons (ps_expr (pe_bm PySem.F.plainAttrs_list PySem.F.slot_list_append PySem.F.type_list_append mt_append (pv 7) (pa_cons (C8.pe_c cA hr (by decide) (by rfl) (pa_cons (pv 2) (pa_cons pe_int pa_nil))) pa_nil)))
        (pss_cons (ps_set (i := 8) sc_law.nd rfl (Or.inl rfl) (pe_op op_cat (pe_op op_cat (pe_slice sl_list (pv 4) po_none (po_some (pv 5))) (pe_lst (pa_cons (C8.pe_c cO hr (by decide) (by rfl) (pa_cons (pv 2) (pa_cons (pv 7) pa_nil))) pa_nil))) (pe_slice sl_list (pv 4) (po_some (pv 5)) po_none)))
        (pss_cons (ps_if (PW.pt (pw_or (pt_cmpR op_ne (C8.pe_c cT hr (by decide) (by rfl) (pa_cons (pv 8) (pa_cons pe_non pa_nil))) (pv 5) (nomark _)) (pw_or1 (pt_cmpR op_ne (C8.pe_c cT hr (by decide) (by rfl) (pa_cons (pe_callTy call_tuple_of (by rfl) G.tuple PyProof.Rows.boot_tuple (pa_cons (pv 8) pa_nil)) (pa_cons pe_non pa_nil))) (pv 5) (nomark _))))) (pss_one (ps_ret pe_bl)) pss_nil)
        (pss_cons (ps_set (i := 9) sc_law.nd rfl (Or.inl rfl) (C8.pe_c cC hr (by decide) (by rfl) (pa_cons (pv 2) (pa_cons (pe_op op_add (pv 5) pe_int) pa_nil))))
        (pss_cons (ps_if (pt_cmpR op_ne (C8.pe_c cT hr (by decide) (by rfl) (pa_cons (pe_slice sl_list (pv 8) (po_some (pv 9)) po_none) (pa_cons (pe_mkX mS hr (by decide) passL (by rfl) (pa_cons (pe_slice sl_list (pv 4) po_none (po_some (pv 9))) pa_nil)) pa_nil))) (pv 5) (nomark _)) (pss_one (ps_ret pe_bl)) pss_nil)
        (pss_cons (ps_set (i := 10) sc_law.nd rfl (Or.inl rfl) (pe_op op_cat (pv 4) (pe_lst (pa_cons (pe_tup (pa_cons (pe_op op_add (pe_ix ix_tup (pe_ix ix_list (pv 4) (pe_un un_neg pe_int) (fun _ _ => rfl)) pe_int (fun _ _ => rfl)) pe_int) (pa_cons pe_str (pa_cons pe_int pa_nil)))) (pa_cons (pe_tup (pa_cons (pe_ix ix_tup (pe_ix ix_list (pv 4) (pe_un un_neg pe_int) (fun _ _ => rfl)) pe_int (fun _ _ => rfl)) (pa_cons pe_str (pa_cons pe_int pa_nil)))) (pa_cons pe_non pa_nil))))))
        (pss_cons (ps_if (pt_cmpR op_ne (C8.pe_c cT hr (by decide) (by rfl) (pa_cons (pv 10) (pa_cons pe_non pa_nil))) (pe_op op_add (pe_callB call_len_seq (by rfl) G.len PySem.boot_len (pa_cons (pv 4) pa_nil)) pe_int) (nomark _)) (pss_one (ps_ret pe_bl)) pss_nil)
        (pss_cons (ps_if (pt_cmpR op_ne (C8.pe_c cT hr (by decide) (by rfl) (pa_cons (pe_slice sl_list (pv 10) (po_some (pe_callB call_len_seq (by rfl) G.len PySem.boot_len (pa_cons (pv 4) pa_nil))) po_none) (pa_cons (pe_mkX mS hr (by decide) passL (by rfl) (pa_cons (pv 4) pa_nil)) pa_nil))) (pe_op op_add (pe_callB call_len_seq (by rfl) G.len PySem.boot_len (pa_cons (pv 4) pa_nil)) pe_int) (nomark _)) (pss_one (ps_ret pe_bl)) pss_nil)
        (pss_one (ps_for PassesOwn.never rfl (pi_tup (pe_tup (pa_cons pe_non (pa_cons pe_int (pa_cons pe_str (pa_cons pe_bl (pa_cons (pe_mkX mS hr (by decide) passL (by rfl) (pa_cons (pv 4) pa_nil)) (pa_cons (C8.pe_c cO hr (by decide) (by rfl) (pa_cons (pv 2) (pa_cons (pe_lst (pa_cons pe_str (pa_cons (pe_op op_pow pe_int pe_int) pa_nil))) pa_nil))) pa_nil)))))))) (pg_name (i := 11) sc_law.nd rfl (Or.inl rfl)) (pss_one (ps_if (PW.pt (pw_or (pt_cmpR op_ne (C8.pe_c cT hr (by decide) (by rfl) (pa_cons (pv 11) (pa_cons pe_non pa_nil))) pe_int (nomark _)) (pw_or1 (pt_cmpR op_ne (C8.pe_c cT hr (by decide) (by rfl) (pa_cons (pv 11) (pa_cons (pe_mkX mS hr (by decide) passL (by rfl) (pa_cons (pv 4) pa_nil)) pa_nil))) (pe_callB call_len_seq (by rfl) G.len PySem.boot_len (pa_cons (pv 4) pa_nil)) (nomark _))))) (pss_one (ps_ret pe_bl)) pss_nil))))))))))))))))))))))))
        (pss_one (ps_ret (pe_and (pe_cmpR op_isN (C8.pe_c cT hr (by decide) (by rfl) (pa_cons (pe_lst pa_nil) (pa_cons pe_non pa_nil))) pe_non (nomark _)) (pe_one (pe_cmpR op_isN (C8.pe_c cT hr (by decide) (by rfl) (pa_cons (pe_tup pa_nil) (pa_cons (pe_make0 hMk hF (hr.mono (by decide)) (by rfl) hg hb hd passL) pa_nil))) pe_non (nomark _))))))), ?_⟩
    have ln : ((ns.map V.int).length : Int) = (ns.length : Int) := by rw [List.length_map]
    have nB : ∀ i : Int, (if (if i < 4 then i else 4) > 2 then (if i < 4 then i else 4) else 2) ≤ 4 ∧ 2 ≤ (if (if i < 4 then i else 4) > 2 then (if i < 4 then i else 4) else 2) := fun i => by
      constructor <;> (repeat' split) <;> omega
    refine ⟨_, rfl, a, _, rfl, .inl hS, _, _, rfl, _, _, rfl, _, rfl, ?_, ?_, ?_⟩
    · have := (nB ((ns.map V.int).length : Int)).2
      omega
    · have := (nB ((ns.map V.int).length : Int)).1
      omega
    have n4 := (nB ((ns.map V.int).length : Int)).1
    generalize (if (if ((ns.map V.int).length : Int) < 4 then ((ns.map V.int).length : Int) else 4) > 2 then (if ((ns.map V.int).length : Int) < 4 then ((ns.map V.int).length : Int) else 4) else 2) = N at n4
    refine for_range (lo := 0) (n := N.toNat) (fun i σ H' => ∃ (v1 v2 v3 v4 v5 v6 v7 v8 v9 v10 v11 : Option V), σ = [some (.ref a), v1, v2, v3, v4, v5, v6, v7, v8, v9, v10, v11] ∧ Same H H')
      ⟨_, _, _, _, _, _, _, _, _, _, _, rfl, Same.refl _⟩ ?_ ?_
    · rintro i σ H1 hi ⟨v1, v2, v3, v4, v5, v6, v7, v8, v9, v10, v11, rfl, s1⟩
      refine ⟨_, rfl, _, rfl, a, ns, _, rfl, s1.seq hS, by omega, by omega, fun B H2 bx s2 nB => ?_⟩
      refine ⟨5, rfl, by decide, by decide, for_range (lo := 0) (n := 5) (fun t σ H' => ∃ (v3 v4 v5 v6 v7 v8 v9 v10 v11 : Option V), σ = [some (.ref a), some (.int (0 + (i : Int))), some (.ref B), v3, v4, v5, v6, v7, v8, v9, v10, v11] ∧ GoB B H2 H')
        ⟨_, _, _, _, _, _, _, _, _, rfl, GoB.refl bx⟩ ?_ ?_⟩
      · rintro t σ H3 ht ⟨v3, v4, v5, v6, v7, v8, v9, v10, v11, rfl, W3⟩
        refine ⟨_, rfl, _, rfl, B, 8, rfl, W3.d, by decide, by decide, fun c H4 c0 c1 W4 => ⟨_, _, rfl, rfl, ?_⟩⟩
        refine ⟨B, _, rfl, W4.d, by omega, by omega, fun p xs os e H5 row hlen W5 np hp => ?_⟩
        have pB := W4.d.ne np
        have hxl := row.all.1
        have hold5 : Hold K H5 B p xs os e := ⟨W5.d, hp, pB, row, by omega⟩
        have go5 := (W3.trans W4).trans W5
        have e1 : dueG [] (some (xs, os)) = none := dueT_ok row.run
        refine ⟨_, rfl, _, _, some (xs, os), [], rfl, hold5.row.all.sq hp (by omega), (by show 0 + xs.length ≤ 1000; omega), .inl ⟨rfl, rfl⟩, fun H6 s6 => ?_⟩
        rw [e1]
        refine ⟨rfl, _, rfl, iteF ?_⟩
        have hold6 := hold5.same s6
        refine ⟨_, rfl, p, xs, rfl, .inl ⟨SqL.of hold6.hp, fun tt ntt => ?_⟩⟩
        obtain ⟨H7, eH7, s7, a7⟩ := grown (.tup xs) ntt
        rw [eH7]
        have hold7 := hold6.same s7
        intro y dyy nyy ndyy _
        refine story_made nyy ndyy (.seq (.inr (hTe _)) .nil (Nat.zero_le _)) rfl fun H8 s8 hy => ?_
        have hold8 := hold7.same s8
        refine ⟨_, _, some (xs, os), [], rfl, hold8.row.all.sqT (s8 _ _ a7) (by omega), (by show 0 + xs.length ≤ 1000; omega), .inr ⟨y, rfl, hy⟩, fun H9 s9 => ?_⟩
        rw [e1]
        refine ⟨rfl, _, rfl, iteF ?_⟩
        have hold9 := hold8.same s9
        have go9 := (((go5.same s6).same s7).same s8).same s9
        -- at
        refine ⟨_, rfl, _, rfl, p, xs, rfl, .inl (SqL.of hold9.hp), _, _, rfl, rfl, B, _, rfl, hold9.bx, by omega, by omega, fun at0 H10 a0 a1 W10 => ?_⟩
        obtain ⟨j, rfl⟩ := Int.eq_ofNat_of_zero_le a0
        have hj : j ≤ os.length := by omega
        have hold10 := hold9.gob W10
        have go10 := go9.trans W10
        -- day
        refine ⟨_, rfl, _, _, rfl, rfl, _, rfl, ite_int (Pd := fun d => 0 ≤ d ∧ d ≤ 10 ^ 17) (fun dy hdy => ?_) (fun hb => ?_) (fun _ => ⟨0, ⟨by decide, by decide⟩, fun Q' q => q⟩)⟩
        rotate_left
        · have hj0 : 0 < j := by
            have := of_decide_eq_true hb
            omega
          have hjx : j - 1 < xs.length := by omega
          obtain ⟨t0, d0, n0, l0, ev, hT, _, hd0, hd1⟩ := hold10.row.day (List.getElem?_eq_getElem hjx) (List.getElem?_eq_getElem (show j - 1 < os.length by omega))
          refine ⟨d0, ⟨hd0, hd1⟩, fun Q' q => ⟨_, rfl, _, rfl, _, _, rfl, rfl, p, xs, _, .ref t0, rfl, rfl, SqL.of hold10.hp, ?_, t0, _, 0, .int d0, rfl, rfl, hT, rfl, q⟩⟩
          rw [show ((j : Int) - 1) = ((j - 1 : Nat) : Int) by omega]
          refine atI_nat ?_
          rw [List.getElem?_eq_getElem hjx, ev]
        obtain ⟨dy0, dy1⟩ := hdy
        refine ⟨_, rfl, (by show 2 ≤ sizeLine; decide), fun t1 nt1 => ?_⟩
        obtain ⟨G1, eG1, sG1, aG1⟩ := grown (.tup [.int dy, .str "owe"]) nt1
        rw [eG1]
        refine ⟨_, rfl, (by show 4 ≤ sizeLine; decide), fun t2 nt2 => ?_⟩
        obtain ⟨G2, eG2, sG2, aG2⟩ := grown (.tup [.int dy, .str "owe", .int 1, .int 1]) nt2
        rw [eG2]
        refine ⟨_, rfl, (by show 3 ≤ sizeLine; decide), fun t3 nt3 => ?_⟩
        obtain ⟨G3, eG3, sG3, aG3⟩ := grown (.lst [.int dy, .str "owe", .int 1]) nt3
        rw [eG3]
        refine ⟨_, rfl, (by show 3 ≤ sizeLine; decide), fun t4 nt4 => ?_⟩
        obtain ⟨G4, eG4, sG4, aG4⟩ := grown (.tup [.int dy, .str "Owe", .int 1]) nt4
        rw [eG4]
        refine ⟨(by show 7 ≤ sizeLine; decide), fun o1 no1 => ?_⟩
        obtain ⟨G5, eG5, sG5, aG5⟩ := grown (.lst [.non, .int 3, .str "3 owe 1", .ref t1, .ref t2, .ref t3, .ref t4]) no1
        rw [eG5]
        obtain ⟨L1, eL1, bL1, nL1⟩ : ∃ L1, G5 o1 = some (.lst L1) ∧ AllBad K G5 L1 ∧ L1.length = 7 := ⟨_, aG5, .cons (.flat (by decide +kernel)) (.cons (.flat (by decide +kernel)) (.cons (.flat (by decide +kernel)) (.cons (.tup ((((sG2.trans sG3).trans sG4).trans sG5) _ _ aG1) (by simp)) (.cons (.tup (((sG3.trans sG4).trans sG5) _ _ aG2) (by simp)) (.cons (.lst ((sG4.trans sG5) _ _ aG3)) (.cons (.occ (sG5 _ _ aG4) ⟨_, tyV_int⟩ (goodFlat (by decide +kernel)) ⟨_, tyV_int⟩ (bad_name (by decide +kernel))) .nil)))))), rfl⟩
        refine ⟨_, rfl, ?_⟩
        refine ⟨(by show 3 ≤ sizeLine; decide), fun t5 nt5 => ?_⟩
        obtain ⟨G6, eG6, sG6, aG6⟩ := grown (.tup [.bl true, .str "owe", .int 1]) nt5
        rw [eG6]
        refine ⟨_, rfl, (by show 3 ≤ sizeLine; decide), fun t6 nt6 => ?_⟩
        obtain ⟨G7, eG7, sG7, aG7⟩ := grown (.tup [.int dy, .str "owe", .int 0]) nt6
        rw [eG7]
        refine ⟨_, rfl, (by show 3 ≤ sizeLine; decide), fun t7 nt7 => ?_⟩
        obtain ⟨G8, eG8, sG8, aG8⟩ := grown (.tup [.int dy, .str "owe", .non]) nt7
        rw [eG8]
        refine ⟨_, rfl, (by show 3 ≤ sizeLine; decide), fun t8 nt8 => ?_⟩
        obtain ⟨G9, eG9, sG9, aG9⟩ := grown (.tup [.int (-1), .str "owe", .int 1]) nt8
        rw [eG9]
        refine ⟨(by show 4 ≤ sizeLine; decide), fun o2 no2 => ?_⟩
        obtain ⟨G10, eG10, sG10, aG10⟩ := grown (.lst [.ref t5, .ref t6, .ref t7, .ref t8]) no2
        rw [eG10]
        have bL2 : AllBad K G10 [.ref t5, .ref t6, .ref t7, .ref t8] := .cons (.occ ((((sG7.trans sG8).trans sG9).trans sG10) _ _ aG6) ⟨_, tyV_bl⟩ (goodFlat (by decide +kernel)) ⟨_, tyV_int⟩ (bad_num rfl)) (.cons (.occ (((sG8.trans sG9).trans sG10) _ _ aG7) ⟨_, tyV_int⟩ (goodFlat (by decide +kernel)) ⟨_, tyV_int⟩ (bad_cnt rfl)) (.cons (.occ ((sG9.trans sG10) _ _ aG8) ⟨_, tyV_int⟩ (goodFlat (by decide +kernel)) ⟨_, tyV_non⟩ (bad_cnt rfl)) (.cons (.occ (sG10 _ _ aG9) ⟨_, tyV_int⟩ (goodFlat (by decide +kernel)) ⟨_, tyV_int⟩ (bad_num rfl)) .nil)))
        refine ⟨o1, o2, L1, [.ref t5, .ref t6, .ref t7, .ref t8], rfl, rfl, ((((sG6.trans sG7).trans sG8).trans sG9).trans sG10) _ _ eL1, aG10, (by rw [nL1]; show 7+4 ≤ sizeLine; decide), fun q2 nq2 => ?_⟩
        obtain ⟨G11, eG11, sG11, aG11⟩ := grown (.lst (L1 ++ [.ref t5, .ref t6, .ref t7, .ref t8])) nq2
        rw [eG11]
        obtain ⟨M2, eM2, bM2, nM2⟩ : ∃ L, G11 q2 = some (.lst L) ∧ AllBad K G11 L ∧ L.length = 11 := ⟨_, aG11, ((bL1.same ((((sG6.trans sG7).trans sG8).trans sG9).trans sG10)).append bL2).same sG11, by rw [List.length_append, nL1]; rfl⟩
        refine ⟨_, rfl, ?_⟩
        refine ⟨_, rfl, (by show 3 ≤ sizeLine; decide), fun t9 nt9 => ?_⟩
        obtain ⟨G12, eG12, sG12, aG12⟩ := grown (.tup [.int dy, .str "any", .int 1]) nt9
        rw [eG12]
        refine ⟨_, rfl, (by show 3 ≤ sizeLine; decide), fun t10 nt10 => ?_⟩
        obtain ⟨G13, eG13, sG13, aG13⟩ := grown (.tup [.int dy, .str "", .int 1]) nt10
        rw [eG13]
        refine ⟨(by show 2 ≤ sizeLine; decide), fun o3 no3 => ?_⟩
        obtain ⟨G14, eG14, sG14, aG14⟩ := grown (.lst [.ref t9, .ref t10]) no3
        rw [eG14]
        have bL3 : AllBad K G14 [.ref t9, .ref t10] := .cons (.occ ((sG13.trans sG14) _ _ aG12) ⟨_, tyV_int⟩ (goodFlat (by decide +kernel)) ⟨_, tyV_int⟩ (bad_name (by decide +kernel))) (.cons (.occ (sG14 _ _ aG13) ⟨_, tyV_int⟩ (goodFlat (by decide +kernel)) ⟨_, tyV_int⟩ (bad_name (by decide +kernel))) .nil)
        refine ⟨q2, o3, M2, [.ref t9, .ref t10], rfl, rfl, ((sG12.trans sG13).trans sG14) _ _ eM2, aG14, (by rw [nM2]; show 11+2 ≤ sizeLine; decide), fun q3 nq3 => ?_⟩
        obtain ⟨G15, eG15, sG15, aG15⟩ := grown (.lst (M2 ++ [.ref t9, .ref t10])) nq3
        rw [eG15]
        obtain ⟨M3, eM3, bM3, nM3⟩ : ∃ L, G15 q3 = some (.lst L) ∧ AllBad K G15 L ∧ L.length = 13 := ⟨_, aG15, ((bM2.same ((sG12.trans sG13).trans sG14)).append bL3).same sG15, by rw [List.length_append, nM2]; rfl⟩
        refine ⟨_, rfl, ?_⟩
        refine ⟨_, rfl, (by show 3 ≤ sizeLine; decide), fun t11 nt11 => ?_⟩
        obtain ⟨G16, eG16, sG16, aG16⟩ := grown (.tup [.int dy, .str "abcde", .int 1]) nt11
        rw [eG16]
        refine ⟨_, rfl, (by show 3 ≤ sizeLine; decide), fun t12 nt12 => ?_⟩
        obtain ⟨G17, eG17, sG17, aG17⟩ := grown (.tup [.int dy, .str "owe", .bl true]) nt12
        rw [eG17]
        refine ⟨_, rfl, dy, rfl, log_small dy0 dy1, (by show 3 ≤ sizeLine; decide), fun t13 nt13 => ?_⟩
        obtain ⟨G18, eG18, sG18, aG18⟩ := grown (.tup [.str (toString dy), .str "owe", .int 1]) nt13
        rw [eG18]
        refine ⟨_, rfl, (by show 3 ≤ sizeLine; decide), fun t14 nt14 => ?_⟩
        obtain ⟨G19, eG19, sG19, aG19⟩ := grown (.tup [.int dy, .non, .int 1]) nt14
        rw [eG19]
        refine ⟨(by show 4 ≤ sizeLine; decide), fun o4 no4 => ?_⟩
        obtain ⟨G20, eG20, sG20, aG20⟩ := grown (.lst [.ref t11, .ref t12, .ref t13, .ref t14]) no4
        rw [eG20]
        have bL4 : AllBad K G20 [.ref t11, .ref t12, .ref t13, .ref t14] := .cons (.occ ((((sG17.trans sG18).trans sG19).trans sG20) _ _ aG16) ⟨_, tyV_int⟩ (goodFlat (by decide +kernel)) ⟨_, tyV_int⟩ (bad_name (by decide +kernel))) (.cons (.occ (((sG18.trans sG19).trans sG20) _ _ aG17) ⟨_, tyV_int⟩ (goodFlat (by decide +kernel)) ⟨_, tyV_bl⟩ (bad_cnt rfl)) (.cons (.occ ((sG19.trans sG20) _ _ aG18) ⟨_, tyV_str⟩ (goodFlat (by decide +kernel)) ⟨_, tyV_int⟩ (bad_num rfl)) (.cons (.occ (sG20 _ _ aG19) ⟨_, tyV_int⟩ (goodFlat (by decide +kernel)) ⟨_, tyV_int⟩ (bad_name rfl)) .nil)))
        refine ⟨q3, o4, M3, [.ref t11, .ref t12, .ref t13, .ref t14], rfl, rfl, ((((sG16.trans sG17).trans sG18).trans sG19).trans sG20) _ _ eM3, aG20, (by rw [nM3]; show 13+4 ≤ sizeLine; decide), fun q4 nq4 => ?_⟩
        obtain ⟨G21, eG21, sG21, aG21⟩ := grown (.lst (M3 ++ [.ref t11, .ref t12, .ref t13, .ref t14])) nq4
        rw [eG21]
        obtain ⟨M4, eM4, bM4, nM4⟩ : ∃ L, G21 q4 = some (.lst L) ∧ AllBad K G21 L ∧ L.length = 17 := ⟨_, aG21, ((bM3.same ((((sG16.trans sG17).trans sG18).trans sG19).trans sG20)).append bL4).same sG21, by rw [List.length_append, nM3]; rfl⟩
        have hold11 := hold10.same (sG1.trans (((((((((((((((((((sG2.trans sG3).trans sG4).trans sG5).trans sG6).trans sG7).trans sG8).trans sG9).trans sG10).trans sG11).trans sG12).trans sG13).trans sG14).trans sG15).trans sG16).trans sG17).trans sG18).trans sG19).trans sG20).trans sG21))
        have go11 := go10.same (sG1.trans (((((((((((((((((((sG2.trans sG3).trans sG4).trans sG5).trans sG6).trans sG7).trans sG8).trans sG9).trans sG10).trans sG11).trans sG12).trans sG13).trans sG14).trans sG15).trans sG16).trans sG17).trans sG18).trans sG19).trans sG20).trans sG21))
        have qB : q4 ≠ B := (hold10.same (sG1.trans ((((((((((((((((((sG2.trans sG3).trans sG4).trans sG5).trans sG6).trans sG7).trans sG8).trans sG9).trans sG10).trans sG11).trans sG12).trans sG13).trans sG14).trans sG15).trans sG16).trans sG17).trans sG18).trans sG19).trans sG20))).bx.ne nq4
        have qp : q4 ≠ p := (ne_of_none (hold10.same (sG1.trans ((((((((((((((((((sG2.trans sG3).trans sG4).trans sG5).trans sG6).trans sG7).trans sG8).trans sG9).trans sG10).trans sG11).trans sG12).trans sG13).trans sG14).trans sG15).trans sG16).trans sG17).trans sG18).trans sG19).trans sG20))).hp nq4).symm
        have qH2 : H2 q4 = none := (go10.same (sG1.trans ((((((((((((((((((sG2.trans sG3).trans sG4).trans sG5).trans sG6).trans sG7).trans sG8).trans sG9).trans sG10).trans sG11).trans sG12).trans sG13).trans sG14).trans sG15).trans sG16).trans sG17).trans sG18).trans sG19).trans sG20))).free bx nq4
        clear hold10 go10
        refine ⟨_, rfl, .inl ⟨rfl, _, SqL.of eM4⟩, _, rfl, B, 2, rfl, hold11.bx, by decide, by decide, fun u H12 hu W12 => ?_⟩
        have eM5 := W12.k _ _ qB eM4
        have hold12 := hold11.gob W12
        have go12 := go11.trans W12
        have bM5 := bM4.gob hold11.bx W12
        refine ⟨q4, M4, u, rfl, rfl, eM5, small1000 (by rw [nM4]; decide), ?_⟩
        have hold13 := hold12.mutL (ys := M4 ++ [u]) eM5 qB qp
        have go13 : GoB B H2 (upd H12 q4 (.lst (M4 ++ [u]))) := go12.mut qH2 qB
        have bM6 : AllBad K (upd H12 q4 (.lst (M4 ++ [u]))) (M4 ++ [u]) := fun v hv => ((bM5.append (.cons ⟨none, hu, rfl⟩ .nil)) v hv).mutL eM5
        have eM6 : upd H12 q4 (.lst (M4 ++ [u])) q4 = some (.lst (M4 ++ [u])) := upd_same
        have nM6 : (M4 ++ [u]).length = 18 := by rw [List.length_append, nM4]; rfl
        generalize upd H12 q4 (.lst (M4 ++ [u])) = H13 at hold13 go13 bM6 eM6 ⊢
        generalize M4 ++ [u] = M6 at bM6 eM6 nM6
        -- bent
        refine ⟨_, rfl, _, rfl, _, rfl, p, xs, rfl, SqL.of hold13.hp, fun r1 nr1 => ?_⟩
        rw [cut_toV]
        obtain ⟨H14, eH14, s14, a14⟩ := grown (.lst (xs.take j)) nr1
        rw [eH14]
        have hold14 := hold13.same s14
        have go14 := go13.same s14
        refine ⟨_, rfl, _, rfl, B, q4, M6, rfl, hold14.bx, SqL.of (s14 _ _ eM6), qB, by omega, by omega, fun x H15 hx W15 => ⟨(by show 1 ≤ sizeLine; decide), fun l1 nl1 => ?_⟩⟩
        obtain ⟨o, tho, hob⟩ := ((bM6.same s14) x hx).gob hold14.bx W15
        have rB : r1 ≠ B := hold13.bx.ne nr1
        obtain ⟨H16, eH16, s16, a16⟩ := grown (.lst [x]) nl1
        rw [eH16]
        have hold16 := (hold14.gob W15).same s16
        have go16 := (go14.trans W15).same s16
        refine ⟨r1, l1, xs.take j, [x], rfl, rfl, s16 _ _ (W15.k _ _ rB a14), a16, ?_, fun r2 nr2 => ?_⟩
        · rw [List.length_take, List.length_singleton]
          exact Nat.le_of_lt (small1000 (by omega))
        obtain ⟨H17, eH17, s17, a17⟩ := grown (.lst (xs.take j ++ [x])) nr2
        rw [eH17]
        have hold17 := hold16.same s17
        refine ⟨_, rfl, _, rfl, _, rfl, p, xs, rfl, SqL.of hold17.hp, fun r3 nr3 => ?_⟩
        rw [cut_fromV]
        obtain ⟨H18, eH18, s18, a18⟩ := grown (.lst (xs.drop j)) nr3
        rw [eH18]
        refine ⟨r2, r3, _, _, rfl, rfl, s18 _ _ a17, a18, ?_, fun bt nbt => ?_⟩
        · rw [List.length_append, List.length_take, List.length_singleton, List.length_drop]
          exact Nat.le_of_lt (small1000 (by omega))
        rw [List.append_assoc]
        obtain ⟨H19, eH19, s19, a19⟩ := grown (.lst (xs.take j ++ ([x] ++ xs.drop j))) nbt
        rw [eH19]
        have hold19 := (hold17.same s18).same s19
        have go19 := ((go16.same s17).same s18).same s19
        have tho19 := (((tho.same s16).same s17).same s18).same s19
        have dB : dueT 0 (os.take j ++ ([o] ++ os.drop j)) = some j := due_bent row.run hob hj
        have aB : ThAll K H19 (xs.take j ++ ([x] ++ xs.drop j)) (os.take j ++ ([o] ++ os.drop j)) := (hold19.row.all.take j).append ((ThAll.one tho19).append (hold19.row.all.drop j))
        have lB : (xs.take j ++ ([x] ++ xs.drop j)).length ≤ 102 := by
          rw [List.length_append, List.length_append, List.length_take, List.length_drop, List.length_singleton]
          omega
        have cB : ∀ c, c ≤ j → dueT 0 (os.take c ++ (os.take j ++ ([o] ++ os.drop j)).drop c) = some j := fun c hc => by rw [cut_bent hc hj]; exact dB
        generalize xs.take j ++ ([x] ++ xs.drop j) = XS at a19 aB lB
        generalize os.take j ++ ([o] ++ os.drop j) = OS at dB aB cB
        have e2 : optI (dueG [] (some (XS, OS))) = .int (j : Int) := by rw [show dueG [] (some (XS, OS)) = some j from dB]; rfl
        refine ⟨_, rfl, _, _, some (XS, OS), [], rfl, aB.sq a19 (by omega), (by show 0 + XS.length ≤ 1000; omega), .inl ⟨rfl, rfl⟩, fun H20 s20 => ?_⟩
        rw [e2]
        refine ⟨_, rfl, rfl, _, rfl, iteNS rfl ?_⟩
        refine ⟨_, rfl, bt, XS, rfl, .inl ⟨SqL.of (s20 _ _ a19), fun tt ntt => ?_⟩⟩
        obtain ⟨H21, eH21, s21, a21⟩ := grown (.tup XS) ntt
        rw [eH21]
        refine ⟨_, _, some (XS, OS), [], rfl, ((aB.same s20).same s21).sqT a21 (by omega), (by show 0 + XS.length ≤ 1000; omega), .inl ⟨rfl, rfl⟩, fun H22 s22 => ?_⟩
        rw [e2]
        refine ⟨_, rfl, rfl, _, rfl, iteNS rfl ?_⟩
        have s1922 := (s20.trans s21).trans s22
        have hold22 := hold19.same s1922
        have go22 := go19.same s1922
        have bB : bt ≠ B := ((hold17.same s18).bx).ne nbt
        -- cut
        refine ⟨_, rfl, _, rfl, _, _, rfl, rfl, B, _, rfl, hold22.bx, by omega, by omega, fun ct H23 ct0 ct1 W23 => ?_⟩
        obtain ⟨cc, rfl⟩ := Int.eq_ofNat_of_zero_le ct0
        have hcc : cc ≤ j := by omega
        have hold23 := hold22.gob W23
        have go23 := go22.trans W23
        have a23 := W23.k _ _ bB (s1922 _ _ a19)
        have aB23 := (aB.same s1922).gob hold22.bx W23
        refine ⟨_, rfl, _, rfl, _, rfl, bt, XS, rfl, SqL.of a23, fun r4 nr4 => ?_⟩
        rw [cut_fromV]
        obtain ⟨H24, eH24, s24, a24⟩ := grown (.lst (XS.drop cc)) nr4
        rw [eH24]
        have hold24 := hold23.same s24
        refine ⟨_, rfl, _, rfl, _, rfl, p, xs, rfl, SqL.of hold24.hp, fun r5 nr5 => ?_⟩
        rw [cut_toV]
        obtain ⟨H25, eH25, s25, a25⟩ := grown (.lst (xs.take cc)) nr5
        rw [eH25]
        have hold25 := hold24.same s25
        intro y dyy nyy ndyy _
        have lt5 : (xs.take cc).length ≤ 1000 := by rw [List.length_take]; omega
        refine story_made nyy ndyy ((hold25.row.all.take cc).sq a25 lt5) (due_take row.run cc) fun H26 s26 hy => ?_
        have e3 : optI (dueG (os.take cc) (some (XS.drop cc, OS.drop cc))) = .int (j : Int) := by rw [show dueG (os.take cc) (some (XS.drop cc, OS.drop cc)) = some j from cB cc hcc]; rfl
        refine ⟨_, _, some (XS.drop cc, OS.drop cc), os.take cc, rfl, (((aB23.drop cc).same (s24.trans s25)).same s26).sq (s26 _ _ (s25 _ _ a24)) (by rw [List.length_drop]; omega), (by show (os.take cc).length + (XS.drop cc).length ≤ 1000; rw [List.length_take, List.length_drop]; omega), .inr ⟨y, rfl, hy⟩, fun H27 s27 => ?_⟩
        rw [e3]
        refine ⟨_, rfl, rfl, _, rfl, iteNS rfl ?_⟩
        have hold27 := (hold25.same s26).same s27
        have go27 := (((go23.same s24).same s25).same s26).same s27
        clear hold5 hold6 hold7 hold8 hold9 hold11 hold12 hold13 hold14 hold16 hold17 hold19 hold22 hold23 hold24 hold25
        -- late
        have he0 : 0 ≤ e := run_le row.run
        obtain ⟨z1, z2, z3, hz1, hz2⟩ := hold27.row.last (by omega)
        refine ⟨_, rfl, _, rfl, _, rfl, p, xs, -1, .ref z1, rfl, rfl, SqL.of hold27.hp, hz1, z1, _, 0, .int e, rfl, rfl, hz2, rfl, _, _, rfl, rfl, (by show 3 ≤ sizeLine; decide), fun u1 nu1 => ?_⟩
        obtain ⟨H28, eH28, s28, a28⟩ := grown (.tup [.int (e + 1), .str "a", .int 1]) nu1
        rw [eH28]
        have hold28 := hold27.same s28
        refine ⟨_, rfl, _, rfl, p, xs, -1, .ref z1, rfl, rfl, SqL.of hold28.hp, hz1, z1, _, 0, .int e, rfl, rfl, Same.sqt s28 hz2, rfl, (by show 3 ≤ sizeLine; decide), fun u2 nu2 => ?_⟩
        obtain ⟨H29, eH29, s29, a29⟩ := grown (.tup [.int e, .str "a", .int 1]) nu2
        rw [eH29]
        refine ⟨(by show 3 ≤ sizeLine; decide), fun l3 nl3 => ?_⟩
        obtain ⟨H30, eH30, s30, a30⟩ := grown (.lst [.ref u1, .ref u2, .non]) nl3
        rw [eH30]
        have hold30 := (hold28.same s29).same s30
        refine ⟨p, l3, xs, _, rfl, rfl, hold30.hp, a30, (by show xs.length + 3 ≤ sizeLine; exact Nat.le_of_lt (small1000 (by omega))), fun lt nlt => ?_⟩
        obtain ⟨H31, eH31, s31, a31⟩ := grown (.lst (xs ++ [.ref u1, .ref u2, .non])) nlt
        rw [eH31]
        have hold31 := hold30.same s31
        have go31 := (((go27.same s28).same s29).same s30).same s31
        have aZ : ThAll K H31 [.ref u1, .ref u2, .non] [some (.int (e + 1), .str "a", .int 1), some (.int e, .str "a", .int 1), none] :=
          (ThAll.one (.occ (SqT.of ((s29.trans (s30.trans s31)) _ _ a28)) ⟨_, tyV_int⟩ (goodFlat (by decide +kernel)) ⟨_, tyV_int⟩)).append ((ThAll.one (.occ (SqT.of ((s30.trans s31) _ _ a29)) ⟨_, tyV_int⟩ (goodFlat (by decide +kernel)) ⟨_, tyV_int⟩)).append (ThAll.one (.flat rfl)))
        have dZ := due_late row.run he0
        have lZ : ([V.ref u1, V.ref u2, V.non] : List V).length = 3 := rfl
        generalize ([V.ref u1, V.ref u2, V.non] : List V) = ZS at a31 aZ lZ
        generalize ([some (V.int (e + 1), V.str "a", V.int 1), some (V.int e, V.str "a", V.int 1), none] : List Th) = ZO at aZ dZ
        have lxz : (xs ++ ZS).length ≤ 200 := by rw [List.length_append, lZ]; omega
        have e4 : optI (dueG [] (some (xs ++ ZS, os ++ ZO))) = .int ((xs.length : Int) + 1) := by rw [show dueG [] (some (xs ++ ZS, os ++ ZO)) = some (os.length + 1) from dZ, hxl]; rfl
        have e5 : optI (dueG os (some (ZS, ZO))) = .int ((xs.length : Int) + 1) := by rw [show dueG os (some (ZS, ZO)) = some (os.length + 1) from dZ, hxl]; rfl
        refine ⟨_, rfl, _, _, some (xs ++ ZS, os ++ ZO), [], rfl, (hold31.row.all.append aZ).sq a31 (by omega), (by show 0 + (xs ++ ZS).length ≤ 1000; omega), .inl ⟨rfl, rfl⟩, fun H32 s32 => ?_⟩
        rw [e4]
        have hold32 := hold31.same s32
        refine ⟨_, rfl, p, xs, rfl, .inl (SqL.of hold32.hp), _, _, rfl, rfl, rfl, _, rfl, iteNS rfl ?_⟩
        refine ⟨_, rfl, _, rfl, p, xs, rfl, .inl (SqL.of hold32.hp), _, rfl, lt, _, rfl, SqL.of (s32 _ _ a31), fun r6 nr6 => ?_⟩
        rw [cut_fromV, List.drop_left]
        obtain ⟨H33, eH33, s33, a33⟩ := grown (.lst ZS) nr6
        rw [eH33]
        have hold33 := hold32.same s33
        refine ⟨_, rfl, ?_⟩
        intro y2 dyy2 nyy2 ndyy2 _
        refine story_made nyy2 ndyy2 (hold33.row.all.sq hold33.hp (by omega)) (dueT_ok row.run) fun H34 s34 hy2 => ?_
        refine ⟨_, _, some (ZS, ZO), os, rfl, (((aZ.same s32).same s33).same s34).sq (s34 _ _ a33) (by omega), (by show os.length + ZS.length ≤ 1000; omega), .inr ⟨y2, rfl, hy2⟩, fun H35 s35 => ?_⟩
        rw [e5]
        have hold35 := (hold33.same s34).same s35
        refine ⟨_, rfl, p, xs, rfl, .inl (SqL.of hold35.hp), _, _, rfl, rfl, rfl, _, rfl, iteNS rfl ?_⟩
        have go35 := (((go31.same s32).same s33).same s34).same s35
        -- no sequences
        refine ⟨_, rfl, ?_⟩
        intro y3 dyy3 nyy3 ndyy3 _
        refine story_made nyy3 ndyy3 (hold35.row.all.sq hold35.hp (by omega)) (dueT_ok row.run) fun H36 s36 hy3 => ?_
        have hold36 := hold35.same s36
        refine ⟨_, rfl, _, _, rfl, rfl, ⟨by decide, by decide, by decide⟩, (by show 2 ≤ sizeLine; decide), fun l5 nl5 => ?_⟩
        have ne5 := hold36.bx.ne nl5
        refine ⟨B, l5, _, rfl, hold36.bx.same (Same.new (Same.refl _) nl5), SqL.of upd_same, ne5, by decide, by decide, fun u5 H38 hu5 W38 => ⟨(by show 6 ≤ sizeLine; decide), fun tq ntq => ?_⟩⟩
        have f5 : flatB u5 = true := List.all_eq_true.mp (show List.all _ flatB = true by decide +kernel) u5 hu5
        have W36 : GoB B H36 H38 := ((GoB.refl hold36.bx).new nl5).trans W38
        have noY : NoSeq K H38 (.ref y3) := by
          obtain ⟨dx3, t3, xs3, h3, _⟩ := hy3
          exact ⟨_, (tyV_own TS h3).gob hold36.bx W36, rfl, rfl⟩
        obtain ⟨H39, eH39, s39, a39⟩ := grown (.tup [.non, .int 0, .str "3 owe 1", .bl true, .ref y3, u5]) ntq
        rw [eH39]
        have hold39 := (hold36.gob W36).same s39
        have go39 := ((go35.same s36).trans W36).same s39
        have noT : ∀ v ∈ ([.non, .int 0, .str "3 owe 1", .bl true, .ref y3, u5] : List V), NoSeq K H39 v := fun v hv => by
          simp only [List.mem_cons, List.not_mem_nil, or_false] at hv
          rcases hv with rfl | rfl | rfl | rfl | rfl | rfl
          · exact .flat rfl
          · exact .flat rfl
          · exact .flat (by decide +kernel)
          · exact .flat rfl
          · exact noY.same s39
          · exact .flat f5
        generalize ([.non, .int 0, .str "3 owe 1", .bl true, .ref y3, u5] : List V) = TT at a39 noT
        refine ⟨tq, rfl, ⟨_, SqT.of a39⟩, for_tup (K := K) (a := tq) (xs := TT) (fun m σ H' => ∃ (w3 w4 w5 w6 w7 w8 w9 w10 w11 : Option V), σ = [some (.ref a), some (.int (0 + (i : Int))), some (.ref B), w3, some (.ref p), w5, w6, w7, w8, w9, w10, w11] ∧ Same H39 H')
          ⟨_, none, _, _, _, _, _, _, _, rfl, Same.refl _⟩ (fun m σ H' _ ⟨_, _, _, _, _, _, _, _, _, _, sx⟩ => SqT.of (sx _ _ a39)) ?_ ?_⟩
        · rintro m yv σ H40 hm ⟨w3, w4, w5, w6, w7, w8, w9, w10, w11, rfl, sx⟩
          have nv := (noT yv (at_mem hm)).same sx
          refine ⟨_, rfl, _, _, none, [], rfl, nv.arg, by decide, .inl ⟨rfl, rfl⟩, fun H41 s41 => ⟨rfl, _, rfl, iteNS rfl ?_⟩⟩
          have hold41 := (hold39.same sx).same s41
          refine ⟨_, rfl, _, rfl, ?_⟩
          intro y4 dyy4 nyy4 ndyy4 _
          refine story_made nyy4 ndyy4 (hold41.row.all.sq hold41.hp (by omega)) (dueT_ok row.run) fun H42 s42 hy4 => ?_
          refine ⟨_, _, none, os, rfl, ((nv.same s41).same s42).arg, (by show os.length + 0 ≤ 1000; omega), .inr ⟨y4, rfl, hy4⟩, fun H43 s43 => ?_⟩
          have e6 : optI (dueG os none) = .int (xs.length : Int) := by rw [hxl]; rfl
          rw [e6]
          have hold43 := (hold41.same s42).same s43
          refine ⟨_, rfl, p, xs, rfl, .inl (SqL.of hold43.hp), rfl, _, rfl, iteNS rfl ?_⟩
          exact ⟨_, none, _, _, _, _, _, _, _, rfl, ((sx.trans s41).trans s42).trans s43⟩
        · rintro σ H40 ⟨w3, w4, w5, w6, w7, w8, w9, w10, w11, rfl, sx⟩
          exact ⟨_, _, _, _, _, _, _, _, _, rfl, go39.same sx⟩
      · rintro σ H3 ⟨v3, v4, v5, v6, v7, v8, v9, v10, v11, rfl, W3⟩
        exact ⟨_, _, _, _, _, _, _, _, _, _, _, rfl, W3.toSame s1 s2 nB⟩
    · rintro σ H1 ⟨v1, v2, v3, v4, v5, v6, v7, v8, v9, v10, v11, rfl, s1⟩
      refine ⟨Nat.zero_le _, fun l nl => ⟨_, _, some ([], []), [], rfl, ThAll.sq .nil upd_same (Nat.zero_le _), by decide, .inl ⟨rfl, rfl⟩, fun H2 s2 => ⟨rfl, _, rfl, iteT ?_⟩⟩⟩
      refine ⟨Nat.zero_le _, fun tt ntt => ?_⟩
      obtain ⟨H7, eH7, s7, a7⟩ := grown (.tup []) ntt
      rw [eH7]
      intro y dyy nyy ndyy _
      refine story_made nyy ndyy (.seq (.inr (hTe _)) .nil (Nat.zero_le _)) rfl fun H8 s8 hy => ?_
      exact ⟨_, _, some ([], []), [], rfl, ThAll.sqT .nil (s8 _ _ a7) (Nat.zero_le _), by decide, .inr ⟨y, rfl, hy⟩, fun H9 s9 => ⟨rfl, k H9⟩⟩
end
end Ts

namespace Ts
open PySem L2
theorem all_mk {l : PySem.W.OpenLaw} {w : World} {K : PySem.W.Frag} {h : Heap} {mg : Str → Option Value} {fa f_seed f_choose f_oneOf f_drawn f_any f_tried f_isInt f_isNum f_isCount f_isName f_isSeq f_isOcc f_law CS f_story TdCS Te f_further CT CR CI f_xstory TN : Addr} (X : K.In h) (G : h.Ns mainGlobals mg) (hfa : mg "law" = some (.ref fa))
    {od_seed an_seed od_choose an_choose od_oneOf an_oneOf od_drawn an_drawn od_any an_any od_tried an_tried od_isInt an_isInt od_isNum an_isNum od_isCount an_isCount od_isName an_isName od_isSeq an_isSeq od_isOcc an_isOcc od_law an_law od_story an_story od_TdCS od_Te od_further an_further od_xstory an_xstory od_TN : Option Addr} {sl_seed sl_choose sl_oneOf sl_drawn sl_any sl_tried sl_isInt sl_isNum sl_isCount sl_isName sl_isSeq sl_isOcc sl_law sl_story sl_TdCS sl_Te sl_further sl_xstory sl_TN : Array (Option Value)} {oc_seed kV_seed dc_seed pm_seed cd_seed ct_seed oc_choose kV_choose dc_choose pm_choose cd_choose ct_choose oc_oneOf kV_oneOf dc_oneOf pm_oneOf cd_oneOf ct_oneOf oc_drawn kV_drawn dc_drawn pm_drawn cd_drawn ct_drawn oc_any kV_any dc_any pm_any cd_any ct_any oc_tried kV_tried dc_tried pm_tried cd_tried ct_tried oc_isInt kV_isInt dc_isInt pm_isInt cd_isInt ct_isInt oc_isNum kV_isNum dc_isNum pm_isNum cd_isNum ct_isNum oc_isCount kV_isCount dc_isCount pm_isCount cd_isCount ct_isCount oc_isName kV_isName dc_isName pm_isName cd_isName ct_isName oc_isSeq kV_isSeq dc_isSeq pm_isSeq cd_isSeq ct_isSeq oc_isOcc kV_isOcc dc_isOcc pm_isOcc cd_isOcc ct_isOcc oc_law kV_law dc_law pm_law cd_law ct_law oc_story kV_story dc_story pm_story cd_story ct_story oc_TdCS oc_further kV_further dc_further pm_further cd_further ct_further oc_xstory kV_xstory dc_xstory pm_xstory cd_xstory ct_xstory : Value} {n_TdCS n_Te n_TN : Nat} {tk_TN_0 tk_TN_1 tk_TN_2 tk_TN_3 tk_TN_4 tk_MOST_LETTERS tk_LETTERS : Tok} {nm_CI q_CI : Str} {N_CI : Addr} {bs_CI sub_CI : List Value} {sn_CI : List Str} {ab_CI : Bool} {col_CI : Option Bool} {dd_CI : Option Addr} {k0_CI k1_CI k2_CI k3_CI k5_CI : Option Value}
    (a_seed : PySem.W.nsIn K mainGlobals "_law_seed" = some (some (.ref f_seed)))
    (l_seed : K.lookup f_seed = some ⟨oc_seed, od_seed, .func (PySem.W.fnOf "_law_seed" "_law_seed" (C8.fnArgs sSeed) (C8.fnBody sSeed) (C8.fnScope sSeed) .none kV_seed dc_seed pm_seed an_seed cd_seed ct_seed), sl_seed⟩)
    (c_seed : PySem.W.codeIn K cd_seed "_law_seed" = true)
    (k_seed : PySem.W.keepIn K (.ref f_seed) = true)
    (a_choose : PySem.W.nsIn K mainGlobals "_law_choose" = some (some (.ref f_choose)))
    (l_choose : K.lookup f_choose = some ⟨oc_choose, od_choose, .func (PySem.W.fnOf "_law_choose" "_law_choose" (C8.fnArgs sChoose) (C8.fnBody sChoose) (C8.fnScope sChoose) .none kV_choose dc_choose pm_choose an_choose cd_choose ct_choose), sl_choose⟩)
    (c_choose : PySem.W.codeIn K cd_choose "_law_choose" = true)
    (k_choose : PySem.W.keepIn K (.ref f_choose) = true)
    (a_oneOf : PySem.W.nsIn K mainGlobals "_law_one_of" = some (some (.ref f_oneOf)))
    (l_oneOf : K.lookup f_oneOf = some ⟨oc_oneOf, od_oneOf, .func (PySem.W.fnOf "_law_one_of" "_law_one_of" (C8.fnArgs sOneOf) (C8.fnBody sOneOf) (C8.fnScope sOneOf) .none kV_oneOf dc_oneOf pm_oneOf an_oneOf cd_oneOf ct_oneOf), sl_oneOf⟩)
    (c_oneOf : PySem.W.codeIn K cd_oneOf "_law_one_of" = true)
    (k_oneOf : PySem.W.keepIn K (.ref f_oneOf) = true)
    (a_drawn : PySem.W.nsIn K mainGlobals "_law_drawn" = some (some (.ref f_drawn)))
    (l_drawn : K.lookup f_drawn = some ⟨oc_drawn, od_drawn, .func (PySem.W.fnOf "_law_drawn" "_law_drawn" (C8.fnArgs sDrawn) (C8.fnBody sDrawn) (C8.fnScope sDrawn) .none kV_drawn dc_drawn pm_drawn an_drawn cd_drawn ct_drawn), sl_drawn⟩)
    (c_drawn : PySem.W.codeIn K cd_drawn "_law_drawn" = true)
    (k_drawn : PySem.W.keepIn K (.ref f_drawn) = true)
    (a_any : PySem.W.nsIn K mainGlobals "_law_anything" = some (some (.ref f_any)))
    (l_any : K.lookup f_any = some ⟨oc_any, od_any, .func (PySem.W.fnOf "_law_anything" "_law_anything" (C8.fnArgs sAny) (C8.fnBody sAny) (C8.fnScope sAny) .none kV_any dc_any pm_any an_any cd_any ct_any), sl_any⟩)
    (c_any : PySem.W.codeIn K cd_any "_law_anything" = true)
    (k_any : PySem.W.keepIn K (.ref f_any) = true)
    (a_tried : PySem.W.nsIn K mainGlobals "_law_tried" = some (some (.ref f_tried)))
    (l_tried : K.lookup f_tried = some ⟨oc_tried, od_tried, .func (PySem.W.fnOf "_law_tried" "_law_tried" (C8.fnArgs sTried) (C8.fnBody sTried) (C8.fnScope sTried) .none kV_tried dc_tried pm_tried an_tried cd_tried ct_tried), sl_tried⟩)
    (c_tried : PySem.W.codeIn K cd_tried "_law_tried" = true)
    (k_tried : PySem.W.keepIn K (.ref f_tried) = true)
    (a_isInt : PySem.W.nsIn K mainGlobals "is_integer" = some (some (.ref f_isInt)))
    (l_isInt : K.lookup f_isInt = some ⟨oc_isInt, od_isInt, .func (PySem.W.fnOf "is_integer" "is_integer" (C8.fnArgs sIsInt) (C8.fnBody sIsInt) (C8.fnScope sIsInt) .none kV_isInt dc_isInt pm_isInt an_isInt cd_isInt ct_isInt), sl_isInt⟩)
    (c_isInt : PySem.W.codeIn K cd_isInt "is_integer" = true)
    (k_isInt : PySem.W.keepIn K (.ref f_isInt) = true)
    (a_isNum : PySem.W.nsIn K mainGlobals "is_number" = some (some (.ref f_isNum)))
    (l_isNum : K.lookup f_isNum = some ⟨oc_isNum, od_isNum, .func (PySem.W.fnOf "is_number" "is_number" (C8.fnArgs sIsNum) (C8.fnBody sIsNum) (C8.fnScope sIsNum) .none kV_isNum dc_isNum pm_isNum an_isNum cd_isNum ct_isNum), sl_isNum⟩)
    (c_isNum : PySem.W.codeIn K cd_isNum "is_number" = true)
    (k_isNum : PySem.W.keepIn K (.ref f_isNum) = true)
    (a_isCount : PySem.W.nsIn K mainGlobals "is_count" = some (some (.ref f_isCount)))
    (l_isCount : K.lookup f_isCount = some ⟨oc_isCount, od_isCount, .func (PySem.W.fnOf "is_count" "is_count" (C8.fnArgs sIsCount) (C8.fnBody sIsCount) (C8.fnScope sIsCount) .none kV_isCount dc_isCount pm_isCount an_isCount cd_isCount ct_isCount), sl_isCount⟩)
    (c_isCount : PySem.W.codeIn K cd_isCount "is_count" = true)
    (k_isCount : PySem.W.keepIn K (.ref f_isCount) = true)
    (a_isName : PySem.W.nsIn K mainGlobals "is_name" = some (some (.ref f_isName)))
    (l_isName : K.lookup f_isName = some ⟨oc_isName, od_isName, .func (PySem.W.fnOf "is_name" "is_name" (C8.fnArgs sIsName) (C8.fnBody sIsName) (C8.fnScope sIsName) .none kV_isName dc_isName pm_isName an_isName cd_isName ct_isName), sl_isName⟩)
    (c_isName : PySem.W.codeIn K cd_isName "is_name" = true)
    (k_isName : PySem.W.keepIn K (.ref f_isName) = true)
    (a_isSeq : PySem.W.nsIn K mainGlobals "is_sequence" = some (some (.ref f_isSeq)))
    (l_isSeq : K.lookup f_isSeq = some ⟨oc_isSeq, od_isSeq, .func (PySem.W.fnOf "is_sequence" "is_sequence" (C8.fnArgs sIsSeq) (C8.fnBody sIsSeq) (C8.fnScope sIsSeq) .none kV_isSeq dc_isSeq pm_isSeq an_isSeq cd_isSeq ct_isSeq), sl_isSeq⟩)
    (c_isSeq : PySem.W.codeIn K cd_isSeq "is_sequence" = true)
    (k_isSeq : PySem.W.keepIn K (.ref f_isSeq) = true)
    (a_isOcc : PySem.W.nsIn K mainGlobals "is_occasion" = some (some (.ref f_isOcc)))
    (l_isOcc : K.lookup f_isOcc = some ⟨oc_isOcc, od_isOcc, .func (PySem.W.fnOf "is_occasion" "is_occasion" (C8.fnArgs sIsOcc) (C8.fnBody sIsOcc) (C8.fnScope sIsOcc) .none kV_isOcc dc_isOcc pm_isOcc an_isOcc cd_isOcc ct_isOcc), sl_isOcc⟩)
    (c_isOcc : PySem.W.codeIn K cd_isOcc "is_occasion" = true)
    (k_isOcc : PySem.W.keepIn K (.ref f_isOcc) = true)
    (a_law : PySem.W.nsIn K mainGlobals "law" = some (some (.ref f_law)))
    (l_law : K.lookup f_law = some ⟨oc_law, od_law, .func (PySem.W.fnOf "law" "law" (C8.fnArgs sLaw) (C8.fnBody sLaw) (C8.fnScope sLaw) .none kV_law dc_law pm_law an_law cd_law ct_law), sl_law⟩)
    (c_law : PySem.W.codeIn K cd_law "law" = true)
    (k_law : PySem.W.keepIn K (.ref f_law) = true)
    (g_CS : PySem.W.nsIn K mainGlobals "Story" = some (some (.ref CS)))
    (pg_CS : PySem.W.plainGet K CS Str.empty = true)
    (hd_CS : PySem.W.hasDictIn K CS = true)
    (po_CS : PySem.W.plainOver K CS = true)
    (sa_CS : PySem.W.findIn K (.ref CS) "__setattr__" = some (some (.builtin "object.__setattr__")))
    (mk_CS : PySem.W.makesIn K CS = true)
    (kc_CS : PySem.W.keepIn K (.ref CS) = true)
    (n_CS_occasions : PySem.W.findIn K (.ref CS) "occasions" = some none)
    (ha_CS : PySem.W.findIn K (.ref CS) "__class__" = some (some (.builtin "object.__class__")))
    (hn_cls : PySem.W.specialIn K (.builtin "object.__class__") "__get__" = some (some (.builtin "getset_descriptor.__get__")))
    (ht_cls : PySem.W.takesIn K (.builtin "object.__class__") = some true)
    (hm_CS : PySem.W.mroIn K CS (.type "object") = some true)
    (k0_CS : PySem.W.kitOne K (.ref CS) (.type "int") = some false)
    (k1_CS : PySem.W.kitOne K (.ref CS) (.type "bool") = some false)
    (k2_CS : PySem.W.kitOne K (.ref CS) (.type "str") = some false)
    (k3_CS : PySem.W.kitOne K (.ref CS) (.type "list") = some false)
    (k4_CS : PySem.W.kitOne K (.ref CS) (.type "tuple") = some false)
    (a_story : PySem.W.findIn K (.ref CS) "__init__" = some (some (.ref f_story)))
    (i_story : PySem.W.isFn K (.ref f_story) = true)
    (l_story : K.lookup f_story = some ⟨oc_story, od_story, .func (PySem.W.fnOf "__init__" "Story.__init__" (C8.fnArgs sStoryI) (C8.fnBody sStoryI) (C8.fnScope sStoryI) (.ref TdCS) kV_story dc_story pm_story an_story cd_story ct_story), sl_story⟩)
    (c_story : PySem.W.codeIn K cd_story "Story.__init__" = true)
    (k_story : PySem.W.keepIn K (.ref f_story) = true)
    (l_TdCS : K.lookup TdCS = some ⟨oc_TdCS, od_TdCS, .seq #[.ref Te] n_TdCS, sl_TdCS⟩)
    (l_Te : K.lookup Te = some ⟨.type "tuple", od_Te, .seq #[] n_Te, sl_Te⟩)
    (a_further : PySem.W.findIn K (.ref CS) "further" = some (some (.ref f_further)))
    (i_further : PySem.W.isFn K (.ref f_further) = true)
    (l_further : K.lookup f_further = some ⟨oc_further, od_further, .func (PySem.W.fnOf "further" "Story.further" (C8.fnArgs sFurther) (C8.fnBody sFurther) (C8.fnScope sFurther) .none kV_further dc_further pm_further an_further cd_further ct_further), sl_further⟩)
    (c_further : PySem.W.codeIn K cd_further "Story.further" = true)
    (k_further : PySem.W.keepIn K (.ref f_further) = true)
    (g_CT : PySem.W.nsIn K mainGlobals "TermError" = some (some (.ref CT)))
    (g_CR : PySem.W.nsIn K mainGlobals "InvalidText" = some (some (.ref CR)))
    (g_CI : PySem.W.nsIn K mainGlobals "InvalidStory" = some (some (.ref CI)))
    (l_CI : K.lookup CI = some (excClassObj nm_CI q_CI CI N_CI bs_CI [.ref CT, .type "ValueError", .type "Exception", .type "BaseException", .type "object"] true sn_CI sub_CI ab_CI col_CI dd_CI k0_CI k1_CI k2_CI k3_CI k5_CI "ValueError.__new__"))
    (sa_CI : PySem.W.findIn K (.ref CI) "__setattr__" = some (some (.builtin "object.__setattr__")))
    (ex_CI : PySem.W.subIn K (.ref CI) (.type "BaseException") = some true)
    (ty_CI : PySem.W.typeIn K (.ref CI) = some (.type "type"))
    (kc_CI : PySem.W.keepIn K (.ref CI) = true)
    (a_xstory : PySem.W.findIn K (.ref CI) "__init__" = some (some (.ref f_xstory)))
    (t_xstory : PySem.W.typeIn K (.ref f_xstory) = some (.type "function"))
    (l_xstory : K.lookup f_xstory = some ⟨oc_xstory, od_xstory, .func (PySem.W.fnOf "__init__" "InvalidStory.__init__" (C8.fnArgs sXStory) (C8.fnBody sXStory) (C8.fnScope sXStory) .none kV_xstory dc_xstory pm_xstory an_xstory cd_xstory ct_xstory), sl_xstory⟩)
    (c_xstory : PySem.W.codeIn K cd_xstory "InvalidStory.__init__" = true)
    (no_CI : PySem.W.findIn K (.ref CI) "at" = some none)
    (ga_CI : PySem.W.findIn K (.ref CI) "__getattribute__" = some (some (.builtin "BaseException.__getattribute__")))
    (gg_CI : PySem.W.findIn K (.ref CI) "__getattr__" = some none)
    (hd_CI : PySem.W.hasDictIn K CI = true)
    (ha_CI : PySem.W.findIn K (.ref CI) "__class__" = some (some (.builtin "object.__class__")))
    (hm_CI : PySem.W.mroIn K CI (.type "object") = some true)
    (su_CI : PySem.W.subIn K (.ref CI) (.ref CI) = some true)
    (is_CI_CT : PySem.W.kitOne K (.ref CI) (.ref CT) = some true)
    (is_CI_CR : PySem.W.kitOne K (.ref CI) (.ref CR) = some false)
    (z_int : PySem.W.nsIn K mainGlobals "int" = some none)
    (z_bool : PySem.W.nsIn K mainGlobals "bool" = some none)
    (z_str : PySem.W.nsIn K mainGlobals "str" = some none)
    (z_list : PySem.W.nsIn K mainGlobals "list" = some none)
    (z_range : PySem.W.nsIn K mainGlobals "range" = some none)
    (z_isinstance : PySem.W.nsIn K mainGlobals "isinstance" = some none)
    (z_len : PySem.W.nsIn K mainGlobals "len" = some none)
    (z_abs : PySem.W.nsIn K mainGlobals "abs" = some none)
    (z_tuple : PySem.W.nsIn K mainGlobals "tuple" = some none)
    (z_all : PySem.W.nsIn K mainGlobals "all" = some none)
    (z_enumerate : PySem.W.nsIn K mainGlobals "enumerate" = some none)
    (z_max : PySem.W.nsIn K mainGlobals "max" = some none)
    (z_min : PySem.W.nsIn K mainGlobals "min" = some none)
    (g_TN : PySem.W.nsIn K mainGlobals "NO_NAMES" = some (some (.ref TN)))
    (l_TN : K.lookup TN = some ⟨.type "tuple", od_TN, .seq #[.str "any" tk_TN_0, .str "none" tk_TN_1, .str "anew" tk_TN_2, .str "lift" tk_TN_3, .str "term" tk_TN_4] n_TN, sl_TN⟩)
    (z_MOST_LETTERS : PySem.W.nsIn K mainGlobals "MOST_LETTERS" = some (some (.int 4 tk_MOST_LETTERS)))
    (z_LETTERS : PySem.W.nsIn K mainGlobals "LETTERS" = some (some (.str "abcdefghijklmnopqrstuvwxyz" tk_LETTERS))) :
    ∃ fd : FuncData, (∀ (s : Shared) (v : Value), BindsTo s fd ⟨[v], []⟩ [("_law_script", v)]) ∧ ∀ base : Heap, K.In base → base.Ns mainGlobals mg → FnOk l.prog w K mg base C8.CX0 8 fa fd ["_law_script"] (spLaw K) := by
  have e := hfa.symm.trans (PySem.W.mg_of X G a_law)
  cases e
  have N : ∀ {x : Str}, PySem.W.nsIn K mainGlobals x = some none → mg x = none := fun z => PySem.W.mg_none_of X G z
  have D_seed : C8.Def K mg "_law_seed" sSeed f_seed _ := ⟨⟨oc_seed, od_seed, .none, kV_seed, dc_seed, pm_seed, an_seed, cd_seed, ct_seed, sl_seed, rfl, l_seed, c_seed⟩, PySem.W.mg_of X G a_seed, k_seed⟩
  have D_choose : C8.Def K mg "_law_choose" sChoose f_choose _ := ⟨⟨oc_choose, od_choose, .none, kV_choose, dc_choose, pm_choose, an_choose, cd_choose, ct_choose, sl_choose, rfl, l_choose, c_choose⟩, PySem.W.mg_of X G a_choose, k_choose⟩
  have D_oneOf : C8.Def K mg "_law_one_of" sOneOf f_oneOf _ := ⟨⟨oc_oneOf, od_oneOf, .none, kV_oneOf, dc_oneOf, pm_oneOf, an_oneOf, cd_oneOf, ct_oneOf, sl_oneOf, rfl, l_oneOf, c_oneOf⟩, PySem.W.mg_of X G a_oneOf, k_oneOf⟩
  have D_drawn : C8.Def K mg "_law_drawn" sDrawn f_drawn _ := ⟨⟨oc_drawn, od_drawn, .none, kV_drawn, dc_drawn, pm_drawn, an_drawn, cd_drawn, ct_drawn, sl_drawn, rfl, l_drawn, c_drawn⟩, PySem.W.mg_of X G a_drawn, k_drawn⟩
  have D_any : C8.Def K mg "_law_anything" sAny f_any _ := ⟨⟨oc_any, od_any, .none, kV_any, dc_any, pm_any, an_any, cd_any, ct_any, sl_any, rfl, l_any, c_any⟩, PySem.W.mg_of X G a_any, k_any⟩
  have D_tried : C8.Def K mg "_law_tried" sTried f_tried _ := ⟨⟨oc_tried, od_tried, .none, kV_tried, dc_tried, pm_tried, an_tried, cd_tried, ct_tried, sl_tried, rfl, l_tried, c_tried⟩, PySem.W.mg_of X G a_tried, k_tried⟩
  have D_isInt : C8.Def K mg "is_integer" sIsInt f_isInt _ := ⟨⟨oc_isInt, od_isInt, .none, kV_isInt, dc_isInt, pm_isInt, an_isInt, cd_isInt, ct_isInt, sl_isInt, rfl, l_isInt, c_isInt⟩, PySem.W.mg_of X G a_isInt, k_isInt⟩
  have D_isNum : C8.Def K mg "is_number" sIsNum f_isNum _ := ⟨⟨oc_isNum, od_isNum, .none, kV_isNum, dc_isNum, pm_isNum, an_isNum, cd_isNum, ct_isNum, sl_isNum, rfl, l_isNum, c_isNum⟩, PySem.W.mg_of X G a_isNum, k_isNum⟩
  have D_isCount : C8.Def K mg "is_count" sIsCount f_isCount _ := ⟨⟨oc_isCount, od_isCount, .none, kV_isCount, dc_isCount, pm_isCount, an_isCount, cd_isCount, ct_isCount, sl_isCount, rfl, l_isCount, c_isCount⟩, PySem.W.mg_of X G a_isCount, k_isCount⟩
  have D_isName : C8.Def K mg "is_name" sIsName f_isName _ := ⟨⟨oc_isName, od_isName, .none, kV_isName, dc_isName, pm_isName, an_isName, cd_isName, ct_isName, sl_isName, rfl, l_isName, c_isName⟩, PySem.W.mg_of X G a_isName, k_isName⟩
  have D_isSeq : C8.Def K mg "is_sequence" sIsSeq f_isSeq _ := ⟨⟨oc_isSeq, od_isSeq, .none, kV_isSeq, dc_isSeq, pm_isSeq, an_isSeq, cd_isSeq, ct_isSeq, sl_isSeq, rfl, l_isSeq, c_isSeq⟩, PySem.W.mg_of X G a_isSeq, k_isSeq⟩
  have D_isOcc : C8.Def K mg "is_occasion" sIsOcc f_isOcc _ := ⟨⟨oc_isOcc, od_isOcc, .none, kV_isOcc, dc_isOcc, pm_isOcc, an_isOcc, cd_isOcc, ct_isOcc, sl_isOcc, rfl, l_isOcc, c_isOcc⟩, PySem.W.mg_of X G a_isOcc, k_isOcc⟩
  have F_law : C8.Fun K "law" "law" sLaw fa _ := ⟨oc_law, od_law, .none, kV_law, dc_law, pm_law, an_law, cd_law, ct_law, sl_law, rfl, l_law, c_law⟩
  have c_CS : Cls K CS := ⟨pg_CS, hd_CS, po_CS, sa_CS⟩
  have N_CS : ClsN K CS ["occasions"] := ⟨c_CS, fun n hn => by
    simp only [List.mem_cons, List.not_mem_nil, or_false] at hn
    rcases hn with rfl
    · exact n_CS_occasions⟩
  have O_CS : OwnT K CS := ⟨c_CS, ha_CS, hn_cls, ht_cls, hm_CS, k0_CS, k1_CS, k2_CS, k3_CS, k4_CS⟩
  have F_story : C8.Fun K "__init__" "Story.__init__" sStoryI f_story _ := ⟨oc_story, od_story, (.ref TdCS), kV_story, dc_story, pm_story, an_story, cd_story, ct_story, sl_story, rfl, l_story, c_story⟩
  have FD_story : FunD K "__init__" "Story.__init__" (C8.fnArgs sStoryI) (C8.fnBody sStoryI) (C8.fnScope sStoryI) [.ref Te] [] f_story _ := ⟨⟨oc_story, od_story, .ref TdCS, kV_story, dc_story, pm_story, an_story, cd_story, ct_story, sl_story, rfl, l_story, c_story, .inr ⟨by simp, TdCS, _, [.ref Te], n_TdCS, rfl, l_TdCS, rfl, .cons rfl (.nil)⟩, .inl rfl⟩, k_story⟩
  have T_Te : ∀ H, SqT K H Te [] := fun H => .inr ⟨_, _, n_Te, l_Te, rfl, rfl, (by show 0 ≤ sizeLine; decide), .nil⟩
  have F_further : C8.Fun K "further" "Story.further" sFurther f_further _ := ⟨oc_further, od_further, .none, kV_further, dc_further, pm_further, an_further, cd_further, ct_further, sl_further, rfl, l_further, c_further⟩
  have F_xstory : C8.Fun K "__init__" "InvalidStory.__init__" sXStory f_xstory _ := ⟨oc_xstory, od_xstory, .none, kV_xstory, dc_xstory, pm_xstory, an_xstory, cd_xstory, ct_xstory, sl_xstory, rfl, l_xstory, c_xstory⟩
  have X_CI : OexC K CI := ⟨⟨_, _, _, _, _, _, _, _, _, _, _, _, _, _, _, l_CI, rfl⟩, sa_CI, ex_CI, ty_CI, kc_CI⟩
  have te_CI : PySem.W.exmOne K (.ref CI) (.ref CI) = some true := PySem.W.exm_ref ex_CI hd_CI ty_CI su_CI
  have EC_CI : ExcC K CI := ⟨ga_CI, gg_CI, ex_CI, hd_CI, ha_CI, hn_cls, ht_cls, hm_CI⟩
  have XF_CI : XfC K CI := ⟨ga_CI, gg_CI, ex_CI, hd_CI⟩
  have T_TN : ∀ H, SqT K H TN noNames := fun H => .inr ⟨_, _, n_TN, l_TN, rfl, rfl, (by show 5 ≤ sizeLine; decide), .cons ⟨_, rfl⟩ (.cons ⟨_, rfl⟩ (.cons ⟨_, rfl⟩ (.cons ⟨_, rfl⟩ (.cons ⟨_, rfl⟩ (.nil)))))⟩
  have m_MOST_LETTERS : ∃ u, mg "MOST_LETTERS" = some u ∧ RelV (.int 4) u := ⟨_, PySem.W.mg_of X G z_MOST_LETTERS, _, rfl⟩
  have m_LETTERS : ∃ u, mg "LETTERS" = some u ∧ RelV (.str letters) u := ⟨_, PySem.W.mg_of X G z_LETTERS, _, rfl⟩
  obtain ⟨dsS, vS, bS⟩ := FD_story.binds1 (ps := ["self", "occasions"]) 2 1 (by simp) rfl fun T kV doc pm an cdv ct us its h1 h2 => match us, h1, its, h2 with | [_, _], _, [_], _ => ⟨_, rfl, rfl⟩
  obtain ⟨dsT, vT, bT⟩ := FD_story.binds1 (ps := ["self", "occasions"]) 1 0 (by simp) rfl fun T kV doc pm an cdv ct us its h1 h2 => match us, h1, its, h2 with | [_], _, [_], _ => ⟨_, rfl, rfl⟩
  refine ⟨PySem.W.fnOf "law" "law" (C8.fnArgs sLaw) (C8.fnBody sLaw) (C8.fnScope sLaw) .none kV_law dc_law pm_law an_law cd_law ct_law, fun s v => .of_eq rfl, fun base _ _ => ?_⟩
  have gI := PySem.W.mg_of X G g_CI
  have cI := cal_isInt (P := l.prog) (w := w) (base := base) D_isInt rfl (N z_isinstance) (N z_int) (N z_bool)
  have cC := cal_isCount D_isCount rfl cI
  have cM := cal_isNum D_isNum rfl cI
  have cN := cal_isName (P := l.prog) (w := w) (base := base) D_isName rfl (N z_isinstance) (N z_str) (N z_len) (N z_all) (PySem.W.mg_of X G g_TN) T_TN m_MOST_LETTERS m_LETTERS
  have cQ := cal_isSeq (P := l.prog) (w := w) (base := base) D_isSeq rfl (N z_isinstance) (N z_list) (N z_tuple)
  have cO := cal_isOcc D_isOcc rfl (N z_isinstance) (N z_tuple) (N z_len) cM cN cC
  have eS := err_story (P := l.prog) (w := w) (base := base) F_xstory rfl X_CI a_xstory t_xstory no_CI gI
  have fS := fn_story F_story N_CS eS (N z_enumerate) (N z_tuple) cQ cO
  have gS := PySem.W.mg_of X G g_CS
  have mk : Mk K CS f_story := ⟨mk_CS, a_story, i_story, kc_CS⟩
  have mS : MakX l.prog w K mg base 4 "Story" CS (spStory K CS CI) [] := ⟨f_story, _, _, dsS, mk, fS, gS, bS, vS⟩
  obtain ⟨ff, ffd, fps, fds, fcl, fme, fF, fb, fv⟩ := (met_further F_further rfl N_CS ⟨a_further, i_further, k_further⟩ eS (N z_len) cQ mS).ex
  cases fv
  have cCh := cal_choose (P := l.prog) (w := w) (base := base) D_choose rfl (N z_int)
  have cOn := cal_oneOf D_oneOf rfl (N z_len) cCh
  exact fn_law (CI := CI) F_law ⟨N z_range, N z_len, N z_max, N z_min, N z_str, N z_tuple⟩ O_CS (cal_seed D_seed rfl (N z_int) (N z_abs) (N z_len)) cCh cOn (cal_drawn D_drawn rfl (N z_range) cOn) (cal_any D_any rfl (N z_range) (N z_tuple) cCh cOn 2)
    (cal_tried D_tried rfl ⟨EC_CI, XF_CI, no_CI, te_CI, is_CI_CT, is_CI_CR, gI, PySem.W.mg_of X G g_CT, PySem.W.mg_of X G g_CR⟩ (N z_isinstance) mS fcl fme fF fb) mS mk fS gS bT vT T_Te
theorem walk {l : PySem.W.OpenLaw} {q : Program} {loose : List Str} {XP : (Str → Option Value) → Heap → Prop} {YP : World → Heap → Prop} {d : DefRec} {K : Params → PySem.W.Frag} (hn : l.most = some 63) (hdf : d.params.defaults = [])
    (hY : ∀ (w : World) (h : Heap), YP w h → (K w.params).In h)
    (F : ∀ (w : World) (mg : Str → Option Value) (fa : Addr) (h : Heap), (K w.params).In h → h.Ns mainGlobals mg → mg d.name = some (.ref fa) →
      ∃ fd : FuncData, (∀ (s : Shared) (u : Value), BindsTo s fd ⟨[u], []⟩ [("_law_script", u)]) ∧ ∀ base : Heap, (K w.params).In base → base.Ns mainGlobals mg → FnOk l.prog w (K w.params) mg base C8.CX0 8 fa fd ["_law_script"] (spLaw (K w.params))) :
    PySem.W.WalkO q loose XP YP l.row.toRowW d [] (fun f vs => PySem.call f vs) :=
  L2.walk_of (n := 63) (k := 8) (x := "_law_script") (CX := fun _ => C8.CX0) (sp := fun w => spLaw (K w.params)) hn (by decide) hdf ⟨rfl, by decide, by decide⟩ hY F (fun _ _ a ns hl _ hS => ⟨a, ns, rfl, hS, hl, fun _ => rfl⟩) fun _ _ _ _ _ z => z
end Ts
open PySem PySem.W PyProof.Rows
set_option maxRecDepth 100000 in
set_option maxHeartbeats 0 in
theorem PySem.Challenge.cw_termstill_k14_stories_refused_holds : PySem.Challenge.rw_termstill_k14_stories_refused.Holds := by
  w_on; o_law; k_head; (case hw => w_witness2)
  k_fill
  refine Ts.walk (l := PySem.Challenge.rw_termstill_k14_stories_refused) rfl rfl (fun w h Y => PySem.W.kIn_of Y) ?F
  case F =>
    intro w mg fa h KX G hmg
    refine' Ts.all_mk KX G hmg ?a_seed ?l_seed ?c_seed ?k_seed ?a_choose ?l_choose ?c_choose ?k_choose ?a_oneOf ?l_oneOf ?c_oneOf ?k_oneOf ?a_drawn ?l_drawn ?c_drawn ?k_drawn ?a_any ?l_any ?c_any ?k_any ?a_tried ?l_tried ?c_tried ?k_tried ?a_isInt ?l_isInt ?c_isInt ?k_isInt ?a_isNum ?l_isNum ?c_isNum ?k_isNum ?a_isCount ?l_isCount ?c_isCount ?k_isCount ?a_isName ?l_isName ?c_isName ?k_isName ?a_isSeq ?l_isSeq ?c_isSeq ?k_isSeq ?a_isOcc ?l_isOcc ?c_isOcc ?k_isOcc ?a_law ?l_law ?c_law ?k_law ?g_CS ?pg_CS ?hd_CS ?po_CS ?sa_CS ?mk_CS ?kc_CS ?n_CS_occasions ?ha_CS ?hn_cls ?ht_cls ?hm_CS ?k0_CS ?k1_CS ?k2_CS ?k3_CS ?k4_CS ?a_story ?i_story ?l_story ?c_story ?k_story ?l_TdCS ?l_Te ?a_further ?i_further ?l_further ?c_further ?k_further ?g_CT ?g_CR ?g_CI ?l_CI ?sa_CI ?ex_CI ?ty_CI ?kc_CI ?a_xstory ?t_xstory ?l_xstory ?c_xstory ?no_CI ?ga_CI ?gg_CI ?hd_CI ?ha_CI ?hm_CI ?su_CI ?is_CI_CT ?is_CI_CR ?z_int ?z_bool ?z_str ?z_list ?z_range ?z_isinstance ?z_len ?z_abs ?z_tuple ?z_all ?z_enumerate ?z_max ?z_min ?g_TN ?l_TN ?z_MOST_LETTERS ?z_LETTERS
    (case a_seed => k_is)
    (case l_seed => k_is)
    (case c_seed => k_is)
    (case k_seed => k_is)
    (case a_choose => k_is)
    (case l_choose => k_is)
    (case c_choose => k_is)
    (case k_choose => k_is)
    (case a_oneOf => k_is)
    (case l_oneOf => k_is)
    (case c_oneOf => k_is)
    (case k_oneOf => k_is)
    (case a_drawn => k_is)
    (case l_drawn => k_is)
    (case c_drawn => k_is)
    (case k_drawn => k_is)
    (case a_any => k_is)
    (case l_any => k_is)
    (case c_any => k_is)
    (case k_any => k_is)
    (case a_tried => k_is)
    (case l_tried => k_is)
    (case c_tried => k_is)
    (case k_tried => k_is)
    (case a_isInt => k_is)
    (case l_isInt => k_is)
    (case c_isInt => k_is)
    (case k_isInt => k_is)
    (case a_isNum => k_is)
    (case l_isNum => k_is)
    (case c_isNum => k_is)
    (case k_isNum => k_is)
    (case a_isCount => k_is)
    (case l_isCount => k_is)
    (case c_isCount => k_is)
    (case k_isCount => k_is)
    (case a_isName => k_is)
    (case l_isName => k_is)
    (case c_isName => k_is)
    (case k_isName => k_is)
    (case a_isSeq => k_is)
    (case l_isSeq => k_is)
    (case c_isSeq => k_is)
    (case k_isSeq => k_is)
    (case a_isOcc => k_is)
    (case l_isOcc => k_is)
    (case c_isOcc => k_is)
    (case k_isOcc => k_is)
    (case a_law => k_is)
    (case l_law => k_is)
    (case c_law => k_is)
    (case k_law => k_is)
    (case g_CS => k_is)
    (case pg_CS => k_is)
    (case hd_CS => k_is)
    (case po_CS => k_is)
    (case sa_CS => k_is)
    (case mk_CS => k_is)
    (case kc_CS => k_is)
    (case n_CS_occasions => k_is)
    (case ha_CS => k_is)
    (case hn_cls => k_is)
    (case ht_cls => k_is)
    (case hm_CS => k_is)
    (case k0_CS => (first | kit_is | k_is))
    (case k1_CS => (first | kit_is | k_is))
    (case k2_CS => (first | kit_is | k_is))
    (case k3_CS => (first | kit_is | k_is))
    (case k4_CS => (first | kit_is | k_is))
    (case a_story => k_is)
    (case i_story => k_is)
    (case l_story => k_is)
    (case c_story => k_is)
    (case k_story => k_is)
    (case l_TdCS => k_is)
    (case l_Te => k_is)
    (case a_further => k_is)
    (case i_further => k_is)
    (case l_further => k_is)
    (case c_further => k_is)
    (case k_further => k_is)
    (case g_CT => k_is)
    (case g_CR => k_is)
    (case g_CI => k_is)
    (case l_CI => k_is)
    (case sa_CI => k_is)
    (case ex_CI => k_is)
    (case ty_CI => k_is)
    (case kc_CI => k_is)
    (case a_xstory => k_is)
    (case t_xstory => k_is)
    (case l_xstory => k_is)
    (case c_xstory => k_is)
    (case no_CI => k_is)
    (case ga_CI => k_is)
    (case gg_CI => k_is)
    (case hd_CI => k_is)
    (case ha_CI => k_is)
    (case hm_CI => k_is)
    (case su_CI => k_is)
    (case is_CI_CT => (first | kit_is | k_is))
    (case is_CI_CR => (first | kit_is | k_is))
    (case z_int => k_is)
    (case z_bool => k_is)
    (case z_str => k_is)
    (case z_list => k_is)
    (case z_range => k_is)
    (case z_isinstance => k_is)
    (case z_len => k_is)
    (case z_abs => k_is)
    (case z_tuple => k_is)
    (case z_all => k_is)
    (case z_enumerate => k_is)
    (case z_max => k_is)
    (case z_min => k_is)
    (case g_TN => k_is)
    (case l_TN => k_is)
    (case z_MOST_LETTERS => k_is)
    (case z_LETTERS => k_is)
